import PyProof.Rows.All
import Wide.All
import OpenK.AllK
import Wide.FinOn
import HandS.ForMost
import HandS.Defaults
import HandS.IsInst
import HandS.TupAny
import HandS.ListItems
import HandS.Flow
import HandS.Zip
import PyProof.AutoSeq1
import HandS.Zip0
import PyProof.Draws
import HandS.Codes
import HandS.More
import HandS.Style
import HandS.Conv
import PyProof.StrLawsRepr
import HandS.ExcInit
import PyProof.Rows.EqDataRows
import HandS.NestedK
import HandS.RevRange
import HandS.Rev
import HandS.Star
import HandS.TupMul
import HandS.Text
import HandS.Iter
import KE.GoesMore
import PyProof.CodeObj
import KE.GoesZip
import HandS.List
import HandS.Exc
import HandS.ExcField
import HandS.WordsExc
import HandS.ExcOwn
import HandS.Small
import HandS.CallSlots
import HandS.MakeKw
import HandS.EndTab
import PySem.Challenge.RW_kernelpapers_k16_things_refused
set_option Elab.async false
set_option maxRecDepth 100000
set_option maxHeartbeats 1000000
/-! Own ground: calls where nothing is being shown (guards), what data a value stands for, repr of it. -/
namespace KA
open PySem PySem.Spec PyProof.Rows L2

/-! ### a def's promise where no repr is under way -/
structure FnG (P : Program) (w : World) (K : PySem.W.Frag) (mg : Str → Option Value) (base : Heap) (CX : CXT) (k : Nat) (f : Addr) (fd : FuncData) (ps : List Str) (sp : Sp) : Prop where
  len : ∀ vs H Q E, sp vs H Q E → vs.length = ps.length
  run : ∀ (A : Around) (outer : List Env) (s : Shared) (H : Hp) (args : Args) (us : List Value) (vs : List V) (Q : VK) (E : XK), A.guards = some [] → Room k A → Env0 P w K mg base A outer s H →
    BindsTo s fd args (ps.zip us) → Vals vs us → sp vs H Q E → codeAny (model P w) A (.call (.ref f) args) (CR CX outer P w H s Q E) s

section
variable {P : Program} {w : World} {K : PySem.W.Frag} {mg : Str → Option Value} {base : Heap} {CX : CXT} {k : Nat}
/-- the body of a def, entered from one place -/
theorem enter {x qual : Str} {st : Stmt} {f : Addr} {fd : FuncData} {N ps : List Str} (F : Fun K x qual st f fd) (S : FnScope N ps (defScope st))
    {A : Around} {outer : List Env} {s : Shared} {H : Hp} {args : Args} {us : List Value} {vs : List V} {Q : VK} {E : XK} (room : Room (k + 1) A) (e0 : Env0 P w K mg base A outer s H) (bt : BindsTo s fd args (ps.zip us))
    (rv : Vals vs us) (many : vs.length = ps.length)
    (body : ∀ cdv : Value, ∃ t, PSs (cxOf CX P w K mg base N qual (defScope st) f cdv A outer s H E) (defBody st) t ∧ t { nx := fun _ H' => Q .non H', rt := Q } (start N vs) H) :
    codeAny (model P w) A (.call (.ref f) args) (CR CX outer P w H s Q E) s := by
  obtain ⟨oc, od, kV, doc, pm, an, cdv, ct, osl, rfl, lk, code⟩ := F.ex
  have here : ∀ b o, base.get? b = some o → s.heap.get? b = some o := fun b o e => (e0.bs b o e).1
  have kin : K.In s.heap := e0.mod.kin.keeps here
  have lim : s.heap.NoLimit := e0.mod.nolimit.keeps here
  have kinds : ∀ y ∈ ps.zip us, (defScope st).names.lookup y.1 = some .local ∨ ((defScope st).names.lookup y.1 = some .cell ∧ ((cellsFrom (s.heap.objs.size + 1) (defScope st).names []).lookup y.1).isSome = true) := by
    rintro ⟨n, v⟩ hy
    rcases S.par n (List.of_mem_zip hy).1 with q | q
    · exact Or.inl q
    · exact Or.inr ⟨q, PySem.W.cellsFrom_some _ _ _ (Or.inl q)⟩
  refine codeAny_call_function room.depth (kin _ _ lk) rfl S.co S.gen rfl (PySem.W.codeRec_of kin code) (bt _ _ _ _ ?_)
  refine wpAny_newFunctionEnv_cells S.kind kinds fun env he s1 x => ?_
  subst he
  refine ⟨lim.keeps x.toInCall.keep, codeAny_func ?_⟩
  obtain ⟨t, ht, hq⟩ := body cdv
  have I0 := inv_start (CX := CX) (E := E) S room.hd e0 many rv x
  refine wpAny_mono (ht.run [] s1 (start N vs) H _ I0 hq) (fun fl s' hs => ?_) fun e s' hs => hs
  have fin : ∀ {σ' : L2.St} {H' : Hp} {v : V} {u : Value}, Inv (cxOf CX P w K mg base N qual (defScope st) f cdv A outer s H E) [] σ' H' s' → RelV v u → Q v H' → CE outer P w H s Q u s' :=
    fun {_ H' v _} J r q => ⟨v, H', J.os, J.bare, J.base, J.hok, r, q⟩
  cases fl with
  | ret u => obtain ⟨v, σ', H', J, r, q⟩ := hs; exact fin J r q
  | next => obtain ⟨σ', H', J, q⟩ := hs; exact fin (v := V.non) (u := Value.none) J rfl q
  | brk => obtain ⟨_, _, _, q⟩ := hs; exact q.elim
  | cont => obtain ⟨_, _, _, q⟩ := hs; exact q.elim

theorem fnG {x qual : Str} {st : Stmt} {f : Addr} {fd : FuncData} {N ps : List Str} {sp : Sp} (F : Fun K x qual st f fd) (S : FnScope N ps (defScope st)) (len : ∀ vs H Q E, sp vs H Q E → vs.length = ps.length)
    (body : ∀ (cdv : Value) (A : Around) (outer : List Env) (s : Shared) (H : Hp) (vs : List V) (Q : VK) (E : XK), A.guards = some [] → Room k (A.deeper (envOfC qual (defScope st) s.heap.objs.size f cdv)) → sp vs H Q E →
      ∃ t, PSs (cxOf CX P w K mg base N qual (defScope st) f cdv A outer s H E) (defBody st) t ∧ t { nx := fun _ H' => Q .non H', rt := Q } (start N vs) H) : FnG P w K mg base CX (k + 1) f fd ps sp :=
  ⟨len, fun A outer s H args us vs Q E g room e0 bt rv h => enter F S room e0 bt rv (len _ _ _ _ h) fun cdv => body cdv A outer s H vs Q E g (room.deeper _) h⟩
end
end KA

namespace KA
open PySem PySem.Spec PyProof.Rows L2
/-! ### the law's own call, made where nothing is being shown -/
section
variable {P : Program} {w : World} {K : PySem.W.Frag} {mg mb : Str → Option Value} {k : Nat} {fa a : Addr} {fd : FuncData} {x : Str} {sp : Sp} {s : Shared} {vs : List Value} {ns : List Int}
/-- from a heap H that tracks at most the script -/
theorem law_from {H : Hp} (kin : K.In s.heap) (ng : s.heap.Ns mainGlobals mg) (nb : s.heap.Ns builtinsNs mb) (hb : ∀ x : Str, x ≠ "__name__" → mb x = bootBuiltins x) (lim : s.heap.NoLimit) (gens : s.gens = #[])
    (obj : s.heap.get? a = some { cls := .type "list", data := .seq vs.toArray }) (room : Room k callerA) (F : ∀ base : Heap, K.In base → base.Ns mainGlobals mg → FnG P w K mg base CX0 k fa fd [x] sp)
    (bt : ∀ (s : Shared) (u : Value), BindsTo s fd ⟨[u], []⟩ [(x, u)]) (only : Only H) (hok : HOk P w H s.heap) (atA : ∀ b, H b ≠ none → b = a) (offK : H a ≠ none → K.lookup a = none)
    (h : sp [.ref a] H (fun v _ => v = .bl true) fun _ _ _ => False) :
    codeAny (model P w) callerA (.call (.ref fa) ⟨[.ref a], []⟩) (fun r s' => r = .ok (.ret (.bool true)) ∧ OldK s.heap s'.heap ∧ s'.os = s.os ∧ AllBare s'.gens) s := by
  have low : ∀ {b : Addr} {o : Obj}, s.heap.get? b = some o → H b = none → (hidT s.heap H).get? b = some o := fun e n => hidT_get e n
  have free : ∀ {b : Addr} {o : Obj}, s.heap.get? b = some o → (∀ n, o.data ≠ .seq vs.toArray n) → H b = none := by
    intro b o e d
    cases q : H b with
    | none => rfl
    | some u =>
      obtain rfl : b = a := atA b (by rw [q]; simp)
      rw [obj] at e
      cases e
      exact absurd rfl (d _)
  have nsL : ∀ {b : Addr} {m : Str → Option Value}, s.heap.Ns b m → (hidT s.heap H).Ns b m := by
    rintro b m ⟨o, es, ep, e, d, r⟩
    exact ⟨o, es, ep, low e (free e fun n z => by rw [d] at z; cases z), d, r⟩
  have kinL : K.In (hidT s.heap H) := by
    intro b o e
    refine low (kin b o e) ?_
    cases q : H b with
    | none => rfl
    | some u =>
      obtain rfl : b = a := atA b (by rw [q]; simp)
      rw [offK (by rw [q]; simp)] at e
      cases e
  have md : Mod K mg (hidT s.heap H) := ⟨kinL, nsL ng, ⟨mb, nsL nb, hb⟩, by obtain ⟨mc, h1, h2⟩ := lim; exact ⟨mc, nsL h1, h2⟩⟩
  have e0 : Env0 P w K mg (hidT s.heap H) callerA [] s H :=
    ⟨rfl, md, fun b o e => of_hidT e, Nat.le_of_eq (hidT_size _ _), trivial, fun b z => absurd (show b ∈ ([] : List Addr) from z) (by simp), hok, .of_eq gens⟩
  have G := (F _ kinL (nsL ng)).run callerA [] s H ⟨[.ref a], []⟩ [.ref a] [.ref a] _ _ rfl room e0 (bt s (.ref a)) (.cons rfl .nil) h
  refine codeAny_mono G fun r s' z => ?_
  cases r with
  | error e => exact absurd z id
  | ok fl =>
    cases fl with
    | next => exact absurd z id
    | brk => exact absurd z id
    | cont => exact absurd z id
    | ret u =>
      obtain ⟨v, H', os, bare, un, hok', rv, q⟩ := z
      obtain rfl : v = .bl true := q
      obtain rfl : u = Value.bool true := rv
      refine ⟨rfl, OldK.of_keep fun b o e => ?_, os, bare⟩
      cases q : H b with
      | none => exact un.keep b o e q (fun z => absurd (show b ∈ ([] : List Addr) from z) (by simp)) (by simp)
      | some u =>
        obtain z | ⟨ob, xs, z⟩ := only b
        · rw [q] at z; cases z
        · obtain ⟨e1, _⟩ := hok b _ z
          obtain ⟨e2, _⟩ := hok' b _ (un.frzs b ob _ z)
          rw [e] at e1
          cases e1
          exact e2
theorem law_run (kin : K.In s.heap) (ng : s.heap.Ns mainGlobals mg) (nb : s.heap.Ns builtinsNs mb) (hb : ∀ x : Str, x ≠ "__name__" → mb x = bootBuiltins x) (lim : s.heap.NoLimit) (gens : s.gens = #[])
    (obj : s.heap.get? a = some { cls := .type "list", data := .seq vs.toArray }) (its : IntsAre vs ns) (many : ns.length ≤ sizeLine) (room : Room k callerA)
    (F : ∀ base : Heap, K.In base → base.Ns mainGlobals mg → FnG P w K mg base CX0 k fa fd [x] sp) (bt : ∀ (s : Shared) (u : Value), BindsTo s fd ⟨[u], []⟩ [(x, u)])
    (h : ∀ H : Hp, Only H → SqL K H a (ns.map V.int) → sp [.ref a] H (fun v _ => v = .bl true) fun _ _ _ => False) :
    codeAny (model P w) callerA (.call (.ref fa) ⟨[.ref a], []⟩) (fun r s' => r = .ok (.ret (.bool true)) ∧ OldK s.heap s'.heap ∧ s'.os = s.os ∧ AllBare s'.gens) s := by
  have rv := vals_ints its
  have len := its.length
  by_cases hk : K.lookup a = none
  · refine law_from (H := fun b => if b = a then some (.frz { cls := .type "list", data := .seq vs.toArray } (.lst (ns.map V.int))) else none) kin ng nb hb lim gens obj room F bt ?_ ?_ ?_ (fun _ => hk) ?_
    · intro b
      by_cases z : b = a
      · exact Or.inr ⟨_, _, if_pos z⟩
      · exact Or.inl (if_neg z)
    · intro b u z
      by_cases q : b = a
      · subst q
        simp only [if_true] at z
        cases z
        exact ⟨obj, by rw [List.length_map]; exact many, vs, _, rv, obj⟩
      · simp only [if_neg q] at z
        cases z
    · intro b z
      by_cases q : b = a
      · exact q
      · exact absurd (if_neg q) z
    · refine h _ (fun b => ?_) (Or.inl (Or.inr ⟨_, if_pos rfl⟩))
      by_cases z : b = a
      · exact Or.inr ⟨_, _, if_pos z⟩
      · exact Or.inl (if_neg z)
  · obtain ⟨o, hk⟩ := Option.ne_none_iff_exists'.mp hk
    have e := kin a o hk
    rw [obj] at e
    cases e
    have no : ∀ b : Addr, (fun _ : Addr => (none : Option HO)) b = none := fun _ => rfl
    refine law_from (H := fun _ => none) kin ng nb hb lim gens obj room F bt (fun b => Or.inl rfl) (fun b u z => by cases z) (fun b z => absurd rfl z) (fun z => absurd rfl z) ?_
    exact h _ (fun b => Or.inl rfl) (Or.inr ⟨_, vs.toArray, _, hk, rfl, rfl, rfl, by rw [List.size_toArray, len]; exact many, by simpa using rv⟩)
end
/-- the end of a law whose def is promised where nothing is being shown -/
theorem walkG {l : PySem.W.OpenLaw} {n k : Nat} {q : Program} {loose : List Str} {XP : (Str → Option Value) → Heap → Prop} {YP : World → Heap → Prop} {d : DefRec} {K : Params → PySem.W.Frag} {sp : PySem.W.Frag → Sp} {x : Str}
    (hn : l.most = some n) (small : n ≤ sizeLine) (hdf : d.params.defaults = []) (room : Room k callerA) (hY : ∀ (w : World) (h : Heap), YP w h → (K w.params).In h)
    (F : ∀ (w : World) (mg : Str → Option Value) (fa : Addr) (h : Heap), (K w.params).In h → h.Ns mainGlobals mg → mg d.name = some (.ref fa) →
      ∃ fd : FuncData, (∀ (s : Shared) (u : Value), BindsTo s fd ⟨[u], []⟩ [(x, u)]) ∧ ∀ base : Heap, (K w.params).In base → base.Ns mainGlobals mg → FnG l.prog w (K w.params) mg base CX0 k fa fd [x] (sp (K w.params)))
    (h : ∀ (K : PySem.W.Frag) (H : Hp) (a : Addr) (ns : List Int), ns.length ≤ n → Only H → SqL K H a (ns.map V.int) → sp K [.ref a] H (fun v _ => v = .bl true) fun _ _ _ => False) :
    PySem.W.WalkO q loose XP YP l.row.toRowW d [] (fun f vs => PySem.call f vs) := by
  refine Att.attach_call hn hdf fun w s₀ s₁ mg mb fa o pm cd doc a vs ns G Y ho hd hcd hmg obj its len gens => ?_
  have kin := hY w _ Y
  obtain ⟨fd, bt, F1⟩ := F w mg fa _ kin G.T.g hmg
  exact law_run kin G.T.g G.T.b G.T.builtins G.T.nolimit gens obj its (Nat.le_trans len small) room F1 bt fun H only sq => h (K w.params) H a ns len only sq
end KA
set_option Elab.async false
set_option linter.unusedVariables false
set_option maxRecDepth 100000
set_option maxHeartbeats 1000000
/-! What data a value stands for, where all of it is tracked; repr of such. -/
namespace KA
open PySem PySem.Spec PyProof.Rows L2

mutual
inductive Dn (H : Hp) : V → PyData → Prop
  | non : Dn H .non .none
  | bl (b : Bool) : Dn H (.bl b) (.bool b)
  | int (i : Int) : Dn H (.int i) (.int i)
  | str (x : Str) : Dn H (.str x) (.str x)
  | lst {a : Addr} {xs : List V} {ds : List PyData} : H a = some (.lst xs) → DnAll H xs ds → Dn H (.ref a) (.list ds)
  | tup {a : Addr} {xs : List V} {ds : List PyData} : H a = some (.tup xs) → DnAll H xs ds → Dn H (.ref a) (.tuple ds)
  | dic {a : Addr} {kvs : List (Key × V)} {ds : List (PyData × PyData)} : H a = some (.dK kvs) → DnAll H (kvs.map fun p => kV p.1) (ds.map (·.1)) → DnAll H (kvs.map (·.2)) (ds.map (·.2)) → Dn H (.ref a) (.dict ds)
inductive DnAll (H : Hp) : List V → List PyData → Prop
  | nil : DnAll H [] []
  | cons {v : V} {vs : List V} {d : PyData} {ds : List PyData} : Dn H v d → DnAll H vs ds → DnAll H (v :: vs) (d :: ds)
end

section
variable {H H' : Hp}
mutual
theorem Dn.mono (e : Same H H') : ∀ {v : V} {d : PyData}, Dn H v d → Dn H' v d
  | _, _, .non => .non
  | _, _, .bl b => .bl b
  | _, _, .int i => .int i
  | _, _, .str x => .str x
  | _, _, .lst h r => .lst (e _ _ h) (DnAll.mono e r)
  | _, _, .tup h r => .tup (e _ _ h) (DnAll.mono e r)
  | _, _, .dic h r r' => .dic (e _ _ h) (DnAll.mono e r) (DnAll.mono e r')
theorem DnAll.mono (e : Same H H') : ∀ {vs : List V} {ds : List PyData}, DnAll H vs ds → DnAll H' vs ds
  | _, _, .nil => .nil
  | _, _, .cons h r => .cons (Dn.mono e h) (DnAll.mono e r)
end
theorem DnAll.length : ∀ {vs : List V} {ds : List PyData}, DnAll H vs ds → vs.length = ds.length
  | _, _, .nil => rfl
  | _, _, .cons _ r => congrArg (· + 1) (DnAll.length r)
theorem DnAll.get : ∀ {vs : List V} {ds : List PyData} {i : Nat} {d : PyData}, DnAll H vs ds → ds[i]? = some d → ∃ v, vs[i]? = some v ∧ Dn H v d
  | _, _, _, _, .nil, e => by cases e
  | _, _, 0, _, .cons h _, e => by
    cases e
    exact ⟨_, rfl, h⟩
  | _, _, i + 1, d, .cons _ r, e => DnAll.get (i := i) (d := d) r e
theorem DnAll.append : ∀ {vs ws : List V} {ds es : List PyData}, DnAll H vs ds → DnAll H ws es → DnAll H (vs ++ ws) (ds ++ es)
  | _, _, _, _, .nil, s => s
  | _, _, _, _, .cons h r, s => .cons h (DnAll.append r s)
theorem DnAll.take : ∀ {vs : List V} {ds : List PyData} (n : Nat), DnAll H vs ds → DnAll H (vs.take n) (ds.take n)
  | _, _, 0, _ => .nil
  | _, _, _ + 1, .nil => .nil
  | _, _, n + 1, .cons h r => .cons h (DnAll.take n r)
theorem DnAll.drop : ∀ {vs : List V} {ds : List PyData} (n : Nat), DnAll H vs ds → DnAll H (vs.drop n) (ds.drop n)
  | _, _, 0, r => r
  | _, _, _ + 1, .nil => .nil
  | _, _, n + 1, .cons _ r => DnAll.drop n r
theorem DnAll.dropLast : ∀ {vs : List V} {ds : List PyData}, DnAll H vs ds → DnAll H vs.dropLast ds.dropLast := by
  intro vs ds r
  rw [List.dropLast_eq_take, List.dropLast_eq_take, r.length]
  exact r.take _
theorem DnAll.snoc {vs : List V} {ds : List PyData} {v : V} {d : PyData} (r : DnAll H vs ds) (h : Dn H v d) : DnAll H (vs ++ [v]) (ds ++ [d]) := r.append (.cons h .nil)
theorem DnAll.one {v : V} {d : PyData} (h : Dn H v d) : DnAll H [v] [d] := .cons h .nil
/-- a list whose items are data each -/
theorem DnAll.bools : ∀ bs : List Bool, DnAll H (bs.map V.bl) (bs.map PyData.bool)
  | [] => .nil
  | b :: bs => .cons (.bl b) (DnAll.bools bs)
end

section
variable {P : Program} {w : World} {H : Hp} {h : Heap}
theorem keys_read : ∀ {kvs : List (Key × V)} {vs : List (Key × Value)} {es : List DictEntry} {ds : List PyData}, KV kvs vs → PySem.Pairs (mixKind P w) es vs → DnAll H (kvs.map fun p => kV p.1) ds → Vals (kvs.map fun p => kV p.1) (es.map (·.key))
  | _, _, _, _, .nil, .nil, _ => .nil
  | _, _, _, _, .cons r t, .cons k _ t', .cons _ t'' => by
    refine .cons ?_ (keys_read t t' t'')
    have k' := k
    rw [mixKind_is, ← r.1] at k'
    obtain ⟨i, u, e1, e2⟩ | ⟨x, u, e1, e2⟩ := keyIs_shape k'
    · dsimp only
      rw [e1, e2]
      exact ⟨u, rfl⟩
    · dsimp only
      rw [e1, e2]
      exact ⟨u, rfl⟩
theorem vals_read : ∀ {kvs : List (Key × V)} {vs : List (Key × Value)} {es : List DictEntry}, KV kvs vs → PySem.Pairs (mixKind P w) es vs → Vals (kvs.map (·.2)) (es.map (·.val))
  | _, _, _, .nil, .nil => .nil
  | _, _, _, .cons r t, .cons _ e t' => by
    refine .cons ?_ (vals_read t t')
    dsimp only
    rw [e]
    exact r.2

mutual
/-- the heap reads so -/
theorem Dn.reads (ok : HOk P w H h) : ∀ {v : V} {d : PyData} {u : Value}, Dn H v d → RelV v u → ∃ as, Reads h u d as
  | _, _, _, .non, r => by
    cases r
    exact ⟨_, .none⟩
  | _, _, _, .bl b, r => by
    cases r
    exact ⟨_, .bool b⟩
  | _, _, _, .int i, r => by
    obtain ⟨t, rfl⟩ := r
    exact ⟨_, .int i t⟩
  | _, _, _, .str x, r => by
    obtain ⟨t, rfl⟩ := r
    exact ⟨_, .str x t⟩
  | _, _, _, .lst e q, r => by
    cases r
    obtain ⟨_, its, n, rv, ho⟩ := ok _ _ e
    obtain ⟨as, hr⟩ := DnAll.reads ok q rv
    exact ⟨_, .list ho rfl rfl hr⟩
  | _, _, _, .tup e q, r => by
    cases r
    obtain ⟨_, its, rv, o, ho, hc, n, hd⟩ := ok _ _ e
    obtain ⟨as, hr⟩ := DnAll.reads ok q rv
    exact ⟨_, .tuple ho hc hd hr⟩
  | _, _, _, .dic e q q', r => by
    cases r
    obtain ⟨_, _, vs, kv, o, es, ep, ho, hx, hd, _, hp, _⟩ := ok _ _ e
    obtain ⟨as, hr⟩ := DnAll.reads ok q (keys_read kv hp q)
    obtain ⟨bs, hr'⟩ := DnAll.reads ok q' (vals_read kv hp)
    exact ⟨_, .dict ho hx.1 hd hr hr'⟩
theorem DnAll.reads (ok : HOk P w H h) : ∀ {vs : List V} {ds : List PyData} {us : List Value}, DnAll H vs ds → Vals vs us → ∃ as, ReadsAll h us ds as
  | _, _, _, .nil, r => by
    cases r
    exact ⟨_, .nil⟩
  | _, _, _, .cons q t, .cons r r' => by
    obtain ⟨as, h1⟩ := Dn.reads ok q r
    obtain ⟨bs, h2⟩ := DnAll.reads ok t r'
    exact ⟨_, .cons h1 h2⟩
end

mutual
/-- how it is shown, piece by piece -/
theorem Dn.repr (ok : HOk P w H h) : ∀ {v : V} {d : PyData} {u : Value}, Dn H v d → RelV v u → d.showable = true → d.shown.length ≤ sizeLine → ∃ bs, ReadAtMost h d.depth bs ∧ ReprK P w bs h d.depth u d.shown
  | _, _, _, .non, r, _, _ => by
    cases r
    exact ReprK.of_reads (prog := P) (w := w) (Reads.none (h := h)) rfl (fun z => by cases z) (by decide +kernel)
  | _, _, _, .bl b, r, _, z => by
    cases r
    exact ReprK.of_reads (Reads.bool b) rfl (fun z => by cases z) z
  | _, _, _, .int i, r, s, z => by
    obtain ⟨t, rfl⟩ := r
    exact ReprK.of_reads (Reads.int i t) s (fun z => by cases z) z
  | _, _, _, .str x, r, s, z => by
    obtain ⟨t, rfl⟩ := r
    exact ReprK.of_reads (Reads.str x t) s (fun z => by cases z) z
  | _, _, _, .lst (a := a) (ds := ds) e q, r, s, z => by
    obtain ⟨as, hr⟩ := Dn.reads ok (.lst e q) r
    cases r
    obtain ⟨_, its, n, rv, ho⟩ := ok _ _ e
    have z' : (listText (PyData.shownAll ds)).length ≤ sizeLine := by simpa only [PyData.shown] using z
    obtain ⟨bs, hb, hk⟩ := DnAll.repr ok q rv (by simpa [PyData.showable] using s) (fun t m => Nat.le_trans (listText_mem_le m) z')
    have off : a ∉ bs := not_mem_of_deeper hr (by simp only [PyData.depth]; omega) hb
    refine ⟨a :: bs, ReadAtMost.cons hr (by simp only [PyData.depth]; omega) hb, ?_⟩
    simp only [PyData.depth, PyData.shown]
    cases its with
    | nil =>
      cases rv
      cases q
      simp only [PyData.shownAll, listText_nil]
      exact ReprK.listEmpty ho rfl rfl
    | cons x l => exact ReprK.list ho rfl rfl off (by simpa using hk.length_eq) (fun i y e => hk.item i y (by simpa using e))
  | _, _, _, .tup (a := a) (ds := ds) e q, r, s, z => by
    obtain ⟨as, hr⟩ := Dn.reads ok (.tup e q) r
    cases r
    obtain ⟨_, its, rv, o, ho, hc, n, hd⟩ := ok _ _ e
    have z' : (tupleText (PyData.shownAll ds)).length ≤ sizeLine := by simpa only [PyData.shown] using z
    obtain ⟨bs, hb, hk⟩ := DnAll.repr ok q rv (by simpa [PyData.showable] using s) (fun t m => Nat.le_trans (tupleText_mem_le m) z')
    have off : a ∉ bs := not_mem_of_deeper hr (by simp only [PyData.depth]; omega) hb
    refine ⟨a :: bs, ReadAtMost.cons hr (by simp only [PyData.depth]; omega) hb, ?_⟩
    simp only [PyData.depth, PyData.shown]
    exact ReprK.tuple ho hc hd off hk
  | _, _, _, .dic (a := a) (ds := ds) e q q', r, s, z => by
    obtain ⟨as, hr⟩ := Dn.reads ok (.dic e q q') r
    cases r
    obtain ⟨_, sys, vs, kv, o, es, ep, ho, hx, hd, _, hp, _⟩ := ok _ _ e
    have z' : (dictText (PyData.shownKv ds)).length ≤ sizeLine := by simpa only [PyData.shown] using z
    obtain ⟨s1, s2⟩ := PyData.showableKv_split ds (by simpa [PyData.showable] using s)
    obtain ⟨b1, hb1, k1⟩ := DnAll.repr ok q (keys_read kv hp q) s1 (fun t m => let ⟨p, hp, hl⟩ := PyData.shownKv_key_le ds t m; Nat.le_trans hl (Nat.le_trans (dictText_mem_le hp) z'))
    obtain ⟨b2, hb2, k2⟩ := DnAll.repr ok q' (vals_read kv hp) s2 (fun t m => let ⟨p, hp, hl⟩ := PyData.shownKv_val_le ds t m; Nat.le_trans hl (Nat.le_trans (dictText_mem_le hp) z'))
    have hb : ReadAtMost h (PyData.depthKv ds) (b1 ++ b2) := (hb1.mono (PyData.depthAll_keys_le ds)).append (hb2.mono (PyData.depthAll_vals_le ds))
    have off : a ∉ b1 ++ b2 := not_mem_of_deeper hr (by simp only [PyData.depth]; omega) hb
    refine ⟨a :: (b1 ++ b2), ReadAtMost.cons hr (by simp only [PyData.depth]; omega) hb, ?_⟩
    simp only [PyData.depth, PyData.shown, PyData.shownKv_eq]
    exact ReprK.dict ho hx.1 hd sys off (ReprEntriesK.of_two es.toList _ _ (k1.more_le (fun b m => List.mem_append_left _ m) (PyData.depthAll_keys_le ds)) (k2.more_le (fun b m => List.mem_append_right _ m) (PyData.depthAll_vals_le ds)))
theorem DnAll.repr (ok : HOk P w H h) : ∀ {vs : List V} {ds : List PyData} {us : List Value}, DnAll H vs ds → Vals vs us → PyData.showableAll ds = true → (∀ t ∈ PyData.shownAll ds, t.length ≤ sizeLine) →
    ∃ bs, ReadAtMost h (PyData.depthAll ds) bs ∧ ReprAllK P w bs h (PyData.depthAll ds) us (PyData.shownAll ds)
  | _, _, _, .nil, r, _, _ => by
    cases r
    exact ReprAllK.of_readsAll (prog := P) (w := w) (ReadsAll.nil (h := h)) rfl (fun z => by cases z) (fun t m => by simp [PyData.shownAll] at m)
  | _, _, _, .cons (d := d) (ds := ds) q t, .cons r r', s, z => by
    have s' : d.showable = true ∧ PyData.showableAll ds = true := by simpa [PyData.showableAll] using s
    obtain ⟨b1, hb1, k1⟩ := Dn.repr ok q r s'.1 (z _ (by simp only [PyData.shownAll]; exact List.mem_cons_self ..))
    obtain ⟨b2, hb2, k2⟩ := DnAll.repr ok t r' s'.2 (fun t m => z t (by simp only [PyData.shownAll]; exact List.mem_cons_of_mem _ m))
    refine ⟨b1 ++ b2, ?_, ?_⟩
    · simp only [PyData.depthAll]
      exact (hb1.mono (Nat.le_max_left _ _)).append (hb2.mono (Nat.le_max_right _ _))
    · simp only [PyData.depthAll, PyData.shownAll]
      exact .cons ((k1.more fun b m => List.mem_append_left _ m).level_le (Nat.le_max_left _ _)) (k2.more_le (fun b m => List.mem_append_right _ m) (Nat.le_max_right _ _))
end
end
end KA
set_option Elab.async false
set_option linter.unusedVariables false
set_option maxRecDepth 100000
set_option maxHeartbeats 1000000
/-! Rules of one's own: repr of data, a list grown by a tuple, == with what is empty. -/
namespace KA
open PySem PySem.Spec PyProof.Rows L2

section
variable {X : Cx}
/-- repr of data, where nothing is being shown -/
def rRepr : List V → Hp → VK → Prop := fun xs H Q => ∃ v d, xs = [v] ∧ Dn H v d ∧ d.showable = true ∧ d.shown.length ≤ sizeLine ∧ d.depth ≤ 100 ∧ Q (.str d.shown) H
theorem call_repr (hg : X.A.guards = some []) (hu : X.A.units + 200 < cLine) : CallR X (.builtin "repr") rRepr := by
  intro pins s σ H xs us Q I r h
  obtain ⟨v, d, rfl, hd, sh, sz, dp, q⟩ := h
  obtain ⟨u, rfl, ru⟩ := vals1 r
  have fin : ∀ h' tk, (∀ b o, s.heap.get? b = some o → h'.get? b = some o) → ∀ t, EP X pins σ Q (.str d.shown t) { s with heap := h', toks := tk } :=
    fun h' tk k t => ⟨.str d.shown, H, I.kept k, ⟨t, rfl⟩, q⟩
  cases hd with
  | non =>
    cases ru
    exact P.repr_of_none (fin s.heap _ (fun _ _ e => e) _)
  | bl b =>
    cases ru
    refine P.repr_of_bool ?_
    have z := fin s.heap (s.toks + 1) (fun _ _ e => e) s.toks
    rw [PyData.shown_bool] at z
    cases b <;> exact z
  | int i =>
    obtain ⟨t, rfl⟩ := ru
    exact P.repr_of_int (by simpa [PyData.showable] using sh) (fin s.heap _ (fun _ _ e => e) _)
  | str x =>
    obtain ⟨t, rfl⟩ := ru
    exact P.repr_of_str (fin s.heap _ (fun _ _ e => e) _) (by simpa only [PyData.shown] using sz)
  | @lst a xs ds e c =>
    obtain ⟨as, hr⟩ := Dn.reads I.hok (.lst e c) ru
    cases ru
    obtain ⟨_, its, n, rv, ho⟩ := I.hok _ _ e
    have z' : (listText (PyData.shownAll ds)).length ≤ sizeLine := by simpa only [PyData.shown] using sz
    obtain ⟨bs, hb, hk⟩ := DnAll.repr I.hok c rv (by simpa [PyData.showable] using sh) (fun t m => Nat.le_trans (listText_mem_le m) z')
    have off : a ∉ bs := not_mem_of_deeper hr (by simp only [PyData.depth]; omega) hb
    have dep : PyData.depthAll ds + 1 ≤ 100 := by simpa only [PyData.depth] using dp
    refine call_repr_slot (idr := "list.__repr__") (by omega) ⟨_, ho, rfl⟩ F.slot_list_repr.toG ?_
    simp only [PyData.shown] at fin
    cases its with
    | nil =>
      cases rv
      cases c
      simp only [PyData.shownAll, listText_nil] at fin
      exact call_list_repr_empty ⟨_, ho, rfl⟩ ho rfl ⟨_, _, rfl, fin s.heap _ (fun _ _ e => e) _⟩
    | cons y l =>
      exact call_list_reprK ho rfl rfl off (by simpa using hk.length_eq) (fun i y e => hk.item i y (by simpa using e)) (by exact hg) (fun b _ => Clear.nil b) (by show X.A.units + 1 + _ < cLine; omega) (fun _ _ e => e)
        (fun h' u tk k => ⟨_, _, rfl, fin h' tk k u⟩) z'
  | @tup a xs ds e c =>
    obtain ⟨as, hr⟩ := Dn.reads I.hok (.tup e c) ru
    cases ru
    obtain ⟨_, its, rv, o, ho, hc, n, hd⟩ := I.hok _ _ e
    have z' : (tupleText (PyData.shownAll ds)).length ≤ sizeLine := by simpa only [PyData.shown] using sz
    obtain ⟨bs, hb, hk⟩ := DnAll.repr I.hok c rv (by simpa [PyData.showable] using sh) (fun t m => Nat.le_trans (tupleText_mem_le m) z')
    have off : a ∉ bs := not_mem_of_deeper hr (by simp only [PyData.depth]; omega) hb
    have dep : PyData.depthAll ds + 1 ≤ 100 := by simpa only [PyData.depth] using dp
    refine call_repr_slot (idr := "tuple.__repr__") (by omega) ⟨o, ho, hc⟩ F.slot_tuple_repr ?_
    simp only [PyData.shown] at fin
    exact call_tuple_reprK ho hc hd off hk (by exact hg) (fun b _ => Clear.nil b) (by show X.A.units + 1 + _ < cLine; omega) (fun _ _ e => e) (fun h' u tk k => ⟨_, _, rfl, fin h' tk k u⟩) z'
  | @dic a kvs ds e c c' =>
    obtain ⟨as, hr⟩ := Dn.reads I.hok (.dic e c c') ru
    cases ru
    obtain ⟨_, sys, vs, kv, o, es, ep, ho, hx, hd, _, hp, _⟩ := I.hok _ _ e
    have z' : (dictText (PyData.shownKv ds)).length ≤ sizeLine := by simpa only [PyData.shown] using sz
    obtain ⟨s1, s2⟩ := PyData.showableKv_split ds (by simpa [PyData.showable] using sh)
    obtain ⟨b1, hb1, k1⟩ := DnAll.repr I.hok c (keys_read kv hp c) s1 (fun t m => let ⟨p, hp, hl⟩ := PyData.shownKv_key_le ds t m; Nat.le_trans hl (Nat.le_trans (dictText_mem_le hp) z'))
    obtain ⟨b2, hb2, k2⟩ := DnAll.repr I.hok c' (vals_read kv hp) s2 (fun t m => let ⟨p, hp, hl⟩ := PyData.shownKv_val_le ds t m; Nat.le_trans hl (Nat.le_trans (dictText_mem_le hp) z'))
    have hb : ReadAtMost s.heap (PyData.depthKv ds) (b1 ++ b2) := (hb1.mono (PyData.depthAll_keys_le ds)).append (hb2.mono (PyData.depthAll_vals_le ds))
    have off : a ∉ b1 ++ b2 := not_mem_of_deeper hr (by simp only [PyData.depth]; omega) hb
    have dep : PyData.depthKv ds + 1 ≤ 100 := by simpa only [PyData.depth] using dp
    refine call_repr_slot (idr := "dict.__repr__") (by omega) ⟨o, ho, hx.1⟩ F.slot_dict_repr ?_
    simp only [PyData.shown, PyData.shownKv_eq] at fin
    exact call_dict_reprK ho hx.1 hd sys off (ReprEntriesK.of_two es.toList _ _ (k1.more_le (fun b m => List.mem_append_left _ m) (PyData.depthAll_keys_le ds)) (k2.more_le (fun b m => List.mem_append_right _ m) (PyData.depthAll_vals_le ds)))
      (by exact hg) (fun b _ => Clear.nil b) (by show X.A.units + 1 + _ < cLine; omega) (fun _ _ e => e) (fun h' u tk k => ⟨_, _, rfl, fin h' tk k u⟩) (by rw [← PyData.shownKv_eq]; exact z')
theorem grow_meets (l : Addr) (us : Array Value) (n : Nat) (b : Addr) (ws : Array Value) (n2 : Nat) (dd : Option Addr) (sl : Array (Option Value)) (short : ¬(!us.isEmpty && Builtin.List.listTooLong (us.size + ws.size)) = true)
    (z1 : us.size ≤ sizeLine) (z2 : us.size + ws.size ≤ sizeLine + 1) : Meets (Builtin.«list.extend» ⟨[.ref l, .ref b], []⟩) (fun _ R s =>
      s.heap.get? l = some { cls := .type "list", dict := none, data := .seq us n, slots := #[] } ∧ s.heap.get? b = some { cls := .type "tuple", dict := dd, data := .seq ws n2, slots := sl } ∧
        R (.ok (.ret Value.none)) { s with heap := s.heap.update l (Obj.mapSeq fun x => x ++ ws), toks := s.toks }) :=
  .of_wp fun prog w A R s h => by
    obtain ⟨hp, g, d, tk, os⟩ := s
    obtain ⟨hl, hb, h⟩ := h
    have f1 := PySem.AutoSeq1.idx_int
    have f2 := PySem.AutoSeq1.sub_tuple_tuple
    have f3 := PySem.AutoSeq1.sub_list_list
    have f4 := PySem.AutoSeq1.sub_tuple_list
    have f5 := PySem.AutoSeq1.sub_list_tuple
    have z3 : (us ++ ws).size ≤ sizeLine + 1 := by rw [Array.size_append]; exact z2
    wp_walk using (wpAny_updateSeq hl rfl (hz := z1) (_hz' := z3)), PySem.AutoSeq1.wpAny_loadPart' hl, PySem.AutoSeq1.wpAny_loadPart' hb
    exact ⟨_, rfl, h⟩
/-- xs.extend(t), t a tuple that H tracks -/
def rGrow : V → List V → Hp → VK → Prop := fun x vs H Q => ∃ l b xs zs, x = .ref l ∧ vs = [.ref b] ∧ H l = some (.lst xs) ∧ H b = some (.tup zs) ∧ xs.length + zs.length ≤ sizeLine ∧ Q .non (upd H l (.lst (xs ++ zs)))
theorem mt_grow : MtM X "list.extend" rGrow := by
  intro pins s σ H x vs v us Q I rx rv h
  obtain ⟨l, b, xs, zs, rfl, rfl, hl, hb, sz, q⟩ := h
  cases rx
  obtain ⟨u, rfl, ru⟩ := rv.one
  cases ru
  obtain ⟨z, its, n, r, ll, e⟩ := I.lstM hl
  obtain ⟨_, its2, r2, ⟨cls, dd, data, sl⟩, e2, hc, n2, hd⟩ := I.hok _ _ hb
  simp only at hc hd
  subst hc hd
  have l1 := r.length
  have l2 := r2.length
  have many : its.toArray.size + its2.toArray.size ≤ sizeLine := by rw [List.size_toArray, List.size_toArray]; omega
  have long : ¬ (!its.toArray.isEmpty && Builtin.List.listTooLong (its.toArray.size + its2.toArray.size)) = true := by
    rw [notLongL many, Bool.and_false]
    exact Bool.false_ne_true
  refine call_meets F.slot_list_extend ⟨_, e, rfl⟩ F.entry_list_extend (F.args_list_extend_2 _ _) (grow_meets l its.toArray n b its2.toArray n2 dd sl long (by rw [List.size_toArray]; omega) (by omega)) ⟨e, e2, ?_⟩
  exact ⟨.non, _, I.lset (its' := its ++ its2) hl e (by simp) (r.append r2) (by rw [List.length_append]; omega), rfl, q⟩
end
end KA
namespace KA
open PySem PySem.Spec PyProof.Rows L2
section
variable {X : Cx}
/-- t == (), xs == []: only whether it is empty counts -/
def rEqE : R2 := fun x y H Q => ∃ a b xs, x = .ref a ∧ y = .ref b ∧ ((H a = some (.tup xs) ∧ H b = some (.tup [])) ∨ (H a = some (.lst xs) ∧ H b = some (.lst []))) ∧ Q (.bl xs.isEmpty) H
theorem op_eqE (hu : X.A.units + 1 < cLine) : OpR X (compareOp .Eq) rEqE := by
  intro pins s σ H x y v u Q I rx ry h
  obtain ⟨a, b, xs, rfl, rfl, h, q⟩ := h
  cases rx
  cases ry
  have fin : EP X pins σ Q (.bool xs.isEmpty) s := ⟨.bl xs.isEmpty, H, I, rfl, q⟩
  rcases h with ⟨ha, hb⟩ | ⟨ha, hb⟩
  · obtain ⟨_, its, r, o, ho, hc, hd⟩ := I.hok _ _ ha
    obtain ⟨_, its2, r2, o2, ho2, hc2, hd2⟩ := I.hok _ _ hb
    cases r2
    refine SeqAt.eq_tupleAt (e := fun _ => true) ⟨o, ho, hc, hd⟩ ⟨o2, ho2, hc2, hd2⟩ (by omega) (fun j h1 h2 => absurd h2 (by simp)) ?_
    cases r <;> simpa using fin
  · obtain ⟨_, its, n, r, ho⟩ := I.hok _ _ ha
    obtain ⟨_, its2, n2, r2, ho2⟩ := I.hok _ _ hb
    cases r2
    cases r with
    | nil => exact SeqAt.eq_listAt (e := fun _ => true) ⟨_, ho, rfl, _, rfl⟩ ⟨_, ho2, rfl, _, rfl⟩ rfl (by omega) (fun j h1 h2 => absurd h2 (by simp)) (by simpa using fin)
    | cons r t => exact SeqAt.eq_list_lengthsAt ⟨_, ho, rfl, _, rfl⟩ ⟨_, ho2, rfl, _, rfl⟩ (by simp) (by omega) (by simpa using fin)
def rNeE : R2 := fun x y H Q => ∃ a b xs, x = .ref a ∧ y = .ref b ∧ H a = some (.tup xs) ∧ H b = some (.tup []) ∧ Q (.bl (!xs.isEmpty)) H
theorem op_neE (hu : X.A.units + 1 < cLine) : OpR X (compareOp .NotEq) rNeE := by
  intro pins s σ H x y v u Q I rx ry h
  obtain ⟨a, b, xs, rfl, rfl, ha, hb, q⟩ := h
  cases rx
  cases ry
  have fin : EP X pins σ Q (.bool (!xs.isEmpty)) s := ⟨.bl (!xs.isEmpty), H, I, rfl, q⟩
  obtain ⟨_, its, r, o, ho, hc, hd⟩ := I.hok _ _ ha
  obtain ⟨_, its2, r2, o2, ho2, hc2, hd2⟩ := I.hok _ _ hb
  cases r2
  refine SeqAt.RcNeAt.tuples (e := fun _ => true) ⟨o, ho, hc, hd⟩ ⟨o2, ho2, hc2, hd2⟩ (by omega) (fun j h1 h2 => absurd h2 (by simp)) _ _ _ _ ?_
  cases r <;> simpa using fin
end
end KA
set_option Elab.async false
set_option linter.unusedVariables false
set_option maxRecDepth 100000
set_option maxHeartbeats 1000000
/-! A walk over zip of a text (of plain signs) and a tuple as long. -/
namespace KZ
open PySem
section
variable {prog : Program} {w : World} {A : Around} {E : Value → Shared → Prop} {s : Shared}
abbrev Sg : String := "str_ascii_iterator"
theorem next_item {z ti to i1 i2 l2 : Addr} {k1 k2 c : Nat} {x : Str} {t : Tok} {ys : Array Value} {y a b : Value} {Q : Value → Shared → Prop} (nz : ti ≠ z ∧ to ≠ z ∧ i1 ≠ z ∧ i2 ≠ z) (nt : to ≠ i1 ∧ to ≠ i2 ∧ i1 ≠ i2) (nl : l2 ≠ z ∧ l2 ≠ to ∧ l2 ≠ i1)
    (gz : IsZip s.heap z ti to .none) (gi : IsPair s.heap ti (.ref i1) (.ref i2)) (go : IsPair s.heap to a b) (g1 : s.heap.IsStrIter i1 Sg x t k1) (g2 : s.heap.IsTupleIter i2 l2 k2) (gl : s.heap.IsTuple l2 ys)
    (hc : x.cps[k1]? = some c) (hy : ys[k2]? = some y)
    (hQ : ∀ h' tk u, IsZip h' z ti to (rawInt s.heap.objs.size) → IsPair h' to (.str ⟨#[c]⟩ u) y → h'.IsStrIter i1 Sg x t (k1 + 1) → h'.IsTupleIter i2 l2 (k2 + 1) → IsPair h' s.heap.objs.size (.str ⟨#[c]⟩ u) y → h'.objs.size = s.heap.objs.size + 1 →
      (∀ c o, c ≠ z → c ≠ to → c ≠ i1 → c ≠ i2 → s.heap.get? c = some o → h'.get? c = some o) → Q (.ref s.heap.objs.size) { s with heap := h', toks := tk }) :
    wpAny (model prog w) A (Builtin.«zip.__next__» ⟨[.ref z], []⟩) (fun fin s' => ∃ v, fin = .done (.ret v) ∧ Q v s') E s := by
  obtain ⟨n1, n2, n3, n4⟩ := nz
  obtain ⟨n5, n6, n7⟩ := nt
  obtain ⟨n8, n9, n10⟩ := nl
  show wpAny _ _ (field (.ref z) 2 >>= _) _ _ _
  refine wpAny_bind (wpAny_field gz rfl (x := .bool false) rfl ?_)
  show wpAny _ _ (field (.ref z) 3 >>= _) _ _ _
  refine wpAny_bind (wpAny_field gz rfl (x := .ref ti) rfl ?_)
  refine wpAny_bind (wpAny_seqItems gi rfl ?_)
  show wpAny _ _ (Builtin.SmallTypes.ownedTupleIsFree (.ref z) >>= _) _ _ _
  refine wpAny_bind ?_
  unfold Builtin.SmallTypes.ownedTupleIsFree
  refine wpAny_bind (wpAny_field gz rfl (x := .none) rfl (wpAny_pure ?_))
  simp only [if_true]
  refine wpAny_bind (wpAny_rule ?_)
  refine wpAny_bind (wpAny_field gz rfl (x := .ref to) rfl ?_)
  refine wpAny_bind (wpAny_setField_rec gz (by simp) fun ha za sa => ?_)
  replace za : IsZip ha z ti to .ellipsis := za
  refine wpAny_bind ?_
  simp only [List.zipIdx_cons, List.zipIdx_nil, List.forIn_cons, List.forIn_nil]
  refine wpAny_bind (wpAny_bind (wpAny_onRaise ?_))
  show wpAny _ _ (Builtin.SmallTypes.nextOf (.ref i1) >>= _) _ _ _
  refine wpAny_bind (wpAny_nextOf_ascii_item (g1.extBut sa.extBut n3) hc fun hb b1 sb => wpAny_pure ?_)
  have ob : IsPair hb to a b := sb.extBut _ _ n5 (sa.extBut _ _ n2 go)
  refine wpAny_bind (wpAny_seqItems ob rfl ?_)
  refine wpAny_bind (wpAny_updateSeq_pair ob fun hd od sd => ?_)
  replace od : IsPair hd to (.str ⟨#[c]⟩ s.toks) b := od
  refine wpAny_bind (wpAny_letGo (wpAny_pure ?_))
  refine wpAny_bind (wpAny_bind (wpAny_onRaise ?_))
  show wpAny _ _ (Builtin.SmallTypes.nextOf (.ref i2) >>= _) _ _ _
  refine wpAny_bind (RZ.nextOf_tuple_item (((g2.extBut sa.extBut n4).extBut sb.extBut n7.symm).extBut sd.extBut n6.symm) (((gl.extBut sa.extBut n8).extBut sb.extBut n10).extBut sd.extBut n9) hy fun he b2 se => wpAny_pure ?_)
  have oe : IsPair he to (.str ⟨#[c]⟩ s.toks) b := se.extBut _ _ n6 od
  refine wpAny_bind (wpAny_seqItems oe rfl ?_)
  refine wpAny_bind (wpAny_updateSeq_pair oe fun hf of sf => ?_)
  replace of : IsPair hf to (.str ⟨#[c]⟩ s.toks) y := of
  refine wpAny_bind (wpAny_letGo (wpAny_pure (wpAny_pure ?_)))
  refine wpAny_bind (wpAny_seqItems of rfl ?_)
  refine wpAny_bind (wpAny_newTuple ?_)
  have sz : hf.objs.size = s.heap.objs.size := by rw [sf.1, se.1, sd.1, sb.1, sa.1]
  have zf : IsZip hf z ti to .ellipsis := sf.extBut _ _ n2.symm (se.extBut _ _ n4.symm (sd.extBut _ _ n2.symm (sb.extBut _ _ n3.symm za)))
  have kf : ∀ c o, c ≠ z → c ≠ to → c ≠ i1 → c ≠ i2 → s.heap.get? c = some o → hf.get? c = some o := fun c o c1 c2 c3 c4 e =>
    sf.extBut _ _ c2 (se.extBut _ _ c4 (sd.extBut _ _ c2 (sb.extBut _ _ c3 (sa.extBut _ _ c1 e))))
  have f1 : hf.IsStrIter i1 Sg x t (k1 + 1) := ((b1.extBut sd.extBut n5.symm).extBut se.extBut n7).extBut sf.extBut n5.symm
  have f2 : hf.IsTupleIter i2 l2 (k2 + 1) := b2.extBut sf.extBut n6.symm
  have zlt : z < hf.objs.size := Heap.lt_size zf
  show wpAny _ _ (Builtin.SmallTypes.ownedTupleHandOut (.ref z) (.ref hf.objs.size) >>= _) _ _ _
  refine wpAny_bind ?_
  unfold Builtin.SmallTypes.ownedTupleHandOut
  have zg : IsZip (hf.push { cls := .type "tuple", data := .seq #[.str ⟨#[c]⟩ s.toks, y] }) z ti to .ellipsis := Heap.get?_push_of_some _ zf
  refine wpAny_bind (wpAny_setField_rec zg (by simp) fun hg zh sh => ?_)
  replace zh : IsZip hg z ti to (rawInt hf.objs.size) := zh
  refine wpAny_setField_rec zh (by simp) fun hi zi si => ?_
  replace zi : IsZip hi z ti to (rawInt hf.objs.size) := zi
  have up : ∀ c o, c ≠ z → hf.get? c = some o → hi.get? c = some o := fun c o c1 e => si.extBut _ _ c1 (sh.extBut _ _ c1 (Heap.get?_push_of_some _ e))
  have pi : IsPair hi hf.objs.size (.str ⟨#[c]⟩ s.toks) y := si.extBut _ _ (Nat.ne_of_gt zlt) (sh.extBut _ _ (Nat.ne_of_gt zlt) (Heap.get?_push_size _ rfl))
  have ei : hi.objs.size = hf.objs.size + 1 := by rw [si.1, sh.1, Heap.size_push]
  rw [sz] at zi pi ei
  refine wpAny_pure ⟨_, rfl, ?_⟩
  show Q (.ref hf.objs.size) _
  rw [sz]
  obtain ⟨o1, p1, q1⟩ := f1
  exact hQ hi _ _ zi (up _ _ n2 of) ⟨o1, up _ _ n3 p1, q1⟩ (f2.at fun o e => up _ o n4 e) pi ei fun c o c1 c2 c3 c4 e => up c o c1 (kf c o c1 c2 c3 c4 e)
theorem next_end {z ti to i1 i2 : Addr} {k1 : Nat} {x : Str} {t : Tok} {a b : Value} {Q : Fin → Shared → Prop} (hh : A.handled = none) (n3 : i1 ≠ z)
    (gz : IsZip s.heap z ti to .none) (gi : IsPair s.heap ti (.ref i1) (.ref i2)) (go : IsPair s.heap to a b) (g1 : s.heap.IsStrIter i1 Sg x t k1) (hc : x.cps[k1]? = none)
    (hE : ∀ h' e, (∀ c o, c ≠ z → c ≠ to → c ≠ i1 → c ≠ i2 → s.heap.get? c = some o → h'.get? c = some o) → (∃ o, h'.get? e = some o ∧ o.cls = .type "StopIteration") → E (.ref e) { s with heap := h' }) :
    wpAny (model prog w) A (Builtin.«zip.__next__» ⟨[.ref z], []⟩) Q E s := by
  show wpAny _ _ (field (.ref z) 2 >>= _) _ _ _
  refine wpAny_bind (wpAny_field gz rfl (x := .bool false) rfl ?_)
  show wpAny _ _ (field (.ref z) 3 >>= _) _ _ _
  refine wpAny_bind (wpAny_field gz rfl (x := .ref ti) rfl ?_)
  refine wpAny_bind (wpAny_seqItems gi rfl ?_)
  show wpAny _ _ (Builtin.SmallTypes.ownedTupleIsFree (.ref z) >>= _) _ _ _
  refine wpAny_bind ?_
  unfold Builtin.SmallTypes.ownedTupleIsFree
  refine wpAny_bind (wpAny_field gz rfl (x := .none) rfl (wpAny_pure ?_))
  simp only [if_true]
  refine wpAny_bind (wpAny_rule ?_)
  refine wpAny_bind (wpAny_field gz rfl (x := .ref to) rfl ?_)
  refine wpAny_bind (wpAny_setField_rec gz (by simp) fun ha za sa => ?_)
  replace za : IsZip ha z ti to .ellipsis := za
  refine wpAny_bind ?_
  simp only [List.zipIdx_cons, List.zipIdx_nil, List.forIn_cons, List.forIn_nil]
  refine wpAny_bind (wpAny_bind (wpAny_onRaise ?_))
  show wpAny _ _ (Builtin.SmallTypes.nextOf (.ref i1) >>= _) _ _ _
  refine wpAny_bind (wpAny_nextOf_ascii_end hh (g1.extBut sa.extBut n3) hc fun hb e sb he => ?_)
  obtain ⟨oe, hoe, hce⟩ := he
  have zb : IsZip hb z ti to .ellipsis := sb _ _ n3.symm za
  have off : e ≠ z := by
    rintro rfl
    rw [zb] at hoe
    cases hoe
    simp at hce
  exact wpAny_setField_rec zb (by simp) fun hd _ sd => hE hd e (fun c o c1 _ c3 _ q => sd.extBut _ _ c1 (sb _ _ c3 (sa.extBut _ _ c1 q))) ⟨oe, sd.extBut _ _ off hoe, hce⟩
end
end KZ
namespace KZ
open PySem
section
variable {prog : Program} {w : World} {A : Around} {E : Value → Shared → Prop} {s : Shared}
theorem py_item {z ti to i1 i2 l2 : Addr} {k1 k2 c : Nat} {x : Str} {t : Tok} {ys : Array Value} {y a b : Value} {Q : Option Value → Shared → Prop} (nz : ti ≠ z ∧ to ≠ z ∧ i1 ≠ z ∧ i2 ≠ z) (nt : to ≠ i1 ∧ to ≠ i2 ∧ i1 ≠ i2) (nl : l2 ≠ z ∧ l2 ≠ to ∧ l2 ≠ i1)
    (gz : IsZip s.heap z ti to .none) (gi : IsPair s.heap ti (.ref i1) (.ref i2)) (go : IsPair s.heap to a b) (g1 : s.heap.IsStrIter i1 Sg x t k1) (g2 : s.heap.IsTupleIter i2 l2 k2) (gl : s.heap.IsTuple l2 ys)
    (hc : x.cps[k1]? = some c) (hy : ys[k2]? = some y)
    (hQ : ∀ h' tk u, IsZip h' z ti to (rawInt s.heap.objs.size) → IsPair h' to (.str ⟨#[c]⟩ u) y → h'.IsStrIter i1 Sg x t (k1 + 1) → h'.IsTupleIter i2 l2 (k2 + 1) → IsPair h' s.heap.objs.size (.str ⟨#[c]⟩ u) y → h'.objs.size = s.heap.objs.size + 1 →
      (∀ c o, c ≠ z → c ≠ to → c ≠ i1 → c ≠ i2 → s.heap.get? c = some o → h'.get? c = some o) → Q (some (.ref s.heap.objs.size)) { s with heap := h', toks := tk }) :
    wpAny (model prog w) A (pyNext (.ref z)) Q E s := by
  have ty : s.TypeIs (.ref z) "zip" := ⟨_, gz, rfl⟩
  unfold pyNext
  exact wpAny_bind (wpAny_attempt (wpAny_callSpecial?_slot (name := Str.ofString "__next__") ty F.slot_zip_next (wpAny_call_entry F.slot_zip_next ty F.entry_zip_next
    (next_item nz nt nl gz gi go g1 g2 gl hc hy fun h' tk u a1 a2 a3 a4 a5 a6 a7 => wpAny_pure (hQ h' tk u a1 a2 a3 a4 a5 a6 a7)) (F.args_zip_next_1 _))))
theorem py_end {z ti to i1 i2 : Addr} {k1 : Nat} {x : Str} {t : Tok} {a b : Value} {Q : Option Value → Shared → Prop} (hh : A.handled = none) (n3 : i1 ≠ z)
    (gz : IsZip s.heap z ti to .none) (gi : IsPair s.heap ti (.ref i1) (.ref i2)) (go : IsPair s.heap to a b) (g1 : s.heap.IsStrIter i1 Sg x t k1) (hc : x.cps[k1]? = none)
    (hQ : ∀ h', (∀ c o, c ≠ z → c ≠ to → c ≠ i1 → c ≠ i2 → s.heap.get? c = some o → h'.get? c = some o) → Q none { s with heap := h' }) : wpAny (model prog w) A (pyNext (.ref z)) Q E s := by
  have ty : s.TypeIs (.ref z) "zip" := ⟨_, gz, rfl⟩
  unfold pyNext
  refine wpAny_bind (wpAny_attempt (wpAny_callSpecial?_slot (name := Str.ofString "__next__") ty F.slot_zip_next (wpAny_call_entry F.slot_zip_next ty F.entry_zip_next
    (next_end hh n3 gz gi go g1 hc fun h' e k he => ?_) (F.args_zip_next_1 _))))
  obtain ⟨o, ho, hc⟩ := he
  exact wpAny_bind (wpAny_isInstance (T := "StopIteration") (b := true) ⟨o, ho, hc⟩ isSubtype_stop (wpAny_pure (hQ _ k)))
end
/-- the heap behind zip(x, l2), step by step -/
abbrev h1 (h : Heap) (x : Str) (t : Tok) : Heap := h.push { cls := .type Sg, data := .fields #[.str x t, .int 0 0] }
abbrev h2 (h : Heap) (x : Str) (t : Tok) (l2 : Addr) : Heap := (h1 h x t).push { cls := .type "tuple_iterator", data := .fields #[.ref l2, .int 0 0] }
abbrev h3 (h : Heap) (x : Str) (t : Tok) (l2 : Addr) : Heap := (h2 h x t l2).push { cls := .type "tuple", data := .seq #[.ref h.objs.size, .ref (h1 h x t).objs.size] }
abbrev h4 (h : Heap) (x : Str) (t : Tok) (l2 : Addr) : Heap := (h3 h x t l2).push { cls := .type "tuple", data := .seq #[.none, .none] }
abbrev h5 (h : Heap) (x : Str) (t : Tok) (l2 : Addr) : Heap := (h4 h x t l2).push { cls := .type "zip", data := .fields #[.none, .bool false, .bool false, .ref (h2 h x t l2).objs.size, .ref (h3 h x t l2).objs.size] }
theorem meets_new (x : Str) (t : Tok) (l2 : Addr) (ys : Array Value) (plain : x.cps.all (· < 128) = true) :
    Meets (Builtin.«zip.__new__» ⟨[.type "zip", .str x t, .ref l2], []⟩) (fun _ R s => s.heap.IsTuple l2 ys ∧ R (.ok (.ret (.ref (h4 s.heap x t l2).objs.size))) { s with heap := h5 s.heap x t l2 }) :=
  .of_wp fun prog w A R s h => by
    obtain ⟨hp, g, d, tk, os⟩ := s
    obtain ⟨hl, h⟩ := h
    have sub := sub_zip
    have L2 : Heap.IsTuple (Shared.heap ⟨hp.push { cls := .type Sg, data := .fields #[.str x t, .int 0 0] }, g, d, tk, os⟩) l2 ys := Heap.IsTuple.push hl _
    wp_walk using wpAny_pyIter_ascii plain, wpAny_pyIter_tuple L2
    exact ⟨_, rfl, h⟩
end KZ
set_option Elab.async false
set_option linter.unusedVariables false
set_option maxRecDepth 100000
set_option maxHeartbeats 1000000
namespace KZ
open PySem PySem.Spec PyProof.Rows L2
def ItzS (K : PySem.W.Frag) (x : Str) (b : Addr) : It :=
  ⟨fun i H => i < x.cps.size ∧ ∃ (ys : List V) (y : V), SqT K H b ys ∧ ys[i]? = some y,
    fun i H v H' => ∃ T c y, v = .ref T ∧ H T = none ∧ H' = upd H T (.tup [.str ⟨#[c]⟩, y]) ∧ x.cps[i]? = some c ∧ ∀ ys, SqT K H b ys → ys[i]? = some y,
    fun i _ => x.cps.size ≤ i⟩
def Std (x : Str) (t : Tok) (b z ti to i1 i2 : Addr) (i : Nat) (h : Heap) : Prop := IsZip h z ti to .none ∧ IsPair h ti (.ref i1) (.ref i2) ∧ (∃ u v, IsPair h to u v) ∧ h.IsStrIter i1 Sg x t i ∧ h.IsTupleIter i2 b i
theorem five {z ti to i1 i2 c : Addr} (h : c ∈ [z, ti, to, i1, i2]) : c = z ∨ c = ti ∨ c = to ∨ c = i1 ∨ c = i2 := by simpa using h
theorem turn {P : Program} {w : World} {K : PySem.W.Frag} {elts : List Expr} {kk : Nat} {tpos : Pos} {x : Str} {t : Tok} {b z ti to i1 i2 : Addr}
    (nz : ti ≠ z ∧ to ≠ z ∧ i1 ≠ z ∧ i2 ≠ z) (nt : to ≠ i1 ∧ to ≠ i2 ∧ i1 ≠ i2) (nl : b ≠ z ∧ b ≠ to ∧ b ≠ i1) (ni : ti ≠ to ∧ ti ≠ i1 ∧ ti ≠ i2) :
    Turn P w K (.Tuple elts kk tpos) (ItzS K x b) [z, ti, to, i1, i2] z (Std x t b z ti to i1 i2) where
  mem := by simp
  obj := by
    rintro i h ⟨g1, g2, ⟨u, v, g3⟩, ⟨o1, e1, _, d1⟩, ⟨o2, e2, _, d2⟩⟩ c hc
    rcases five hc with q | q | q | q | q <;> rw [q]
    · exact ⟨_, g1, fun v q => nomatch q⟩
    · exact ⟨_, g2, fun v q => nomatch q⟩
    · exact ⟨_, g3, fun v q => nomatch q⟩
    · exact ⟨o1, e1, fun v q => by rw [d1] at q; cases q⟩
    · exact ⟨o2, e2, fun v q => by rw [d2] at q; cases q⟩
  keep := by
    rintro i h h' ⟨g1, g2, ⟨u, v, g3⟩, ⟨o1, e1, r1⟩, g5⟩ k
    exact ⟨k z (by simp) _ g1, k ti (by simp) _ g2, ⟨u, v, k to (by simp) _ g3⟩, ⟨o1, k i1 (by simp) _ e1, r1⟩, g5.at fun o q => k i2 (by simp) o q⟩
  item := by
    intro X hP hw hK hc i pins s σ H E I hf st hg
    subst hP hw hK
    obtain ⟨g1, g2, ⟨u, v, g3⟩, g4, g5⟩ := st
    obtain ⟨hi, ys, y, hq, hy⟩ := hg
    obtain ⟨its, rv, p, _⟩ := I.tuple hq
    obtain ⟨uy, hu, ru⟩ := rv.get hy
    have hx : x.cps[i]? = some x.cps[i] := Array.getElem?_eq_getElem hi
    have zl : z < s.heap.objs.size := Heap.lt_size g1
    refine py_item nz nt nl g1 g2 g3 g4 g5 p hx (y := uy) (by simpa using hu) fun h' tk ux z' to' a1 a2 hT sz k => ?_
    refine ⟨_, rfl, wpAny_letOwnedTupleGo_zip (s := { s with heap := h', toks := tk }) z' fun h'' z'' sb => ?_⟩
    have hT2 : h''.get? s.heap.objs.size = some { cls := .type "tuple", data := .seq #[.str ⟨#[x.cps[i]]⟩ ux, uy] } := (sb.2 _ (Nat.ne_of_gt zl)).trans hT
    have new : ObjOk X.prog X.w (upd H s.heap.objs.size (.tup [.str ⟨#[x.cps[i]]⟩, y])) h'' s.heap.objs.size (.tup [.str ⟨#[x.cps[i]]⟩, y]) :=
      ⟨by show 2 ≤ sizeLine; decide, [_, uy], .cons ⟨_, rfl⟩ (.cons ru .nil), ⟨_, hT2, rfl, _, rfl⟩⟩
    have I1 : Inv X pins σ (upd H s.heap.objs.size (.tup [.str ⟨#[x.cps[i]]⟩, y])) { s with heap := h'', toks := tk } :=
      I.turnedNew (t' := tk) (ch := [z, ti, to, i1, i2]) (fun c o hb q => (sb.2 c (fun q' => hb (by simp [q']))).trans (k c o (fun q' => hb (by simp [q'])) (fun q' => hb (by simp [q'])) (fun q' => hb (by simp [q'])) (fun q' => hb (by simp [q'])) q)) hf (Nat.le_refl _) new
    obtain ⟨o1, p1, q1⟩ := a1
    refine ⟨.ref s.heap.objs.size, _, I1, rfl, ⟨_, _, y, rfl, I.hok.fresh (Nat.le_refl _), rfl, hx, fun l hl => by rw [I.tuple_inj hl hq]; exact hy⟩,
      ⟨z'', (sb.2 _ nz.1).trans (k _ _ nz.1 ni.1 ni.2.1 ni.2.2 g2), ⟨_, uy, (sb.2 _ nz.2.1).trans to'⟩, ⟨o1, (sb.2 _ nz.2.2.1).trans p1, q1⟩, a2.at fun o q => (sb.2 _ nz.2.2.2).trans q⟩, fun c hcm => ?_⟩
    have lt : c < s.heap.objs.size := by
      rcases five hcm with q | q | q | q | q <;> rw [q]
      · exact zl
      · exact Heap.lt_size g2
      · exact Heap.lt_size g3
      · obtain ⟨_, e1, _⟩ := g4; exact Heap.lt_size e1
      · obtain ⟨_, e2, _⟩ := g5; exact Heap.lt_size e2
    rw [upd_ne (Nat.ne_of_lt lt)]
    exact (hf c hcm).1
  done := by
    intro X hP hw hK hc i pins s σ H E I hf st hg
    subst hP hw hK
    obtain ⟨g1, g2, ⟨u, v, g3⟩, g4, g5⟩ := st
    exact py_end (I.ok.hd hc) nz.2.2.1 g1 g2 g3 g4 (Array.getElem?_eq_none hg) fun h' k => ⟨rfl, I.turnedL (t' := s.toks) (ch := [z, ti, to, i1, i2]) (fun c o hb q =>
      k c o (fun q' => hb (by simp [q'])) (fun q' => hb (by simp [q'])) (fun q' => hb (by simp [q'])) (fun q' => hb (by simp [q'])) q) hf⟩
  self := fun A i s Q E st h => wpAny_pyIter_zip st.1 h
def iZipS (K : PySem.W.Frag) (ta : TA) : TI := fun σ H R => ta σ H fun vs H1 => ∃ (x : Str) (b : Addr) (ys : List V), vs = [.str x, .ref b] ∧ x.cps.all (· < 128) = true ∧ H1 b = some (.tup ys) ∧ R (ItzS K x b) H1
theorem pi_zipS {X : Cx} {e e2 : Expr} {ta : TA} {p pos tpos : Pos} {elts : List Expr} {kk : Nat} (hg : Gl X "zip") (hm : X.mg "zip" = none) (ha : PA X [e, e2] ta)
    (hs : starEach [e, e2] X.env = (false, eval e X.env) :: starEach [e2] X.env := by rfl) (hpl : (backTo pos (starEach [e2] X.env)).any (·.1) = false := by rfl) :
    PI X (.Tuple elts kk tpos) (.Call (.Name "zip" p) [e, e2] [] pos) (iZipS X.K ta) := by
  refine ⟨fun pins s σ H R I h => ?_⟩
  refine Call_ (ld_blt I hg hm PyProof.Rows.boot_zip (PyProof.Rows.callWith_type1 (thn (ha.run pos pins s σ H _ I h) fun us s1 ⟨vs, H1, I1, r1, q1⟩ => ?_) hs hpl))
  obtain ⟨x, b, ys, rfl, plain, hb, q⟩ := q1
  obtain ⟨u1, u2, rfl, ru1, ru2⟩ := vals2 r1
  obtain ⟨t, rfl⟩ := ru1
  cases ru2
  obtain ⟨_, its, rv, ot, ho, hc, n, hd⟩ := I1.hok _ _ hb
  have hT : s1.heap.IsTuple b its.toArray := ⟨ot, ho, hc, n, hd⟩
  have bl : b < s1.heap.objs.size := Heap.lt_size ho
  refine callType_new F.called_zip (by decide) (F.typeCall_zip_2 _ _) (F.newCall_zip_2 _ _) (fun obj => F.args_object_init_3 obj _ _) F.entry_zip_new (meets_new x t b its.toArray plain) ⟨hT, ?_⟩
  have z1 : (h1 s1.heap x t).objs.size = s1.heap.objs.size + 1 := Heap.size_push ..
  have z2 : (h2 s1.heap x t b).objs.size = s1.heap.objs.size + 2 := by rw [Heap.size_push, z1]
  have z3 : (h3 s1.heap x t b).objs.size = s1.heap.objs.size + 3 := by rw [Heap.size_push, z2]
  have z4 : (h4 s1.heap x t b).objs.size = s1.heap.objs.size + 4 := by rw [Heap.size_push, z3]
  have g5 : (h5 s1.heap x t b).get? (h4 s1.heap x t b).objs.size = some _ := Heap.get?_push_size _ rfl
  have g4 : (h5 s1.heap x t b).get? (h3 s1.heap x t b).objs.size = some _ := Heap.get?_push_of_some _ (Heap.get?_push_size _ rfl)
  have g3 : (h5 s1.heap x t b).get? (h2 s1.heap x t b).objs.size = some _ := Heap.get?_push_of_some _ (Heap.get?_push_of_some _ (Heap.get?_push_size _ rfl))
  have g2 : (h5 s1.heap x t b).get? (h1 s1.heap x t).objs.size = some _ := Heap.get?_push_of_some _ (Heap.get?_push_of_some _ (Heap.get?_push_of_some _ (Heap.get?_push_size _ rfl)))
  have g1 : (h5 s1.heap x t b).get? s1.heap.objs.size = some _ := Heap.get?_push_of_some _ (Heap.get?_push_of_some _ (Heap.get?_push_of_some _ (Heap.get?_push_of_some _ (Heap.get?_push_size _ rfl))))
  have keep : ∀ c o, s1.heap.get? c = some o → (h5 s1.heap x t b).get? c = some o := fun c o e =>
    Heap.get?_push_of_some _ (Heap.get?_push_of_some _ (Heap.get?_push_of_some _ (Heap.get?_push_of_some _ (Heap.get?_push_of_some _ e))))
  show _ ∧ _
  rw [z2, z3, z4] at g5
  rw [z1, z2] at g3
  rw [z3] at g4
  rw [z1] at g2
  rw [z4]
  refine ⟨⟨_, g5, rfl⟩, wpAny_pyIter_zip g5 ?_⟩
  have D := PySem.W.ktu_apart s1.heap.objs.size b b bl bl
  have I2 : Inv X pins σ H1 { s1 with heap := h5 s1.heap x t b } := I1.kept (t' := s1.toks) keep
  refine ⟨s1.heap.objs.size + 4, [s1.heap.objs.size + 4, s1.heap.objs.size + 2, s1.heap.objs.size + 3, s1.heap.objs.size, s1.heap.objs.size + 1], _, _, H1, rfl, I2,
    turn (t := t) ⟨D.TIz, D.TOz, D.i1z, D.i2z⟩ ⟨D.TOi1, D.TOi2, D.i12⟩ ⟨D.l2z, D.l2TO, D.l2i1⟩ ⟨D.TITO, D.TIi1, D.TIi2⟩, ⟨g5, g3, ⟨_, _, g4⟩, ⟨_, g1, rfl, rfl⟩, ⟨_, g2, rfl, rfl⟩⟩, fun c hcm => ?_, q⟩
  have le : s1.heap.objs.size ≤ c := by
    rcases five hcm with z | z | z | z | z <;> rw [z] <;> first | exact Nat.le_add_right _ _ | exact Nat.le_refl _
  exact I1.fpOk le (I1.hok.fresh le)
/-- a loop over zip of a text and a tuple as long -/
theorem for_zipS {K : PySem.W.Frag} {x : Str} {b : Addr} {ys : List V} {g : TG} {tb : TS} {D : Ends} {σ : L2.St} {H : Hp} (hl : x.cps.size = ys.length) (Pv : Nat → L2.St → Hp → Prop) (h0 : Pv 0 σ H) (hq : ∀ i σ H, Pv i σ H → SqT K H b ys)
    (hs : ∀ (i c : Nat) (y : V) (T : Addr) (σ : L2.St) (H : Hp), x.cps[i]? = some c → ys[i]? = some y → Pv i σ H → H T = none → g (.ref T) σ (upd H T (.tup [.str ⟨#[c]⟩, y])) fun σ2 H2 => tb { D with nx := Pv (i + 1), ct := Pv (i + 1), bk := D.nx } σ2 H2)
    (hd : ∀ σ H, Pv x.cps.size σ H → D.nx σ H) :
    ∃ W : Nat → Nat → L2.St → Hp → Prop, (∃ m, W 0 m σ H) ∧ ∀ i m σ H, W i m σ H →
      ((ItzS K x b).stop i H ∧ D.nx σ H) ∨ ((ItzS K x b).go i H ∧ ∃ N : L2.St → Hp → Prop, (∀ σ' H', N σ' H' → ∃ m', m' < m ∧ W (i + 1) m' σ' H') ∧ ∀ v H', (ItzS K x b).yld i H v H' → g v σ H' fun σ2 H2 => tb { D with nx := N, ct := N, bk := D.nx } σ2 H2) := by
  refine ⟨fun i m σ H => m = x.cps.size - i ∧ i ≤ x.cps.size ∧ Pv i σ H, ⟨_, rfl, Nat.zero_le _, h0⟩, ?_⟩
  rintro i m σ H ⟨rfl, hi, p⟩
  by_cases lt : i < x.cps.size
  · have hy : ys[i]? = some ys[i] := List.getElem?_eq_getElem (by omega)
    refine Or.inr ⟨⟨lt, ys, _, hq i σ H p, hy⟩, Pv (i + 1), fun σ' H' p' => ⟨x.cps.size - (i + 1), by omega, rfl, lt, p'⟩, ?_⟩
    rintro v H' ⟨T, c, y', rfl, hT, rfl, hc, f⟩
    exact hs i c y' T σ H hc (f ys (hq i σ H p)) p hT
  · obtain rfl : i = x.cps.size := by omega
    exact Or.inl ⟨Nat.le_refl _, hd σ H p⟩
end KZ
set_option Elab.async false
set_option linter.unusedVariables false
set_option maxRecDepth 100000
set_option maxHeartbeats 1000000
/-! Data looked at: kinds, terms, names; heaps without one object; isinstance of data. -/
namespace KA
open PySem PySem.Spec PyProof.Rows L2

/-! ### a heap without one object -/
def hid (p : Addr) (H : Hp) : Hp := fun b => if b = p then none else H b
theorem hid_ne {p b : Addr} {H : Hp} (h : b ≠ p) : hid p H b = H b := if_neg h
theorem hid_at {p : Addr} {H : Hp} : hid p H p = none := if_pos rfl
theorem hid_some {p b : Addr} {H : Hp} {o : HO} (h : hid p H b = some o) : b ≠ p ∧ H b = some o := by
  by_cases e : b = p
  · subst e
    rw [hid_at] at h
    cases h
  · rw [hid_ne e] at h
    exact ⟨e, h⟩
theorem hid_sub {p : Addr} {H : Hp} : Same (hid p H) H := fun b o h => (hid_some h).2
theorem hid_upd {p : Addr} {H : Hp} {o : HO} : hid p (upd H p o) = hid p H := by
  funext b
  by_cases e : b = p
  · subst e
    rw [hid_at, hid_at]
  · rw [hid_ne e, hid_ne e, upd_ne e]
theorem Same.less {p : Addr} {H H' : Hp} (h : Same H H') : Same (hid p H) (hid p H') := fun b o e => by
  obtain ⟨n, e'⟩ := hid_some e
  rw [hid_ne n]
  exact h b o e'
theorem Same.new {H : Hp} {q : Addr} {o : HO} (h : H q = none) : Same H (upd H q o) := fun b u e => by
  rw [upd_ne (ne_of_none e h)]
  exact e
/-- what is new stands in the rest, too -/
theorem Same.hidNew {p q : Addr} {H H' : Hp} {o : HO} (h : Same H (hid p H')) (n : H' q = none) : Same H (hid p (upd H' q o)) := fun b u e => by
  have e' := h b u e
  obtain ⟨n1, e2⟩ := hid_some e'
  rw [hid_ne n1, upd_ne (ne_of_none e2 n)]
  exact e2
theorem Same.at {H H' : Hp} (h : Same H H') {b : Addr} {o : HO} (e : H b = some o) : H' b = some o := h b o e
/-- a heap to which only new things came, and p, which H does not know, changed -/
theorem Same.to_hid {p : Addr} {H H' : Hp} (h : Same H H') (n : H p = none) : Same H (hid p H') := fun b o e => by
  rw [hid_ne (ne_of_none e n)]
  exact h b o e
theorem Same.mut {p : Addr} {H H' : Hp} {o : HO} (h : Same H H') (n : H p = none) : Same H (upd H' p o) := fun b u e => by
  rw [upd_ne (ne_of_none e n)]
  exact h b u e

/-! ### kinds of data -/
def isTupD : PyData → Bool | .tuple _ => true | _ => false
def isLstD : PyData → Bool | .list _ => true | _ => false
def isStrD : PyData → Bool | .str _ => true | _ => false
def isIntD : PyData → Bool | .int _ => true | .bool _ => true | _ => false
def isBoolD : PyData → Bool | .bool _ => true | _ => false
def tyD : PyData → String
  | .none => "NoneType" | .bool _ => "bool" | .int _ => "int" | .str _ => "str" | .list _ => "list" | .tuple _ => "tuple" | .dict _ => "dict"
theorem Dn.ty {K : PySem.W.Frag} {H : Hp} {v : V} {d : PyData} (h : Dn H v d) : TyX K H v (.type (tyD d)) := by
  cases h with
  | non => exact .base .non
  | bl b => exact .base (.bl b)
  | int i => exact .base (.int i)
  | str x => exact .base (.str x)
  | lst e _ => exact .base (.lst e)
  | tup e _ => exact .base (.tup e)
  | dic e _ _ => exact .base (.dK e)
theorem is_tup (d : PyData) : kitB (tyD d) "tuple" = some (isTupD d) := by
  have t : kitB "NoneType" "tuple" = some false ∧ kitB "bool" "tuple" = some false ∧ kitB "int" "tuple" = some false ∧ kitB "str" "tuple" = some false ∧ kitB "list" "tuple" = some false ∧ kitB "tuple" "tuple" = some true ∧ kitB "dict" "tuple" = some false := by decide +kernel
  obtain ⟨a, b, c, e, g, h, i⟩ := t
  cases d <;> first | exact a | exact b | exact c | exact e | exact g | exact h | exact i
theorem is_lst (d : PyData) : kitB (tyD d) "list" = some (isLstD d) := by
  have t : kitB "NoneType" "list" = some false ∧ kitB "bool" "list" = some false ∧ kitB "int" "list" = some false ∧ kitB "str" "list" = some false ∧ kitB "list" "list" = some true ∧ kitB "tuple" "list" = some false ∧ kitB "dict" "list" = some false := by decide +kernel
  obtain ⟨a, b, c, e, g, h, i⟩ := t
  cases d <;> first | exact a | exact b | exact c | exact e | exact g | exact h | exact i
theorem is_str (d : PyData) : kitB (tyD d) "str" = some (isStrD d) := by
  have t : kitB "NoneType" "str" = some false ∧ kitB "bool" "str" = some false ∧ kitB "int" "str" = some false ∧ kitB "str" "str" = some true ∧ kitB "list" "str" = some false ∧ kitB "tuple" "str" = some false ∧ kitB "dict" "str" = some false := by decide +kernel
  obtain ⟨a, b, c, e, g, h, i⟩ := t
  cases d <;> first | exact a | exact b | exact c | exact e | exact g | exact h | exact i
theorem is_int (d : PyData) : kitB (tyD d) "int" = some (isIntD d) := by
  have t : kitB "NoneType" "int" = some false ∧ kitB "bool" "int" = some true ∧ kitB "int" "int" = some true ∧ kitB "str" "int" = some false ∧ kitB "list" "int" = some false ∧ kitB "tuple" "int" = some false ∧ kitB "dict" "int" = some false := by decide +kernel
  obtain ⟨a, b, c, e, g, h, i⟩ := t
  cases d <;> first | exact a | exact b | exact c | exact e | exact g | exact h | exact i
theorem is_bool (d : PyData) : kitB (tyD d) "bool" = some (isBoolD d) := by
  have t : kitB "NoneType" "bool" = some false ∧ kitB "bool" "bool" = some true ∧ kitB "int" "bool" = some false ∧ kitB "str" "bool" = some false ∧ kitB "list" "bool" = some false ∧ kitB "tuple" "bool" = some false ∧ kitB "dict" "bool" = some false := by decide +kernel
  obtain ⟨a, b, c, e, g, h, i⟩ := t
  cases d <;> first | exact a | exact b | exact c | exact e | exact g | exact h | exact i
/-- isinstance(e, T) of data -/
def rIsD (T : String) (f : PyData → Bool) : List V → Hp → VK → Prop := fun xs H Q => ∃ x d, xs = [x, .ty T] ∧ Dn H x d ∧ Q (.bl (f d)) H
section
variable {X : Cx} {e : Expr} {te : TE} {p q pos : Pos}
theorem call_isD {T : String} {f : PyData → Bool} (hf : ∀ d, kitB (tyD d) T = some (f d)) : CallR X (.builtin "isinstance") (rIsD T f) := by
  intro pins s σ H xs us Q I r h
  obtain ⟨x, d, rfl, hd, k⟩ := h
  exact call_isi pins s σ H _ us Q I r ⟨x, .ty T, _, _, _, rfl, .ty T, hd.ty, kit_ty (hf d), k⟩
theorem pe_isD {n : Str} {T : String} {f : PyData → Bool} (hf : ∀ d, kitB (tyD d) T = some (f d)) (he : PE X e te) (hm : X.mg "isinstance" = none) (hn : X.mg n = none) (hv : bootBuiltins n = some (.type T)) (hg : Gl X "isinstance" := by rfl) (hg2 : Gl X n := by rfl)
    (hne : n ≠ "__name__" := by decide) (hnd : (n == ("__debug__" : Str)) = false := by decide)
    (a1 : starEach [e, .Name n q] X.env = (false, eval e X.env) :: starEach [.Name n q] X.env := by rfl) (a2 : (backTo pos (starEach [.Name n q] X.env)).any (·.1) = false := by rfl) (a3 : starEach [.Name n q] X.env = (false, eval (.Name n q) X.env) :: starEach [] X.env := by rfl) :
    PE X (.Call (.Name "isinstance" p) [e, .Name n q] [] pos) (tCB (rIsD T f) (tCons te (tCons (tC (.ty T)) tNil))) :=
  pe_callB (X := X) (p := p) (pos := pos) (call_isD hf) hg hm (by decide +kernel) (pa_cons he (pa_cons (pe_bltn (v := .ty T) hg2 hn hv rfl hne hnd) pa_nil a3) a1) (by decide) (by decide) a1 a2
end
/-! ### a comprehension over a text -/
theorem lc_str {x : Str} {g : TG} {tt : TT} {te : TE} {vs : List Nat} {σ : L2.St} {H1 : Hp} {D : Addr} {Qd : Hp → Prop} (Pv : Nat → Hp → Prop) (h0 : Pv 0 (upd H1 D (.lst [])))
    (hs : ∀ (i c : Nat) (H : Hp), x.cps[i]? = some c → Pv i H → g (.str ⟨#[c]⟩) (wipe σ vs) H fun σ2 H2 => wipe σ2 vs = wipe σ vs ∧ tt σ2 H2 fun b H3 =>
      if b = true then te σ2 H3 fun y H4 => ∃ acc, H4 D = some (.lst acc) ∧ acc.length < sizeLine ∧ Pv (i + 1) (upd H4 D (.lst (acc ++ [y]))) else Pv (i + 1) H3) (hd : ∀ H, Pv x.cps.size H → Qd H) :
    ∃ W : Nat → Nat → Hp → Prop, (∃ m, W 0 m (upd H1 D (.lst []))) ∧ ∀ i m H, W i m H →
      ((Its x).stop i H ∧ Qd H) ∨ ((Its x).go i H ∧ ∃ Nx : Hp → Prop, (∀ H', Nx H' → ∃ m', m' < m ∧ W (i + 1) m' H') ∧ ∀ v H', (Its x).yld i H v H' → g v (wipe σ vs) H' fun σ2 H2 => wipe σ2 vs = wipe σ vs ∧ tt σ2 H2 fun b H3 =>
        if b = true then te σ2 H3 fun y H4 => ∃ acc, H4 D = some (.lst acc) ∧ acc.length < sizeLine ∧ Nx (upd H4 D (.lst (acc ++ [y]))) else Nx H3) := by
  refine ⟨fun i m H => m = x.cps.size - i ∧ i ≤ x.cps.size ∧ Pv i H, ⟨_, rfl, Nat.zero_le _, h0⟩, ?_⟩
  rintro i m H ⟨rfl, hi, p⟩
  by_cases lt : i < x.cps.size
  · refine Or.inr ⟨lt, Pv (i + 1), fun H' p' => ⟨x.cps.size - (i + 1), by omega, rfl, lt, p'⟩, ?_⟩
    rintro v H' ⟨rfl, c, hc, rfl⟩
    exact hs i c _ hc p
  · obtain rfl : i = x.cps.size := by omega
    exact Or.inl ⟨Nat.le_refl _, hd H p⟩
theorem yes {σ : L2.St} {H : Hp} {Q : Bool → Hp → Prop} (h : Q true H) : tYes σ H Q := h
theorem take_snoc {α : Type} {xs : List α} {i : Nat} {x : α} (h : xs[i]? = some x) : xs.take (i + 1) = xs.take i ++ [x] := by
  rw [List.take_add_one, h]
  rfl
end KA
set_option Elab.async false
set_option linter.unusedVariables false
set_option maxRecDepth 100000
set_option maxHeartbeats 1000000
/-! The program's defs. -/
namespace KP
open PySem PySem.Spec PyProof.Rows L2 KA

/-! ### what it reckons, on data -/
def cntB (lo : Int) : PyData → Bool | .int i => decide (lo ≤ i) | _ => false
def wholeB (lo hi : Int) : PyData → Bool | .int i => decide (lo ≤ i) && decide (i ≤ hi) | _ => false
def letterB (c : Nat) : Bool := decide (97 ≤ c) && decide (c ≤ 122)
def letters : Str := "abcdefghijklmnopqrstuvwxyz"
def noNames : List Str := ["all", "fun", "same", "self", "put"]
def nameX (x : Str) : Bool := !(noNames.any fun y => y == x) && (decide (1 ≤ x.length) && decide (x.length ≤ 8) && x.cps.toList.all letterB)
def nameB : PyData → Bool | .str x => nameX x | _ => false
def parts (z : Str) : Option Nat :=
  if z = "all" then some 2 else if z = "fun" then some 2 else if z = "app" then some 2 else if z = "same" then some 3 else if z = "self" then some 2 else if z = "put" then some 3 else none
def leafB (w : Str) : List PyData → Bool
  | [x] => if w = "at" then cntB 0 x else if w = "kind" then wholeB 0 5 x else (decide (w = "name") || decide (w = "thing")) && nameB x
  | [x, y] => nameB x && (if w = "maker" then cntB 0 y else decide (w = "eater") && wholeB 0 5 y)
  | _ => false
mutual
def tm : PyData → Bool
  | .tuple (.str w :: ds) => (match parts w with
    | some n => decide (ds.length = n) && tmAll ds
    | none => leafB w ds)
  | _ => false
def tmAll : List PyData → Bool
  | [] => true
  | d :: ds => tm d && tmAll ds
end
mutual
/-- how many data there are in it -/
def nodes : PyData → Nat
  | .tuple ds => nodesAll ds + 1
  | _ => 1
def nodesAll : List PyData → Nat
  | [] => 0
  | d :: ds => nodes d + nodesAll ds
end

mutual
/-- its leaves are small -/
def fine : PyData → Bool
  | .int i => decide (-(10 ^ 31) ≤ i) && decide (i ≤ 10 ^ 31)
  | .str x => decide (x.length ≤ 20) && x.cps.toList.all fun c => decide (c < 128)
  | .list ds => fineAll ds
  | .tuple ds => fineAll ds
  | .dict kvs => fineKv kvs
  | _ => true
def fineAll : List PyData → Bool
  | [] => true
  | d :: ds => fine d && fineAll ds
def fineKv : List (PyData × PyData) → Bool
  | [] => true
  | (k, v) :: r => fine k && fine v && fineKv r
end
theorem letters_list : letters.cps.toList = [97, 98, 99, 100, 101, 102, 103, 104, 105, 106, 107, 108, 109, 110, 111, 112, 113, 114, 115, 116, 117, 118, 119, 120, 121, 122] := by decide +kernel
theorem in_letters (c : Nat) : decide (c ∈ letters.cps.toList) = letterB c := by
  rw [letters_list]
  unfold letterB
  rw [← Bool.decide_and]
  apply decide_eq_decide.mpr
  simp only [List.mem_cons, List.not_mem_nil, or_false]
  omega

/-! ### the text by places -/
def top (i : Nat) : Stmt := PySem.Challenge.pw_kernelpapers_k16_things_refused.main.body.getD i (.Pass ⟨0, 0, 0, 0⟩)
abbrev sWhole : Stmt := top 25
abbrev sCount : Stmt := top 26
abbrev sName : Stmt := top 27
abbrev sTerm : Stmt := top 28
abbrev sLeaf : Stmt := top 29

/-- what the top has left, but for the defs -/
structure Txt (K : PySem.W.Frag) (w : World) (mg : Str → Option Value) : Prop where
  isi : mg "isinstance" = none
  int : mg "int" = none
  bool : mg "bool" = none
  str : mg "str" = none
  tuple : mg "tuple" = none
  list : mg "list" = none
  dict : mg "dict" = none
  len : mg "len" = none
  all : mg "all" = none
  max : mg "max" = none
  min : mg "min" = none
  range : mg "range" = none
  zip : mg "zip" = none
  repr : mg "repr" = none
  letters : ∃ u, mg "LETTERS" = some u ∧ RelV (.str KP.letters) u
  most : ∃ u, mg "MOST_LETTERS" = some u ∧ RelV (.int 8) u
  highest : ∃ u, mg "HIGHEST" = some u ∧ RelV (.int 5) u
  no : ∃ a o its n, mg "NO_NAMES" = some (.ref a) ∧ K.lookup a = some o ∧ o.cls = .type "tuple" ∧ o.data = .seq its n ∧ its.size ≤ sizeLine ∧ Vals (noNames.map V.str) its.toList
  parted : ∃ a es n, mg "PARTED" = some (.ref a) ∧ KDict K w a es n ∧ ∀ z, ∃ r, PySem.W.nsIn K a z = some r ∧ RelO ((parts z).map fun n => V.int (n : Int)) r

/-! ### promises -/
def spCount : Sp := fun vs H Q _ => ∃ v d lo, vs = [v, .int lo] ∧ Dn H v d ∧ ∀ H', Same H H' → Q (.bl (cntB lo d)) H'
def spWhole : Sp := fun vs H Q _ => ∃ v d lo hi, vs = [v, .int lo, .int hi] ∧ Dn H v d ∧ ∀ H', Same H H' → Q (.bl (wholeB lo hi d)) H'
def sp1 (ok : PyData → Prop) (f : PyData → Bool) : Sp := fun vs H Q _ => ∃ v d, vs = [v] ∧ Dn H v d ∧ ok d ∧ ∀ H', Same H H' → Q (.bl (f d)) H'

section
variable {P : Program} {w : World} {K : PySem.W.Frag} {mg : Str → Option Value} {base : Heap}
theorem scCount : FnScope ["thing", "low"] ["thing", "low"] (defScope sCount) := ⟨rfl, rfl, rfl, by decide +kernel, rfl, by decide +kernel, by decide +kernel⟩
theorem ok_count {f : Addr} {fd : FuncData} {dvs : List V} {kws : List (Str × V)} (F : FunD K "is_count" "is_count" (defArgs sCount) (defBody sCount) (defScope sCount) dvs kws f fd) (T : Txt K w mg) : FnOk P w K mg base CX0 1 f fd ["thing", "low"] spCount := by
  refine F.ok scCount (fun vs H Q E h => ?_) (fun cdv A outer s H vs Q E hr h => ?_)
  · obtain ⟨v, d, lo, rfl, _⟩ := h
    rfl
  · obtain ⟨v, d, lo, rfl, hd, k⟩ := h
    refine ⟨_, pss_one (ps_ret (pe_and (pe_isD is_int (pv 0) T.isi T.int (by decide +kernel)) (pe_and (pe_not (pe_isD is_bool (pv 0) T.isi T.bool (by decide +kernel))) (pe_one (pe_cmpR op_ge (pv 0) (pv 1) (nomark _)))))), ?_⟩
    have k0 := k H (Same.refl H)
    refine ⟨v, rfl, v, d, rfl, hd, _, rfl, ?_⟩
    cases hd with
    | int i => exact iteT ⟨_, rfl, .int i, _, rfl, .int i, _, rfl, _, rfl, iteT ⟨_, rfl, _, rfl, i, lo, rfl, rfl, k0⟩⟩
    | bl b => exact iteT ⟨_, rfl, .bl b, _, rfl, .bl b, _, rfl, _, rfl, iteF k0⟩
    | non => exact iteF k0
    | str x => exact iteF k0
    | lst _ _ => exact iteF k0
    | tup _ _ => exact iteF k0
    | dic _ _ _ => exact iteF k0
theorem scWhole : FnScope ["thing", "low", "high"] ["thing", "low", "high"] (defScope sWhole) := ⟨rfl, rfl, rfl, by decide +kernel, rfl, by decide +kernel, by decide +kernel⟩
theorem ok_whole {f : Addr} {fd : FuncData} (F : Fun K "is_whole" "is_whole" sWhole f fd) (T : Txt K w mg) (C : C8.Cal P w K mg base 1 "is_count" spCount []) : FnOk P w K mg base CX0 2 f fd ["thing", "low", "high"] spWhole := by
  refine F.ok scWhole (fun vs H Q E h => ?_) (fun cdv A outer s H vs Q E hr h => ?_)
  · obtain ⟨v, d, lo, hi, rfl, _⟩ := h
    rfl
  · obtain ⟨v, d, lo, hi, rfl, hd, k⟩ := h
    refine ⟨_, pss_one (ps_ret (pe_and (C8.pe_c C hr (by decide) rfl (pa_cons (pv 0) (pa_cons (pv 1) pa_nil))) (pe_one (pe_cmpR op_le (pv 0) (pv 2) (nomark _))))), ?_⟩
    refine ⟨v, rfl, _, rfl, v, d, lo, rfl, hd, fun H' S => ⟨_, rfl, ?_⟩⟩
    have k0 := k H' S
    cases hd with
    | int i =>
      refine ite2 (fun h => ?_) (fun h => ?_)
      · refine ⟨_, rfl, _, rfl, i, hi, rfl, rfl, ?_⟩
        have e : wholeB lo hi (.int i) = decide (i ≤ hi) := by
          show (decide (lo ≤ i) && decide (i ≤ hi)) = _
          rw [show decide (lo ≤ i) = true from h, Bool.true_and]
        rw [e] at k0
        exact k0
      · have e : wholeB lo hi (.int i) = false := by
          show (decide (lo ≤ i) && decide (i ≤ hi)) = _
          rw [show decide (lo ≤ i) = false by simpa [cntB] using h, Bool.false_and]
        rw [e] at k0
        exact k0
    | bl b => exact iteF k0
    | non => exact iteF k0
    | str x => exact iteF k0
    | lst _ _ => exact iteF k0
    | tup _ _ => exact iteF k0
    | dic _ _ _ => exact iteF k0
theorem scName : FnScope ["thing", "letter"] ["thing"] (defScope sName) := ⟨rfl, rfl, rfl, by decide +kernel, rfl, by decide +kernel, by decide +kernel⟩
theorem ok_name {f : Addr} {fd : FuncData} (F : Fun K "is_name" "is_name" sName f fd) (T : Txt K w mg) : FnOk P w K mg base CX0 1 f fd ["thing"] (sp1 (fun d => fine d = true) nameB) := by
  refine F.ok scName (fun vs H Q E h => ?_) (fun cdv A outer s H vs Q E hr h => ?_)
  · obtain ⟨v, d, rfl, _⟩ := h
    rfl
  · obtain ⟨v, d, rfl, hd, hf, k⟩ := h
    obtain ⟨na, no, nits, nn, nm, nl, nc, ndt, nsz, nv⟩ := T.no
    refine ⟨_, pss_cons (ps_if (PW.pt (pw_or (pt_not (pt_val (pe_isD is_str (pv 0) T.isi T.str (by decide +kernel)))) (pw_or1 (pt_cmpR op_in_seq (pv 0) (pe_glob (v := .ref na) rfl nm rfl) rfl))))
        (pss_one (ps_ret pe_bl)) pss_nil)
      (pss_one (ps_ret (pe_and (pe_chain op_le op_le pe_int (pe_callB call_len_str (by rfl) T.len PySem.boot_len (pa_cons (pv 0) pa_nil)) (C8.pe_gc rfl T.most))
        (pe_one (pe_callB (cr_all rfl) (by rfl) T.all (by decide +kernel) (pa_cons (pe_lc (own := [("letter", 1)]) (g := gName 1) (tt := tYes) rfl scName.nd (pi_str (pv 0)) (blkOk_by (N := ["thing", "letter"]) (sc := defScope sName) (by decide +kernel))
          (fun _ _ _ _ _ => pg_name (i := 1) scName.nd rfl (Or.inl rfl)) (fun _ _ _ _ _ => pts_nil) (fun _ _ _ _ _ => pe_cmpR op_in_sign (pv 1) (C8.pe_gc rfl T.letters) rfl)) pa_nil)))))), ?_⟩
    refine ⟨v, rfl, v, d, rfl, hd, _, rfl, ?_⟩
    have k0 := k H (Same.refl H)
    cases hd with
    | str x =>
      have fx : x.length ≤ 20 ∧ (x.cps.toList.all fun c => decide (c < 128)) = true := by simpa [fine] using hf
      have nT : SqT K H na (noNames.map V.str) := Or.inr ⟨no, nits, nn, nl, nc, ndt, nsz, nv⟩
      refine iteF ⟨.str x, rfl, na, _, rfl, Or.inr nT, rfl, rfl, _, rfl, ?_⟩
      have eN : inV (.str x) (noNames.map V.str) = noNames.any fun y => y == x := by
        unfold inV
        rw [List.any_map]
        rfl
      refine ite2 (fun h => ?_) (fun h => ?_)
      · have e : nameB (.str x) = false := by
          show (!(noNames.any fun y => y == x) && _) = false
          rw [← eN, show inV (.str x) (noNames.map V.str) = true from h]
          rfl
        rw [e] at k0
        exact k0
      · have hin : inV (.str x) (noNames.map V.str) = false := by simpa using h
        have e : nameB (.str x) = (decide (1 ≤ x.length) && decide (x.length ≤ 8) && x.cps.toList.all letterB) := by
          show (!(noNames.any fun y => y == x) && _) = _
          rw [← eN, hin]
          rfl
        rw [e] at k
        refine ⟨.str x, rfl, x, rfl, (by show x.length ≤ sizeLine; exact Nat.le_trans fx.1 (by decide)), 1, _, rfl, rfl, _, rfl, ?_⟩
        refine ite2 (fun h1 => ?_) (fun h1 => ?_)
        · have h1 : decide ((1 : Int) ≤ (x.length : Int)) = true := h1
          refine ⟨_, _, rfl, rfl, _, rfl, ?_⟩
          refine ite2 (fun h2 => ?_) (fun h2 => ?_)
          · have h2 : decide ((x.length : Int) ≤ 8) = true := h2
            refine ⟨.str x, rfl, x, rfl, fun D hD => lc_str (fun i H' => H' D = some (.lst ((x.cps.toList.take i).map fun c => V.bl (letterB c))) ∧ Same H H') ⟨upd_same, Same.new hD⟩ ?_ ?_⟩
            · rintro i c H' hc ⟨hl, S⟩
              refine ⟨rfl, yes (iteT ?_)⟩
              refine ⟨.str ⟨#[c]⟩, rfl, c, letters, rfl, rfl, ?_⟩
              refine ⟨_, hl, ?_, ?_, Same.mut S hD⟩
              · rw [List.length_map, List.length_take]
                have : x.cps.toList.length ≤ 20 := fx.1
                exact Nat.lt_of_le_of_lt (Nat.le_trans (Nat.min_le_right _ _) this) (by decide)
              · rw [upd_same, in_letters, take_snoc (x := c) (by simpa using hc), List.map_append]
                rfl
            · rintro H' ⟨hl, S⟩
              refine ⟨D, x.cps.toList.map letterB, rfl, Or.inl (Or.inl ?_), ?_⟩
              · rw [hl, List.take_of_length_le (by simp), List.map_map]
                rfl
              · have e2 : (x.cps.toList.map letterB).all id = (decide (1 ≤ x.length) && decide (x.length ≤ 8) && x.cps.toList.all letterB) := by
                  have a1 : decide (1 ≤ x.length) = true := by
                    have := of_decide_eq_true h1
                    exact decide_eq_true (by omega)
                  have a2 : decide (x.length ≤ 8) = true := by
                    have := of_decide_eq_true h2
                    exact decide_eq_true (by omega)
                  rw [a1, a2, List.all_map]
                  rfl
                rw [e2]
                exact k H' S
          · have h2 : ¬ decide ((x.length : Int) ≤ 8) = true := h2
            have a2 : decide (x.length ≤ 8) = false := by
              simp only [decide_eq_true_eq] at h2
              exact decide_eq_false (by omega)
            have := k H (Same.refl H)
            rw [a2, Bool.and_false, Bool.false_and] at this
            exact this
        · have h1 : ¬ decide ((1 : Int) ≤ (x.length : Int)) = true := h1
          have a1 : decide (1 ≤ x.length) = false := by
            simp only [decide_eq_true_eq] at h1
            exact decide_eq_false (by omega)
          have := k H (Same.refl H)
          rw [a1, Bool.false_and, Bool.false_and] at this
          exact ⟨_, rfl, iteF this⟩
    | int i => exact iteT k0
    | bl b => exact iteT k0
    | non => exact iteT k0
    | lst _ _ => exact iteT k0
    | tup _ _ => exact iteT k0
    | dic _ _ _ => exact iteT k0
theorem beq_dec (x y : Str) : (x == y) = decide (y = x) := by
  by_cases h : y = x
  · subst h
    rw [decide_eq_true rfl]
    exact beq_self_eq_true _
  · rw [decide_eq_false h]
    exact beq_eq_false_iff_ne.mpr fun e => h e.symm
def spLeaf : Sp := fun vs H Q _ => ∃ v wd ds, vs = [v] ∧ Dn H v (.tuple (.str wd :: ds)) ∧ fineAll ds = true ∧ (∀ H', Same H H' → Q (.bl (leafB wd ds)) H')
theorem scLeaf : FnScope ["thing", "word"] ["thing"] (defScope sLeaf) := ⟨rfl, rfl, rfl, by decide +kernel, rfl, by decide +kernel, by decide +kernel⟩
theorem tup_inv {H : Hp} {v : V} {ds : List PyData} (h : Dn H v (.tuple ds)) : ∃ a xs, v = .ref a ∧ H a = some (.tup xs) ∧ DnAll H xs ds := by
  cases h with
  | tup e r => exact ⟨_, _, rfl, e, r⟩
theorem str_inv {H : Hp} {v : V} {x : Str} (h : Dn H v (.str x)) : v = .str x := by
  cases h
  rfl
theorem cons_inv {H : Hp} {xs : List V} {d : PyData} {ds : List PyData} (h : DnAll H xs (d :: ds)) : ∃ y ys, xs = y :: ys ∧ Dn H y d ∧ DnAll H ys ds := by
  cases h with
  | cons a b => exact ⟨_, _, rfl, a, b⟩
theorem nil_inv {H : Hp} {xs : List V} (h : DnAll H xs []) : xs = [] := by
  cases h
  rfl
theorem ok_leaf {f : Addr} {fd : FuncData} (F : Fun K "_is_leaf" "_is_leaf" sLeaf f fd) (T : Txt K w mg) (C0 : C8.Cal P w K mg base 1 "is_count" spCount [.int 0]) (CW : C8.Cal P w K mg base 2 "is_whole" spWhole [])
    (CN : C8.Cal P w K mg base 1 "is_name" (sp1 (fun d => fine d = true) nameB) []) : FnOk P w K mg base CX0 3 f fd ["thing"] spLeaf := by
  refine F.ok scLeaf (fun vs H Q E h => ?_) (fun cdv A outer s H vs Q E hr h => ?_)
  · obtain ⟨v, wd, ds, rfl, _⟩ := h
    rfl
  · obtain ⟨v, wd, ds, rfl, hd, hf, k⟩ := h
    refine ⟨_, pss_cons (ps_set (i := 1) scLeaf.nd rfl (Or.inl rfl) (pe_ix ix_tup (pv 0) pe_int (fun _ _ => rfl)))
      (pss_cons (ps_if (pt_cmpR op_eq (pe_callB call_len_seq (by rfl) T.len PySem.boot_len (pa_cons (pv 0) pa_nil)) pe_int (nomark _))
        (pss_cons (ps_if (pt_cmpR op_eq (pv 1) pe_str (nomark _)) (pss_one (ps_ret (C8.pe_c C0 hr (by decide) rfl (pa_cons (pe_ix ix_tup (pv 0) pe_int (fun _ _ => rfl)) pa_nil)))) pss_nil)
          (pss_cons (ps_if (pt_cmpR op_eq (pv 1) pe_str (nomark _)) (pss_one (ps_ret (C8.pe_c CW hr (by decide) rfl (pa_cons (pe_ix ix_tup (pv 0) pe_int (fun _ _ => rfl)) (pa_cons pe_int (pa_cons (C8.pe_gc rfl T.highest) pa_nil)))))) pss_nil)
            (pss_one (ps_ret (pe_and (pe_cmpR op_in_seq (pv 1) (pe_tup (pa_cons pe_str (pa_cons pe_str pa_nil))) rfl) (pe_one (C8.pe_c CN hr (by decide) rfl (pa_cons (pe_ix ix_tup (pv 0) pe_int (fun _ _ => rfl)) pa_nil))))))))
        pss_nil)
      (pss_cons (ps_if (PW.pt (pw_or (pt_cmpR op_ne (pe_callB call_len_seq (by rfl) T.len PySem.boot_len (pa_cons (pv 0) pa_nil)) pe_int (nomark _))
          (pw_or1 (pt_not (pt_val (C8.pe_c CN hr (by decide) rfl (pa_cons (pe_ix ix_tup (pv 0) pe_int (fun _ _ => rfl)) pa_nil))))))) (pss_one (ps_ret pe_bl)) pss_nil)
      (pss_cons (ps_if (pt_cmpR op_eq (pv 1) pe_str (nomark _)) (pss_one (ps_ret (C8.pe_c C0 hr (by decide) rfl (pa_cons (pe_ix ix_tup (pv 0) pe_int (fun _ _ => rfl)) pa_nil)))) pss_nil)
      (pss_one (ps_ret (pe_and (pe_cmpR op_eq (pv 1) pe_str (nomark _)) (pe_one (C8.pe_c CW hr (by decide) rfl (pa_cons (pe_ix ix_tup (pv 0) pe_int (fun _ _ => rfl)) (pa_cons pe_int (pa_cons (C8.pe_gc rfl T.highest) pa_nil)))))))))))
      , ?_⟩
    obtain ⟨a, xs0, rfl, ha, hx0⟩ := tup_inv hd
    obtain ⟨x0, xs, rfl, h0, hx⟩ := cons_inv hx0
    obtain rfl := str_inv h0
    clear hx0 hd h0
    have sT : SqT K H a (.str wd :: xs) := SqT.of ha
    refine ⟨_, rfl, a, _, 0, _, rfl, rfl, sT, at_of (j := 0) rfl rfl, ?_⟩
    refine ⟨_, rfl, a, _, rfl, Or.inr sT, rfl, _, rfl, ?_⟩
    match ds, hx, hf, k with
    | [], hx, hf, k =>
      obtain rfl := nil_inv hx
      refine iteF ⟨_, rfl, a, _, rfl, Or.inr sT, rfl, _, rfl, iteT ?_⟩
      exact k H (Same.refl H)
    | [d1], hx, hf, k =>
      obtain ⟨x1, xs1, rfl, h1, hx1⟩ := cons_inv hx
      obtain rfl := nil_inv hx1
      have f1 : fine d1 = true := by simpa [fineAll] using hf
      refine iteT ⟨_, rfl, rfl, _, rfl, ?_⟩
      refine ite2 (fun c1 => ?_) (fun c1 => ?_)
      · have c1 : wd = "at" := V.str.inj (of_decide_eq_true c1)
        refine ⟨_, rfl, a, _, 1, _, rfl, rfl, sT, at_of (j := 1) rfl rfl, x1, d1, 0, rfl, h1, fun H' S => ?_⟩
        have k' := k H' S
        rw [show leafB wd [d1] = cntB 0 d1 from if_pos c1] at k'
        exact k'
      · have c1 : ¬ wd = "at" := fun e => c1 (decide_eq_true (congrArg V.str e))
        refine ⟨_, rfl, rfl, _, rfl, ?_⟩
        refine ite2 (fun c2 => ?_) (fun c2 => ?_)
        · have c2 : wd = "kind" := V.str.inj (of_decide_eq_true c2)
          refine ⟨_, rfl, a, _, 1, _, rfl, rfl, sT, at_of (j := 1) rfl rfl, x1, d1, 0, 5, rfl, h1, fun H' S => ?_⟩
          have k' := k H' S
          rw [show leafB wd [d1] = wholeB 0 5 d1 from (if_neg c1).trans (if_pos c2)] at k'
          exact k'
        · have c2 : ¬ wd = "kind" := fun e => c2 (decide_eq_true (congrArg V.str e))
          have e0 : leafB wd [d1] = ((decide (wd = "name") || decide (wd = "thing")) && nameB d1) := (if_neg c1).trans (if_neg c2)
          rw [e0] at k
          refine ⟨_, rfl, (by show 2 ≤ sizeLine; decide), fun p hp => ⟨p, _, rfl, Or.inr (SqT.of upd_same), rfl, rfl, _, rfl, ?_⟩⟩
          have ei : inV (.str wd) [.str "name", .str "thing"] = (decide (wd = "name") || decide (wd = "thing")) := by
            unfold inV
            simp only [List.any_cons, List.any_nil, Bool.or_false, eqV]
            rw [beq_dec, beq_dec]
          have sN : Same H (upd H p (.tup [.str "name", .str "thing"])) := Same.new hp
          refine ite2 (fun c3 => ?_) (fun c3 => ?_)
          · have c3 : inV (.str wd) [.str "name", .str "thing"] = true := c3
            refine ⟨_, rfl, a, _, 1, _, rfl, rfl, SqT.of (sN _ _ ha), at_of (j := 1) rfl rfl, x1, d1, rfl, Dn.mono sN h1, f1, fun H' S => ?_⟩
            have k' := k H' (sN.trans S)
            rw [← ei, c3, Bool.true_and] at k'
            exact k'
          · have c3 : inV (.str wd) [.str "name", .str "thing"] = false := by simpa using c3
            have k' := k _ sN
            rw [← ei, c3, Bool.false_and] at k'
            exact k'
    | [d1, d2], hx, hf, k =>
      obtain ⟨x1, xs1, rfl, h1, hx1⟩ := cons_inv hx
      obtain ⟨x2, xs2, rfl, h2, hx2⟩ := cons_inv hx1
      obtain rfl := nil_inv hx2
      have f1 : fine d1 = true := by
        have : fine d1 = true ∧ fine d2 = true := by simpa [fineAll] using hf
        exact this.1
      refine iteF ⟨_, rfl, a, _, rfl, Or.inr sT, rfl, _, rfl, iteF ?_⟩
      refine ⟨_, rfl, a, _, 1, _, rfl, rfl, sT, at_of (j := 1) rfl rfl, x1, d1, rfl, h1, f1, fun H' S => ⟨_, rfl, ?_⟩⟩
      have ha' := S _ _ ha
      have sT' : SqT K H' a [.str wd, x1, x2] := SqT.of ha'
      have e0 : leafB wd [d1, d2] = (nameB d1 && (if wd = "maker" then cntB 0 d2 else decide (wd = "eater") && wholeB 0 5 d2)) := rfl
      rw [e0] at k
      cases c : nameB d1 with
      | false =>
        refine iteT ?_
        have k' := k H' S
        rw [c] at k'
        exact k'
      | true =>
        rw [c, Bool.true_and] at k
        refine iteF ⟨_, rfl, rfl, _, rfl, ?_⟩
        refine ite2 (fun c1 => ?_) (fun c1 => ?_)
        · have c1 : wd = "maker" := V.str.inj (of_decide_eq_true c1)
          refine ⟨_, rfl, a, _, 2, _, rfl, rfl, sT', at_of (j := 2) rfl rfl, x2, d2, 0, rfl, Dn.mono S h2, fun H2 S2 => ?_⟩
          have k' := k H2 (S.trans S2)
          rw [if_pos c1] at k'
          exact k'
        · have c1 : ¬ wd = "maker" := fun e => c1 (decide_eq_true (congrArg V.str e))
          rw [if_neg c1] at k
          refine ⟨_, rfl, rfl, _, rfl, ?_⟩
          refine ite2 (fun c2 => ?_) (fun c2 => ?_)
          · have c2 : wd = "eater" := V.str.inj (of_decide_eq_true c2)
            refine ⟨_, rfl, a, _, 2, _, rfl, rfl, sT', at_of (j := 2) rfl rfl, x2, d2, 0, 5, rfl, Dn.mono S h2, fun H2 S2 => ?_⟩
            have k' := k H2 (S.trans S2)
            rw [decide_eq_true c2, Bool.true_and] at k'
            exact k'
          · have c2 : ¬ wd = "eater" := fun e => c2 (decide_eq_true (congrArg V.str e))
            have k' := k H' S
            rw [decide_eq_false c2, Bool.false_and] at k'
            exact k'
    | d1 :: d2 :: d3 :: ds, hx, hf, k =>
      obtain ⟨x1, xs1, rfl, h1, hx1⟩ := cons_inv hx
      obtain ⟨x2, xs2, rfl, h2, hx2⟩ := cons_inv hx1
      obtain ⟨x3, xs3, rfl, h3, hx3⟩ := cons_inv hx2
      have n2 : decide (V.int (((.str wd : V) :: x1 :: x2 :: x3 :: xs3).length : Int) = V.int 2) = false := decide_eq_false fun e => by
        have := V.int.inj e
        simp only [List.length_cons] at this
        omega
      have n3 : decide (V.int (((.str wd : V) :: x1 :: x2 :: x3 :: xs3).length : Int) = V.int 3) = false := decide_eq_false fun e => by
        have := V.int.inj e
        simp only [List.length_cons] at this
        omega
      rw [n2]
      refine iteF ⟨_, rfl, a, _, rfl, Or.inr sT, rfl, _, rfl, ?_⟩
      rw [n3]
      exact iteT (k H (Same.refl H))
end
end KP
set_option Elab.async false
set_option linter.unusedVariables false
set_option linter.unusedSectionVars false
set_option maxRecDepth 100000
set_option maxHeartbeats 1000000
namespace KP
open PySem PySem.Spec PyProof.Rows L2 KA
theorem tm_parts {wd : Str} {ds : List PyData} {n : Nat} (h : parts wd = some n) : tm (.tuple (.str wd :: ds)) = (decide (ds.length = n) && tmAll ds) := by simp only [tm, h]
theorem tm_leaf {wd : Str} {ds : List PyData} (h : parts wd = none) : tm (.tuple (.str wd :: ds)) = leafB wd ds := by simp only [tm, h]
theorem tmAll_append : ∀ (ds es : List PyData), tmAll (ds ++ es) = (tmAll ds && tmAll es)
  | [], es => by simp [tmAll]
  | d :: ds, es => by simp only [List.cons_append, tmAll, tmAll_append ds es, Bool.and_assoc]
theorem nodesAll_append : ∀ (ds es : List PyData), nodesAll (ds ++ es) = nodesAll ds + nodesAll es
  | [], es => by simp [nodesAll]
  | d :: ds, es => by simp only [List.cons_append, nodesAll, nodesAll_append ds es, Nat.add_assoc]
theorem fineAll_append : ∀ (ds es : List PyData), fineAll (ds ++ es) = (fineAll ds && fineAll es)
  | [], es => by simp [fineAll]
  | d :: ds, es => by simp only [List.cons_append, fineAll, fineAll_append ds es, Bool.and_assoc]
theorem nodes_pos (d : PyData) : 0 < nodes d := by cases d <;> simp [nodes]
theorem len_nodes : ∀ ds : List PyData, ds.length ≤ nodesAll ds
  | [] => Nat.zero_le _
  | d :: ds => by
    have := len_nodes ds
    have := nodes_pos d
    simp only [List.length_cons, nodesAll]
    omega
theorem unsnoc {H : Hp} : ∀ {ds : List PyData} {d : PyData} {xs : List V}, DnAll H xs (ds ++ [d]) → ∃ ys y, xs = ys ++ [y] ∧ DnAll H ys ds ∧ Dn H y d
  | [], d, xs, h => by
    obtain ⟨y, ys, rfl, h1, h2⟩ := cons_inv h
    obtain rfl := nil_inv h2
    exact ⟨[], y, rfl, .nil, h1⟩
  | e :: ds, d, xs, h => by
    obtain ⟨y, ys, rfl, h1, h2⟩ := cons_inv h
    obtain ⟨zs, z, rfl, h3, h4⟩ := unsnoc h2
    exact ⟨y :: zs, z, rfl, .cons h1 h3, h4⟩
theorem isTup_false {d : PyData} (h : isTupD d = false) : tm d = false := by
  cases d <;> first | (cases h; done) | simp [tm]
theorem isStr_false {d : PyData} {ds : List PyData} (h : isStrD d = false) : tm (.tuple (d :: ds)) = false := by
  cases d <;> first | (cases h; done) | simp [tm]
theorem sIx1 (n : Nat) : HT.sIx (n + 1) 0 (some 1) = 1 := (HT.sIx_nat (n + 1) 0 1).trans (by omega)
section
variable {P : Program} {w : World} {K : PySem.W.Frag} {mg : Str → Option Value} {base : Heap}
def okT (d : PyData) : Prop := fine d = true ∧ nodes d ≤ 1000000
theorem scTerm : FnScope ["thing", "waiting", "part"] ["thing"] (defScope sTerm) := ⟨rfl, rfl, rfl, by decide +kernel, rfl, by decide +kernel, by decide +kernel⟩
theorem ok_term {f : Addr} {fd : FuncData} (F : Fun K "is_term" "is_term" sTerm f fd) (T : Txt K w mg) (CL : C8.Cal P w K mg base 3 "_is_leaf" spLeaf []) : FnOk P w K mg base CX0 4 f fd ["thing"] (sp1 okT tm) := by
  refine F.ok scTerm (fun vs H Q E h => ?_) (fun cdv A outer s H vs Q E hr h => ?_)
  · obtain ⟨v, d, rfl, _⟩ := h
    rfl
  · obtain ⟨v, d, rfl, hd, ⟨hf, hn⟩, k⟩ := h
    obtain ⟨pa, es, en, pm, PD, pn⟩ := T.parted
    refine ⟨_, pss_cons (ps_set (i := 1) scTerm.nd rfl (Or.inl rfl) (pe_lst (pa_cons (pv 0) pa_nil)))
      (pss_cons (ps_while PassesOwn.never (pt_truth (pv 1) (by intro _; rfl))
        (pss_cons (ps_set (i := 2) scTerm.nd rfl (Or.inl rfl) (pe_bm0 PySem.F.plainAttrs_list PySem.F.slot_list_pop PySem.F.type_list_pop mt_pop (pv 1)))
        (pss_cons (ps_if (PW.pt (pw_or (pt_not (pt_val (pe_isD is_tup (pv 2) T.isi T.tuple (by decide +kernel)))) (pw_or (pt_not (pt_truth (pv 2) (by intro _; rfl)))
            (pw_or1 (pt_not (pt_val (pe_isD is_str (pe_ix ix_tup (pv 2) pe_int (fun _ _ => rfl)) T.isi T.str (by decide +kernel)))))))) (pss_one (ps_ret pe_bl)) pss_nil)
        (pss_one (ps_if (pt_cmpR (op_notIn_kd PD) (pe_ix ix_tup (pv 2) pe_int (fun _ _ => rfl)) (pe_glob (v := .ref pa) rfl pm rfl) rfl)
          (pss_one (ps_if (pt_not (pt_val (C8.pe_c CL hr (by decide) rfl (pa_cons (pv 2) pa_nil)))) (pss_one (ps_ret pe_bl)) pss_nil))
          (pss_one (ps_if (pt_cmpR op_ne (pe_callB call_len_seq (by rfl) T.len PySem.boot_len (pa_cons (pv 2) pa_nil)) (pe_op op_add (pe_ix ix_kdict (pe_glob (v := .ref pa) rfl pm rfl) (pe_ix ix_tup (pv 2) pe_int (fun _ _ => rfl)) (fun _ _ => rfl)) pe_int) (nomark _))
            (pss_one (ps_ret pe_bl))
            (pss_one (ps_expr (pe_bm PySem.F.plainAttrs_list PySem.F.slot_list_extend PySem.F.type_list_extend mt_grow (pv 1) (pa_cons (pe_slice sl_tupA (pv 2) (po_some pe_int) po_none) pa_nil)))))))))))
      (pss_one (ps_ret pe_bl))), ?_⟩
    refine ⟨v, rfl, (by show 1 ≤ sizeLine; decide), fun l hl => ?_⟩
    refine ⟨fun m σ H' => ∃ xs ds pv, σ = [some v, some (.ref l), pv] ∧ H' l = some (.lst xs) ∧ DnAll (hid l H') xs ds ∧ Same H (hid l H') ∧ fineAll ds = true ∧ tmAll ds = tm d ∧ nodesAll ds = m ∧ m ≤ 1000000,
      ⟨nodes d, [v], [d], none, rfl, upd_same, ?_, ?_, ?_, ?_, ?_, hn⟩, ?_⟩
    · rw [hid_upd]
      exact .one (Dn.mono (Same.to_hid (Same.refl H) hl) hd)
    · rw [hid_upd]
      exact Same.to_hid (Same.refl H) hl
    · simp [fineAll, hf]
    · simp [tmAll]
    · simp [nodesAll]
    rintro m σ H' ⟨xs, ds, pv0, rfl, eL, dA, S, fA, tA, nA, mA⟩
    refine ⟨_, rfl, !xs.isEmpty, Or.inl ⟨xs, SqL.of eL, rfl⟩, ?_⟩
    rcases List.eq_nil_or_concat ds with rfl | ⟨ds, dl, rfl⟩
    · obtain rfl := nil_inv dA
      refine iteF ?_
      have k' := k H' (S.trans hid_sub)
      rw [← tA] at k'
      exact k'
    · rw [List.concat_eq_append] at dA fA tA nA
      obtain ⟨ys, y, rfl, dY, dy⟩ := unsnoc dA
      rw [fineAll_append] at fA
      rw [tmAll_append] at tA
      rw [nodesAll_append] at nA
      have fA : fineAll ds = true ∧ fine dl = true := by simpa [fineAll] using fA
      have tA : (tmAll ds && tm dl) = tm d := by simpa [tmAll] using tA
      have nA : nodesAll ds + nodes dl = m := by simpa [nodesAll] using nA
      have ne : (!(ys ++ [y]).isEmpty) = true := by simp
      rw [ne]
      refine iteT ?_
      refine ⟨fun σ' H2 => ∃ m', m' < m ∧ ∃ xs ds pv, σ' = [some v, some (.ref l), pv] ∧ H2 l = some (.lst xs) ∧ DnAll (hid l H2) xs ds ∧ Same H (hid l H2) ∧ fineAll ds = true ∧ tmAll ds = tm d ∧ nodesAll ds = m' ∧ m' ≤ 1000000, fun σ' H2 z => z, ?_⟩
      refine ⟨_, rfl, Or.inl ⟨rfl, _, SqL.of eL⟩, l, _, y, rfl, rfl, eL, by simp, ?_⟩
      rw [List.dropLast_concat]
      -- behind the pop
      have S1 : Same H (hid l (upd H' l (.lst ys))) := by rw [hid_upd]; exact S
      have e1 : upd H' l (.lst ys) l = some (.lst ys) := upd_same
      have dY1 : DnAll (hid l (upd H' l (.lst ys))) ys ds := by rw [hid_upd]; exact dY
      have dy1 : Dn (hid l (upd H' l (.lst ys))) y dl := by rw [hid_upd]; exact dy
      generalize upd H' l (.lst ys) = H1 at S1 e1 dY1 dy1
      have out : tm dl = false → Q (.bl false) H1 := fun e => by
        have k' := k H1 (S1.trans hid_sub)
        rw [← tA, e, Bool.and_false] at k'
        exact k'
      refine ⟨y, rfl, y, dl, rfl, Dn.mono hid_sub dy1, _, rfl, ?_⟩
      cases hT : isTupD dl with
      | false => exact iteT (out (isTup_false hT))
      | true =>
        obtain ⟨dt, rfl⟩ : ∃ dt, dl = .tuple dt := by cases dl <;> first | exact ⟨_, rfl⟩ | cases hT
        obtain ⟨a, zs, rfl, ha, dz⟩ := tup_inv dy1
        have ha1 : H1 a = some (.tup zs) := hid_sub _ _ ha
        refine iteF ⟨_, rfl, !zs.isEmpty, Or.inr (Or.inl ⟨zs, SqT.of ha1, rfl⟩), ?_⟩
        cases dt with
        | nil =>
          obtain rfl := nil_inv dz
          exact iteT (out (by simp [tm]))
        | cons d0 dr =>
          obtain ⟨z0, zs, rfl, h0, dz1⟩ := cons_inv dz
          refine iteF ⟨_, rfl, a, _, 0, _, rfl, rfl, SqT.of ha1, at_of (j := 0) rfl rfl, z0, d0, rfl, Dn.mono hid_sub h0, _, rfl, ?_⟩
          cases hS : isStrD d0 with
          | false => exact iteT (out (isStr_false hS))
          | true =>
            obtain ⟨wd, rfl⟩ : ∃ wd, d0 = .str wd := by cases d0 <;> first | exact ⟨_, rfl⟩ | cases hS
            obtain rfl := str_inv h0
            have fdr : fineAll dr = true := by
              have := fA.2
              simp only [fine, fineAll, Bool.and_eq_true] at this
              exact this.2
            have ndl : nodes (.tuple (.str wd :: dr)) = nodesAll dr + 2 := by
              simp only [nodes, nodesAll]
              omega
            obtain ⟨r, hr1, hr2⟩ := pn wd
            refine iteF ⟨_, rfl, a, _, 0, _, rfl, rfl, SqT.of ha1, at_of (j := 0) rfl rfl, wd, r, rfl, rfl, hr1, _, rfl, ?_⟩
            cases hp : parts wd with
            | none =>
              rw [hp] at hr2
              obtain rfl : r = none := by
                cases r with
                | none => rfl
                | some u => exact hr2.elim
              refine iteT ⟨_, rfl, .ref a, wd, dr, rfl, Dn.mono hid_sub (.tup ha dz), fdr, fun H2 S2 => ⟨_, rfl, ?_⟩⟩
              have e2 : H2 l = some (.lst ys) := S2 _ _ e1
              have S2' : Same (hid l H1) (hid l H2) := Same.less S2
              cases hL : leafB wd dr with
              | false =>
                refine iteT ?_
                have k' := k H2 ((S1.trans hid_sub).trans S2)
                rw [← tA, tm_leaf hp, hL, Bool.and_false] at k'
                exact k'
              | true =>
                refine iteF ⟨nodesAll ds, by omega, ys, ds, _, rfl, e2, DnAll.mono S2' dY1, S1.trans S2', fA.1, ?_, rfl, by omega⟩
                rw [← tA, tm_leaf hp, hL, Bool.and_true]
            | some n =>
              rw [hp] at hr2
              obtain ⟨u, rfl, ru⟩ : ∃ u, r = some u ∧ RelV (.int (n : Int)) u := by
                cases r with
                | none => exact hr2.elim
                | some u => exact ⟨u, rfl, hr2⟩
              refine iteF ⟨_, rfl, a, _, rfl, Or.inr (SqT.of ha1), ?_⟩
              refine ⟨_, rfl, a, _, 0, _, rfl, rfl, SqT.of ha1, at_of (j := 0) rfl rfl, pa, wd, .int (n : Int), rfl, rfl, ⟨es, en, u, PD.at_, PD.lit, hr1, ru⟩, (n : Int), 1, rfl, rfl, rfl, _, rfl, ?_⟩
              have elen : decide (V.int (((.str wd : V) :: zs).length : Int) = V.int ((n : Int) + 1)) = decide (dr.length = n) := by
                have := dz1.length
                by_cases c : dr.length = n
                · rw [decide_eq_true c]
                  exact decide_eq_true (congrArg V.int (by rw [List.length_cons]; omega))
                · rw [decide_eq_false c]
                  refine decide_eq_false fun e => c ?_
                  have := V.int.inj e
                  rw [List.length_cons] at this
                  omega
              rw [elen]
              cases hl2 : decide (dr.length = n) with
              | false =>
                refine iteT (out ?_)
                rw [tm_parts hp, hl2, Bool.false_and]
              | true =>
                have lenb := len_nodes ds
                have lend := len_nodes dr
                have lz := dz1.length
                have ly := dY1.length
                have cut : cutV (.str wd :: zs) (some 1) none = zs := by
                  unfold cutV
                  rw [HT.sIx_none, show HT.sIx ((.str wd : V) :: zs).length 0 (some 1) = 1 from sIx1 zs.length]
                  rw [List.length_cons]
                  show List.take (zs.length + 1 - 1) zs = zs
                  rw [Nat.add_sub_cancel, List.take_length]
                refine iteF ⟨_, rfl, Or.inl ⟨rfl, _, SqL.of e1⟩, _, rfl, 1, rfl, a, _, rfl, SqT.of ha1, fun z => ?_, fun _ p hp' => ?_⟩
                · have := z.1
                  rw [show HT.sIx ((.str wd : V) :: zs).length 0 (some 1) = 1 from sIx1 zs.length] at this
                  omega
                · rw [cut]
                  have lp : l ≠ p := ne_of_none e1 hp'
                  have e2 : upd H1 p (.tup zs) l = some (.lst ys) := (upd_ne lp).trans e1
                  refine ⟨l, p, ys, zs, rfl, rfl, e2, upd_same, ?_, ?_⟩
                  · rw [ly, lz]
                    exact Nat.le_trans (by omega : ds.length + dr.length ≤ 1000000) (by decide)
                  · have S3 : Same (hid l H1) (hid l (upd (upd H1 p (.tup zs)) l (.lst (ys ++ zs)))) := by
                      rw [hid_upd]
                      exact Same.less (Same.new hp')
                    refine ⟨nodesAll ds + nodesAll dr, by omega, ys ++ zs, ds ++ dr, _, rfl, upd_same, DnAll.mono S3 (dY1.append dz1), S1.trans S3, ?_, ?_, ?_, by omega⟩
                    · rw [fineAll_append, fA.1, fdr]
                      rfl
                    · rw [tmAll_append, ← tA, tm_parts hp, hl2, Bool.true_and]
                    · rw [nodesAll_append]
theorem _root_.KA.DnAll.at {H : Hp} {xs : List V} {ds : List PyData} {i : Nat} {x : V} (r : DnAll H xs ds) (h : xs[i]? = some x) : ∃ d, ds[i]? = some d ∧ Dn H x d := by
  have lt : i < ds.length := by
    have := (List.getElem?_eq_some_iff.mp h).1
    have := r.length
    omega
  obtain ⟨v, hv, hd⟩ := r.get (List.getElem?_eq_getElem lt)
  rw [h] at hv
  cases hv
  exact ⟨_, List.getElem?_eq_getElem lt, hd⟩
end
end KP
set_option Elab.async false
set_option linter.unusedVariables false
set_option maxRecDepth 100000
set_option maxHeartbeats 1000000
namespace KP
open PySem PySem.Spec PyProof.Rows L2 KA
/-! ### how large data is when it is shown -/
mutual
def wt : PyData → Nat
  | .int _ => 40
  | .str _ => 220
  | .list ds => wtAll ds + 4
  | .tuple ds => wtAll ds + 4
  | .dict kvs => wtKv kvs + 4
  | _ => 5
def wtAll : List PyData → Nat
  | [] => 0
  | d :: ds => wt d + 2 + wtAll ds
def wtKv : List (PyData × PyData) → Nat
  | [] => 0
  | (k, v) :: r => wt k + wt v + 4 + wtKv r
end
theorem join_len (ts : List Str) : (Str.join ", " ts).length ≤ (ts.map (·.length)).sum + 2 * ts.length := by
  rw [← StrLaws.glued_eq_join, size_glued]
  have e : (Str.ofString ", ").length = 2 := by decide +kernel
  rw [e]
  omega
theorem len_app (x y : Str) : (x ++ y).length = x.length + y.length := by
  show (x.cps ++ y.cps).size = _
  exact Array.size_append
theorem int_len {i : Int} (h : -(10 ^ 31) ≤ i ∧ i ≤ 10 ^ 31) : (Str.ofString (toString i)).length ≤ 40 := by
  have b : i.natAbs < 10 ^ 32 := by omega
  have l := int_text_length_le10 (k := 32) (by decide) b
  rw [PySem.ofString_length]
  omega
theorem log2_small {i : Int} (h : -(10 ^ 31) ≤ i ∧ i ≤ 10 ^ 31) : i.natAbs.log2 < 1920 := by
  by_cases h0 : i.natAbs = 0
  · rw [h0]
    decide
  · rw [Nat.log2_lt h0]
    exact Nat.lt_of_lt_of_le (by omega : i.natAbs < 2 ^ 110) (Nat.pow_le_pow_right (by decide) (by decide))
mutual
theorem shown_le : ∀ d : PyData, fine d = true → d.shown.length ≤ wt d ∧ d.showable = true
  | .none, _ => by
    rw [PyData.shown_none]
    exact ⟨by decide +kernel, rfl⟩
  | .bool b, _ => by
    rw [PyData.shown_bool]
    exact ⟨by cases b <;> decide +kernel, rfl⟩
  | .int i, h => by
    have h' : -(10 ^ 31) ≤ i ∧ i ≤ 10 ^ 31 := by simpa [fine] using h
    rw [PyData.shown_int]
    exact ⟨int_len h', by simpa [PyData.showable] using log2_small h'⟩
  | .str x, h => by
    have h' : x.length ≤ 20 ∧ ∀ c ∈ x.cps.toList, c < 128 := by simpa only [fine, Bool.and_eq_true, decide_eq_true_eq, List.all_eq_true] using h
    rw [PyData.shown_str]
    have := StrLaws.reprText_len x fun c hc => Nat.lt_of_lt_of_le (h'.2 c hc) (by decide)
    have e : wt (.str x) = 220 := rfl
    exact ⟨by omega, rfl⟩
  | .list ds, h => by
    have h' : fineAll ds = true := by simpa only [fine] using h
    obtain ⟨h1, h2⟩ := shownAll_le ds h'
    rw [PyData.shown_list, len_app, len_app]
    have j := join_len (PyData.shownAll ds)
    rw [PyData.shownAll_length] at j
    have e1 : (Str.ofString "[").length = 1 := by decide +kernel
    have e2 : (Str.ofString "]").length = 1 := by decide +kernel
    rw [e1, e2]
    exact ⟨by simp only [wt]; omega, by simpa only [PyData.showable] using h2⟩
  | .tuple ds, h => by
    have h' : fineAll ds = true := by simpa only [fine] using h
    obtain ⟨h1, h2⟩ := shownAll_le ds h'
    rw [PyData.shown_tuple, len_app, len_app]
    have j := join_len (PyData.shownAll ds)
    rw [PyData.shownAll_length] at j
    have e1 : (Str.ofString "(").length = 1 := by decide +kernel
    have e2 : (Str.ofString (if (ds.length == 1) = true then ",)" else ")")).length ≤ 2 := by
      split <;> decide +kernel
    rw [e1]
    exact ⟨by simp only [wt]; omega, by simpa only [PyData.showable] using h2⟩
  | .dict kvs, h => by
    have h' : fineKv kvs = true := by simpa only [fine] using h
    obtain ⟨h1, h2, h3⟩ := shownKv_le kvs h'
    rw [PyData.shown_dict, len_app, len_app]
    have j := join_len (PyData.shownKv kvs)
    rw [h3] at j
    have e1 : (Str.ofString "{").length = 1 := by decide +kernel
    have e2 : (Str.ofString "}").length = 1 := by decide +kernel
    rw [e1, e2]
    exact ⟨by simp only [wt]; omega, by simpa only [PyData.showable] using h2⟩
theorem shownAll_le : ∀ ds : List PyData, fineAll ds = true → ((PyData.shownAll ds).map (·.length)).sum + 2 * ds.length ≤ wtAll ds ∧ PyData.showableAll ds = true
  | [], _ => ⟨by simp [PyData.shownAll_nil], rfl⟩
  | d :: ds, h => by
    have h' : fine d = true ∧ fineAll ds = true := by simpa only [fineAll, Bool.and_eq_true] using h
    obtain ⟨a1, a2⟩ := shown_le d h'.1
    obtain ⟨b1, b2⟩ := shownAll_le ds h'.2
    rw [PyData.shownAll_cons, List.map_cons, List.sum_cons]
    refine ⟨?_, by simp only [PyData.showableAll, a2, b2, Bool.and_self]⟩
    simp only [wtAll, List.length_cons]
    omega
theorem shownKv_le : ∀ kvs : List (PyData × PyData), fineKv kvs = true → ((PyData.shownKv kvs).map (·.length)).sum + 2 * kvs.length ≤ wtKv kvs ∧ PyData.showableKv kvs = true ∧ (PyData.shownKv kvs).length = kvs.length
  | [], _ => ⟨by simp [PyData.shownKv_nil], rfl, by simp [PyData.shownKv_nil]⟩
  | (k, v) :: r, h => by
    have h' : (fine k = true ∧ fine v = true) ∧ fineKv r = true := by simpa only [fineKv, Bool.and_eq_true] using h
    obtain ⟨a1, a2⟩ := shown_le k h'.1.1
    obtain ⟨b1, b2⟩ := shown_le v h'.1.2
    obtain ⟨c1, c2, c3⟩ := shownKv_le r h'.2
    rw [PyData.shownKv_cons, List.map_cons, List.sum_cons, len_app, len_app]
    have e1 : (Str.ofString ": ").length = 2 := by decide +kernel
    rw [e1]
    refine ⟨?_, by simp only [PyData.showableKv, a2, b2, c2, Bool.and_self], by rw [List.length_cons, List.length_cons, c3]⟩
    simp only [wtKv, List.length_cons]
    omega
end
mutual
theorem nodes_wt : ∀ d : PyData, nodes d ≤ wt d
  | .none => by simp [nodes, wt]
  | .bool b => by simp [nodes, wt]
  | .int i => by simp [nodes, wt]
  | .str x => by simp [nodes, wt]
  | .list ds => by simp [nodes, wt]
  | .dict ds => by simp [nodes, wt]
  | .tuple ds => by
    have := nodesAll_wt ds
    simp only [nodes, wt]
    omega
theorem nodesAll_wt : ∀ ds : List PyData, nodesAll ds ≤ wtAll ds
  | [] => Nat.le_refl _
  | d :: ds => by
    have := nodes_wt d
    have := nodesAll_wt ds
    simp only [nodesAll, wtAll]
    omega
end
/-- small data: how deep, how large -/
def Bd (dp sz : Nat) (d : PyData) : Prop := fine d = true ∧ d.depth ≤ dp ∧ wt d ≤ sz
def BdAll (dp sz : Nat) (ds : List PyData) : Prop := fineAll ds = true ∧ PyData.depthAll ds ≤ dp ∧ wtAll ds ≤ sz
theorem Bd.mono {a b c e : Nat} {d : PyData} (h : Bd a b d) (h1 : a ≤ c) (h2 : b ≤ e) : Bd c e d := ⟨h.1, Nat.le_trans h.2.1 h1, Nat.le_trans h.2.2 h2⟩
theorem BdAll.mono {a b c e : Nat} {d : List PyData} (h : BdAll a b d) (h1 : a ≤ c) (h2 : b ≤ e) : BdAll c e d := ⟨h.1, Nat.le_trans h.2.1 h1, Nat.le_trans h.2.2 h2⟩
theorem BdAll.nil {a b : Nat} : BdAll a b [] := ⟨rfl, Nat.zero_le _, Nat.zero_le _⟩
theorem wtAll_append : ∀ ds es : List PyData, wtAll (ds ++ es) = wtAll ds + wtAll es
  | [], es => by simp [wtAll]
  | d :: ds, es => by simp only [List.cons_append, wtAll, wtAll_append ds es]; omega
theorem depthAll_append : ∀ ds es : List PyData, PyData.depthAll (ds ++ es) = max (PyData.depthAll ds) (PyData.depthAll es)
  | [], es => by simp [PyData.depthAll]
  | d :: ds, es => by simp only [List.cons_append, PyData.depthAll, depthAll_append ds es]; omega
theorem BdAll.append {a b c : Nat} {ds es : List PyData} (h : BdAll a b ds) (g : BdAll a c es) : BdAll a (b + c) (ds ++ es) := by
  obtain ⟨h1, h2, h3⟩ := h
  obtain ⟨g1, g2, g3⟩ := g
  refine ⟨by rw [fineAll_append, h1, g1]; rfl, by rw [depthAll_append]; omega, by rw [wtAll_append]; omega⟩
theorem BdAll.cons {a b c : Nat} {d : PyData} {ds : List PyData} (h : Bd a b d) (g : BdAll a c ds) : BdAll a (b + 2 + c) (d :: ds) := by
  obtain ⟨h1, h2, h3⟩ := h
  obtain ⟨g1, g2, g3⟩ := g
  refine ⟨by simp only [fineAll, h1, g1, Bool.and_self], by simp only [PyData.depthAll]; omega, by simp only [wtAll]; omega⟩
theorem BdAll.one {a b : Nat} {d : PyData} (h : Bd a b d) : BdAll a (b + 2) [d] := BdAll.cons (c := 0) h BdAll.nil
theorem Bd.tup {a b : Nat} {ds : List PyData} (h : BdAll a b ds) : Bd (a + 1) (b + 4) (.tuple ds) :=
  ⟨by simpa only [fine] using h.1, by simp only [PyData.depth]; exact Nat.succ_le_succ h.2.1, by simp only [wt]; exact Nat.add_le_add_right h.2.2 4⟩
theorem Bd.lst {a b : Nat} {ds : List PyData} (h : BdAll a b ds) : Bd (a + 1) (b + 4) (.list ds) :=
  ⟨by simpa only [fine] using h.1, by simp only [PyData.depth]; exact Nat.succ_le_succ h.2.1, by simp only [wt]; exact Nat.add_le_add_right h.2.2 4⟩
theorem Bd.int {i : Int} (h : -(10 ^ 31) ≤ i ∧ i ≤ 10 ^ 31) : Bd 0 40 (.int i) := ⟨by simpa [fine] using h, Nat.le_refl _, Nat.le_refl _⟩
theorem name_fine {x : Str} (h : nameX x = true) : fine (.str x) = true := by
  unfold nameX at h
  simp only [Bool.and_eq_true, decide_eq_true_eq, List.all_eq_true] at h
  obtain ⟨_, ⟨_, h1⟩, h2⟩ := h
  simp only [fine, Bool.and_eq_true, decide_eq_true_eq, List.all_eq_true]
  refine ⟨by omega, fun c hc => ?_⟩
  have := h2 c hc
  unfold letterB at this
  simp only [Bool.and_eq_true, decide_eq_true_eq] at this
  omega
theorem Bd.str {x : Str} (h : fine (.str x) = true) : Bd 0 220 (.str x) := ⟨h, Nat.le_refl _, Nat.le_refl _⟩
end KP
set_option Elab.async false
set_option linter.unusedVariables false
set_option maxRecDepth 100000
set_option maxHeartbeats 1000000
/-! Rules of one's own: == and != of data; P.__init__(self, ..), P a class of one's own over ValueError that has none. -/
namespace KA
open PySem PySem.Spec PyProof.Rows L2
section
variable {X : Cx}
def rEqD : R2 := fun x y H Q => ∃ d e, Dn H x d ∧ Dn H y e ∧ SeqAt.shaped d = true ∧ SeqAt.shaped e = true ∧ Q (.bl (PyData.eqv d e)) H
theorem op_eqD (hu : X.A.units + 64 < cLine) : OpR X (compareOp .Eq) rEqD := by
  intro pins s σ H x y v u Q I rx ry h
  obtain ⟨d, e, hd, he, sd, se, q⟩ := h
  obtain ⟨as, ra⟩ := Dn.reads I.hok hd rx
  obtain ⟨bs, rb⟩ := Dn.reads I.hok he ry
  exact eq_dataH ra rb sd se hu ⟨.bl (PyData.eqv d e), H, I, rfl, q⟩
def rNeD : R2 := fun x y H Q => ∃ d e, Dn H x d ∧ Dn H y e ∧ SeqAt.shaped d = true ∧ SeqAt.shaped e = true ∧ Q (.bl (!PyData.eqv d e)) H
theorem op_neD (hu : X.A.units + 64 < cLine) : OpR X (compareOp .NotEq) rNeD := by
  intro pins s σ H x y v u Q I rx ry h
  obtain ⟨d, e, hd, he, sd, se, q⟩ := h
  obtain ⟨as, ra⟩ := Dn.reads I.hok hd rx
  obtain ⟨bs, rb⟩ := Dn.reads I.hok he ry
  exact ne_dataH ra rb sd se hu ⟨.bl (!PyData.eqv d e), H, I, rfl, q⟩
/-- what the written part says of a class of one's own that has its __init__ from ValueError -/
structure UpC (K : PySem.W.Frag) (C : Addr) : Prop where
  kp : PySem.W.keepIn K (.ref C) = true
  sp : PySem.W.specialIn K (.ref C) "__getattribute__" = some (some (.builtin "type.__getattribute__"))
  rd : ∃ mc, PySem.W.readsIn K C mc = true ∧ PySem.W.findCls K (.ref C) mc "__init__" = some (.val (.builtin "ValueError.__init__"))
theorem pe_upinit {x : Str} {U : Addr} {e : Expr} {es : List Expr} {ta : TA} {p1 p2 pos : Pos} {pl : Sem Bool} (T : UpC X.K U) (hg : Gl X x) (hm : X.mg x = some (.ref U)) (ha : PA X (e :: es) ta) (hdb : (x == ("__debug__" : Str)) = false := by decide)
    (hc : eval (.Call (.Attribute (.Name x p1) "__init__" p2) (e :: es) [] pos) X.env = (do
      let ov ← eval (.Name x p1) X.env
      standAt p2.atName
      let (f, first) ← holding [ov] (getMethod ov "__init__" pl)
      callWith pos f first (backTo pos (starEach (e :: es) X.env)) (backToKw pos (keywordEach [] X.env))) := by rfl)
    (he : starEach (e :: es) X.env = (false, eval e X.env) :: starEach es X.env := by rfl) (hpl : (backTo pos (starEach es X.env)).any (·.1) = false := by rfl) :
    PE X (.Call (.Attribute (.Name x p1) "__init__" p2) (e :: es) [] pos) (tVeI X.K ta) := by
  refine ⟨fun pins s σ H Q I h => ?_⟩
  obtain ⟨mc, rd, fc⟩ := T.rd
  refine PySem.W.methodCall_KW (ld_glob I hg hm ?_ hdb) hc
  refine PySem.W.method_cls I.kIn T.sp ?_
  refine PySem.W.cls_value I.kIn rd fc (by decide +kernel) ?_
  show wpAny _ _ (callWith pos (Value.builtin "ValueError.__init__") [] (backTo pos (starEach (e :: es) X.env)) []) _ _ _
  refine PyProof.Rows.callWith_method1 (thn (ha.run pos pins _ σ H _ (I.tok _) h) fun us s1 ⟨vs, H1, I1, r1, a, C, ws, ev, hl, T', ea, q⟩ => ?_) he hpl
  subst ev
  cases r1 with
  | @cons _ u0 _ ur ra rw' =>
    obtain rfl : u0 = Value.ref a := ra
    have hlen : ur.length ≤ sizeLine := by
      rw [← Paired.length rw', sizeLine_eq]
      omega
    exact oinit_ok T' I1 ea hlen fun s' J => ⟨.non, H1, J, rfl, q⟩
end
end KA
set_option Elab.async false
set_option linter.unusedVariables false
set_option linter.unusedSectionVars false
set_option maxRecDepth 100000
set_option maxHeartbeats 1000000
/-! Slots by what they have: data; a list that only this slot has; else. What an expression, a statement makes of them. -/
namespace OW
open PySem PySem.Spec PyProof.Rows L2 KA

structure Mo where
  P : V → Hp → Prop
  mono : ∀ {v : V} {H H' : Hp}, Same H H' → P v H → P v H'
structure MoL where
  P : List V → Hp → Prop
  mono : ∀ {vs : List V} {H H' : Hp}, Same H H' → P vs H → P vs H'
inductive Sl where
  | un
  | any
  | d (x : PyData)
  | l (xs : List PyData)
  | p (P : Mo)
  | la (a : Addr) (xs : List PyData)
  | wa (a : Addr) (xs : List PyData)
  | dk (kvs : List (Key × V))
  | lm (P : MoL)
def uns (n : Nat) : List Sl := List.replicate n .un
abbrev Am := Nat → Option Addr
abbrev fl : Nat := 100000
open Classical in
noncomputable def vw (Z : Addr → Prop) (A : Am) (H : Hp) : Hp := fun b => if Z b ∨ ∃ i, A i = some b then none else H b
def aset (A : Am) (i : Nat) (o : Option Addr) : Am := fun j => if j = i then o else A j
theorem aset_at {A : Am} {i : Nat} {o : Option Addr} : aset A i o i = o := if_pos rfl
theorem aset_ne {A : Am} {i j : Nat} {o : Option Addr} (h : j ≠ i) : aset A i o j = A j := if_neg h
section
variable {Z : Addr → Prop} {A A' : Am} {H H' : Hp} {b : Addr} {o : HO}
theorem vw_some (h : vw Z A H b = some o) : ¬ Z b ∧ (∀ i, A i ≠ some b) ∧ H b = some o := by
  unfold vw at h
  split at h
  · cases h
  · rename_i n
    exact ⟨fun z => n (Or.inl z), fun i e => n (Or.inr ⟨i, e⟩), h⟩
theorem vw_mk (h : ¬ Z b) (h1 : ∀ i, A i ≠ some b) (h2 : H b = some o) : vw Z A H b = some o := by
  unfold vw
  rw [if_neg]
  · exact h2
  · rintro (z | ⟨i, e⟩)
    · exact h z
    · exact h1 i e
theorem vw_sub : Same (vw Z A H) H := fun b o e => (vw_some e).2.2
theorem vw_up (S : Same H H') : Same (vw Z A H) (vw Z A H') := fun b o e => by
  obtain ⟨h1, h2, h3⟩ := vw_some e
  exact vw_mk h1 h2 (S _ _ h3)
/-- fewer owned: more is seen -/
theorem vw_less (h : ∀ i a, A' i = some a → ∃ j, A j = some a) : Same (vw Z A H) (vw Z A' H) := fun b o e => by
  obtain ⟨h1, h2, h3⟩ := vw_some e
  exact vw_mk h1 (fun i z => let ⟨j, q⟩ := h i b z; h2 j q) h3
/-- what is owned changes -/
theorem vw_mut {a : Addr} {i : Nat} (h : A i = some a) : vw Z A (upd H a o) = vw Z A H := by
  funext b
  unfold vw
  split
  · rfl
  · rename_i n
    have : b ≠ a := fun e => n (Or.inr ⟨i, by rw [e]; exact h⟩)
    rw [upd_ne this]
end
def ArOk (W : Hp) (v : V) : Sl → Prop
  | .d x => Dn W v x
  | .p P => P.P v W
  | _ => False
def ArAll (W : Hp) : List V → List Sl → Prop
  | [], [] => True
  | v :: vs, s :: ss => ArOk W v s ∧ ArAll W vs ss
  | _, _ => False
theorem ArOk.mono {W W' : Hp} (S : Same W W') {v : V} : ∀ {s : Sl}, ArOk W v s → ArOk W' v s
  | .d _, h => Dn.mono S h
  | .p P, h => P.mono S h
  | .un, h | .any, h | .l _, h | .la _ _, h | .wa _ _, h | .dk _, h | .lm _, h => h.elim
theorem ArAll.mono {W W' : Hp} (S : Same W W') : ∀ {vs : List V} {ss : List Sl}, ArAll W vs ss → ArAll W' vs ss
  | [], [], _ => trivial
  | _ :: _, _ :: _, h => ⟨h.1.mono S, ArAll.mono S h.2⟩
  | [], _ :: _, h => h.elim
  | _ :: _, [], h => h.elim
theorem ArAll.length {W : Hp} : ∀ {vs : List V} {ss : List Sl}, ArAll W vs ss → vs.length = ss.length
  | [], [], _ => rfl
  | _ :: _, _ :: _, h => congrArg (· + 1) (ArAll.length h.2)
  | [], _ :: _, h => h.elim
  | _ :: _, [], h => h.elim
theorem ArAll.append {W : Hp} : ∀ {vs ws : List V} {ss ts : List Sl}, ArAll W vs ss → ArAll W ws ts → ArAll W (vs ++ ws) (ss ++ ts)
  | [], _, [], _, _, g => g
  | _ :: _, _, _ :: _, _, h, g => ⟨h.1, ArAll.append h.2 g⟩
  | [], _, _ :: _, _, h, _ => h.elim
  | _ :: _, _, [], _, h, _ => h.elim
theorem arAll_d {W : Hp} : ∀ {vs : List V} {xs : List PyData}, DnAll W vs xs → ArAll W vs (xs.map Sl.d)
  | _, _, .nil => trivial
  | _, _, .cons h t => ⟨h, arAll_d t⟩
def SlOk (W H : Hp) (u : Option (Option V)) (o : Option Addr) : Sl → Prop
  | .un => u = some none ∧ o = none
  | .any => o = none
  | .d x => o = none ∧ ∃ v, u = some (some v) ∧ Dn W v x
  | .l xs => ∃ a vs, o = some a ∧ u = some (some (.ref a)) ∧ H a = some (.lst vs) ∧ DnAll W vs xs
  | .p P => o = none ∧ ∃ v, u = some (some v) ∧ P.P v W
  | .la a xs => ∃ vs, o = some a ∧ u = some (some (.ref a)) ∧ H a = some (.lst vs) ∧ DnAll W vs xs
  | .wa a xs => ∃ vs, o = some a ∧ H a = some (.lst vs) ∧ DnAll W vs xs
  | .dk kvs => ∃ a, o = some a ∧ u = some (some (.ref a)) ∧ H a = some (.dK kvs)
  | .lm P => ∃ a vs, o = some a ∧ u = some (some (.ref a)) ∧ H a = some (.lst vs) ∧ P.P vs W
theorem SlOk.mono {W W' H H' : Hp} {u : Option (Option V)} {o : Option Addr} (S : Same W W') (k : ∀ a (h : HO), o = some a → H a = some h → H' a = some h) : ∀ {s : Sl}, SlOk W H u o s → SlOk W' H' u o s
  | .un, h => h
  | .any, h => h
  | .d _, ⟨h, v, e, r⟩ => ⟨h, v, e, Dn.mono S r⟩
  | .l _, ⟨a, vs, e, e1, e2, r⟩ => ⟨a, vs, e, e1, k a _ e e2, DnAll.mono S r⟩
  | .p P, ⟨h, v, e, r⟩ => ⟨h, v, e, P.mono S r⟩
  | .la a _, ⟨vs, e, e1, e2, r⟩ => ⟨vs, e, e1, k a _ e e2, DnAll.mono S r⟩
  | .wa a _, ⟨vs, e, e2, r⟩ => ⟨vs, e, k a _ e e2, DnAll.mono S r⟩
  | .dk _, ⟨a, e, e1, e2⟩ => ⟨a, e, e1, k a _ e e2⟩
  | .lm P, ⟨a, vs, e, e1, e2, r⟩ => ⟨a, vs, e, e1, k a _ e e2, P.mono S r⟩
/-! the code tables of defs that make defs: they grow; they are hidden, and what they tell is seen -/
class Tbs where
  T : List NdefX.NTab
variable [Tbs]
def tabA (b : Addr) : Prop := ∃ p ∈ Tbs.T, p.1 = b
def Tb (W H : Hp) : Prop := ∀ p ∈ Tbs.T, ∃ ps : Array Value, H p.1 = some (.tbl ps) ∧ TriplesOk ps.toList ∧ ∀ (pos : Pos) (cv : Value), codeAmong pos ps.toList = some cv → ∃ c, cv = .ref c ∧ W c = some (LamX.CodeO c (p.2 pos.line pos.col))
theorem Tb.mono {W W' H H' : Hp} (t : Tb W H) (S : Same W W') (k : ∀ b, tabA b → H' b = H b) : Tb W' H' := fun p hp => by
  obtain ⟨ps, e1, e2, e3⟩ := t p hp
  refine ⟨ps, (k p.1 ⟨p, hp, rfl⟩).trans e1, e2, fun pos cv h => ?_⟩
  obtain ⟨c, g1, g2⟩ := e3 pos cv h
  exact ⟨c, g1, S _ _ g2⟩
theorem Tb.at_ {W H : Hp} (t : Tb W H) {b : Addr} (h : tabA b) : ∃ ps, H b = some (.tbl ps) := by
  obtain ⟨p, hp, rfl⟩ := h
  obtain ⟨ps, e, _⟩ := t p hp
  exact ⟨ps, e⟩
theorem Tb.some {W H : Hp} (t : Tb W H) {b : Addr} (h : tabA b) : H b ≠ none := by
  obtain ⟨ps, e⟩ := t.at_ h
  rw [e]
  simp
theorem Tb.same {W H H' : Hp} (t : Tb W H) (S : Same H H') : ∀ b, tabA b → H' b = H b := fun b h => by
  obtain ⟨ps, e⟩ := t.at_ h
  rw [e]
  exact S _ _ e
theorem Tb.upd_ {W H : Hp} (t : Tb W H) {a : Addr} {o : HO} (n : ¬ tabA a) : ∀ b, tabA b → upd H a o b = H b := fun b h => upd_ne fun e => n (e ▸ h)
theorem Tb.new_ {W H : Hp} (t : Tb W H) {a : Addr} (n : H a = none) : ¬ tabA a := fun h => t.some h n
/-- what belongs to others: Z, as it stands in G; F: what was there when the def began; B: the list of its first slot is the caller's -/
structure Fr where
  Z : Addr → Prop
  B : Option Addr
  G : Hp
  F : Hp
structure Rp (c : Fr) (A : Am) (ρ : List Sl) (σ : L2.St) (H : Hp) : Prop where
  len : σ.length = ρ.length
  sz : ρ.length < fl
  inj : ∀ i j a, A i = some a → A j = some a → i = j
  off : ∀ i a, A i = some a → ¬ c.Z a
  live : ∀ i a, A i = some a → H a ≠ none
  keep : ∀ a, c.Z a → ¬ tabA a → c.G a ≠ none ∧ H a = c.G a
  old : Same c.F (vw c.Z A H)
  bor : ∀ p, c.B = some p → A 0 = some p
  sl : ∀ i s, ρ[i]? = some s → SlOk (vw c.Z A H) H σ[i]? (A i) s
  tz : ∀ b, tabA b → c.Z b
  tb : Tb (vw c.Z A H) H
section
variable {c : Fr} {A A' : Am} {ρ ρ' : List Sl} {σ : L2.St} {H H' : Hp}
theorem Rp.there (R : Rp c A ρ σ H) {a : Addr} (z : c.Z a) : H a ≠ none := by
  by_cases t : tabA a
  · exact R.tb.some t
  · obtain ⟨h1, h2⟩ := R.keep a z t
    rw [h2]
    exact h1
theorem Rp.nt (R : Rp c A ρ σ H) {i : Nat} {a : Addr} (e : A i = some a) : ¬ tabA a := fun t => R.off i a e (R.tz a t)
theorem Rp.up (R : Rp c A ρ σ H) (S : Same H H') : Rp c A ρ σ H' where
  len := R.len
  sz := R.sz
  inj := R.inj
  off := R.off
  live i a e := by
    obtain ⟨o, h⟩ := Option.ne_none_iff_exists'.mp (R.live i a e)
    rw [S _ _ h]
    simp
  keep a z t := by
    obtain ⟨h1, h2⟩ := R.keep a z t
    refine ⟨h1, ?_⟩
    obtain ⟨o, h⟩ := Option.ne_none_iff_exists'.mp h1
    rw [h] at h2 ⊢
    exact S _ _ h2
  old := R.old.trans (vw_up S)
  bor := R.bor
  sl i s e := (R.sl i s e).mono (vw_up S) fun a vs _ h => S _ _ h
  tz := R.tz
  tb := R.tb.mono (vw_up S) (R.tb.same S)
/-- less is owned -/
theorem Rp.rel (R : Rp c A ρ σ H) (h : ∀ i a, A' i = some a → A i = some a) (h0 : A' 0 = A 0) (hs : ∀ i s, ρ[i]? = some s → A' i = A i) : Rp c A' ρ σ H where
  len := R.len
  sz := R.sz
  inj i j a e e' := R.inj i j a (h _ _ e) (h _ _ e')
  off i a e := R.off i a (h _ _ e)
  live i a e := R.live i a (h _ _ e)
  keep := R.keep
  old := R.old.trans (vw_less fun i a e => ⟨i, h _ _ e⟩)
  bor p e := by rw [h0]; exact R.bor p e
  sl i s e := by
    rw [hs i s e]
    exact (R.sl i s e).mono (vw_less fun i a e => ⟨i, h _ _ e⟩) fun a vs _ h => h
  tz := R.tz
  tb := R.tb.mono (vw_less fun i a e => ⟨i, h _ _ e⟩) fun _ _ => rfl
theorem idx_small (hρ : ρ.length < fl) {i : Nat} {s : Sl} (e : ρ[i]? = some s) : i ≠ fl := by
  have := (List.getElem?_eq_some_iff.mp e).1
  omega
theorem Rp.land (R : Rp c A ρ σ H) : Rp c (aset A fl none) ρ σ H := by
  refine R.rel (fun i a e => ?_) (aset_ne (by decide)) (fun i s e => aset_ne (idx_small R.sz e))
  by_cases q : i = fl
  · rw [q, aset_at] at e
    cases e
  · rw [aset_ne q] at e
    exact e
theorem vw_land {Z : Addr → Prop} {i : Nat} : Same (vw Z A H) (vw Z (aset A i none) H) := vw_less fun j a e => by
  by_cases q : j = i
  · rw [q, aset_at] at e
    cases e
  · rw [aset_ne q] at e
    exact ⟨j, e⟩
/-- a new list, not yet in a slot -/
theorem vw_fly {Z : Addr → Prop} {a : Addr} {o : HO} (n : H a = none) : Same (vw Z A H) (vw Z (aset A fl (some a)) (upd H a o)) := fun b u e => by
  obtain ⟨h1, h2, h3⟩ := vw_some e
  have nb : b ≠ a := ne_of_none h3 n
  refine vw_mk h1 (fun i z => ?_) (by rw [upd_ne nb]; exact h3)
  by_cases q : i = fl
  · rw [q, aset_at] at z
    exact nb (Option.some.inj z).symm
  · rw [aset_ne q] at z
    exact h2 i z
theorem Rp.fly (R : Rp c A ρ σ H) {a : Addr} {o : HO} (n : H a = none) : Rp c (aset A fl (some a)) ρ σ (upd H a o) where
  len := R.len
  sz := R.sz
  inj i j b e e' := by
    by_cases q : i = fl
    · by_cases q' : j = fl
      · rw [q, q']
      · rw [q, aset_at] at e
        rw [aset_ne q'] at e'
        cases e
        exact absurd n (R.live _ _ e')
    · rw [aset_ne q] at e
      by_cases q' : j = fl
      · rw [q', aset_at] at e'
        cases e'
        exact absurd n (R.live _ _ e)
      · rw [aset_ne q'] at e'
        exact R.inj _ _ _ e e'
  off i b e z := by
    by_cases q : i = fl
    · rw [q, aset_at] at e
      cases e
      exact R.there z n
    · rw [aset_ne q] at e
      exact R.off _ _ e z
  live i b e := by
    by_cases q : b = a
    · rw [q, upd_same]
      simp
    · rw [upd_ne q]
      by_cases q' : i = fl
      · rw [q', aset_at] at e
        exact absurd (Option.some.inj e).symm q
      · rw [aset_ne q'] at e
        exact R.live _ _ e
  keep b z t := by
    obtain ⟨h1, h2⟩ := R.keep b z t
    have nb : b ≠ a := fun e => R.there z (e ▸ n)
    exact ⟨h1, by rw [upd_ne nb]; exact h2⟩
  old := R.old.trans (vw_fly n)
  bor p e := by rw [aset_ne (by decide)]; exact R.bor p e
  sl i s e := by
    rw [aset_ne (idx_small R.sz e)]
    exact (R.sl i s e).mono (vw_fly n) fun b vs _ h => by rw [upd_ne (ne_of_none h n)]; exact h
  tz := R.tz
  tb := R.tb.mono (vw_fly n) (R.tb.upd_ (R.tb.new_ n))
/-- a slot gets a value that isn't owned -/
theorem Rp.set (R : Rp c A ρ σ H) {i : Nat} {v : V} {s : Sl} (i0 : i ≠ 0) (h : SlOk (vw c.Z A H) H (some (some v)) none s) : Rp c (aset A i none) (ρ.set i s) (σ.set i (some v)) H where
  len := by rw [List.length_set, List.length_set, R.len]
  sz := by rw [List.length_set]; exact R.sz
  inj k j a e e' := by
    by_cases q : k = i
    · rw [q, aset_at] at e
      cases e
    · by_cases q' : j = i
      · rw [q', aset_at] at e'
        cases e'
      · rw [aset_ne q] at e
        rw [aset_ne q'] at e'
        exact R.inj _ _ _ e e'
  off k a e := by
    by_cases q : k = i
    · rw [q, aset_at] at e
      cases e
    · rw [aset_ne q] at e
      exact R.off _ _ e
  live k a e := by
    by_cases q : k = i
    · rw [q, aset_at] at e
      cases e
    · rw [aset_ne q] at e
      exact R.live _ _ e
  keep := R.keep
  old := R.old.trans vw_land
  bor p e := by rw [aset_ne i0.symm]; exact R.bor p e
  sl j t e := by
    by_cases q : j = i
    · subst q
      rw [aset_at]
      have lt := (List.getElem?_eq_some_iff.mp e).1
      rw [List.length_set] at lt
      rw [List.getElem?_set_self (by rw [R.len]; exact lt)]
      rw [List.getElem?_set_self lt] at e
      cases e
      exact h.mono vw_land fun _ _ z _ => by cases z
    · rw [List.getElem?_set_ne (Ne.symm q)] at e ⊢
      rw [aset_ne q]
      exact (R.sl j t e).mono vw_land fun _ _ _ z => z
  tz := R.tz
  tb := R.tb.mono vw_land fun _ _ => rfl
/-- a slot gets the new list -/
theorem Rp.setL (R : Rp c A ρ σ H) {i : Nat} {a : Addr} {vs : List V} {xs : List PyData} (i0 : i ≠ 0) (hi : i < ρ.length) (e : A fl = some a) (ha : H a = some (.lst vs)) (dx : DnAll (vw c.Z A H) vs xs) : Rp c (aset (aset A i (some a)) fl none) (ρ.set i (.l xs)) (σ.set i (some (.ref a))) H := by
  have ne : i ≠ fl := by have := R.sz; omega
  have back : ∀ j b, aset (aset A i (some a)) fl none j = some b → (j = i ∧ b = a) ∨ (j ≠ i ∧ j ≠ fl ∧ A j = some b) := fun j b z => by
    by_cases q : j = fl
    · rw [q, aset_at] at z
      cases z
    · rw [aset_ne q] at z
      by_cases q' : j = i
      · rw [q', aset_at] at z
        exact Or.inl ⟨q', (Option.some.inj z).symm⟩
      · rw [aset_ne q'] at z
        exact Or.inr ⟨q', q, z⟩
  have more : Same (vw c.Z A H) (vw c.Z (aset (aset A i (some a)) fl none) H) := vw_less fun j b z => by
    rcases back j b z with ⟨_, rfl⟩ | ⟨_, _, z⟩
    · exact ⟨_, e⟩
    · exact ⟨_, z⟩
  refine ⟨by rw [List.length_set, List.length_set, R.len], by rw [List.length_set]; exact R.sz, ?_, ?_, ?_, R.keep, R.old.trans more, ?_, ?_, R.tz, R.tb.mono more fun _ _ => rfl⟩
  · intro k j b z z'
    rcases back k b z with ⟨q1, q2⟩ | ⟨n1, n2, y⟩
    · rcases back j _ z' with ⟨q3, _⟩ | ⟨n3, n4, y'⟩
      · rw [q1, q3]
      · exact absurd (R.inj _ _ _ (q2 ▸ y') e) n4
    · rcases back j b z' with ⟨q3, q4⟩ | ⟨n3, n4, y'⟩
      · exact absurd (R.inj _ _ _ (q4 ▸ y) e) n2
      · exact R.inj _ _ _ y y'
  · intro j b z
    rcases back j b z with ⟨rfl, rfl⟩ | ⟨n1, n2, z⟩
    · exact R.off _ _ e
    · exact R.off _ _ z
  · intro j b z
    rcases back j b z with ⟨rfl, rfl⟩ | ⟨n1, n2, z⟩
    · exact R.live _ _ e
    · exact R.live _ _ z
  · intro p q
    rw [aset_ne (by decide), aset_ne i0.symm]
    exact R.bor p q
  · intro j t z
    by_cases q : j = i
    · subst q
      rw [aset_ne ne, aset_at]
      rw [List.getElem?_set_self (by rw [R.len]; exact hi)]
      rw [List.getElem?_set_self hi] at z
      cases z
      exact ⟨a, vs, rfl, rfl, ha, DnAll.mono more dx⟩
    · rw [List.getElem?_set_ne (Ne.symm q)] at z ⊢
      rw [aset_ne (idx_small R.sz z), aset_ne q]
      exact (R.sl j t z).mono more fun _ _ _ h => h
/-- an owned list changes -/
theorem Rp.mut (R : Rp c A ρ σ H) {i : Nat} {a : Addr} {vs : List V} {xs ys : List PyData} (h : ρ[i]? = some (.l ys)) (e : A i = some a) (dx : DnAll (vw c.Z A H) vs xs) : Rp c A (ρ.set i (.l xs)) σ (upd H a (.lst vs)) := by
  have hv : vw c.Z A (upd H a (.lst vs)) = vw c.Z A H := vw_mut e
  refine ⟨by rw [List.length_set, R.len], by rw [List.length_set]; exact R.sz, R.inj, R.off, ?_, ?_, ?_, R.bor, ?_, R.tz, by rw [hv]; exact R.tb.mono (Same.refl _) (R.tb.upd_ (R.nt e))⟩
  · intro j b z
    by_cases q : b = a
    · rw [q, upd_same]
      simp
    · rw [upd_ne q]
      exact R.live _ _ z
  · intro b z t
    have nb : b ≠ a := fun q => R.off _ _ e (q ▸ z)
    rw [upd_ne nb]
    exact R.keep b z t
  · rw [hv]
    exact R.old
  · intro j t z
    rw [hv]
    by_cases q : j = i
    · subst q
      have lt := (List.getElem?_eq_some_iff.mp h).1
      rw [List.getElem?_set_self lt] at z
      cases z
      obtain ⟨a', vs', e1, e2, e3, _⟩ := R.sl j _ h
      rw [e] at e1
      cases e1
      exact ⟨a, vs, e, e2, upd_same, dx⟩
    · rw [List.getElem?_set_ne (Ne.symm q)] at z
      refine (R.sl j t z).mono (Same.refl _) fun b ws e' hb => ?_
      have nb : b ≠ a := fun eb => q (R.inj _ _ _ e' (eb ▸ e))
      rw [upd_ne nb]
      exact hb
/-- an owned list is given away: it is data from then on -/
theorem Rp.freeze (R : Rp c A ρ σ H) {i : Nat} {xs : List PyData} (i0 : i ≠ 0) (h : ρ[i]? = some (.l xs)) : ∃ a, A i = some a ∧ σ[i]? = some (some (.ref a)) ∧ Dn (vw c.Z (aset A i none) H) (.ref a) (.list xs) ∧ Rp c (aset A i none) (ρ.set i (.d (.list xs))) σ H := by
  obtain ⟨a, vs, e, e1, e2, dx⟩ := R.sl i _ h
  have nf : vw c.Z (aset A i none) H a = some (.lst vs) := vw_mk (R.off _ _ e) (fun j z => by
    by_cases q : j = i
    · rw [q, aset_at] at z
      cases z
    · rw [aset_ne q] at z
      exact q (R.inj _ _ _ z e)) e2
  have dn : Dn (vw c.Z (aset A i none) H) (.ref a) (.list xs) := .lst nf (DnAll.mono vw_land dx)
  refine ⟨a, e, e1, dn, ?_⟩
  refine ⟨by rw [List.length_set, R.len], by rw [List.length_set]; exact R.sz, ?_, ?_, ?_, R.keep, R.old.trans vw_land, ?_, ?_, R.tz, R.tb.mono vw_land fun _ _ => rfl⟩
  · intro k j b z z'
    by_cases q : k = i
    · rw [q, aset_at] at z
      cases z
    · by_cases q' : j = i
      · rw [q', aset_at] at z'
        cases z'
      · rw [aset_ne q] at z
        rw [aset_ne q'] at z'
        exact R.inj _ _ _ z z'
  · intro k b z
    by_cases q : k = i
    · rw [q, aset_at] at z
      cases z
    · rw [aset_ne q] at z
      exact R.off _ _ z
  · intro k b z
    by_cases q : k = i
    · rw [q, aset_at] at z
      cases z
    · rw [aset_ne q] at z
      exact R.live _ _ z
  · intro p z
    rw [aset_ne i0.symm]
    exact R.bor p z
  · intro j t z
    by_cases q : j = i
    · subst q
      have lt := (List.getElem?_eq_some_iff.mp h).1
      rw [List.getElem?_set_self lt] at z
      cases z
      rw [aset_at]
      exact ⟨rfl, _, e1, dn⟩
    · rw [List.getElem?_set_ne (Ne.symm q)] at z
      rw [aset_ne q]
      exact (R.sl j t z).mono vw_land fun _ _ _ h => h
end
end OW
set_option Elab.async false
set_option linter.unusedVariables false
set_option linter.unusedSectionVars false
set_option maxRecDepth 100000
set_option maxHeartbeats 1000000
namespace OW
open PySem PySem.Spec PyProof.Rows L2 KA
variable [Tbs]
/-! ### what an expression gives: s (data, or else), a new list, arguments, a truth -/
def Ev (te : TE) (ρ : List Sl) (s : Sl) (ρ' : List Sl) : Prop := ∀ (c : Fr) (A : Am) (σ : L2.St) (H : Hp) (Q : VK), Rp c A ρ σ H → A fl = none →
  (∀ v A' H', Rp c A' ρ' σ H' → A' fl = none → Same (vw c.Z A H) (vw c.Z A' H') → ArOk (vw c.Z A' H') v s → Q v H') → te σ H Q
def El (te : TE) (ρ : List Sl) (xs : List PyData) (ρ' : List Sl) : Prop := ∀ (c : Fr) (A : Am) (σ : L2.St) (H : Hp) (Q : VK), Rp c A ρ σ H → A fl = none →
  (∀ a vs A' H', Rp c A' ρ' σ H' → A' fl = some a → Same (vw c.Z A H) (vw c.Z A' H') → H' a = some (.lst vs) → DnAll (vw c.Z A' H') vs xs → Q (.ref a) H') → te σ H Q
def Es (ta : TA) (ρ : List Sl) (ss : List Sl) (ρ' : List Sl) : Prop := ∀ (c : Fr) (A : Am) (σ : L2.St) (H : Hp) (Q : List V → Hp → Prop), Rp c A ρ σ H → A fl = none →
  (∀ vs A' H', Rp c A' ρ' σ H' → A' fl = none → Same (vw c.Z A H) (vw c.Z A' H') → ArAll (vw c.Z A' H') vs ss → Q vs H') → ta σ H Q
def Eds (ta : TA) (ρ : List Sl) (xs : List PyData) (ρ' : List Sl) : Prop := ∀ (c : Fr) (A : Am) (σ : L2.St) (H : Hp) (Q : List V → Hp → Prop), Rp c A ρ σ H → A fl = none →
  (∀ vs A' H', Rp c A' ρ' σ H' → A' fl = none → Same (vw c.Z A H) (vw c.Z A' H') → DnAll (vw c.Z A' H') vs xs → Q vs H') → ta σ H Q
def Et (tt : TT) (ρ : List Sl) (b : Bool) (ρ' : List Sl) : Prop := ∀ (c : Fr) (A : Am) (σ : L2.St) (H : Hp) (Q : Bool → Hp → Prop), Rp c A ρ σ H → A fl = none →
  (∀ A' H', Rp c A' ρ' σ H' → A' fl = none → Same (vw c.Z A H) (vw c.Z A' H') → Q b H') → tt σ H Q
def Eo (to : TO) (ρ : List Sl) (o : Option Int) (ρ' : List Sl) : Prop := ∀ (c : Fr) (A : Am) (σ : L2.St) (H : Hp) (Q : Option Int → Hp → Prop), Rp c A ρ σ H → A fl = none →
  (∀ A' H', Rp c A' ρ' σ H' → A' fl = none → Same (vw c.Z A H) (vw c.Z A' H') → Q o H') → to σ H Q
section
variable {ρ ρ' ρ1 ρ2 ρ3 : List Sl} {te ta tb tu : TE} {s s' : Sl} {x y z : PyData} {i : Nat} {tr : TA} {xs ys : List PyData} {ss : List Sl}
theorem new_view {c : Fr} {A : Am} {σ : L2.St} {H H' : Hp} (R : Rp c A ρ σ H) {b : Addr} {o : HO} (n : H b = none) (e : H' b = some o) : vw c.Z A H' b = some o := by
  refine vw_mk (fun z => ?_) (fun i z => ?_) e
  · exact R.there z n
  · exact R.live _ _ z n
theorem ev_c {v : V} (h : ∀ W, ArOk W v s) : Ev (tC v) ρ s ρ := fun c A σ H Q R f q => q v A H R f (Same.refl _) (h _)
theorem ev_int {n : Int} : Ev (tC (.int n)) ρ (.d (.int n)) ρ := ev_c fun _ => .int n
theorem ev_str {n : Str} : Ev (tC (.str n)) ρ (.d (.str n)) ρ := ev_c fun _ => .str n
theorem ev_bl {n : Bool} : Ev (tC (.bl n)) ρ (.d (.bool n)) ρ := ev_c fun _ => .bl n
theorem ev_non : Ev (tC .non) ρ (.d .none) ρ := ev_c fun _ => .non
theorem ev_var (h : ρ[i]? = some (.d x)) : Ev (tVar i) ρ (.d x) ρ := fun c A σ H Q R f q => by
  obtain ⟨_, v, e, dn⟩ := R.sl i _ h
  exact ⟨v, e, q v A H R f (Same.refl _) dn⟩
theorem ev_varp {P : Mo} (h : ρ[i]? = some (.p P)) : Ev (tVar i) ρ (.p P) ρ := fun c A σ H Q R f q => by
  obtain ⟨_, v, e, dn⟩ := R.sl i _ h
  exact ⟨v, e, q v A H R f (Same.refl _) dn⟩
/-- the list goes out of its slot -/
theorem ev_varF (h : ρ[i]? = some (.l xs)) (i0 : i ≠ 0 := by decide) : Ev (tVar i) ρ (.d (.list xs)) (ρ.set i (.d (.list xs))) := fun c A σ H Q R f q => by
  obtain ⟨a, e, e1, dn, R'⟩ := R.freeze i0 h
  have nf : fl ≠ i := (idx_small R.sz h).symm
  exact ⟨_, e1, q _ _ H R' (by rw [aset_ne nf]; exact f) vw_land dn⟩
theorem Ev.of_el (h : El te ρ xs ρ') : Ev te ρ (.d (.list xs)) ρ' := fun c A σ H Q R f q => h c A σ H Q R f fun a vs A' H' R' f' S e dx => by
  refine q _ _ _ R'.land aset_at (S.trans vw_land) (.lst (vw_mk (R'.off _ _ f') (fun j z => ?_) e) (DnAll.mono vw_land dx))
  by_cases j' : j = fl
  · rw [j', aset_at] at z
    cases z
  · rw [aset_ne j'] at z
    exact j' (R'.inj _ _ _ z f')
theorem es_nil : Es tNil ρ [] ρ := fun c A σ H Q R f q => q [] A H R f (Same.refl _) trivial
theorem es_cons (h : Ev te ρ s ρ1) (g : Es tr ρ1 ss ρ2) : Es (tCons te tr) ρ (s :: ss) ρ2 := fun c A σ H Q R f q =>
  h c A σ H _ R f fun v A1 H1 R1 f1 S1 o1 => g c A1 σ H1 _ R1 f1 fun vs A2 H2 R2 f2 S2 o2 => q _ A2 H2 R2 f2 (S1.trans S2) ⟨o1.mono S2, o2⟩
theorem eds_nil : Eds tNil ρ [] ρ := fun c A σ H Q R f q => q [] A H R f (Same.refl _) .nil
theorem eds_cons (h : Ev te ρ (.d x) ρ1) (g : Eds tr ρ1 xs ρ2) : Eds (tCons te tr) ρ (x :: xs) ρ2 := fun c A σ H Q R f q =>
  h c A σ H _ R f fun v A1 H1 R1 f1 S1 o1 => g c A1 σ H1 _ R1 f1 fun vs A2 H2 R2 f2 S2 o2 => q _ A2 H2 R2 f2 (S1.trans S2) (.cons (Dn.mono S2 o1) o2)
theorem ev_tup (h : Eds tr ρ xs ρ') (len : xs.length ≤ sizeLine := by simp [sizeLine_eq]) : Ev (tTup tr) ρ (.d (.tuple xs)) ρ' := fun c A σ H Q R f q =>
  h c A σ H _ R f fun vs A1 H1 R1 f1 S1 o1 => ⟨by rw [o1.length]; exact len, fun a ha =>
    q _ A1 _ (R1.up (Same.new ha)) f1 (S1.trans (vw_up (Same.new ha))) (.tup (new_view R1 ha upd_same) (DnAll.mono (vw_up (Same.new ha)) o1))⟩
theorem el_lst (h : Eds tr ρ xs ρ') (len : xs.length ≤ sizeLine := by simp [sizeLine_eq]) : El (tLst tr) ρ xs ρ' := fun c A σ H Q R f q =>
  h c A σ H _ R f fun vs A1 H1 R1 f1 S1 o1 => ⟨by rw [o1.length]; exact len, fun a ha =>
    q a vs _ _ (R1.fly ha) aset_at (S1.trans (vw_fly ha)) upd_same (DnAll.mono (vw_fly ha) o1)⟩
/-! ### a function of values: of the things ss it gives s; a new list -/
def FV (r : List V → Hp → VK → Prop) (ss : List Sl) (s : Sl) : Prop := ∀ (W H : Hp) (vs : List V) (Q : VK), Same W H → ArAll W vs ss →
  (∀ u H', Same H H' → (∀ W', Same W W' → (∀ b o, H b = none → H' b = some o → W' b = some o) → ArOk W' u s) → Q u H') → r vs H Q
def FL (r : List V → Hp → VK → Prop) (ss : List Sl) (xs : List PyData) : Prop := ∀ (W H : Hp) (vs : List V) (Q : VK), Same W H → ArAll W vs ss →
  (∀ a us, H a = none → DnAll W us xs → Q (.ref a) (upd H a (.lst us))) → r vs H Q
def FV2 (r : R2) (s s' t : Sl) : Prop := ∀ (W H : Hp) (v w : V) (Q : VK), Same W H → ArOk W v s → ArOk W w s' →
  (∀ u H', Same H H' → (∀ W', Same W W' → (∀ b o, H b = none → H' b = some o → W' b = some o) → ArOk W' u t) → Q u H') → r v w H Q
def FL2 (r : R2) (s s' : Sl) (xs : List PyData) : Prop := ∀ (W H : Hp) (v w : V) (Q : VK), Same W H → ArOk W v s → ArOk W w s' →
  (∀ a us, H a = none → DnAll W us xs → Q (.ref a) (upd H a (.lst us))) → r v w H Q
theorem ev_fn {r : List V → Hp → VK → Prop} (h : Es tr ρ ss ρ') (g : FV r ss s) : Ev (tCB r tr) ρ s ρ' := fun c A σ H Q R f q =>
  h c A σ H _ R f fun vs A1 H1 R1 f1 S1 o1 => g _ H1 vs Q vw_sub o1 fun u H2 S2 o2 =>
    q u A1 H2 (R1.up S2) f1 (S1.trans (vw_up S2)) (o2 _ (vw_up S2) fun b o n e => new_view R1 n e)
theorem el_fn {r : List V → Hp → VK → Prop} (h : Es tr ρ ss ρ') (g : FL r ss xs) : El (tCB r tr) ρ xs ρ' := fun c A σ H Q R f q =>
  h c A σ H _ R f fun vs A1 H1 R1 f1 S1 o1 => g _ H1 vs Q vw_sub o1 fun a us n dx =>
    q a us _ _ (R1.fly n) aset_at (S1.trans (vw_fly n)) upd_same (DnAll.mono (vw_fly n) dx)
theorem ev_op {r : R2} {t : Sl} (h : Ev ta ρ s ρ1) (h' : Ev tb ρ1 s' ρ2) (g : FV2 r s s' t) : Ev (tOp r ta tb) ρ t ρ2 := fun c A σ H Q R f q =>
  h c A σ H _ R f fun v A1 H1 R1 f1 S1 o1 => h' c A1 σ H1 _ R1 f1 fun w A2 H2 R2 f2 S2 o2 => g _ H2 v w Q vw_sub (o1.mono S2) o2 fun u H3 S3 o3 =>
    q u A2 H3 (R2.up S3) f2 ((S1.trans S2).trans (vw_up S3)) (o3 _ (vw_up S3) fun b o n e => new_view R2 n e)
theorem el_op {r : R2} (h : Ev ta ρ s ρ1) (h' : Ev tb ρ1 s' ρ2) (g : FL2 r s s' xs) : El (tOp r ta tb) ρ xs ρ2 := fun c A σ H Q R f q =>
  h c A σ H _ R f fun v A1 H1 R1 f1 S1 o1 => h' c A1 σ H1 _ R1 f1 fun w A2 H2 R2 f2 S2 o2 => g _ H2 v w Q vw_sub (o1.mono S2) o2 fun a us n dx =>
    q a us _ _ (R2.fly n) aset_at ((S1.trans S2).trans (vw_fly n)) upd_same (DnAll.mono (vw_fly n) dx)
theorem Ev.is (h : Ev te ρ (.d x) ρ') (e : x = y) : Ev te ρ (.d y) ρ' := e ▸ h
theorem Et.is {tt : TT} {b b' : Bool} (h : Et tt ρ b ρ') (e : b = b') : Et tt ρ b' ρ' := e ▸ h
theorem El.is (h : El te ρ xs ρ') (e : xs = ys) : El te ρ ys ρ' := e ▸ h
/-! tests -/
theorem bool_v {W : Hp} {v : V} {b : Bool} (h : ArOk W v (.d (.bool b))) : v = .bl b := by
  cases h
  rfl
theorem int_v {W : Hp} {v : V} {n : Int} (h : ArOk W v (.d (.int n))) : v = .int n := by
  cases h
  rfl
theorem str_v {W : Hp} {v : V} {n : Str} (h : ArOk W v (.d (.str n))) : v = .str n := by
  cases h
  rfl
theorem non_v {W : Hp} {v : V} (h : ArOk W v (.d .none)) : v = .non := by
  cases h
  rfl
theorem tup_v {W : Hp} {v : V} {ds : List PyData} (h : ArOk W v (.d (.tuple ds))) : ∃ a vs, v = .ref a ∧ W a = some (.tup vs) ∧ DnAll W vs ds := by
  cases h with
  | tup e r => exact ⟨_, _, rfl, e, r⟩
theorem lst_v {W : Hp} {v : V} {ds : List PyData} (h : ArOk W v (.d (.list ds))) : ∃ a vs, v = .ref a ∧ W a = some (.lst vs) ∧ DnAll W vs ds := by
  cases h with
  | lst e r => exact ⟨_, _, rfl, e, r⟩
theorem et_test {b : Bool} (h : Ev te ρ (.d (.bool b)) ρ') : Et (tTest te) ρ b ρ' := fun c A σ H Q R f q =>
  h c A σ H _ R f fun v A1 H1 R1 f1 S1 o1 => ⟨b, bool_v o1, q A1 H1 R1 f1 S1⟩
theorem et_B {b : Bool} (h : Ev te ρ (.d (.bool b)) ρ') : Et (tB te) ρ b ρ' := fun c A σ H Q R f q =>
  h c A σ H _ R f fun v A1 H1 R1 f1 S1 o1 => ⟨b, bool_v o1, q A1 H1 R1 f1 S1⟩
theorem et_not {tt : TT} {b : Bool} (h : Et tt ρ b ρ') : Et (tNot tt) ρ (!b) ρ' := fun c A σ H Q R f q => h c A σ H _ R f q
/-- b isn't asked where a is false: then all stays as a leaves it -/
theorem et_and {t u : TT} {a b : Bool} (h : Et t ρ a ρ1) (g : a = true → Et u ρ1 b ρ2) (hn : a = false → ρ2 = ρ1 := by intros; rfl) : Et (tAnd t u) ρ (a && b) ρ2 := fun c A σ H Q R f q =>
  h c A σ H _ R f fun A1 H1 R1 f1 S1 => by
    cases a with
    | true => exact g rfl c A1 σ H1 _ R1 f1 fun A2 H2 R2 f2 S2 => q A2 H2 R2 f2 (S1.trans S2)
    | false => exact q A1 H1 (by rw [hn rfl]; exact R1) f1 S1
theorem et_or {t u : TT} {a b : Bool} (h : Et t ρ a ρ1) (g : a = false → Et u ρ1 b ρ2) (hn : a = true → ρ2 = ρ1 := by intros; rfl) : Et (tOr t u) ρ (a || b) ρ2 := fun c A σ H Q R f q =>
  h c A σ H _ R f fun A1 H1 R1 f1 S1 => by
    cases a with
    | false => exact g rfl c A1 σ H1 _ R1 f1 fun A2 H2 R2 f2 S2 => q A2 H2 R2 f2 (S1.trans S2)
    | true => exact q A1 H1 (by rw [hn rfl]; exact R1) f1 S1
theorem ev_andV {a b : Bool} (h : Ev ta ρ (.d (.bool a)) ρ1) (g : a = true → Ev tb ρ1 (.d (.bool b)) ρ2) (hn : a = false → ρ2 = ρ1 := by intros; rfl) : Ev (tAndV ta tb) ρ (.d (.bool (a && b))) ρ2 := fun c A σ H Q R f q =>
  h c A σ H _ R f fun v A1 H1 R1 f1 S1 o1 => ⟨a, bool_v o1, by
    cases a with
    | true => exact g rfl c A1 σ H1 _ R1 f1 fun v A2 H2 R2 f2 S2 o2 => q v A2 H2 R2 f2 (S1.trans S2) o2
    | false => exact q _ A1 H1 (by rw [hn rfl]; exact R1) f1 S1 (.bl false)⟩
theorem ev_orV {a b : Bool} (h : Ev ta ρ (.d (.bool a)) ρ1) (g : a = false → Ev tb ρ1 (.d (.bool b)) ρ2) (hn : a = true → ρ2 = ρ1 := by intros; rfl) : Ev (tOrV ta tb) ρ (.d (.bool (a || b))) ρ2 := fun c A σ H Q R f q =>
  h c A σ H _ R f fun v A1 H1 R1 f1 S1 o1 => ⟨a, bool_v o1, by
    cases a with
    | false => exact g rfl c A1 σ H1 _ R1 f1 fun v A2 H2 R2 f2 S2 o2 => q v A2 H2 R2 f2 (S1.trans S2) o2
    | true => exact q _ A1 H1 (by rw [hn rfl]; exact R1) f1 S1 (.bl true)⟩
theorem ev_notV {a : Bool} (h : Ev ta ρ (.d (.bool a)) ρ1) : Ev (tNotV ta) ρ (.d (.bool (!a))) ρ1 := fun c A σ H Q R f q =>
  h c A σ H _ R f fun v A1 H1 R1 f1 S1 o1 => ⟨a, bool_v o1, q _ A1 H1 R1 f1 S1 (.bl _)⟩
theorem ev_if {t : TT} {b : Bool} (h : Et t ρ b ρ1) (h1 : b = true → Ev ta ρ1 s ρ2) (h2 : b = false → Ev tb ρ1 s ρ2) : Ev (tIf t ta tb) ρ s ρ2 := fun c A σ H Q R f q =>
  h c A σ H _ R f fun A1 H1 R1 f1 S1 => by
    cases b with
    | true => exact h1 rfl c A1 σ H1 _ R1 f1 fun v A2 H2 R2 f2 S2 o2 => q v A2 H2 R2 f2 (S1.trans S2) o2
    | false => exact h2 rfl c A1 σ H1 _ R1 f1 fun v A2 H2 R2 f2 S2 o2 => q v A2 H2 R2 f2 (S1.trans S2) o2
theorem el_if {t : TT} {b : Bool} (h : Et t ρ b ρ1) (h1 : b = true → El ta ρ1 xs ρ2) (h2 : b = false → El tb ρ1 xs ρ2) : El (tIf t ta tb) ρ xs ρ2 := fun c A σ H Q R f q =>
  h c A σ H _ R f fun A1 H1 R1 f1 S1 => by
    cases b with
    | true => exact h1 rfl c A1 σ H1 _ R1 f1 fun a vs A2 H2 R2 f2 S2 => q a vs A2 H2 R2 f2 (S1.trans S2)
    | false => exact h2 rfl c A1 σ H1 _ R1 f1 fun a vs A2 H2 R2 f2 S2 => q a vs A2 H2 R2 f2 (S1.trans S2)
theorem eo_none : Eo tNoPart ρ none ρ := fun c A σ H Q R f q => q A H R f (Same.refl _)
theorem eo_some {n : Int} (h : Ev te ρ (.d (.int n)) ρ') : Eo (tPart te) ρ (some n) ρ' := fun c A σ H Q R f q =>
  h c A σ H _ R f fun v A1 H1 R1 f1 S1 o1 => ⟨n, int_v o1, q A1 H1 R1 f1 S1⟩
end
end OW
set_option Elab.async false
set_option linter.unusedVariables false
set_option linter.unusedSectionVars false
set_option maxRecDepth 100000
set_option maxHeartbeats 1000000
namespace OW
open PySem PySem.Spec PyProof.Rows L2 KA
variable [Tbs]
/-! ### promises -/
noncomputable def hz (Z : Addr → Prop) (H : Hp) : Hp := vw Z (fun _ => none) H
theorem hz_some {Z : Addr → Prop} {H : Hp} {b : Addr} {o : HO} (h : hz Z H b = some o) : ¬ Z b ∧ H b = some o := ⟨(vw_some h).1, (vw_some h).2.2⟩
theorem hz_mk {Z : Addr → Prop} {H : Hp} {b : Addr} {o : HO} (h : ¬ Z b) (e : H b = some o) : hz Z H b = some o := vw_mk h (fun i z => by cases z) e
abbrev zz (Z : Addr → Prop) (A : Am) : Addr → Prop := fun b => Z b ∨ ∃ i, A i = some b
theorem hz_eq {Z : Addr → Prop} {A : Am} {H : Hp} : hz (zz Z A) H = vw Z A H := by
  funext b
  by_cases h : zz Z A b
  · have e1 : vw Z A H b = none := by unfold vw; rw [if_pos h]
    have e2 : hz (zz Z A) H b = none := by unfold hz vw; rw [if_pos (Or.inl h)]
    rw [e1, e2]
  · have e1 : vw Z A H b = H b := by unfold vw; rw [if_neg h]
    have e2 : hz (zz Z A) H b = H b := by
      unfold hz vw
      rw [if_neg]
      rintro (z | ⟨i, z⟩)
      · exact h z
      · cases z
    rw [e1, e2]
theorem vw_hz {Z : Addr → Prop} {A : Am} {H : Hp} : Same (vw Z A H) (hz Z H) := fun b o e => hz_mk (vw_some e).1 (vw_some e).2.2
inductive Rv where
  | d (x : PyData)
  | l (xs : List PyData)
  | p (P : Mo)
def RvOk (Z : Addr → Prop) (H H' : Hp) (v : V) : Rv → Prop
  | .d x => Dn (hz Z H') v x
  | .l xs => ∃ a vs, v = .ref a ∧ H a = none ∧ H' a = some (.lst vs) ∧ DnAll (hid a (hz Z H')) vs xs
  | .p P => P.P v (hz Z H')
structure ZOk (Z : Addr → Prop) (H : Hp) : Prop where
  there : ∀ a, Z a → H a ≠ none
  tz : ∀ a, tabA a → Z a
  tb : Tb (hz Z H) H
/-- behind a call: all but the tables stays, the tables are good -/
structure Aft (Z : Addr → Prop) (H H' : Hp) : Prop where
  same : ∀ b o, H b = some o → ¬ tabA b → H' b = some o
  tb : Tb (hz Z H') H'
theorem Aft.of {Z : Addr → Prop} {H H' : Hp} (S : Same H H') (t : Tb (hz Z H) H) : Aft Z H H' := ⟨fun b o e _ => S b o e, t.mono (vw_up S) (t.same S)⟩
def spD (n : Nat) (T : List Sl → (Rv → Prop) → Prop) : Sp := fun vs H Q _ => ∃ (Z : Addr → Prop) (as : List Sl) (K : Rv → Prop), ZOk Z H ∧ ArAll (hz Z H) vs as ∧ as.length = n ∧ T as K ∧
  ∀ r v H', K r → Aft Z H H' → RvOk Z H H' v r → Q v H'
def spB (n : Nat) (T : List PyData → List Sl → (Rv → List PyData → Prop) → Prop) : Sp := fun vs H Q _ => ∃ (Z : Addr → Prop) (p : Addr) (cs : List V) (c : List PyData) (ws : List V) (as : List Sl) (K : Rv → List PyData → Prop),
  vs = .ref p :: ws ∧ Z p ∧ ZOk Z H ∧ H p = some (.lst cs) ∧ DnAll (hz Z H) cs c ∧ ArAll (hz Z H) ws as ∧ as.length = n ∧ T c as K ∧
  ∀ r c' cs' v H', K r c' → H' p = some (.lst cs') → DnAll (hz Z H') cs' c' → ((∀ a, Z a → a ≠ p → ¬ tabA a → H' a = H a) ∧ Tb (hz Z H') H') → Same (hz Z H) (hz Z H') → RvOk Z H H' v r → Q v H'
section
variable {c : Fr} {A : Am} {ρ ρ' ρ1 ρ2 : List Sl} {σ : L2.St} {H H' : Hp} {ta te : TE} {tr : TA} {x : PyData} {xs : List PyData} {s : Sl} {ss ds : List Sl} {i : Nat}
theorem vw_adopt {Z : Addr → Prop} {a : Addr} : Same (hid a (vw Z A H)) (vw Z (aset A fl (some a)) H) := fun b o e => by
  obtain ⟨n, e⟩ := hid_some e
  obtain ⟨h1, h2, h3⟩ := vw_some e
  refine vw_mk h1 (fun j z => ?_) h3
  by_cases q : j = fl
  · rw [q, aset_at] at z
    exact n (Option.some.inj z).symm
  · rw [aset_ne q] at z
    exact h2 j z
theorem zz_ok (R : Rp c A ρ σ H) : ZOk (zz c.Z A) H where
  there a z := by
    rcases z with z | ⟨i, z⟩
    · exact R.there z
    · exact R.live _ _ z
  tz a t := Or.inl (R.tz a t)
  tb := by rw [hz_eq]; exact R.tb
theorem vw_upA (R : Rp c A ρ σ H) (S : Aft (zz c.Z A) H H') : Same (vw c.Z A H) (vw c.Z A H') := fun b o e => by
  obtain ⟨h1, h2, h3⟩ := vw_some e
  exact vw_mk h1 h2 (S.same b o h3 fun t => h1 (R.tz b t))
theorem Rp.upA (R : Rp c A ρ σ H) (S : Aft (zz c.Z A) H H') : Rp c A ρ σ H' where
  len := R.len
  sz := R.sz
  inj := R.inj
  off := R.off
  live i a e := by
    obtain ⟨o, h⟩ := Option.ne_none_iff_exists'.mp (R.live i a e)
    rw [S.same _ _ h (R.nt e)]
    simp
  keep a z t := by
    obtain ⟨h1, h2⟩ := R.keep a z t
    refine ⟨h1, ?_⟩
    obtain ⟨o, h⟩ := Option.ne_none_iff_exists'.mp h1
    rw [h] at h2 ⊢
    exact S.same _ _ h2 t
  old := R.old.trans (vw_upA R S)
  bor := R.bor
  sl i s e := (R.sl i s e).mono (vw_upA R S) fun a vs e' h => S.same _ _ h (R.nt e')
  tz := R.tz
  tb := by have t := S.tb; rw [hz_eq] at t; exact t
theorem Rp.adopt (R : Rp c A ρ σ H) (S : Aft (zz c.Z A) H H') {a : Addr} {vs : List V} (n : H a = none) (e : H' a = some (.lst vs)) : Rp c (aset A fl (some a)) ρ σ H' := by
  have S1 : Aft (zz c.Z A) H (hid a H') := by
    refine ⟨fun b o z t => ?_, fun p hp => ?_⟩
    · rw [hid_ne (ne_of_none z n)]
      exact S.same b o z t
    · obtain ⟨ps, g1, g2, g3⟩ := S.tb p hp
      refine ⟨ps, ?_, g2, fun pos cv h => ?_⟩
      · rw [hid_ne]
        · exact g1
        · intro q
          rw [q, e] at g1
          cases g1
      · obtain ⟨c', k1, k2⟩ := g3 pos cv h
        refine ⟨c', k1, ?_⟩
        obtain ⟨m1, m2⟩ := hz_some k2
        refine hz_mk m1 ?_
        rw [hid_ne]
        · exact m2
        · intro q
          rw [q, e] at m2
          have m3 := Option.some.inj m2
          unfold LamX.CodeO at m3
          cases m3
  have R1 := (R.upA S1).fly (a := a) (o := .lst vs) hid_at
  have e1 : upd (hid a H') a (.lst vs) = H' := by
    funext b
    by_cases q : b = a
    · rw [q, upd_same, e]
    · rw [upd_ne q, hid_ne q]
  rw [e1] at R1
  exact R1
theorem ev_call {n : Nat} {T : List Sl → (Rv → Prop) → Prop} {dvs : List V} {E : XK} (h : Es tr ρ ss ρ') (hd : ∀ W, ArAll W dvs ds) (hn : (ss ++ ds).length = n) (g : T (ss ++ ds) fun r => r = .d x) : Ev (tCall (spD n T) dvs E tr) ρ (.d x) ρ' := fun c A σ H Q R f q =>
  h c A σ H _ R f fun vs A1 H1 R1 f1 S1 o1 => by
    refine ⟨zz c.Z A1, ss ++ ds, _, zz_ok R1, by rw [hz_eq]; exact o1.append (hd _), hn, g, fun r v H' hr S o => ?_⟩
    · subst hr
      have o : Dn (hz (zz c.Z A1) H') v x := o
      rw [hz_eq] at o
      exact q v A1 H' (R1.upA S) f1 (S1.trans (vw_upA R1 S)) o
theorem evp_call {n : Nat} {T : List Sl → (Rv → Prop) → Prop} {dvs : List V} {E : XK} {P : Mo} (h : Es tr ρ ss ρ') (hd : ∀ W, ArAll W dvs ds) (hn : (ss ++ ds).length = n) (g : T (ss ++ ds) fun r => r = .p P) : Ev (tCall (spD n T) dvs E tr) ρ (.p P) ρ' := fun c A σ H Q R f q =>
  h c A σ H _ R f fun vs A1 H1 R1 f1 S1 o1 => by
    refine ⟨zz c.Z A1, ss ++ ds, _, zz_ok R1, by rw [hz_eq]; exact o1.append (hd _), hn, g, fun r v H' hr S o => ?_⟩
    · subst hr
      have o : P.P v (hz (zz c.Z A1) H') := o
      rw [hz_eq] at o
      exact q v A1 H' (R1.upA S) f1 (S1.trans (vw_upA R1 S)) o
theorem el_call {n : Nat} {T : List Sl → (Rv → Prop) → Prop} {dvs : List V} {E : XK} (h : Es tr ρ ss ρ') (hd : ∀ W, ArAll W dvs ds) (hn : (ss ++ ds).length = n) (g : T (ss ++ ds) fun r => r = .l xs) : El (tCall (spD n T) dvs E tr) ρ xs ρ' := fun c A σ H Q R f q =>
  h c A σ H _ R f fun vs A1 H1 R1 f1 S1 o1 => by
    refine ⟨zz c.Z A1, ss ++ ds, _, zz_ok R1, by rw [hz_eq]; exact o1.append (hd _), hn, g, fun r v H' hr S o => ?_⟩
    · subst hr
      obtain ⟨a, us, rfl, n, e, dx⟩ := o
      rw [hz_eq] at dx
      refine q a us _ H' (R1.adopt S n e) aset_at (S1.trans ?_) e (DnAll.mono vw_adopt dx)
      exact fun b o z => vw_adopt (A := A1) b o (by rw [hid_ne (ne_of_none (vw_some z).2.2 n)]; exact vw_upA R1 S _ _ z)
theorem ar_nil : ∀ W : Hp, ArAll W [] [] := fun _ => trivial
theorem Rp.back (R : Rp c A ρ σ H) {i : Nat} {p : Addr} {c0 c1 : List PyData} {cs : List V} (h : ρ[i]? = some (.l c0)) (e : A i = some p) (e' : H' p = some (.lst cs)) (dx : DnAll (hz (zz c.Z A) H') cs c1) (hz' : (∀ a, zz c.Z A a → a ≠ p → ¬ tabA a → H' a = H a) ∧ Tb (hz (zz c.Z A) H') H') (S : Same (hz (zz c.Z A) H) (hz (zz c.Z A) H')) :
    Rp c A (ρ.set i (.l c1)) σ H' := by
  have ev : vw c.Z A (fun b => if b = p then H p else H' b) = vw c.Z A H' := by
    funext b
    unfold vw
    split
    · rfl
    · rename_i q
      have : b ≠ p := fun z => q (Or.inr ⟨i, z ▸ e⟩)
      exact if_neg this
  have S2 : Aft (zz c.Z A) H (fun b => if b = p then H p else H' b) := by
    refine ⟨fun b o z t => ?_, ?_⟩
    · show (if b = p then H p else H' b) = some o
      by_cases q : b = p
      · rw [if_pos q, ← q]
        exact z
      · rw [if_neg q]
        by_cases q' : zz c.Z A b
        · rw [hz'.1 b q' q t]
          exact z
        · exact (hz_some (S _ _ (hz_mk q' z))).2
    · have t := hz'.2
      rw [hz_eq] at t ⊢
      rw [ev]
      exact t.mono (Same.refl _) fun b hb => if_neg (show ¬ b = p from fun q => R.nt e (q ▸ hb))
  have R2 := R.upA S2
  have R3 := R2.mut (vs := cs) (xs := c1) h e (by rw [ev, ← hz_eq]; exact dx)
  have e3 : upd (fun b => if b = p then H p else H' b) p (.lst cs) = H' := by
    funext b
    by_cases q : b = p
    · rw [q, upd_same, e']
    · rw [upd_ne q]
      exact if_neg q
  rw [e3] at R3
  exact R3
theorem vw_back {Z : Addr → Prop} (S : Same (hz (zz Z A) H) (hz (zz Z A) H')) : Same (vw Z A H) (vw Z A H') := by
  rw [hz_eq, hz_eq] at S
  exact S
theorem ev_callB {n : Nat} {T : List PyData → List Sl → (Rv → List PyData → Prop) → Prop} {dvs : List V} {E : XK} {c00 c0 c1 : List PyData} (h0 : ρ[i]? = some (.l c00)) (h : Es tr ρ ss ρ1) (hi : ρ1[i]? = some (.l c0)) (hd : ∀ W, ArAll W dvs ds) (hn : (ss ++ ds).length = n) (g : T c0 (ss ++ ds) fun r c' => r = .d x ∧ c' = c1) :
    Ev (tCall (spB n T) dvs E (tCons (tVar i) tr)) ρ (.d x) (ρ1.set i (.l c1)) := fun c A σ H Q R f q => by
  obtain ⟨p0, _, _, e0, _, _⟩ := R.sl i _ h0
  refine ⟨_, e0, h c A σ H _ R f fun vs A1 H1 R1 f1 S1 o1 => ?_⟩
  obtain ⟨p, cs, ep, e1, eH, dc⟩ := R1.sl i _ hi
  rw [e0] at e1
  cases e1
  refine ⟨zz c.Z A1, p0, cs, c0, vs ++ dvs, ss ++ ds, _, rfl, Or.inr ⟨i, ep⟩, zz_ok R1, eH, by rw [hz_eq]; exact dc, by rw [hz_eq]; exact o1.append (hd _), hn, g, fun r c' cs' v H' hr e' dc' k S o => ?_⟩
  · obtain ⟨rfl, rfl⟩ := hr
    have o : Dn (hz (zz c.Z A1) H') v x := o
    have R2 := R1.back hi ep e' dc' k S
    rw [hz_eq] at o
    exact q v A1 H' R2 f1 (S1.trans (vw_back S)) o
end
end OW
set_option Elab.async false
set_option linter.unusedVariables false
set_option linter.unusedSectionVars false
set_option maxRecDepth 100000
set_option maxHeartbeats 1000000
namespace OW
open PySem PySem.Spec PyProof.Rows L2 KA
variable [Tbs]
/-! ### statements -/
structure KK where
  nx : List Sl → Prop
  rt : Rv → List Sl → Prop
  bk : List Sl → Prop := fun _ => False
  ct : List Sl → Prop := fun _ => False
def RvAt (c : Fr) (A : Am) (H : Hp) (v : V) : Rv → Prop
  | .d x => A fl = none ∧ Dn (vw c.Z A H) v x
  | .l xs => ∃ a vs, A fl = some a ∧ v = .ref a ∧ H a = some (.lst vs) ∧ DnAll (vw c.Z A H) vs xs
  | .p P => A fl = none ∧ P.P v (vw c.Z A H)
structure DK (c : Fr) (K : KK) (D : Ends) : Prop where
  nx : ∀ ρ A σ H, K.nx ρ → Rp c A ρ σ H → A fl = none → D.nx σ H
  rt : ∀ r ρ v A σ H, K.rt r ρ → Rp c A ρ σ H → RvAt c A H v r → D.rt v H
  bk : ∀ ρ A σ H, K.bk ρ → Rp c A ρ σ H → A fl = none → D.bk σ H
  ct : ∀ ρ A σ H, K.ct ρ → Rp c A ρ σ H → A fl = none → D.ct σ H
def Sm (t : TS) (ρ : List Sl) (K : KK) : Prop := ∀ (c : Fr) (A : Am) (σ : L2.St) (H : Hp) (D : Ends), Rp c A ρ σ H → A fl = none → DK c K D → t D σ H
/-- a target takes s -/
def Tg (g : TG) (s : Sl) (ρ ρ' : List Sl) : Prop := ∀ (c : Fr) (A : Am) (σ : L2.St) (H : Hp) (v : V) (Q : L2.St → Hp → Prop), Rp c A ρ σ H → A fl = none → ArOk (vw c.Z A H) v s →
  (∀ A' σ' H', Rp c A' ρ' σ' H' → A' fl = none → Same (vw c.Z A H) (vw c.Z A' H') → Q σ' H') → g v σ H Q
def Tgs (g : TGs) (ss : List Sl) (ρ ρ' : List Sl) : Prop := ∀ (c : Fr) (A : Am) (σ : L2.St) (H : Hp) (vs : List V) (Q : L2.St → Hp → Prop), Rp c A ρ σ H → A fl = none → ArAll (vw c.Z A H) vs ss →
  (∀ A' σ' H', Rp c A' ρ' σ' H' → A' fl = none → Same (vw c.Z A H) (vw c.Z A' H') → Q σ' H') → g vs σ H Q
section
variable {ρ ρ' ρ1 ρ2 : List Sl} {te ta tb : TE} {s s' : Sl} {x y : PyData} {i : Nat} {tr : TA} {xs ys : List PyData} {ss : List Sl} {t u : TS} {K : KK} {g : TG} {gs : TGs} {KF : PySem.W.Frag}
theorem ArOk.sl {W H : Hp} {v : V} : ∀ {s : Sl}, ArOk W v s → SlOk W H (some (some v)) none s
  | .d _, h => ⟨rfl, v, rfl, h⟩
  | .p _, h => ⟨rfl, v, rfl, h⟩
  | .un, h | .any, h | .l _, h | .la _ _, h | .wa _ _, h | .dk _, h | .lm _, h => h.elim
theorem tg_name (i0 : i ≠ 0 := by decide) (i1 : i ≠ fl := by decide) : Tg (gName i) s ρ (ρ.set i s) := fun c A σ H v Q R f o q =>
  q _ _ H (R.set i0 o.sl) (by rw [aset_ne i1.symm]; exact f) vw_land
theorem tgs_nil : Tgs gNil [] ρ ρ := fun c A σ H vs Q R f o q => by
  cases vs with
  | nil => exact ⟨rfl, q A σ H R f (Same.refl _)⟩
  | cons _ _ => exact o.elim
theorem tgs_cons (h : Tg g s ρ ρ1) (k : Tgs gs ss ρ1 ρ2) : Tgs (gCons g gs) (s :: ss) ρ ρ2 := fun c A σ H vs Q R f o q => by
  cases vs with
  | nil => exact o.elim
  | cons v vs => exact ⟨v, vs, rfl, h c A σ H v _ R f o.1 fun A1 σ1 H1 R1 f1 S1 => k c A1 σ1 H1 vs _ R1 f1 (o.2.mono S1) fun A2 σ2 H2 R2 f2 S2 => q A2 σ2 H2 R2 f2 (S1.trans S2)⟩
theorem tg_tup {n : Nat} (h : Tgs gs (xs.map Sl.d) ρ ρ1) (len : xs.length = n := by rfl) : Tg (gTup KF n gs) (.d (.tuple xs)) ρ ρ1 := fun c A σ H v Q R f o q => by
  obtain ⟨a, vs, rfl, e, dx⟩ := tup_v o
  exact ⟨a, vs, rfl, SqT.of (vw_sub _ _ e), dx.length.trans len, h c A σ H vs _ R f (arAll_d dx) q⟩
theorem sm_next (k : K.nx ρ) : Sm tNext ρ K := fun c A σ H D R f dk => dk.nx _ _ _ _ k R f
theorem sm_seq (h : Sm t ρ { K with nx := fun ρ' => Sm u ρ' K }) : Sm (tSeq t u) ρ K := fun c A σ H D R f dk =>
  h c A σ H { D with nx := u D } R f ⟨fun ρ' A' σ' H' hk R' f' => hk c A' σ' H' D R' f' dk, dk.rt, dk.bk, dk.ct⟩
theorem sm_break (k : K.bk ρ) : Sm tBreak ρ K := fun c A σ H D R f dk => dk.bk _ _ _ _ k R f
theorem sm_cont (k : K.ct ρ) : Sm tCont ρ K := fun c A σ H D R f dk => dk.ct _ _ _ _ k R f
theorem sm_asg (h : Ev te ρ s ρ1) (hg : Tg g s ρ1 ρ2) (k : K.nx ρ2) : Sm (tAsg te g) ρ K := fun c A σ H D R f dk =>
  h c A σ H _ R f fun v A1 H1 R1 f1 S1 o1 => hg c A1 σ H1 v _ R1 f1 o1 fun A2 σ2 H2 R2 f2 S2 => dk.nx _ _ _ _ k R2 f2
theorem sm_set (h : Ev te ρ s ρ1) (k : K.nx (ρ1.set i s)) (i0 : i ≠ 0 := by decide) (i1 : i ≠ fl := by decide) : Sm (tAsg te (gName i)) ρ K := sm_asg h (tg_name i0 i1) k
theorem sm_setL (h : El te ρ xs ρ1) (k : K.nx (ρ1.set i (.l xs))) (i0 : i ≠ 0 := by decide) (hi : i < ρ1.length := by simp [uns]) : Sm (tAsg te (gName i)) ρ K := fun c A σ H D R f dk =>
  h c A σ H _ R f fun a vs A1 H1 R1 f1 S1 e dx => dk.nx _ _ _ _ k (R1.setL i0 hi f1 e dx) aset_at
theorem sm_drop (h : Ev te ρ s ρ1) (k : K.nx ρ1) : Sm (tDrop te) ρ K := fun c A σ H D R f dk => h c A σ H _ R f fun v A1 H1 R1 f1 S1 o1 => dk.nx _ _ _ _ k R1 f1
theorem sm_ret (h : Ev te ρ (.d x) ρ1) (k : K.rt (.d x) ρ1) : Sm (tRet te) ρ K := fun c A σ H D R f dk => h c A σ H _ R f fun v A1 H1 R1 f1 S1 o1 => dk.rt _ _ v _ σ _ k R1 ⟨f1, o1⟩
theorem sm_retP {P : Mo} (h : Ev te ρ (.p P) ρ1) (k : K.rt (.p P) ρ1) : Sm (tRet te) ρ K := fun c A σ H D R f dk => h c A σ H _ R f fun v A1 H1 R1 f1 S1 o1 => dk.rt _ _ v _ σ _ k R1 ⟨f1, o1⟩
theorem sm_retL (h : El te ρ xs ρ1) (k : K.rt (.l xs) ρ1) : Sm (tRet te) ρ K := fun c A σ H D R f dk => h c A σ H _ R f fun a vs A1 H1 R1 f1 S1 e dx => dk.rt _ _ _ _ σ _ k R1 ⟨a, vs, f1, rfl, e, dx⟩
/-- the list in a slot is told (the slot isn't the caller's) -/
theorem vw_toFl {Z : Addr → Prop} {A : Am} {H : Hp} {a : Addr} (e : A i = some a) : Same (vw Z A H) (vw Z (aset (aset A i none) fl (some a)) H) := vw_less fun j b z => by
  by_cases q : j = fl
  · rw [q, aset_at] at z
    exact ⟨i, by rw [e, ← z]⟩
  · rw [aset_ne q] at z
    by_cases q' : j = i
    · rw [q', aset_at] at z
      cases z
    · rw [aset_ne q'] at z
      exact ⟨j, z⟩
theorem Rp.toFl {c : Fr} {A : Am} {σ : L2.St} {H : Hp} (R : Rp c A ρ σ H) {a : Addr} (i0 : i ≠ 0) (h : ρ[i]? = some (.l xs)) (e : A i = some a) : Rp c (aset (aset A i none) fl (some a)) (ρ.set i .any) σ H := by
  have ni : i ≠ fl := idx_small R.sz h
  have back : ∀ j b, aset (aset A i none) fl (some a) j = some b → (j = fl ∧ b = a) ∨ (j ≠ i ∧ j ≠ fl ∧ A j = some b) := fun j b z => by
    by_cases q : j = fl
    · rw [q, aset_at] at z
      exact Or.inl ⟨q, (Option.some.inj z).symm⟩
    · rw [aset_ne q] at z
      by_cases q' : j = i
      · rw [q', aset_at] at z
        cases z
      · rw [aset_ne q'] at z
        exact Or.inr ⟨q', q, z⟩
  refine ⟨by rw [List.length_set, R.len], by rw [List.length_set]; exact R.sz, ?_, ?_, ?_, R.keep, R.old.trans (vw_toFl e), ?_, ?_, R.tz, R.tb.mono (vw_toFl e) fun _ _ => rfl⟩
  · intro k j b z z'
    rcases back k b z with ⟨q1, q2⟩ | ⟨n1, n2, y⟩
    · rcases back j b z' with ⟨q3, _⟩ | ⟨n3, n4, y'⟩
      · rw [q1, q3]
      · exact absurd (R.inj _ _ _ (q2 ▸ y') e) n3
    · rcases back j b z' with ⟨q3, q4⟩ | ⟨n3, n4, y'⟩
      · exact absurd (R.inj _ _ _ (q4 ▸ y) e) n1
      · exact R.inj _ _ _ y y'
  · intro j b z
    rcases back j b z with ⟨_, q⟩ | ⟨_, _, y⟩
    · rw [q]
      exact R.off _ _ e
    · exact R.off _ _ y
  · intro j b z
    rcases back j b z with ⟨_, q⟩ | ⟨_, _, y⟩
    · rw [q]
      exact R.live _ _ e
    · exact R.live _ _ y
  · intro p z
    rw [aset_ne (by decide), aset_ne i0.symm]
    exact R.bor p z
  · intro j t z
    by_cases q : j = i
    · subst q
      have lt := (List.getElem?_eq_some_iff.mp h).1
      rw [List.getElem?_set_self lt] at z
      cases z
      show aset (aset A j none) fl (some a) j = none
      rw [aset_ne ni, aset_at]
    · rw [List.getElem?_set_ne (Ne.symm q)] at z
      rw [aset_ne (idx_small R.sz z), aset_ne q]
      exact (R.sl j t z).mono (vw_toFl e) fun _ _ _ h => h
theorem el_var (h : ρ[i]? = some (.l xs)) (i0 : i ≠ 0 := by decide) : El (tVar i) ρ xs (ρ.set i .any) := fun c A σ H Q R f q => by
  obtain ⟨a, vs, e, e1, e2, dx⟩ := R.sl i _ h
  exact ⟨_, e1, q a vs _ H (R.toFl i0 h e) aset_at (vw_toFl e) e2 (DnAll.mono (vw_toFl e) dx)⟩
theorem sm_retN (k : K.rt (.d .none) ρ) : Sm tRetN ρ K := fun c A σ H D R f dk => dk.rt _ _ _ _ σ _ k R ⟨f, .non⟩
theorem sm_if {tt : TT} {b : Bool} (h : Et tt ρ b ρ1) (h1 : b = true → Sm t ρ1 K) (h2 : b = false → Sm u ρ1 K) : Sm (tIfS tt t u) ρ K := fun c A σ H D R f dk =>
  h c A σ H _ R f fun A1 H1 R1 f1 S1 => by
    cases b with
    | true => exact h1 rfl c A1 σ H1 D R1 f1 dk
    | false => exact h2 rfl c A1 σ H1 D R1 f1 dk
theorem sm_mono {K K' : KK} (h : Sm t ρ K) (nx : ∀ ρ, K.nx ρ → K'.nx ρ) (rt : ∀ r ρ, K.rt r ρ → K'.rt r ρ) (bk : ∀ ρ, K.bk ρ → K'.bk ρ) (ct : ∀ ρ, K.ct ρ → K'.ct ρ) : Sm t ρ K' := fun c A σ H D R f dk =>
  h c A σ H D R f ⟨fun ρ A σ H k => dk.nx ρ A σ H (nx ρ k), fun r ρ v A σ H k => dk.rt r ρ v A σ H (rt r ρ k), fun ρ A σ H k => dk.bk ρ A σ H (bk ρ k), fun ρ A σ H k => dk.ct ρ A σ H (ct ρ k)⟩
/-! loops -/
theorem dn_at {H : Hp} {xs : List V} {ds : List PyData} {i : Nat} {x : V} (r : DnAll H xs ds) (h : xs[i]? = some x) : ∃ d, ds[i]? = some d ∧ Dn H x d := by
  have lt := (List.getElem?_eq_some_iff.mp h).1
  have lt' : i < ds.length := by rw [← r.length]; exact lt
  obtain ⟨v, e, dn⟩ := r.get (List.getElem?_eq_getElem lt')
  rw [h] at e
  cases e
  exact ⟨_, List.getElem?_eq_getElem lt', dn⟩
def Fr.to (c : Fr) (F : Hp) : Fr := { c with F := F }
theorem Rp.refr {c : Fr} {A : Am} {σ : L2.St} {H : Hp} (R : Rp c A ρ σ H) : Rp (c.to (vw c.Z A H)) A ρ σ H := ⟨R.len, R.sz, R.inj, R.off, R.live, R.keep, Same.refl _, R.bor, R.sl, R.tz, R.tb⟩
theorem Rp.unfr {c : Fr} {A : Am} {σ : L2.St} {H F : Hp} (R : Rp (c.to F) A ρ σ H) (S : Same c.F F) : Rp c A ρ σ H := ⟨R.len, R.sz, R.inj, R.off, R.live, R.keep, S.trans R.old, R.bor, R.sl, R.tz, R.tb⟩
def Stp (c : Fr) (R : List Sl → Prop) (σ' : L2.St) (H' : Hp) : Prop := ∃ ρ' A', R ρ' ∧ Rp c A' ρ' σ' H' ∧ A' fl = none
theorem DK.body {c : Fr} {F : Hp} {D : Ends} {R : List Sl → Prop} (dk : DK c K D) (S : Same c.F F) : DK (c.to F) { nx := R, ct := R, bk := K.nx, rt := K.rt } { D with nx := Stp (c.to F) R, ct := Stp (c.to F) R, bk := D.nx } :=
  ⟨fun ρ A σ H k R f => ⟨ρ, A, k, R, f⟩, fun r ρ v A σ H k R o => dk.rt r ρ v A σ H k (R.unfr S) o, fun ρ A σ H k R f => dk.nx ρ A σ H k (R.unfr S) f, fun ρ A σ H k R f => ⟨ρ, A, k, R, f⟩⟩
/-- one turn of a loop: its item taken, its suite -/
def Turn (g : TG) (t : TS) (x : Sl) (ρ : List Sl) (R : List Sl → Prop) (K : KK) : Prop := ∃ ρ2, Tg g x ρ ρ2 ∧ Sm t ρ2 { nx := R, ct := R, bk := K.nx, rt := K.rt }
theorem Turn.run {R : List Sl → Prop} (h : Turn g t s ρ R K) {c : Fr} {F : Hp} {A : Am} {σ : L2.St} {H : Hp} {v : V} {D : Ends} (R' : Rp (c.to F) A ρ σ H) (f : A fl = none) (o : ArOk (vw c.Z A H) v s) (S : Same c.F F) (dk : DK c K D) :
    g v σ H fun σ2 H2 => t { D with nx := Stp (c.to F) R, ct := Stp (c.to F) R, bk := D.nx } σ2 H2 := by
  obtain ⟨ρ2, hg, hb⟩ := h
  exact hg (c.to F) A σ H v _ R' f o fun A2 σ2 H2 R2 f2 S2 => hb (c.to F) A2 σ2 H2 _ R2 f2 (dk.body S)
theorem eds_one {c : Fr} {A : Am} {H : Hp} {vs : List V} {W : Hp} (h : DnAll W vs [x]) : ∃ v, vs = [v] ∧ Dn W v x := by
  cases h with
  | cons a b =>
    cases b
    exact ⟨_, rfl, a⟩
theorem sm_forRange {ta : TA} {n : Int} (h : Eds ta ρ [.int n] ρ1) (small : -(2 ^ 62) ≤ n ∧ n < 2 ^ 62) (R : Nat → List Sl → Prop) (h0 : R 0 ρ1)
    (hs : ∀ (j : Nat) ρ', (j : Int) < n → R j ρ' → Turn g t (.d (.int (j : Int))) ρ' (R (j + 1)) K) (hd : ∀ ρ', R n.toNat ρ' → K.nx ρ') : Sm (tFor (iRng1 ta) g t) ρ K := fun c A σ H D R0 f dk =>
  h c A σ H _ R0 f fun vs A1 H1 R1 f1 S1 o1 => by
    obtain ⟨v, rfl, o⟩ := eds_one (c := c) (A := A) (H := H) o1
    obtain rfl := int_v o
    refine ⟨n, rfl, small.1, small.2, for_range (lo := 0) (n := n.toNat) (fun j σ' H' => Stp (c.to (vw c.Z A1 H1)) (R j) σ' H') ⟨ρ1, A1, h0, R1.refr, f1⟩ ?_ ?_⟩
    · rintro j σ' H' hj ⟨ρ', A', r, R', f'⟩
      rw [Int.zero_add]
      exact (hs j ρ' (by omega) r).run R' f' (.int _) R1.old dk
    · rintro σ' H' ⟨ρ', A', r, R', f'⟩
      exact dk.nx _ _ _ _ (hd _ r) (R'.unfr R1.old) f'
theorem sm_forRange2 {ta : TA} {lo n : Int} (h : Eds ta ρ [.int lo, .int n] ρ1) (small : (-(2 ^ 62) ≤ lo ∧ lo < 2 ^ 62) ∧ -(2 ^ 62) ≤ n ∧ n < 2 ^ 62) (R : Nat → List Sl → Prop) (h0 : R 0 ρ1)
    (hs : ∀ (j : Nat) ρ', lo + (j : Int) < n → R j ρ' → Turn g t (.d (.int (lo + (j : Int)))) ρ' (R (j + 1)) K) (hd : ∀ ρ', R (n - lo).toNat ρ' → K.nx ρ') : Sm (tFor (iRng2 ta) g t) ρ K := fun c A σ H D R0 f dk =>
  h c A σ H _ R0 f fun vs A1 H1 R1 f1 S1 o1 => by
    obtain ⟨v, u, rfl, o, o'⟩ : ∃ v u, vs = [v, u] ∧ Dn _ v (.int lo) ∧ Dn _ u (.int n) := by
      cases o1 with
      | cons a b =>
        obtain ⟨u, rfl, o⟩ := eds_one (c := c) (A := A) (H := H) b
        exact ⟨_, _, rfl, a, o⟩
    obtain rfl := int_v o
    obtain rfl := int_v o'
    refine ⟨lo, n, rfl, ⟨small.1.1, small.1.2, small.2.1, small.2.2⟩, for_range (lo := lo) (n := (n - lo).toNat) (fun j σ' H' => Stp (c.to (vw c.Z A1 H1)) (R j) σ' H') ⟨ρ1, A1, h0, R1.refr, f1⟩ ?_ ?_⟩
    · rintro j σ' H' hj ⟨ρ', A', r, R', f'⟩
      exact (hs j ρ' (by omega) r).run R' f' (.int _) R1.old dk
    · rintro σ' H' ⟨ρ', A', r, R', f'⟩
      exact dk.nx _ _ _ _ (hd _ r) (R'.unfr R1.old) f'
theorem sm_forL (h : Ev te ρ (.d (.list xs)) ρ1) (R : Nat → List Sl → Prop) (h0 : R 0 ρ1) (hs : ∀ (j : Nat) x ρ', xs[j]? = some x → R j ρ' → Turn g t (.d x) ρ' (R (j + 1)) K) (hd : ∀ ρ', R xs.length ρ' → K.nx ρ') : Sm (tFor (iList KF te) g t) ρ K := fun c A σ H D R0 f dk =>
  h c A σ H _ R0 f fun v A1 H1 R1 f1 S1 o1 => by
    obtain ⟨a, vs, rfl, e, dx⟩ := lst_v o1
    refine ⟨a, rfl, ⟨_, SqL.of (vw_sub _ _ e)⟩, for_list (xs := vs) (fun j σ' H' => Stp (c.to (vw c.Z A1 H1)) (R j) σ' H') ⟨ρ1, A1, h0, R1.refr, f1⟩ ?_ ?_ ?_⟩
    · rintro j σ' H' _ ⟨ρ', A', r, R', f'⟩
      exact SqL.of (vw_sub _ _ (R'.old _ _ e))
    · rintro j w σ' H' hj ⟨ρ', A', r, R', f'⟩
      obtain ⟨x, hx, dn⟩ := dn_at (DnAll.mono R'.old dx) hj
      exact (hs j x ρ' hx r).run R' f' dn R1.old dk
    · rintro σ' H' ⟨ρ', A', r, R', f'⟩
      rw [dx.length] at r
      exact dk.nx _ _ _ _ (hd _ r) (R'.unfr R1.old) f'
theorem sm_forT (h : Ev te ρ (.d (.tuple xs)) ρ1) (R : Nat → List Sl → Prop) (h0 : R 0 ρ1) (hs : ∀ (j : Nat) x ρ', xs[j]? = some x → R j ρ' → Turn g t (.d x) ρ' (R (j + 1)) K) (hd : ∀ ρ', R xs.length ρ' → K.nx ρ') : Sm (tFor (iTup KF te) g t) ρ K := fun c A σ H D R0 f dk =>
  h c A σ H _ R0 f fun v A1 H1 R1 f1 S1 o1 => by
    obtain ⟨a, vs, rfl, e, dx⟩ := tup_v o1
    refine ⟨a, rfl, ⟨_, SqT.of (vw_sub _ _ e)⟩, for_tup (xs := vs) (fun j σ' H' => Stp (c.to (vw c.Z A1 H1)) (R j) σ' H') ⟨ρ1, A1, h0, R1.refr, f1⟩ ?_ ?_ ?_⟩
    · rintro j σ' H' _ ⟨ρ', A', r, R', f'⟩
      exact SqT.of (vw_sub _ _ (R'.old _ _ e))
    · rintro j w σ' H' hj ⟨ρ', A', r, R', f'⟩
      obtain ⟨x, hx, dn⟩ := dn_at (DnAll.mono R'.old dx) hj
      exact (hs j x ρ' hx r).run R' f' dn R1.old dk
    · rintro σ' H' ⟨ρ', A', r, R', f'⟩
      rw [dx.length] at r
      exact dk.nx _ _ _ _ (hd _ r) (R'.unfr R1.old) f'
theorem sm_while {tt : TT} (W : Nat → List Sl → Prop) (h0 : ∃ m, W m ρ) (hs : ∀ m ρ', W m ρ' → ∃ b ρ2, Et tt ρ' b ρ2 ∧ (b = true → Sm t ρ2 { nx := fun ρ3 => ∃ m', m' < m ∧ W m' ρ3, ct := fun ρ3 => ∃ m', m' < m ∧ W m' ρ3, bk := K.nx, rt := K.rt }) ∧ (b = false → K.nx ρ2)) : Sm (tWhile tt t) ρ K := fun c A σ H D R f dk => by
  obtain ⟨m0, h0⟩ := h0
  refine ⟨fun m σ' H' => Stp c (W m) σ' H', ⟨m0, ρ, A, h0, R, f⟩, ?_⟩
  rintro m σ' H' ⟨ρ', A', r, R', f'⟩
  obtain ⟨b, ρ2, ht, h1, h2⟩ := hs m ρ' r
  refine ht c A' σ' H' _ R' f' fun A2 H2 R2 f2 S2 => ?_
  cases b with
  | true =>
    refine ⟨fun σ3 H3 => ∃ m', m' < m ∧ Stp c (W m') σ3 H3, fun σ3 H3 z => z, h1 rfl c A2 σ' H2 _ R2 f2 ⟨?_, dk.rt, dk.nx, ?_⟩⟩
    · rintro ρ3 A3 σ3 H3 ⟨m', lt, w⟩ R3 f3
      exact ⟨m', lt, ρ3, A3, w, R3, f3⟩
    · rintro ρ3 A3 σ3 H3 ⟨m', lt, w⟩ R3 f3
      exact ⟨m', lt, ρ3, A3, w, R3, f3⟩
  | false => exact dk.nx _ _ _ _ (h2 rfl) R2 f2
end
end OW
set_option Elab.async false
set_option linter.unusedVariables false
set_option linter.unusedSectionVars false
set_option maxRecDepth 100000
set_option maxHeartbeats 1000000
namespace OW
open PySem PySem.Spec PyProof.Rows L2 KA
variable [Tbs]
/-! ### defs -/
section
variable {P : Program} {w : World} {K : PySem.W.Frag} {mg : Str → Option Value} {base : Heap} {c : Fr} {A : Am} {ρ ρ' : List Sl} {σ : L2.St} {H H' : Hp}
theorem arAll_at {W : Hp} : ∀ {vs : List V} {ss : List Sl} {i : Nat} {s : Sl}, ArAll W vs ss → ss[i]? = some s → ∃ v, vs[i]? = some v ∧ ArOk W v s
  | v :: vs, t :: ss, 0, s, h, e => by
    cases e
    exact ⟨v, rfl, h.1⟩
  | v :: vs, t :: ss, i + 1, s, h, e => arAll_at (i := i) h.2 e
  | [], [], _, _, _, e => by cases e
  | [], _ :: _, _, _, h, _ => h.elim
  | _ :: _, [], _, _, h, _ => h.elim
theorem start_len {N : List Str} {vs : List V} {n : Nat} (h : vs.length = n) : (start N vs).length = n + (N.length - n) := by
  unfold L2.start
  rw [List.length_append, List.length_map, List.length_replicate, h]
theorem start_arg {N : List Str} {vs : List V} {i : Nat} {v : V} (h : vs[i]? = some v) : (start N vs)[i]? = some (some v) := by
  unfold L2.start
  have lt := (List.getElem?_eq_some_iff.mp h).1
  rw [List.getElem?_append_left (by rw [List.length_map]; exact lt), List.getElem?_map, h]
  rfl
theorem start_un {N : List Str} {vs : List V} {i : Nat} (h : vs.length ≤ i) (h' : i < vs.length + (N.length - vs.length)) : (start N vs)[i]? = some none := by
  unfold L2.start
  rw [List.getElem?_append_right (by rw [List.length_map]; exact h), List.getElem?_replicate, List.length_map, if_pos (by omega)]
theorem rp_start {N : List Str} {vs : List V} {as : List Sl} {n : Nat} {Z : Addr → Prop} (hN : n + N.length < fl) (hZ : ZOk Z H) (ha : ArAll (hz Z H) vs as) (hl : as.length = n) :
    Rp ⟨Z, none, H, hz Z H⟩ (fun _ => none) (as ++ uns (N.length - n)) (start N vs) H where
  len := by
    have := ha.length
    rw [start_len (this.trans hl), List.length_append, hl, uns, List.length_replicate]
  sz := by
    rw [List.length_append, hl, uns, List.length_replicate]
    omega
  inj i j a e := by cases e
  off i a e := by cases e
  live i a e := by cases e
  keep a z _ := ⟨hZ.there a z, rfl⟩
  old := Same.refl _
  tz := hZ.tz
  tb := hZ.tb
  bor p e := by cases e
  sl i s e := by
    have len := ha.length
    by_cases q : i < as.length
    · rw [List.getElem?_append_left q] at e
      obtain ⟨v, e1, o⟩ := arAll_at ha e
      rw [start_arg e1]
      exact o.sl
    · rw [List.getElem?_append_right (by omega), uns, List.getElem?_replicate] at e
      split at e
      · rename_i lt
        cases e
        rw [start_un (by omega) (by omega)]
        exact ⟨rfl, rfl⟩
      · cases e
theorem rv_out {r : Rv} {v : V} {Z : Addr → Prop} (hF : ∀ b o, H b = some o → ¬ Z b → (c.B ≠ some b) → vw c.Z A H' b = some o) (hZ : ∀ b, Z b → c.Z b ∨ ∃ i, i ≠ fl ∧ A i = some b) (hinj : ∀ i j a, A i = some a → A j = some a → i = j) (hoff : ∀ i a, A i = some a → ¬ c.Z a) (hB : ∀ p, c.B = some p → A 0 = some p) (o : RvAt c A H' v r) : RvOk Z H H' v r := by
  have up : Same (vw c.Z A H') (hz Z H') := fun b o e => by
    obtain ⟨h1, h2, h3⟩ := vw_some e
    refine hz_mk (fun z => ?_) h3
    rcases hZ b z with z | ⟨i, _, z⟩
    · exact h1 z
    · exact h2 i z
  cases r with
  | d x => exact Dn.mono up o.2
  | p P => exact P.mono up o.2
  | l xs =>
    obtain ⟨a, vs, f, rfl, e, dx⟩ := o
    refine ⟨a, vs, rfl, ?_, e, DnAll.mono (fun b o z => ?_) dx⟩
    · cases q : H a with
      | none => rfl
      | some u =>
        have nZ : ¬ Z a := fun z => by
          rcases hZ a z with z | ⟨i, n, z⟩
          · exact hoff _ _ f z
          · exact n (hinj _ _ _ z f)
        have nB : c.B ≠ some a := fun z => by
          have := hinj _ _ _ (hB _ z) f
          exact absurd this (by decide)
        exact absurd f ((vw_some (hF a u q nZ nB)).2.1 fl)
    · rw [hid_ne]
      · exact up _ _ z
      · intro q
        exact (vw_some z).2.1 fl (by rw [q]; exact f)
theorem rp_aft {Z : Addr → Prop} (R : Rp ⟨Z, none, H, hz Z H⟩ A ρ σ H') : Aft Z H H' := ⟨fun b o e t => by
    by_cases z : Z b
    · rw [(R.keep b z t).2]
      exact e
    · exact (vw_some (R.old _ _ (hz_mk z e))).2.2, R.tb.mono (fun b o e => hz_mk (vw_some e).1 (vw_some e).2.2) fun _ _ => rfl⟩
theorem fn_d {x qual : Str} {st : Stmt} {f : Addr} {fd : FuncData} {N ps : List Str} {k n : Nat} {T : List Sl → (Rv → Prop) → Prop} (F : Fun K x qual st f fd) (S : FnScope N ps (defScope st)) (hn : ps.length = n := by rfl) (hN : n + N.length < fl := by decide)
    (body : ∀ (cdv : Value) (A : Around) (outer : List Env) (s : Shared) (H : Hp) (E : XK), Room k (A.deeper (envOfC qual (defScope st) s.heap.objs.size f cdv)) →
      ∃ t, PSs (cxOf CX0 P w K mg base N qual (defScope st) f cdv A outer s H E).nox (defBody st) t ∧ ∀ as Kr, as.length = n → T as Kr → Sm t (as ++ uns (N.length - n)) { nx := fun _ => Kr (.d .none), rt := fun r _ => Kr r }) :
    FnOk P w K mg base CX0 (k + 1) f fd ps (spD n T) := by
  refine F.ok S (fun vs H Q E h => ?_) (fun cdv A outer s H vs Q E hr h => ?_)
  · obtain ⟨Z, as, Kr, hZ, ha, hl, _⟩ := h
    rw [ha.length, hl, hn]
  · obtain ⟨Z, as, Kr, hZ, ha, hl, hT, go⟩ := h
    obtain ⟨t, ht, hb⟩ := body cdv A outer s H E hr
    refine ⟨t, ht, hb as Kr hl hT ⟨Z, none, H, hz Z H⟩ _ _ H _ (rp_start hN hZ ha hl) rfl ?_⟩
    have same : ∀ {A' : Am} {ρ' : List Sl} {σ' : L2.St} {H' : Hp}, Rp ⟨Z, none, H, hz Z H⟩ A' ρ' σ' H' → Aft Z H H' := rp_aft
    refine ⟨fun ρ' A' σ' H' hk R f => go _ _ _ hk (same R) .non, fun r ρ' v A' σ' H' hk R o => go r v H' hk (same R) ?_, fun _ _ _ _ h => h.elim, fun _ _ _ _ h => h.elim⟩
    exact rv_out (fun b o e nz _ => R.old _ _ (hz_mk nz e)) (fun b z => Or.inl z) R.inj R.off R.bor o
theorem rp_startB {N : List Str} {ws cs : List V} {ct : List PyData} {as : List Sl} {n : Nat} {Z : Addr → Prop} {p : Addr} (hN : n + 1 + N.length < fl) (hp : Z p) (hZ : ZOk Z H) (ep : H p = some (.lst cs)) (dc : DnAll (hz Z H) cs ct) (ha : ArAll (hz Z H) ws as) (hl : as.length = n) :
    Rp ⟨fun a => Z a ∧ a ≠ p, some p, H, hz Z H⟩ (aset (fun _ => none) 0 (some p)) (.l ct :: (as ++ uns (N.length - (n + 1)))) (start N (.ref p :: ws)) H := by
  have hv : vw (fun a => Z a ∧ a ≠ p) (aset (fun _ => none) 0 (some p)) H = hz Z H := by
    funext b
    by_cases z : Z b
    · have e2 : hz Z H b = none := by unfold hz vw; rw [if_pos (Or.inl z)]
      rw [e2]
      unfold vw
      rw [if_pos]
      by_cases q : b = p
      · exact Or.inr ⟨0, by rw [q]; exact aset_at⟩
      · exact Or.inl ⟨z, q⟩
    · have e2 : hz Z H b = H b := by
        unfold hz vw
        rw [if_neg]
        rintro (q | ⟨i, q⟩)
        · exact z q
        · cases q
      rw [e2]
      unfold vw
      rw [if_neg]
      rintro (q | ⟨i, q⟩)
      · exact z q.1
      · by_cases i0 : i = 0
        · rw [i0, aset_at] at q
          cases q
          exact z hp
        · rw [aset_ne i0] at q
          cases q
  have one : ∀ {i : Nat} {a : Addr}, aset (fun _ => none) 0 (some p) i = some a → i = 0 ∧ a = p := fun {i a} q => by
    by_cases i0 : i = 0
    · rw [i0, aset_at] at q
      exact ⟨i0, (Option.some.inj q).symm⟩
    · rw [aset_ne i0] at q
      cases q
  have len := ha.length
  have tp : ∀ b, tabA b → b ≠ p := fun b t q => by
    obtain ⟨ps, g⟩ := hZ.tb.at_ t
    rw [q, ep] at g
    cases g
  refine ⟨?_, ?_, ?_, ?_, ?_, ?_, by rw [hv]; exact Same.refl _, ?_, ?_, fun b t => ⟨hZ.tz b t, tp b t⟩, by rw [hv]; exact hZ.tb⟩
  · rw [start_len (n := n + 1) (by rw [List.length_cons]; omega), List.length_cons, List.length_append, hl, uns, List.length_replicate]
    omega
  · rw [List.length_cons, List.length_append, hl, uns, List.length_replicate]
    omega
  · intro i j a e e'
    rw [(one e).1, (one e').1]
  · intro i a e z
    exact z.2 (one e).2
  · intro i a e
    rw [(one e).2, ep]
    simp
  · intro a z _
    exact ⟨hZ.there a z.1, rfl⟩
  · intro q e
    rw [aset_at]
    exact e
  · intro i s e
    rw [hv]
    cases i with
    | zero =>
      cases e
      exact ⟨p, cs, aset_at, start_arg rfl, ep, dc⟩
    | succ i =>
      rw [aset_ne (Nat.succ_ne_zero i)]
      rw [List.getElem?_cons_succ] at e
      by_cases q : i < as.length
      · rw [List.getElem?_append_left q] at e
        obtain ⟨v, e1, o⟩ := arAll_at ha e
        rw [start_arg (v := v) (by rw [List.getElem?_cons_succ]; exact e1)]
        exact o.sl
      · rw [List.getElem?_append_right (by omega), uns, List.getElem?_replicate] at e
        split at e
        · rename_i lt
          cases e
          rw [start_un (by rw [List.length_cons]; omega) (by rw [List.length_cons]; omega)]
          exact ⟨rfl, rfl⟩
        · cases e
theorem fn_b {x qual : Str} {st : Stmt} {f : Addr} {fd : FuncData} {N ps : List Str} {k n : Nat} {T : List PyData → List Sl → (Rv → List PyData → Prop) → Prop} (F : Fun K x qual st f fd) (S : FnScope N ps (defScope st)) (hn : ps.length = n + 1 := by rfl) (hN : n + 1 + N.length < fl := by decide)
    (body : ∀ (cdv : Value) (A : Around) (outer : List Env) (s : Shared) (H : Hp) (E : XK), Room k (A.deeper (envOfC qual (defScope st) s.heap.objs.size f cdv)) →
      ∃ t, PSs (cxOf CX0 P w K mg base N qual (defScope st) f cdv A outer s H E).nox (defBody st) t ∧ ∀ ct as Kr, as.length = n → T ct as Kr →
        Sm t (.l ct :: (as ++ uns (N.length - (n + 1)))) { nx := fun ρ => ∃ c', ρ[0]? = some (.l c') ∧ Kr (.d .none) c', rt := fun r ρ => ∃ c', ρ[0]? = some (.l c') ∧ Kr r c' }) :
    FnOk P w K mg base CX0 (k + 1) f fd ps (spB n T) := by
  refine F.ok S (fun vs H Q E h => ?_) (fun cdv A outer s H vs Q E hr h => ?_)
  · obtain ⟨Z, p, cs, ct, ws, as, Kr, rfl, hp, hZ, ep, dc, ha, hl, _⟩ := h
    rw [List.length_cons, ha.length, hl, hn]
  · obtain ⟨Z, p, cs, ct, ws, as, Kr, rfl, hp, hZ, ep, dc, ha, hl, hT, go⟩ := h
    obtain ⟨t, ht, hb⟩ := body cdv A outer s H E hr
    refine ⟨t, ht, hb ct as Kr hl hT ⟨fun a => Z a ∧ a ≠ p, some p, H, hz Z H⟩ _ _ H _ (rp_startB hN hp hZ ep dc ha hl) rfl ?_⟩
    have fin : ∀ {A' : Am} {ρ' : List Sl} {σ' : L2.St} {H' : Hp} {c' : List PyData} {r : Rv} {v : V}, Rp ⟨fun a => Z a ∧ a ≠ p, some p, H, hz Z H⟩ A' ρ' σ' H' → ρ'[0]? = some (.l c') → Kr r c' → RvAt ⟨fun a => Z a ∧ a ≠ p, some p, H, hz Z H⟩ A' H' v r → Q v H' := by
      intro A' ρ' σ' H' c' r v R h0 hk o
      obtain ⟨a, cs', e1, e2, e3, dc'⟩ := R.sl 0 _ h0
      have := R.bor p rfl
      rw [e1] at this
      cases this
      have up : Same (vw (fun b => Z b ∧ b ≠ p) A' H') (hz Z H') := fun b u e => by
        obtain ⟨h1, h2, h3⟩ := vw_some e
        refine hz_mk (fun z => h1 ⟨z, fun q => h2 0 (by rw [q]; exact e1)⟩) h3
      refine go r c' cs' v H' hk e3 (DnAll.mono up dc') ⟨fun b z n t => (R.keep b ⟨z, n⟩ t).2, R.tb.mono up fun _ _ => rfl⟩ (fun b u e => up _ _ (R.old _ _ e)) ?_
      refine rv_out (fun b u e nz _ => R.old _ _ (hz_mk nz e)) (fun b z => ?_) R.inj R.off R.bor o
      by_cases q : b = p
      · exact Or.inr ⟨0, by decide, by rw [q]; exact e1⟩
      · exact Or.inl ⟨z, q⟩
    refine ⟨fun ρ' A' σ' H' hk R f => ?_, fun r ρ' v A' σ' H' hk R o => ?_, fun _ _ _ _ h => h.elim, fun _ _ _ _ h => h.elim⟩
    · obtain ⟨c', h0, hk⟩ := hk
      exact fin R h0 hk ⟨f, .non⟩
    · obtain ⟨c', h0, hk⟩ := hk
      exact fin R h0 hk o
end
end OW
set_option Elab.async false
set_option linter.unusedVariables false
set_option linter.unusedSectionVars false
set_option maxRecDepth 100000
set_option maxHeartbeats 1000000
namespace OW
open PySem PySem.Spec PyProof.Rows L2 KA
variable [Tbs]
/-! ### walks -/
def Jk (W : Hp) (J : It) (xs : List PyData) : Prop :=
  (∀ (i : Nat) x H, xs[i]? = some x → Same W H → J.go i H ∧ ∀ v H', J.yld i H v H' → Same H H' ∧ ∀ W', Same W W' → (∀ b o, H b = none → H' b = some o → W' b = some o) → Dn W' v x) ∧ ∀ H, Same W H → J.stop xs.length H
theorem Jk.mono {W W' : Hp} {J : It} {xs : List PyData} (h : Jk W J xs) (S : Same W W') : Jk W' J xs := ⟨fun i x H e s => let ⟨a, b⟩ := h.1 i x H e (S.trans s); ⟨a, fun v H' y => let ⟨p, q⟩ := b v H' y; ⟨p, fun W2 s2 k => q W2 (S.trans s2) k⟩⟩, fun H s => h.2 H (S.trans s)⟩
def Fi (wi : TI) (ρ : List Sl) (xs : List PyData) (ρ1 : List Sl) : Prop := ∀ (c : Fr) (A : Am) (σ : L2.St) (H : Hp) (R : It → Hp → Prop), Rp c A ρ σ H → A fl = none →
  (∀ J A' H', Rp c A' ρ1 σ H' → A' fl = none → Same (vw c.Z A H) (vw c.Z A' H') → Jk (vw c.Z A' H') J xs → R J H') → wi σ H R
section
variable {ρ ρ' ρ1 ρ2 : List Sl} {te ta tb : TE} {s s' : Sl} {x y : PyData} {i : Nat} {tr : TA} {xs ys : List PyData} {ss : List Sl} {t u : TS} {K : KK} {g : TG} {gs : TGs} {KF : PySem.W.Frag} {wi : TI}
theorem sm_for (h : Fi wi ρ xs ρ1) (R : Nat → List Sl → Prop) (h0 : R 0 ρ1) (hs : ∀ (j : Nat) x ρ', xs[j]? = some x → R j ρ' → Turn g t (.d x) ρ' (R (j + 1)) K) (hd : ∀ ρ', R xs.length ρ' → K.nx ρ') : Sm (tFor wi g t) ρ K := fun c A σ H D R0 f dk =>
  h c A σ H _ R0 f fun J A1 H1 R1 f1 S1 jk => by
    refine ⟨fun j m σ' H' => m = xs.length - j ∧ j ≤ xs.length ∧ Stp (c.to (vw c.Z A1 H1)) (R j) σ' H', ⟨xs.length, by simp, Nat.zero_le _, ρ1, A1, h0, R1.refr, f1⟩, ?_⟩
    rintro j m σ' H' ⟨rfl, hj, ρ', A', r, R', f'⟩
    have S' : Same (vw c.Z A1 H1) H' := R'.old.trans vw_sub
    by_cases lt : j < xs.length
    · have e := List.getElem?_eq_getElem lt
      obtain ⟨go, yl⟩ := jk.1 j _ H' e S'
      refine Or.inr ⟨go, Stp (c.to (vw c.Z A1 H1)) (R (j + 1)), fun σ2 H2 p => ⟨xs.length - (j + 1), by omega, rfl, lt, p⟩, fun v H2 y => ?_⟩
      obtain ⟨S2, dn⟩ := yl v H2 y
      exact (hs j _ ρ' e r).run (R'.up S2) f' (dn _ (R'.old.trans (vw_up S2)) fun b o n e => new_view R' n e) R1.old dk
    · have e : j = xs.length := by omega
      subst e
      exact Or.inl ⟨jk.2 H' S', dk.nx _ _ _ _ (hd _ r) (R'.unfr R1.old) f'⟩
theorem fi_list (h : Ev te ρ (.d (.list xs)) ρ1) : Fi (iList KF te) ρ xs ρ1 := fun c A σ H R R0 f k => h c A σ H _ R0 f fun v A1 H1 R1 f1 S1 o1 => by
  obtain ⟨a, vs, rfl, e, dx⟩ := lst_v o1
  refine ⟨a, rfl, ⟨_, SqL.of (vw_sub _ _ e)⟩, k _ _ _ R1 f1 S1 ⟨fun i x H2 ex S => ?_, fun H2 S => ?_⟩⟩
  · have lt : i < vs.length := by rw [dx.length]; exact (List.getElem?_eq_some_iff.mp ex).1
    refine ⟨⟨vs, vs[i], SqL.of (S _ _ e), List.getElem?_eq_getElem lt⟩, fun v H3 ⟨q1, q2⟩ => ?_⟩
    subst q1
    refine ⟨Same.refl _, fun W' S' _ => ?_⟩
    obtain ⟨x', e', dn⟩ := dn_at dx (q2 vs (SqL.of (S _ _ e)))
    rw [ex] at e'
    cases e'
    exact Dn.mono S' dn
  · exact ⟨vs, SqL.of (S _ _ e), by rw [dx.length]; exact Nat.le_refl _⟩
theorem fi_tup (h : Ev te ρ (.d (.tuple xs)) ρ1) : Fi (iTup KF te) ρ xs ρ1 := fun c A σ H R R0 f k => h c A σ H _ R0 f fun v A1 H1 R1 f1 S1 o1 => by
  obtain ⟨a, vs, rfl, e, dx⟩ := tup_v o1
  refine ⟨a, rfl, ⟨_, SqT.of (vw_sub _ _ e)⟩, k _ _ _ R1 f1 S1 ⟨fun i x H2 ex S => ?_, fun H2 S => ?_⟩⟩
  · have lt : i < vs.length := by rw [dx.length]; exact (List.getElem?_eq_some_iff.mp ex).1
    refine ⟨⟨vs, vs[i], SqT.of (S _ _ e), List.getElem?_eq_getElem lt⟩, fun v H3 ⟨q1, q2⟩ => ?_⟩
    subst q1
    refine ⟨Same.refl _, fun W' S' _ => ?_⟩
    obtain ⟨x', e', dn⟩ := dn_at dx (q2 vs (SqT.of (S _ _ e)))
    rw [ex] at e'
    cases e'
    exact Dn.mono S' dn
  · exact ⟨vs, SqT.of (S _ _ e), by rw [dx.length]; exact Nat.le_refl _⟩
def rngD (n : Nat) : List PyData := (List.range n).map fun i : Nat => .int (i : Int)
theorem rngD_at {n i : Nat} (h : (rngD n)[i]? = some x) : i < n ∧ x = .int (i : Int) := by
  unfold rngD at h
  rw [List.getElem?_map] at h
  by_cases q : i < n
  · rw [List.getElem?_range q] at h
    exact ⟨q, (Option.some.inj h).symm⟩
  · rw [List.getElem?_eq_none (by rw [List.length_range]; omega)] at h
    cases h
theorem rngD_len (n : Nat) : (rngD n).length = n := by unfold rngD; rw [List.length_map, List.length_range]
theorem dn_one {W : Hp} {vs : List V} (h : DnAll W vs [x]) : ∃ v, vs = [v] ∧ Dn W v x := by
  cases h with
  | cons a b =>
    cases b
    exact ⟨_, rfl, a⟩
theorem dn_two {W : Hp} {vs : List V} (h : DnAll W vs [x, y]) : ∃ v u, vs = [v, u] ∧ Dn W v x ∧ Dn W u y := by
  cases h with
  | cons a b =>
    obtain ⟨u, rfl, o⟩ := dn_one b
    exact ⟨_, _, rfl, a, o⟩
theorem fi_rng1 {n : Int} (h : Eds tr ρ [.int n] ρ1) (small : -(2 ^ 62) ≤ n ∧ n < 2 ^ 62) : Fi (iRng1 tr) ρ (rngD n.toNat) ρ1 := fun c A σ H R R0 f k => h c A σ H _ R0 f fun vs A1 H1 R1 f1 S1 o1 => by
  obtain ⟨v, rfl, o⟩ := dn_one o1
  obtain rfl := int_v o
  refine ⟨n, rfl, small.1, small.2, k _ _ _ R1 f1 S1 ⟨fun i x H2 ex S => ?_, fun H2 S => ?_⟩⟩
  · obtain ⟨lt, rfl⟩ := rngD_at ex
    refine ⟨lt, fun v H3 ⟨q1, q2⟩ => ?_⟩
    subst q1
    subst q2
    rw [Int.zero_add]
    exact ⟨Same.refl _, fun W' _ _ => .int _⟩
  · rw [rngD_len]
    exact Nat.le_refl n.toNat
theorem fi_rng2 {lo n : Int} (h : Eds tr ρ [.int lo, .int n] ρ1) (small : (-(2 ^ 62) ≤ lo ∧ lo < 2 ^ 62) ∧ -(2 ^ 62) ≤ n ∧ n < 2 ^ 62) : Fi (iRng2 tr) ρ ((List.range (n - lo).toNat).map fun i : Nat => .int (lo + (i : Int))) ρ1 := fun c A σ H R R0 f k => h c A σ H _ R0 f fun vs A1 H1 R1 f1 S1 o1 => by
  obtain ⟨v, u, rfl, o, o'⟩ := dn_two o1
  obtain rfl := int_v o
  obtain rfl := int_v o'
  refine ⟨lo, n, rfl, ⟨small.1.1, small.1.2, small.2.1, small.2.2⟩, k _ _ _ R1 f1 S1 ⟨fun i x H2 ex S => ?_, fun H2 S => ?_⟩⟩
  · rw [List.getElem?_map] at ex
    by_cases q : i < (n - lo).toNat
    · rw [List.getElem?_range q] at ex
      obtain rfl := Option.some.inj ex
      refine ⟨q, fun v H3 ⟨q1, q2⟩ => ?_⟩
      subst q1
      subst q2
      exact ⟨Same.refl _, fun W' _ _ => .int _⟩
    · rw [List.getElem?_eq_none (by rw [List.length_range]; omega)] at ex
      cases ex
  · rw [List.length_map, List.length_range]
    exact Nat.le_refl (n - lo).toNat
/-- reversed(range(n)) -/
theorem fi_revR {n : Int} (h : Ev te ρ (.d (.int n)) ρ1) (small : -(2 ^ 62) ≤ n ∧ n < 2 ^ 62) : Fi (iRevR (tRg1 te)) ρ (rngD n.toNat).reverse ρ1 := fun c A σ H R R0 f k => h c A σ H _ R0 f fun v A1 H1 R1 f1 S1 o1 => by
  obtain rfl := int_v o1
  refine ⟨n, rfl, by decide, by decide, small.1, small.2, k _ _ _ R1 f1 S1 ⟨fun i x H2 ex S => ?_, fun H2 S => ?_⟩⟩
  · have lt : i < n.toNat := by
      have := (List.getElem?_eq_some_iff.mp ex).1
      rw [List.length_reverse, rngD_len] at this
      exact this
    rw [List.getElem?_reverse (by rw [rngD_len]; exact lt), rngD_len] at ex
    obtain ⟨_, rfl⟩ := rngD_at ex
    refine ⟨by rw [Int.sub_zero]; exact lt, fun v H3 ⟨q1, q2⟩ => ?_⟩
    subst q1
    subst q2
    refine ⟨Same.refl _, fun W' _ _ => ?_⟩
    have e : (0 : Int) + (((n - 0).toNat : Nat) : Int) - 1 + ((i : Nat) : Int) * (-1) = ((n.toNat - 1 - i : Nat) : Int) := by
      rw [Int.sub_zero]
      omega
    show Dn W' (V.int ((0 : Int) + (((n - 0).toNat : Nat) : Int) - 1 + ((i : Nat) : Int) * (-1))) _
    rw [e]
    exact .int _
  · rw [List.length_reverse, rngD_len, Int.sub_zero]
    exact Nat.le_refl n.toNat
theorem fi_revA_l (h : Ev te ρ (.d (.list xs)) ρ1) : Fi (RT.iRevA KF te) ρ xs.reverse ρ1 := fun c A σ H R R0 f k => h c A σ H _ R0 f fun v A1 H1 R1 f1 S1 o1 => by
  obtain ⟨a, vs, rfl, e, dx⟩ := lst_v o1
  refine ⟨a, vs, rfl, Or.inl ⟨SqL.of (vw_sub _ _ e), k _ _ _ R1 f1 S1 ⟨fun i x H2 ex S => ?_, fun H2 S => ?_⟩⟩⟩
  · have lt : i < vs.length := by rw [dx.length, ← List.length_reverse]; exact (List.getElem?_eq_some_iff.mp ex).1
    refine ⟨⟨lt, vs, vs[vs.length - 1 - i], SqL.of (S _ _ e), List.getElem?_eq_getElem (by omega)⟩, fun v H3 ⟨q1, q2⟩ => ?_⟩
    subst q1
    refine ⟨Same.refl _, fun W' S' _ => ?_⟩
    obtain ⟨x', e', dn⟩ := dn_at dx (q2 vs (SqL.of (S _ _ e)))
    rw [List.getElem?_reverse (by rw [← dx.length]; exact lt), ← dx.length] at ex
    rw [ex] at e'
    cases e'
    exact Dn.mono S' dn
  · rw [List.length_reverse]
    show vs.length ≤ xs.length
    rw [dx.length]
    exact Nat.le_refl _
theorem fi_revA_t (h : Ev te ρ (.d (.tuple xs)) ρ1) : Fi (RT.iRevA KF te) ρ xs.reverse ρ1 := fun c A σ H R R0 f k => h c A σ H _ R0 f fun v A1 H1 R1 f1 S1 o1 => by
  obtain ⟨a, vs, rfl, e, dx⟩ := tup_v o1
  refine ⟨a, vs, rfl, Or.inr ⟨SqT.of (vw_sub _ _ e), k _ _ _ R1 f1 S1 ⟨fun i x H2 ex S => ?_, fun H2 S => ?_⟩⟩⟩
  · have lt : i < vs.length := by rw [dx.length, ← List.length_reverse]; exact (List.getElem?_eq_some_iff.mp ex).1
    refine ⟨⟨lt, vs, vs[vs.length - 1 - i], SqT.of (S _ _ e), List.getElem?_eq_getElem (by omega)⟩, fun v H3 ⟨q1, q2⟩ => ?_⟩
    subst q1
    refine ⟨Same.refl _, fun W' S' _ => ?_⟩
    obtain ⟨x', e', dn⟩ := dn_at dx (q2 vs (SqT.of (S _ _ e)))
    rw [List.getElem?_reverse (by rw [← dx.length]; exact lt), ← dx.length] at ex
    rw [ex] at e'
    cases e'
    exact Dn.mono S' dn
  · rw [List.length_reverse]
    show vs.length ≤ xs.length
    rw [dx.length]
    exact Nat.le_refl _
def enumD : Nat → List PyData → List PyData
  | _, [] => []
  | n, x :: xs => .tuple [.int (n : Int), x] :: enumD (n + 1) xs
theorem enumD_len : ∀ (n : Nat) (xs : List PyData), (enumD n xs).length = xs.length
  | _, [] => rfl
  | n, _ :: xs => congrArg (· + 1) (enumD_len (n + 1) xs)
theorem enumD_at : ∀ {n i : Nat} {xs : List PyData} {y : PyData}, (enumD n xs)[i]? = some y → ∃ x, xs[i]? = some x ∧ y = .tuple [.int ((n + i : Nat) : Int), x]
  | n, 0, x :: xs, y, h => by
    cases h
    exact ⟨x, rfl, rfl⟩
  | n, i + 1, x :: xs, y, h => by
    obtain ⟨z, e1, e2⟩ := enumD_at (n := n + 1) (i := i) (xs := xs) h
    refine ⟨z, e1, ?_⟩
    rw [e2, show n + 1 + i = n + (i + 1) by omega]
  | _, _, [], _, h => by cases h
theorem fi_enum (h : Eds tr ρ [.list xs] ρ1) : Fi (iEnum KF tr) ρ (enumD 0 xs) ρ1 := fun c A σ H R R0 f k => h c A σ H _ R0 f fun vs A1 H1 R1 f1 S1 o1 => by
  obtain ⟨v, rfl, o⟩ := dn_one o1
  obtain ⟨a, vs, rfl, e, dx⟩ := lst_v o
  refine ⟨a, vs, rfl, SqL.of (vw_sub _ _ e), k _ _ _ R1 f1 S1 ⟨fun i x H2 ex S => ?_, fun H2 S => ?_⟩⟩
  · have lt : i < vs.length := by rw [dx.length, ← enumD_len 0 xs]; exact (List.getElem?_eq_some_iff.mp ex).1
    refine ⟨⟨vs, vs[i], SqL.of (S _ _ e), List.getElem?_eq_getElem lt⟩, fun v H3 ⟨T, y, q1, q2, q3, q4⟩ => ?_⟩
    subst q1
    subst q3
    refine ⟨Same.new q2, fun W' S' nw => ?_⟩
    obtain ⟨x', e', dn⟩ := dn_at dx (q4 vs (SqL.of (S _ _ e)))
    obtain ⟨x2, e2, rfl⟩ := enumD_at ex
    rw [e2] at e'
    cases e'
    rw [Nat.zero_add]
    exact .tup (nw _ _ q2 upd_same) (.cons (.int _) (.one (Dn.mono S' dn)))
  · exact ⟨vs, SqL.of (S _ _ e), by rw [dx.length, enumD_len]; exact Nat.le_refl _⟩
def zipD (xs ys : List PyData) : List PyData := (xs.zip ys).map fun p => .tuple [p.1, p.2]
theorem zipD_at {i : Nat} {z : PyData} (h : (zipD xs ys)[i]? = some z) : ∃ x y, xs[i]? = some x ∧ ys[i]? = some y ∧ z = .tuple [x, y] := by
  unfold zipD at h
  rw [List.getElem?_map] at h
  cases e : (xs.zip ys)[i]? with
  | none => rw [e] at h; cases h
  | some p =>
    rw [e] at h
    obtain ⟨e1, e2⟩ := List.getElem?_zip_eq_some.mp e
    exact ⟨_, _, e1, e2, (Option.some.inj h).symm⟩
theorem zipD_len : (zipD xs ys).length = min xs.length ys.length := by unfold zipD; rw [List.length_map, List.length_zip]
theorem fi_zip (h : Eds tr ρ [.list xs, .list ys] ρ1) : Fi (iZip KF tr) ρ (zipD xs ys) ρ1 := fun c A σ H R R0 f k => h c A σ H _ R0 f fun vs A1 H1 R1 f1 S1 o1 => by
  obtain ⟨v, u, rfl, o, o'⟩ := dn_two o1
  obtain ⟨a, vs, rfl, e, dx⟩ := lst_v o
  obtain ⟨b, us, rfl, e', dy⟩ := lst_v o'
  refine ⟨a, b, vs, us, rfl, SqL.of (vw_sub _ _ e), SqL.of (vw_sub _ _ e'), k _ _ _ R1 f1 S1 ⟨fun i x H2 ex S => ?_, fun H2 S => ?_⟩⟩
  · obtain ⟨x1, y1, ex1, ey1, rfl⟩ := zipD_at ex
    have lt : i < vs.length := by rw [dx.length]; exact (List.getElem?_eq_some_iff.mp ex1).1
    have lt' : i < us.length := by rw [dy.length]; exact (List.getElem?_eq_some_iff.mp ey1).1
    refine ⟨⟨vs, us, vs[i], us[i], SqL.of (S _ _ e), SqL.of (S _ _ e'), List.getElem?_eq_getElem lt, List.getElem?_eq_getElem lt'⟩, fun v H3 ⟨T, x, y, q1, q2, q3, q4, q5⟩ => ?_⟩
    subst q1
    subst q3
    refine ⟨Same.new q2, fun W' S' nw => ?_⟩
    obtain ⟨x', e1, d1⟩ := dn_at dx (q4 vs (SqL.of (S _ _ e)))
    obtain ⟨y', e2, d2⟩ := dn_at dy (q5 us (SqL.of (S _ _ e')))
    rw [ex1] at e1
    rw [ey1] at e2
    cases e1
    cases e2
    exact .tup (nw _ _ q2 upd_same) (.cons (Dn.mono S' d1) (.one (Dn.mono S' d2)))
  · refine ⟨vs, us, SqL.of (S _ _ e), SqL.of (S _ _ e'), ?_⟩
    rw [dx.length, dy.length, zipD_len]
    omega
theorem fi_str {z : Str} (h : Ev te ρ (.d (.str z)) ρ1) : Fi (iStr te) ρ (z.cps.toList.map fun c => .str ⟨#[c]⟩) ρ1 := fun c A σ H R R0 f k => h c A σ H _ R0 f fun v A1 H1 R1 f1 S1 o1 => by
  obtain rfl := str_v o1
  refine ⟨z, rfl, k _ _ _ R1 f1 S1 ⟨fun i x H2 ex S => ?_, fun H2 S => ?_⟩⟩
  · rw [List.getElem?_map] at ex
    cases e : z.cps.toList[i]? with
    | none => rw [e] at ex; cases ex
    | some cc =>
      rw [e] at ex
      obtain rfl := Option.some.inj ex
      have lt := (List.getElem?_eq_some_iff.mp e).1
      refine ⟨(by show i < z.cps.size; simpa using lt), fun v H3 ⟨q1, c1, q2, q3⟩ => ?_⟩
      subst q1
      subst q3
      have : z.cps.toList[i]? = some c1 := by simpa using q2
      rw [e] at this
      cases this
      exact ⟨Same.refl _, fun W' _ _ => .str _⟩
  · show z.cps.size ≤ _
    rw [List.length_map]
    simp
end
end OW
set_option Elab.async false
set_option linter.unusedVariables false
set_option linter.unusedSectionVars false
set_option maxRecDepth 100000
set_option maxHeartbeats 1000000
namespace OW
open PySem PySem.Spec PyProof.Rows L2 KA
variable [Tbs]
/-! ### operators, built-ins, methods -/
def isV (v : V) : Mo := ⟨fun u _ => u = v, fun _ h => h⟩
section
variable {ρ ρ' ρ1 ρ2 : List Sl} {te ta tb ti : TE} {s s' : Sl} {x y : PyData} {i j k : Nat} {tr : TA} {xs ys : List PyData} {ss : List Sl} {t u : TS} {K : KK} {g : TG} {KF : PySem.W.Frag} {tl th : TO}
theorem ev_cv {v : V} : Ev (tC v) ρ (.p (isV v)) ρ := ev_c fun _ => rfl
theorem isv_v {W : Hp} {v u : V} (h : ArOk W u (.p (isV v))) : u = v := h
/-- results that are the same in every heap -/
theorem fv2_s {r : R2} {z : V} (hz : ∀ W, ArOk W z s) {p q : Sl} (h : ∀ (W H : Hp) (v w : V) (Q : VK), Same W H → ArOk W v p → ArOk W w q → Q z H → r v w H Q) : FV2 r p q s := fun W H v w Q S a b k => h W H v w Q S a b (k z H (Same.refl _) fun W' _ _ => hz W')
theorem fv_s {r : List V → Hp → VK → Prop} {z : V} (hz : ∀ W, ArOk W z s) (h : ∀ (W H : Hp) (vs : List V) (Q : VK), Same W H → ArAll W vs ss → Q z H → r vs H Q) : FV r ss s := fun W H vs Q S a k => h W H vs Q S a (k z H (Same.refl _) fun W' _ _ => hz W')
theorem dI (i : Int) : ∀ W, ArOk W (.int i) (.d (.int i)) := fun _ => Dn.int _
theorem dB (i : Bool) : ∀ W, ArOk W (.bl i) (.d (.bool i)) := fun _ => Dn.bl _
theorem dS (i : Str) : ∀ W, ArOk W (.str i) (.d (.str i)) := fun _ => Dn.str _
theorem fv_int {f : Int → Int → Int} {m n : Int} : FV2 (rI0 fun i j => .int (f i j)) (.d (.int m)) (.d (.int n)) (.d (.int (f m n))) := fv2_s (dI (f m n)) fun W H v w Q S a b q => ⟨m, n, int_v a, int_v b, q⟩
theorem fv_intC {C : Int → Int → Prop} {f : Int → Int → Int} {m n : Int} (h : C m n) : FV2 (rI C fun i j => .int (f i j)) (.d (.int m)) (.d (.int n)) (.d (.int (f m n))) := fv2_s (dI (f m n)) fun W H v w Q S a b q => ⟨m, n, int_v a, int_v b, h, q⟩
theorem fv_cmpI {f : Int → Int → Bool} {m n : Int} : FV2 (rI0 fun i j => .bl (f i j)) (.d (.int m)) (.d (.int n)) (.d (.bool (f m n))) := fv2_s (dB (f m n)) fun W H v w Q S a b q => ⟨m, n, int_v a, int_v b, q⟩
theorem fv_eqS {a b : Str} : FV2 rEq (.d (.str a)) (.d (.str b)) (.d (.bool (decide (a = b)))) := fv2_s (dB (decide (a = b))) fun W H v w Q S o o' q => by
  obtain rfl := str_v o
  obtain rfl := str_v o'
  refine ⟨rfl, ?_⟩
  rw [show decide (V.str a = V.str b) = decide (a = b) from by simp]
  exact q
theorem fv_neS {a b : Str} : FV2 rNe (.d (.str a)) (.d (.str b)) (.d (.bool (!decide (a = b)))) := fv2_s (dB (!decide (a = b))) fun W H v w Q S o o' q => by
  obtain rfl := str_v o
  obtain rfl := str_v o'
  refine ⟨rfl, ?_⟩
  rw [show decide (V.str a = V.str b) = decide (a = b) from by simp]
  exact q
theorem fv_eqI {a b : Int} : FV2 rEq (.d (.int a)) (.d (.int b)) (.d (.bool (decide (a = b)))) := fv2_s (dB (decide (a = b))) fun W H v w Q S o o' q => by
  obtain rfl := int_v o
  obtain rfl := int_v o'
  refine ⟨rfl, ?_⟩
  rw [show decide (V.int a = V.int b) = decide (a = b) from by simp]
  exact q
theorem fv_neI {a b : Int} : FV2 rNe (.d (.int a)) (.d (.int b)) (.d (.bool (!decide (a = b)))) := fv2_s (dB (!decide (a = b))) fun W H v w Q S o o' q => by
  obtain rfl := int_v o
  obtain rfl := int_v o'
  refine ⟨rfl, ?_⟩
  rw [show decide (V.int a = V.int b) = decide (a = b) from by simp]
  exact q
theorem fv_eqD (sx : SeqAt.shaped x = true) (sy : SeqAt.shaped y = true) : FV2 rEqD (.d x) (.d y) (.d (.bool (PyData.eqv x y))) := fv2_s (dB (PyData.eqv x y)) fun W H v w Q S o o' q => ⟨x, y, Dn.mono S o, Dn.mono S o', sx, sy, q⟩
theorem fv_neD (sx : SeqAt.shaped x = true) (sy : SeqAt.shaped y = true) : FV2 rNeD (.d x) (.d y) (.d (.bool (!PyData.eqv x y))) := fv2_s (dB (!PyData.eqv x y)) fun W H v w Q S o o' q => ⟨x, y, Dn.mono S o, Dn.mono S o', sx, sy, q⟩
def noneD : PyData → Bool | .none => true | _ => false
theorem dn_non {W : Hp} {v : V} (h : Dn W v x) : decide (v = .non) = noneD x := by
  cases h <;> first | rfl | (exact decide_eq_false (by simp))
theorem fv_isN : FV2 (fun x y H Q => y = .non ∧ Q (.bl (decide (x = .non))) H) (.d x) (.d .none) (.d (.bool (noneD x))) := fv2_s (dB (noneD x)) fun W H v w Q S o o' q => by
  refine ⟨non_v o', ?_⟩
  rw [dn_non o]
  exact q
theorem fv_notN : FV2 (fun x y H Q => y = .non ∧ Q (.bl (!decide (x = .non))) H) (.d x) (.d .none) (.d (.bool (!noneD x))) := fv2_s (dB (!noneD x)) fun W H v w Q S o o' q => by
  refine ⟨non_v o', ?_⟩
  rw [dn_non o]
  exact q
theorem atI_dn {W : Hp} {vs : List V} {n : Int} (dx : DnAll W vs xs) (h : atI xs n = some x) : ∃ v, atI vs n = some v ∧ Dn W v x := by
  unfold atI at h ⊢
  rw [dx.length]
  cases e : ixN xs.length n with
  | none => rw [e] at h; cases h
  | some j =>
    rw [e] at h
    exact dx.get h
theorem fv_ixT {n : Int} (h : atI xs n = some x) : FV2 (rIxT KF) (.d (.tuple xs)) (.d (.int n)) (.d x) := fun W H v w Q S o o' q => by
  obtain rfl := int_v o'
  obtain ⟨a, vs, rfl, e, dx⟩ := tup_v o
  obtain ⟨u, e1, dn⟩ := atI_dn dx h
  exact ⟨a, vs, n, u, rfl, rfl, SqT.of (S _ _ e), e1, q u H (Same.refl _) fun W' S' _ => Dn.mono S' dn⟩
theorem fv_ixL {n : Int} (h : atI xs n = some x) : FV2 (rIxL KF) (.d (.list xs)) (.d (.int n)) (.d x) := fun W H v w Q S o o' q => by
  obtain rfl := int_v o'
  obtain ⟨a, vs, rfl, e, dx⟩ := lst_v o
  obtain ⟨u, e1, dn⟩ := atI_dn dx h
  exact ⟨a, vs, n, u, rfl, rfl, SqL.of (S _ _ e), e1, q u H (Same.refl _) fun W' S' _ => Dn.mono S' dn⟩
theorem fv_ixS {z : Str} {n : Int} {c : Nat} (hz : z.length ≤ sizeLine) (h : atI z.cps.toList n = some c) : FV2 rIxS (.d (.str z)) (.d (.int n)) (.d (.str ⟨#[c]⟩)) := fv2_s (dS ⟨#[c]⟩) fun W H v w Q S o o' q => ⟨z, n, c, str_v o, int_v o', hz, h, q⟩
theorem at_nat {α : Type} {xs : List α} {v : α} {j : Nat} (h : xs[j]? = some v) : atI xs (j : Int) = some v := by
  have lt := (List.getElem?_eq_some_iff.mp h).1
  unfold atI ixN
  rw [if_pos (Int.natCast_nonneg j), if_pos (by omega)]
  show xs[((j : Nat) : Int).toNat]? = some v
  rw [Int.toNat_natCast]
  exact h
theorem at0 {α : Type} {x : α} {xs : List α} : atI (x :: xs) 0 = some x := at_nat (j := 0) rfl
theorem at1 {α : Type} {x y : α} {xs : List α} : atI (x :: y :: xs) 1 = some y := at_nat (j := 1) rfl
theorem at2 {α : Type} {x y z : α} {xs : List α} : atI (x :: y :: z :: xs) 2 = some z := at_nat (j := 2) rfl
theorem at3 {α : Type} {x y z u : α} {xs : List α} : atI (x :: y :: z :: u :: xs) 3 = some u := at_nat (j := 3) rfl
/-- an owned list's item, length -/
theorem ev_ixO {n : Int} (h0 : ρ[k]? = some (.l ys)) (h : Ev ti ρ (.d (.int n)) ρ1) (h1 : ρ1[k]? = some (.l xs)) (e : atI xs n = some x) : Ev (tOp (rIxL KF) (tVar k) ti) ρ (.d x) ρ1 := fun c A σ H Q R f q => by
  obtain ⟨a, _, _, e1, _, _⟩ := R.sl k _ h0
  refine ⟨_, e1, h c A σ H _ R f fun w A1 H1 R1 f1 S1 o1 => ?_⟩
  obtain rfl := int_v o1
  obtain ⟨b, vs, _, e2, e3, dx⟩ := R1.sl k _ h1
  rw [e1] at e2
  cases e2
  obtain ⟨v, e4, dn⟩ := atI_dn dx e
  exact ⟨a, vs, n, v, rfl, rfl, SqL.of e3, e4, q v A1 H1 R1 f1 S1 dn⟩
theorem fv_lenL : FV (fun xs H Q => ∃ p ys, xs = [.ref p] ∧ (SqL KF H p ys ∨ SqT KF H p ys) ∧ Q (.int ys.length) H) [.d (.list xs)] (.d (.int (xs.length : Int))) := fv_s (dI (xs.length : Int)) fun W H vs Q S o q => by
  match vs, o with
  | [v], o =>
    obtain ⟨a, ws, rfl, e, dx⟩ := lst_v o.1
    exact ⟨a, ws, rfl, Or.inl (SqL.of (S _ _ e)), by rw [dx.length]; exact q⟩
theorem fv_lenT : FV (fun xs H Q => ∃ p ys, xs = [.ref p] ∧ (SqL KF H p ys ∨ SqT KF H p ys) ∧ Q (.int ys.length) H) [.d (.tuple xs)] (.d (.int (xs.length : Int))) := fv_s (dI (xs.length : Int)) fun W H vs Q S o q => by
  match vs, o with
  | [v], o =>
    obtain ⟨a, ws, rfl, e, dx⟩ := tup_v o.1
    exact ⟨a, ws, rfl, Or.inr (SqT.of (S _ _ e)), by rw [dx.length]; exact q⟩
theorem ev_lenO (h : ρ[k]? = some (.l xs)) : Ev (tCB (fun xs H Q => ∃ p ys, xs = [.ref p] ∧ (SqL KF H p ys ∨ SqT KF H p ys) ∧ Q (.int ys.length) H) (tCons (tVar k) tNil)) ρ (.d (.int (xs.length : Int))) ρ := fun c A σ H Q R f q => by
  obtain ⟨a, vs, _, e2, e3, dx⟩ := R.sl k _ h
  exact ⟨_, e2, a, vs, rfl, Or.inl (SqL.of e3), by rw [dx.length]; exact q _ A H R f (Same.refl _) (.int _)⟩
theorem et_truO (h : ρ[k]? = some (.l xs)) : Et (fun σ H Q => tVar k σ H fun x H' => ∃ k, TruV KF x H' k ∧ Q k H') ρ (!xs.isEmpty) ρ := fun c A σ H Q R f q => by
  obtain ⟨a, vs, _, e2, e3, dx⟩ := R.sl k _ h
  refine ⟨_, e2, _, Or.inl ⟨vs, SqL.of e3, rfl⟩, ?_⟩
  have e : vs.isEmpty = xs.isEmpty := by cases dx <;> rfl
  rw [e]
  exact q A H R f (Same.refl _)
theorem et_truL (h : Ev te ρ (.d (.list xs)) ρ1) : Et (fun σ H Q => te σ H fun x H' => ∃ k, TruV KF x H' k ∧ Q k H') ρ (!xs.isEmpty) ρ1 := fun c A σ H Q R f q =>
  h c A σ H _ R f fun v A1 H1 R1 f1 S1 o1 => by
    obtain ⟨a, vs, rfl, e, dx⟩ := lst_v o1
    refine ⟨_, Or.inl ⟨vs, SqL.of (vw_sub _ _ e), rfl⟩, ?_⟩
    have e : vs.isEmpty = xs.isEmpty := by cases dx <;> rfl
    rw [e]
    exact q A1 H1 R1 f1 S1
theorem et_truT (h : Ev te ρ (.d (.tuple xs)) ρ1) : Et (fun σ H Q => te σ H fun x H' => ∃ k, TruV KF x H' k ∧ Q k H') ρ (!xs.isEmpty) ρ1 := fun c A σ H Q R f q =>
  h c A σ H _ R f fun v A1 H1 R1 f1 S1 o1 => by
    obtain ⟨a, vs, rfl, e, dx⟩ := tup_v o1
    refine ⟨_, Or.inr (Or.inl ⟨vs, SqT.of (vw_sub _ _ e), rfl⟩), ?_⟩
    have e : vs.isEmpty = xs.isEmpty := by cases dx <;> rfl
    rw [e]
    exact q A1 H1 R1 f1 S1
/-! stars in a display -/
theorem eds_star (h : Ev te ρ (.d (.tuple xs)) ρ1) (h' : Eds tr ρ1 ys ρ2) : Eds (StX.tStar KF te tr) ρ (xs ++ ys) ρ2 := fun c A σ H Q R f q =>
  h c A σ H _ R f fun v A1 H1 R1 f1 S1 o1 => by
    obtain ⟨a, vs, rfl, e, dx⟩ := tup_v o1
    exact ⟨a, vs, rfl, Or.inl (SqT.of (vw_sub _ _ e)), h' c A1 σ H1 _ R1 f1 fun ws A2 H2 R2 f2 S2 o2 => q _ A2 H2 R2 f2 (S1.trans S2) ((DnAll.mono S2 dx).append o2)⟩
theorem eds_starL (h : Ev te ρ (.d (.list xs)) ρ1) (h' : Eds tr ρ1 ys ρ2) : Eds (StX.tStar KF te tr) ρ (xs ++ ys) ρ2 := fun c A σ H Q R f q =>
  h c A σ H _ R f fun v A1 H1 R1 f1 S1 o1 => by
    obtain ⟨a, vs, rfl, e, dx⟩ := lst_v o1
    exact ⟨a, vs, rfl, Or.inr (SqL.of (vw_sub _ _ e)), h' c A1 σ H1 _ R1 f1 fun ws A2 H2 R2 f2 S2 o2 => q _ A2 H2 R2 f2 (S1.trans S2) ((DnAll.mono S2 dx).append o2)⟩
/-! slices -/
def cutD (xs : List PyData) (lo hi : Option Int) : List PyData := (xs.drop (HT.sIx xs.length 0 lo)).take (HT.sIx xs.length xs.length hi - HT.sIx xs.length 0 lo)
theorem dn_cut {W : Hp} {vs : List V} {lo hi : Option Int} (dx : DnAll W vs xs) : DnAll W (cutV vs lo hi) (cutD xs lo hi) := by
  unfold cutV cutD
  rw [dx.length]
  exact (dx.drop _).take _
theorem cutD_from {n : Nat} (h : n ≤ xs.length) : cutD xs (some (n : Int)) none = xs.drop n := by
  unfold cutD
  rw [HT.sIx_none, HT.sIx_nat, Nat.min_eq_left h, List.take_of_length_le]
  rw [List.length_drop]
  exact Nat.le_refl _
theorem cutD_to {n : Nat} (h : n ≤ xs.length) : cutD xs none (some (n : Int)) = xs.take n := by
  unfold cutD
  rw [HT.sIx_none, HT.sIx_nat, List.drop_zero, Nat.sub_zero, Nat.min_eq_left h]
theorem cutD_to' {n : Nat} : cutD xs none (some (n : Int)) = xs.take n := by
  unfold cutD
  rw [HT.sIx_none, HT.sIx_nat, List.drop_zero, Nat.sub_zero]
  by_cases h : n ≤ xs.length
  · rw [Nat.min_eq_left h]
  · rw [Nat.min_eq_right (by omega), List.take_of_length_le (Nat.le_refl _), List.take_of_length_le (by omega)]
theorem cutD_from' {n : Nat} : cutD xs (some (n : Int)) none = xs.drop n := by
  by_cases h : n ≤ xs.length
  · exact cutD_from h
  · unfold cutD
    rw [HT.sIx_none, HT.sIx_nat, Nat.min_eq_right (by omega), Nat.sub_self, List.take_zero, List.drop_of_length_le (by omega)]
theorem ev_slA {lo hi : Option Int} (h : Ev te ρ (.d (.tuple xs)) ρ') (h1 : Eo tl ρ' lo ρ1) (h2 : Eo th ρ1 hi ρ2) : Ev (tSl (rSlA KF) te tl th) ρ (.d (.tuple (cutD xs lo hi))) ρ2 := fun c A σ H Q R f q =>
  h c A σ H _ R f fun v A1 H1 R1 f1 S1 o1 => h1 c A1 σ H1 _ R1 f1 fun A2 H2 R2 f2 S2 => h2 c A2 σ H2 _ R2 f2 fun A3 H3 R3 f3 S3 => by
    obtain ⟨a, vs, rfl, e, dx⟩ := tup_v (o1.mono (S2.trans S3))
    refine ⟨a, vs, rfl, SqT.of (vw_sub _ _ e), fun z => ?_, fun _ b hb => ?_⟩
    · refine q _ A3 H3 R3 f3 ((S1.trans S2).trans S3) ?_
      have e' : cutD xs lo hi = xs := by
        unfold cutD
        rw [← dx.length, z.1, z.2, List.drop_zero, Nat.sub_zero, dx.length, List.take_length]
      rw [e']
      exact .tup e dx
    · exact q _ A3 _ (R3.up (Same.new hb)) f3 (((S1.trans S2).trans S3).trans (vw_up (Same.new hb))) (.tup (new_view R3 hb upd_same) (DnAll.mono (vw_up (Same.new hb)) (dn_cut dx)))
theorem el_slL {lo hi : Option Int} (h : Ev te ρ (.d (.list xs)) ρ') (h1 : Eo tl ρ' lo ρ1) (h2 : Eo th ρ1 hi ρ2) : El (tSl (rSlL KF) te tl th) ρ (cutD xs lo hi) ρ2 := fun c A σ H Q R f q =>
  h c A σ H _ R f fun v A1 H1 R1 f1 S1 o1 => h1 c A1 σ H1 _ R1 f1 fun A2 H2 R2 f2 S2 => h2 c A2 σ H2 _ R2 f2 fun A3 H3 R3 f3 S3 => by
    obtain ⟨a, vs, rfl, e, dx⟩ := lst_v (o1.mono (S2.trans S3))
    exact ⟨a, vs, rfl, SqL.of (vw_sub _ _ e), fun b hb => q b _ _ _ (R3.fly hb) aset_at (((S1.trans S2).trans S3).trans (vw_fly hb)) upd_same (DnAll.mono (vw_fly hb) (dn_cut dx))⟩
theorem el_slO {lo hi : Option Int} (h0 : ρ[k]? = some (.l ys)) (h1 : Eo tl ρ lo ρ1) (h2 : Eo th ρ1 hi ρ2) (h3 : ρ2[k]? = some (.l xs)) : El (tSl (rSlL KF) (tVar k) tl th) ρ (cutD xs lo hi) ρ2 := fun c A σ H Q R f q => by
  obtain ⟨a, _, _, e1, _, _⟩ := R.sl k _ h0
  refine ⟨_, e1, h1 c A σ H _ R f fun A2 H2 R2 f2 S2 => h2 c A2 σ H2 _ R2 f2 fun A3 H3 R3 f3 S3 => ?_⟩
  obtain ⟨b, vs, _, e2, e3, dx⟩ := R3.sl k _ h3
  rw [e1] at e2
  cases e2
  exact ⟨a, vs, rfl, SqL.of e3, fun b hb => q b _ _ _ (R3.fly hb) aset_at ((S2.trans S3).trans (vw_fly hb)) upd_same (DnAll.mono (vw_fly hb) (dn_cut dx))⟩
/-! sums -/
theorem fl_cat (len : xs.length + ys.length ≤ sizeLine) : FL2 rCat (.d (.list xs)) (.d (.list ys)) (xs ++ ys) := fun W H v w Q S o o' q => by
  obtain ⟨a, vs, rfl, e, dx⟩ := lst_v o
  obtain ⟨b, ws, rfl, e', dy⟩ := lst_v o'
  exact ⟨a, b, vs, ws, rfl, rfl, S _ _ e, S _ _ e', by rw [dx.length, dy.length]; exact len, fun p hp => q p _ hp (dx.append dy)⟩
theorem fv_catA (len : xs.length + ys.length ≤ sizeLine) : FV2 (rCatA KF) (.d (.tuple xs)) (.d (.tuple ys)) (.d (.tuple (xs ++ ys))) := fun W H v w Q S o o' q => by
  obtain ⟨a, vs, rfl, e, dx⟩ := tup_v o
  obtain ⟨b, ws, rfl, e', dy⟩ := tup_v o'
  refine ⟨a, b, vs, ws, rfl, rfl, SqT.of (S _ _ e), SqT.of (S _ _ e'), by rw [dx.length, dy.length]; exact len, fun z => ?_, fun _ z => ?_, fun _ _ p hp => ?_⟩
  · subst z
    cases dx
    exact q _ H (Same.refl _) fun W' S' _ => .tup (S' _ _ e') (DnAll.mono S' dy)
  · subst z
    cases dy
    rw [List.append_nil] at q
    exact q _ H (Same.refl _) fun W' S' _ => .tup (S' _ _ e) (DnAll.mono S' dx)
  · exact q _ _ (Same.new hp) fun W' S' nw => .tup (nw _ _ hp upd_same) (DnAll.mono S' (dx.append dy))
theorem fv_repT {n : Int} (h : xs ≠ [] ∧ 2 ≤ n ∧ n ≤ 1000 ∧ xs.length ≤ 1000) : FV2 (rRepT KF) (.d (.tuple xs)) (.d (.int n)) (.d (.tuple (List.replicate n.toNat xs).flatten)) := fun W H v w Q S o o' q => by
  obtain rfl := int_v o'
  obtain ⟨a, vs, rfl, e, dx⟩ := tup_v o
  refine ⟨a, n, vs, rfl, rfl, SqT.of (S _ _ e), fun z => ?_, h.2.1, h.2.2.1, by rw [dx.length]; exact h.2.2.2, fun p hp => ?_⟩
  · subst z
    cases dx
    exact h.1 rfl
  · refine q _ _ (Same.new hp) fun W' S' nw => .tup (nw _ _ hp upd_same) (DnAll.mono S' ?_)
    have : ∀ m : Nat, DnAll W (List.replicate m vs).flatten (List.replicate m xs).flatten := fun m => by
      induction m with
      | zero => exact .nil
      | succ m ih => exact dx.append ih
    exact this _
/-! built-ins -/
theorem fv_isD {T : String} {f : PyData → Bool} : FV (rIsD T f) [.d x, .p (isV (.ty T))] (.d (.bool (f x))) := fv_s (dB (f x)) fun W H vs Q S o q => by
  match vs, o with
  | [v, w], o =>
    obtain rfl := isv_v o.2.1
    exact ⟨v, x, rfl, Dn.mono S o.1, q⟩
theorem inV_str {W : Hp} (a : Str) : ∀ {vs : List V} {bs : List Str}, DnAll W vs (bs.map .str) → vs.all flatV = true ∧ inV (.str a) vs = bs.any fun b => b == a
  | [], [], _ => ⟨rfl, rfl⟩
  | v :: vs, b :: bs, h => by
    cases h with
    | cons h t =>
      cases h
      obtain ⟨p, q⟩ := inV_str a t
      refine ⟨by rw [List.all_cons, p]; rfl, ?_⟩
      unfold inV at q ⊢
      rw [List.any_cons, List.any_cons, q]
      rfl
theorem fv_inT {a : Str} {bs : List Str} : FV2 (rIn KF false) (.d (.str a)) (.d (.tuple (bs.map .str))) (.d (.bool (bs.any fun b => b == a))) := fv2_s (dB (bs.any fun b => b == a)) fun W H v w Q S o o' q => by
  obtain rfl := str_v o
  obtain ⟨p, vs, rfl, e, dx⟩ := tup_v o'
  obtain ⟨h1, h2⟩ := inV_str a dx
  exact ⟨p, vs, rfl, Or.inr (SqT.of (S _ _ e)), rfl, h1, by rw [h2]; exact q⟩
theorem fv_intB {b : Bool} : FV (fun xs H Q => (∃ i, xs = [.int i] ∧ Q (.int i) H) ∨ ∃ k, xs = [.bl k] ∧ Q (.int (if k then 1 else 0)) H) [.d (.bool b)] (.d (.int (if b then 1 else 0))) := fv_s (dI (if b then 1 else 0)) fun W H vs Q S o q => by
  match vs, o with
  | [v], o =>
    obtain rfl := bool_v o.1
    exact Or.inr ⟨b, rfl, q⟩
theorem fv_max2 {m n : Int} : FV (fun xs H Q => ∃ i j, xs = [.int i, .int j] ∧ Q (.int (if j > i then j else i)) H) [.d (.int m), .d (.int n)] (.d (.int (if n > m then n else m))) := fv_s (dI (if n > m then n else m)) fun W H vs Q S o q => by
  match vs, o with
  | [v, w], o =>
    obtain rfl := int_v o.1
    obtain rfl := int_v o.2.1
    exact ⟨m, n, rfl, q⟩
theorem fv_min2 {m n : Int} : FV (fun xs H Q => ∃ i j, xs = [.int i, .int j] ∧ Q (.int (if j < i then j else i)) H) [.d (.int m), .d (.int n)] (.d (.int (if n < m then n else m))) := fv_s (dI (if n < m then n else m)) fun W H vs Q S o q => by
  match vs, o with
  | [v, w], o =>
    obtain rfl := int_v o.1
    obtain rfl := int_v o.2.1
    exact ⟨m, n, rfl, q⟩
theorem dn_bools {W : Hp} : ∀ {vs : List V} {bs : List Bool}, DnAll W vs (bs.map .bool) → vs = bs.map V.bl
  | [], [], _ => rfl
  | v :: vs, b :: bs, h => by
    cases h with
    | cons h t =>
      cases h
      rw [dn_bools t]
      rfl
theorem fv_all {bs : List Bool} : FV (rAll KF) [.d (.list (bs.map .bool))] (.d (.bool (bs.all id))) := fv_s (dB (bs.all id)) fun W H vs Q S o q => by
  match vs, o with
  | [v], o =>
    obtain ⟨a, ws, rfl, e, dx⟩ := lst_v o.1
    obtain rfl := dn_bools dx
    exact ⟨a, bs, rfl, SqL.of (S _ _ e), q⟩
theorem fv_any {bs : List Bool} : FV (rAny KF) [.d (.list (bs.map .bool))] (.d (.bool (bs.any id))) := fv_s (dB (bs.any id)) fun W H vs Q S o q => by
  match vs, o with
  | [v], o =>
    obtain ⟨a, ws, rfl, e, dx⟩ := lst_v o.1
    obtain rfl := dn_bools dx
    exact ⟨a, bs, rfl, SqL.of (S _ _ e), q⟩
theorem fl_listL : FL (fun xs H Q => ∃ p ys, xs = [.ref p] ∧ (SqL KF H p ys ∨ SqT KF H p ys) ∧ ∀ l, H l = none → Q (.ref l) (upd H l (.lst ys))) [.d (.list xs)] xs := fun W H vs Q S o q => by
  match vs, o with
  | [v], o =>
    obtain ⟨a, ws, rfl, e, dx⟩ := lst_v o.1
    exact ⟨a, ws, rfl, Or.inl (SqL.of (S _ _ e)), fun l hl => q l ws hl dx⟩
theorem fl_listT : FL (fun xs H Q => ∃ p ys, xs = [.ref p] ∧ (SqL KF H p ys ∨ SqT KF H p ys) ∧ ∀ l, H l = none → Q (.ref l) (upd H l (.lst ys))) [.d (.tuple xs)] xs := fun W H vs Q S o q => by
  match vs, o with
  | [v], o =>
    obtain ⟨a, ws, rfl, e, dx⟩ := tup_v o.1
    exact ⟨a, ws, rfl, Or.inr (SqT.of (S _ _ e)), fun l hl => q l ws hl dx⟩
theorem fv_tupL : FV (fun xs H Q => ∃ p ys, xs = [.ref p] ∧ ((SqL KF H p ys ∧ ∀ l, H l = none → Q (.ref l) (upd H l (.tup ys))) ∨ (SqT KF H p ys ∧ Q (.ref p) H))) [.d (.list xs)] (.d (.tuple xs)) := fun W H vs Q S o q => by
  match vs, o with
  | [v], o =>
    obtain ⟨a, ws, rfl, e, dx⟩ := lst_v o.1
    exact ⟨a, ws, rfl, Or.inl ⟨SqL.of (S _ _ e), fun l hl => q _ _ (Same.new hl) fun W' S' nw => .tup (nw _ _ hl upd_same) (DnAll.mono S' dx)⟩⟩
theorem fv_tupT : FV (fun xs H Q => ∃ p ys, xs = [.ref p] ∧ ((SqL KF H p ys ∧ ∀ l, H l = none → Q (.ref l) (upd H l (.tup ys))) ∨ (SqT KF H p ys ∧ Q (.ref p) H))) [.d (.tuple xs)] (.d (.tuple xs)) := fun W H vs Q S o q => by
  match vs, o with
  | [v], o =>
    obtain ⟨a, ws, rfl, e, dx⟩ := tup_v o.1
    exact ⟨a, ws, rfl, Or.inr ⟨SqT.of (S _ _ e), q _ H (Same.refl _) fun W' S' _ => .tup (S' _ _ e) (DnAll.mono S' dx)⟩⟩
theorem fv_repr (h1 : x.showable = true) (h2 : x.shown.length ≤ sizeLine) (h3 : x.depth ≤ 100) : FV rRepr [.d x] (.d (.str x.shown)) := fv_s (dS x.shown) fun W H vs Q S o q => by
  match vs, o with
  | [v], o => exact ⟨v, x, rfl, Dn.mono S o.1, h1, h2, h3, q⟩
/-! methods of owned lists -/
theorem sm_app (h0 : ρ[k]? = some (.l ys)) (h : Ev te ρ (.d x) ρ1) (h1 : ρ1[k]? = some (.l xs)) (len : xs.length < sizeLine) (q : K.nx (ρ1.set k (.l (xs ++ [x])))) : Sm (tDrop (tBM KF "list" rAppend (tVar k) (tCons te tNil))) ρ K := fun c A σ H D R f dk => by
  obtain ⟨a, vs0, _, e1, e2, _⟩ := R.sl k _ h0
  refine ⟨_, e1, Or.inl ⟨rfl, vs0, SqL.of e2⟩, h c A σ H _ R f fun w A1 H1 R1 f1 S1 o1 => ?_⟩
  obtain ⟨b, vs, ea, e3, e4, dx⟩ := R1.sl k _ h1
  rw [e1] at e3
  cases e3
  refine ⟨a, vs, w, rfl, rfl, e4, by rw [dx.length]; exact len, dk.nx _ _ _ _ q (R1.mut h1 ea (dx.snoc o1)) f1⟩
theorem dn_unsnoc {W : Hp} : ∀ {xs : List PyData} {x : PyData} {vs : List V}, DnAll W vs (xs ++ [x]) → ∃ ws v, vs = ws ++ [v] ∧ DnAll W ws xs ∧ Dn W v x
  | [], x, vs, h => by
    obtain ⟨v, rfl, d⟩ := dn_one h
    exact ⟨[], v, rfl, .nil, d⟩
  | y :: xs, x, vs, h => by
    cases h with
    | cons a b =>
      obtain ⟨ws, v, rfl, d1, d2⟩ := dn_unsnoc b
      exact ⟨_ :: ws, v, rfl, .cons a d1, d2⟩
theorem ev_pop (h0 : ρ[k]? = some (.l (xs ++ [x]))) : Ev (tBM0 KF "list" rPop (tVar k)) ρ (.d x) (ρ.set k (.l xs)) := fun c A σ H Q R f q => by
  obtain ⟨a, vs0, ea, e1, e2, dx⟩ := R.sl k _ h0
  obtain ⟨ws, v, rfl, d1, d2⟩ := dn_unsnoc dx
  refine ⟨_, e1, Or.inl ⟨rfl, _, SqL.of e2⟩, a, _, v, rfl, rfl, e2, ?_, ?_⟩
  · rw [List.length_append, List.length_singleton, Nat.add_sub_cancel, List.getElem?_append_right (Nat.le_refl _), Nat.sub_self]
    rfl
  · rw [List.dropLast_concat]
    have hv : vw c.Z A (upd H a (.lst ws)) = vw c.Z A H := vw_mut ea
    exact q v A _ (R.mut h0 ea d1) f (by rw [hv]; exact Same.refl _) (by rw [hv]; exact d2)
theorem sm_rev (h0 : ρ[k]? = some (.l xs)) (q : K.nx (ρ.set k (.l xs.reverse))) : Sm (tDrop (tBM0 KF "list" rReverse (tVar k))) ρ K := fun c A σ H D R f dk => by
  obtain ⟨a, vs, ea, e1, e2, dx⟩ := R.sl k _ h0
  have rv : ∀ {vs : List V} {xs : List PyData}, DnAll (vw c.Z A H) vs xs → DnAll (vw c.Z A H) vs.reverse xs.reverse := fun {vs xs} h => by
    induction h using DnAll.rec (motive_1 := fun _ _ _ => True) with
    | nil => exact .nil
    | cons a b _ ih =>
      rw [List.reverse_cons, List.reverse_cons]
      exact ih.snoc a
    | _ => trivial
  exact ⟨_, e1, Or.inl ⟨rfl, _, SqL.of e2⟩, a, vs, rfl, rfl, e2, dk.nx _ _ _ _ q (R.mut h0 ea (rv dx)) f⟩
theorem dn_set {W : Hp} : ∀ {vs : List V} {xs : List PyData} {v : V} {x : PyData} (n : Nat), DnAll W vs xs → Dn W v x → DnAll W (vs.set n v) (xs.set n x)
  | _, _, _, _, _, .nil, _ => .nil
  | _, _, _, _, 0, .cons a b, d => .cons d b
  | _, _, _, _, n + 1, .cons a b, d => .cons a (dn_set n b d)
theorem sm_setI {m : Nat} {z : Int} (h0 : ρ1[k]? = some (.l ys)) (h : Ev te ρ (.d x) ρ1) (hi : Ev ti ρ1 (.d (.int z)) ρ2) (h1 : ρ2[k]? = some (.l xs)) (e : ixN xs.length z = some m) (q : K.nx (ρ2.set k (.l (xs.set m x)))) : Sm (tAsg te (gSub (tVar k) ti rSetL)) ρ K := fun c A σ H D R f dk =>
  h c A σ H _ R f fun w A1 H1 R1 f1 S1 o1 => by
    obtain ⟨a, vs0, _, e1, e2, _⟩ := R1.sl k _ h0
    refine ⟨_, e1, hi c A1 σ H1 _ R1 f1 fun u A2 H2 R2 f2 S2 o2 => ?_⟩
    obtain rfl := int_v o2
    obtain ⟨b, vs, ea, e3, e4, dx⟩ := R2.sl k _ h1
    rw [e1] at e3
    cases e3
    exact ⟨a, vs, z, m, rfl, rfl, e4, by rw [dx.length]; exact e, dk.nx _ _ _ _ q (R2.mut h1 ea (dn_set m dx (o1.mono S2))) f2⟩
end
end OW
set_option Elab.async false
set_option linter.unusedVariables false
set_option linter.unusedSectionVars false
set_option maxRecDepth 100000
set_option maxHeartbeats 1000000
namespace OW
open PySem PySem.Spec PyProof.Rows L2 KA
variable [Tbs]
/-! ### comprehensions -/
section
variable {c : Fr} {A A' : Am} {ρ ρ' : List Sl} {σ : L2.St} {H H' : Hp}
theorem Rp.mutFl (R : Rp c A ρ σ H) {a : Addr} {o : HO} (e : A fl = some a) : Rp c A ρ σ (upd H a o) := by
  have hv : vw c.Z A (upd H a o) = vw c.Z A H := vw_mut e
  refine ⟨R.len, R.sz, R.inj, R.off, ?_, ?_, by rw [hv]; exact R.old, R.bor, ?_, R.tz, by rw [hv]; exact R.tb.mono (Same.refl _) (R.tb.upd_ (R.nt e))⟩
  · intro j b z
    by_cases q : b = a
    · rw [q, upd_same]
      simp
    · rw [upd_ne q]
      exact R.live _ _ z
  · intro b z t
    have nb : b ≠ a := fun q => R.off _ _ e (q ▸ z)
    rw [upd_ne nb]
    exact R.keep b z t
  · intro j t z
    rw [hv]
    refine (R.sl j t z).mono (Same.refl _) fun b ws e' hb => ?_
    have nb : b ≠ a := fun q => idx_small R.sz z (R.inj _ _ _ e' (q ▸ e))
    rw [upd_ne nb]
    exact hb
/-- the new list D counts as another's while the rest goes on -/
def Fr.park (c : Fr) (D : Addr) (H : Hp) (F : Hp) : Fr := ⟨fun b => c.Z b ∨ b = D, c.B, H, F⟩
theorem vw_park {D : Addr} (e : A fl = some D) (inj : ∀ i j a, A i = some a → A j = some a → i = j) : vw (fun b => c.Z b ∨ b = D) (aset A fl none) H = vw c.Z A H := by
  funext b
  unfold vw
  have : ((c.Z b ∨ b = D) ∨ ∃ i, aset A fl none i = some b) ↔ (c.Z b ∨ ∃ i, A i = some b) := by
    constructor
    · rintro ((z | z) | ⟨i, z⟩)
      · exact Or.inl z
      · exact Or.inr ⟨fl, by rw [z]; exact e⟩
      · by_cases q : i = fl
        · rw [q, aset_at] at z
          cases z
        · rw [aset_ne q] at z
          exact Or.inr ⟨i, z⟩
    · rintro (z | ⟨i, z⟩)
      · exact Or.inl (Or.inl z)
      · by_cases q : i = fl
        · rw [q, e] at z
          cases z
          exact Or.inl (Or.inr rfl)
        · exact Or.inr ⟨i, by rw [aset_ne q]; exact z⟩
  by_cases q : c.Z b ∨ ∃ i, A i = some b
  · rw [if_pos q, if_pos (this.mpr q)]
  · rw [if_neg q, if_neg fun z => q (this.mp z)]
theorem Rp.park (R : Rp c A ρ σ H) {D : Addr} (e : A fl = some D) : Rp (c.park D H (vw c.Z A H)) (aset A fl none) ρ σ H := by
  have back : ∀ {i a}, aset A fl none i = some a → i ≠ fl ∧ A i = some a := fun {i a} z => by
    by_cases q : i = fl
    · rw [q, aset_at] at z
      cases z
    · rw [aset_ne q] at z
      exact ⟨q, z⟩
  have hv := vw_park (c := c) (H := H) e R.inj
  refine ⟨R.len, R.sz, fun i j a z z' => R.inj _ _ _ (back z).2 (back z').2, ?_, fun i a z => R.live _ _ (back z).2, ?_, ?_, ?_, ?_, fun b t => Or.inl (R.tz b t), ?_⟩
  · rintro i a z (w | w)
    · exact R.off _ _ (back z).2 w
    · exact (back z).1 (R.inj _ _ _ (back z).2 (w ▸ e))
  · rintro a (z | z) _
    · exact ⟨R.there z, rfl⟩
    · exact ⟨by show H a ≠ none; rw [z]; exact R.live _ _ e, rfl⟩
  · show Same (vw c.Z A H) (vw (fun b => c.Z b ∨ b = D) (aset A fl none) H)
    rw [hv]
    exact Same.refl _
  · intro p z
    rw [aset_ne (by decide)]
    exact R.bor p z
  · intro i s z
    show SlOk (vw (fun b => c.Z b ∨ b = D) (aset A fl none) H) H σ[i]? (aset A fl none i) s
    rw [hv, aset_ne (idx_small R.sz z)]
    exact R.sl i s z
  · show Tb (vw (fun b => c.Z b ∨ b = D) (aset A fl none) H) H
    rw [hv]
    exact R.tb
theorem vw_unpark {D : Addr} (f : A fl = none) : vw c.Z (aset A fl (some D)) H = vw (fun b => c.Z b ∨ b = D) A H := by
  funext b
  unfold vw
  have : (c.Z b ∨ ∃ i, aset A fl (some D) i = some b) ↔ ((c.Z b ∨ b = D) ∨ ∃ i, A i = some b) := by
    constructor
    · rintro (z | ⟨i, z⟩)
      · exact Or.inl (Or.inl z)
      · by_cases q : i = fl
        · rw [q, aset_at] at z
          exact Or.inl (Or.inr (Option.some.inj z).symm)
        · rw [aset_ne q] at z
          exact Or.inr ⟨i, z⟩
    · rintro ((z | z) | ⟨i, z⟩)
      · exact Or.inl z
      · exact Or.inr ⟨fl, by rw [z]; exact aset_at⟩
      · have q : i ≠ fl := fun q => by rw [q, f] at z; cases z
        exact Or.inr ⟨i, by rw [aset_ne q]; exact z⟩
  by_cases q : (c.Z b ∨ b = D) ∨ ∃ i, A i = some b
  · rw [if_pos q, if_pos (this.mpr q)]
  · rw [if_neg q, if_neg fun z => q (this.mp z)]
theorem Rp.unpark {c0 : Fr} {D : Addr} {H0 F : Hp} (R : Rp (c0.park D H0 F) A ρ σ H) (f : A fl = none) (nZ : ¬ c0.Z D) (htz : ∀ b, tabA b → c0.Z b) (hk : ∀ a, c0.Z a → ¬ tabA a → c0.G a ≠ none ∧ H0 a = c0.G a) (hF : Same c0.F F) : Rp c0 (aset A fl (some D)) ρ σ H := by
  have nD : ∀ i, A i ≠ some D := fun i z => R.off _ _ z (Or.inr rfl)
  have hv := vw_unpark (c := c0) (H := H) (D := D) f
  refine ⟨R.len, R.sz, ?_, ?_, ?_, ?_, ?_, ?_, ?_, htz, by rw [hv]; exact R.tb⟩
  · intro i j a z z'
    by_cases q : i = fl
    · by_cases q' : j = fl
      · rw [q, q']
      · rw [q, aset_at] at z
        rw [aset_ne q'] at z'
        cases z
        exact absurd z' (nD j)
    · rw [aset_ne q] at z
      by_cases q' : j = fl
      · rw [q', aset_at] at z'
        cases z'
        exact absurd z (nD i)
      · rw [aset_ne q'] at z'
        exact R.inj _ _ _ z z'
  · intro i a z w
    by_cases q : i = fl
    · rw [q, aset_at] at z
      cases z
      exact nZ w
    · rw [aset_ne q] at z
      exact R.off _ _ z (Or.inl w)
  · intro i a z
    by_cases q : i = fl
    · rw [q, aset_at] at z
      cases z
      exact R.there (Or.inr rfl)
    · rw [aset_ne q] at z
      exact R.live _ _ z
  · intro a z t
    have := R.keep a (Or.inl z) t
    exact ⟨(hk a z t).1, this.2.trans (hk a z t).2⟩
  · rw [hv]
    exact hF.trans R.old
  · intro p z
    rw [aset_ne (by decide)]
    exact R.bor p z
  · intro i s z
    rw [hv, aset_ne (idx_small R.sz z)]
    exact R.sl i s z
/-- the one slot of a comprehension -/
theorem rp_wipe (R : Rp c A ρ σ H) {v : Nat} (h : ρ[v]? = some .any) : Rp c A (ρ.set v .un) (wipe σ [v]) H := by
  refine ⟨?_, by rw [List.length_set]; exact R.sz, R.inj, R.off, R.live, R.keep, R.old, R.bor, ?_, R.tz, R.tb⟩
  · rw [wipe_length, List.length_set, R.len]
  · intro i s z
    show SlOk _ _ (σ.set v none)[i]? _ _
    by_cases q : i = v
    · subst q
      have lt := (List.getElem?_eq_some_iff.mp h).1
      rw [List.getElem?_set_self lt] at z
      cases z
      rw [List.getElem?_set_self (by rw [R.len]; exact lt)]
      exact ⟨rfl, R.sl i _ h⟩
    · rw [List.getElem?_set_ne (Ne.symm q)] at z ⊢
      exact R.sl i s z
@[reducible] def Sl.free : Sl → Prop
  | .un | .any | .d _ | .p _ => True
  | _ => False
theorem rp_unwipe {σ2 : L2.St} (R : Rp c A ρ σ2 H) {v : Nat} (e : wipe σ2 [v] = wipe σ [v]) {s : Sl} (h : ρ[v]? = some s) (hs : s.free) : Rp c A (ρ.set v .any) σ H := by
  have len : σ2.length = σ.length := by
    have := congrArg List.length e
    rw [wipe_length, wipe_length] at this
    exact this
  refine ⟨by rw [List.length_set, ← len, R.len], by rw [List.length_set]; exact R.sz, R.inj, R.off, R.live, R.keep, R.old, R.bor, ?_, R.tz, R.tb⟩
  intro i t z
  by_cases q : i = v
  · subst q
    have lt := (List.getElem?_eq_some_iff.mp h).1
    rw [List.getElem?_set_self lt] at z
    cases z
    have o := R.sl i _ h
    show A i = none
    cases s with
    | un => exact o.2
    | any => exact o
    | d x => exact o.1
    | p P => exact o.1
    | l xs => exact hs.elim
    | la a xs => exact hs.elim
    | wa a xs => exact hs.elim
    | dk _ => exact hs.elim
    | lm _ => exact hs.elim
  · rw [List.getElem?_set_ne (Ne.symm q)] at z
    have e' : σ2[i]? = σ[i]? := by
      have := congrArg (fun l : L2.St => l[i]?) e
      show σ2[i]? = σ[i]?
      have h1 : (wipe σ2 [v])[i]? = σ2[i]? := List.getElem?_set_ne (Ne.symm q)
      have h2 : (wipe σ [v])[i]? = σ[i]? := List.getElem?_set_ne (Ne.symm q)
      rw [← h1, ← h2]
      exact this
    rw [← e']
    exact R.sl i t z
end
section
variable {ρ ρ0 : List Sl} {te : TE} {xs : List PyData} {wi : TI} {v : Nat}
/-- [te for v in xs]: R j, what stands ahead of turn j (the slot v is any), acc j what is made so far -/
theorem el_lc (h : Fi wi ρ xs ρ0) (R : Nat → List Sl) (acc : Nat → List PyData) (h0 : R 0 = ρ0.set v .any) (hv : ∃ s, ρ0[v]? = some s ∧ s.free) (ha : acc 0 = []) (v0 : v ≠ 0 := by decide)
    (len : ∀ j, j < xs.length → (acc j).length < sizeLine)
    (hs : ∀ j x, xs[j]? = some x → (R j)[v]? = some .any → ∃ y ρ4, Ev te ((R j).set v (.d x)) (.d y) ρ4 ∧ acc (j + 1) = acc j ++ [y] ∧ ρ4.set v .any = R (j + 1) ∧ ∃ s, ρ4[v]? = some s ∧ s.free) :
    El (tLc wi (gName v) tYes te [v]) ρ (acc xs.length) (R xs.length) := fun c A σ H Q R0 f q =>
  h c A σ H _ R0 f fun J A1 H1 R1 f1 S1 jk => fun D hD => by
    obtain ⟨s0, hs0, ns0⟩ := hv
    have any0 : Rp c A1 (ρ0.set v .any) σ H1 := rp_unwipe R1 rfl hs0 ns0
    have lt0 := (List.getElem?_eq_some_iff.mp hs0).1
    refine ⟨fun j m H' => m = xs.length - j ∧ j ≤ xs.length ∧ ∃ A' vs, Rp c A' (R j) σ H' ∧ (R j)[v]? = some .any ∧ A' fl = some D ∧ H' D = some (.lst vs) ∧ DnAll (vw c.Z A' H') vs (acc j) ∧ Same (vw c.Z A1 H1) (vw c.Z A' H'), ⟨xs.length, by simp, Nat.zero_le _, _, [], by rw [h0]; exact any0.fly hD, ?_, aset_at, upd_same, by rw [ha]; exact .nil, vw_fly hD⟩, ?_⟩
    · rw [h0, List.getElem?_set_self lt0]
    rintro j m H' ⟨rfl, hj, A', vs, R', an, f', eD, dx, S'⟩
    have SJ : Same (vw c.Z A1 H1) H' := S'.trans vw_sub
    by_cases lt : j < xs.length
    · have e := List.getElem?_eq_getElem lt
      obtain ⟨go, yl⟩ := jk.1 j _ H' e SJ
      refine Or.inr ⟨go, fun H2 => j + 1 ≤ xs.length ∧ ∃ A' vs, Rp c A' (R (j + 1)) σ H2 ∧ (R (j + 1))[v]? = some .any ∧ A' fl = some D ∧ H2 D = some (.lst vs) ∧ DnAll (vw c.Z A' H2) vs (acc (j + 1)) ∧ Same (vw c.Z A1 H1) (vw c.Z A' H2), fun H2 p => ⟨xs.length - (j + 1), by omega, rfl, p.1, p.2⟩, fun w H2 y => ?_⟩
      obtain ⟨S2, dn⟩ := yl w H2 y
      have R2 := R'.up S2
      have eD2 := S2 _ _ eD
      have dx2 : DnAll (vw c.Z A' H2) vs (acc j) := DnAll.mono (vw_up S2) dx
      have dw : Dn (vw c.Z A' H2) w xs[j] := dn _ (S'.trans (vw_up S2)) fun b o n e => new_view R' n e
      have P := R2.park f'
      have hvp := vw_park (c := c) (H := H2) f' R2.inj
      have PW := rp_wipe P an
      have PS := PW.set (i := v) (v := w) (s := .d xs[j]) v0 ⟨rfl, w, rfl, by
        show Dn (vw (fun b => c.Z b ∨ b = D) (aset A' fl none) H2) w xs[j]
        rw [hvp]
        exact dw⟩
      obtain ⟨y, ρ4, ev, ea, eR, s4, hs4, ns4⟩ := hs j _ e an
      rw [List.set_set] at PS
      have wip : wipe ((wipe σ [v]).set v (some w)) [v] = wipe σ [v] := by
        show ((σ.set v none).set v (some w)).set v none = σ.set v none
        rw [List.set_set, List.set_set]
      refine ⟨wip, ?_⟩
      have vfl : fl ≠ v := (idx_small R'.sz an).symm
      refine ev (c.park D H2 (vw c.Z A' H2)) _ _ H2 _ PS (by rw [aset_ne vfl]; exact aset_at) fun u A3 H3 R3 f3 S3 o3 => ?_
      have nZ : ¬ c.Z D := R2.off _ _ f'
      have U := R3.unpark f3 nZ R2.tz (fun a z => R2.keep a z) R2.old
      have U1 := rp_unwipe U wip hs4 ns4
      have kD := (R3.keep D (Or.inr rfl) (R2.nt f')).2
      have eD3 : H3 D = some (.lst vs) := kD.trans eD2
      have hv3 := vw_unpark (c := c) (H := H3) (D := D) f3
      have o3' : Dn (vw c.Z (aset A3 fl (some D)) H3) u y := by
        rw [hv3]
        exact o3
      have SS : Same (vw c.Z A' H2) (vw c.Z (aset A3 fl (some D)) H3) := by
        rw [hv3]
        exact R3.old
      rw [eR] at U1
      refine ⟨vs, eD3, by rw [dx.length]; exact len j lt, lt, aset A3 fl (some D), vs ++ [u], U1.mutFl aset_at, ?_, aset_at, upd_same, ?_, ?_⟩
      · rw [← eR, List.getElem?_set_self (List.getElem?_eq_some_iff.mp hs4).1]
      · rw [vw_mut (A := aset A3 fl (some D)) (i := fl) aset_at, ea]
        exact (DnAll.mono SS dx2).snoc o3'
      · rw [vw_mut (A := aset A3 fl (some D)) (i := fl) aset_at]
        exact (S'.trans (vw_up S2)).trans SS
    · have e : j = xs.length := by omega
      subst e
      exact Or.inl ⟨jk.2 H' SJ, q D vs A' H' R' f' (S1.trans S') eD dx⟩
/-- .. where the element changes nothing -/
theorem el_lcP {f : PyData → PyData} (h : Fi wi ρ xs ρ0) (hv : ∃ s, ρ0[v]? = some s ∧ s.free) (len : xs.length ≤ sizeLine) (hs : ∀ x, x ∈ xs → Ev te (ρ0.set v (.d x)) (.d (f x)) (ρ0.set v (.d x))) (v0 : v ≠ 0 := by decide) :
    El (tLc wi (gName v) tYes te [v]) ρ (xs.map f) (ρ0.set v .any) := by
  obtain ⟨s0, hs0, ns0⟩ := hv
  have lt0 := (List.getElem?_eq_some_iff.mp hs0).1
  have := el_lc (te := te) h (fun _ => ρ0.set v .any) (fun j => (xs.take j).map f) rfl ⟨s0, hs0, ns0⟩ rfl v0 (fun j hj => by rw [List.length_map, List.length_take]; omega) fun j x e _ => by
    refine ⟨f x, ρ0.set v (.d x), ?_, ?_, by rw [List.set_set], .d x, List.getElem?_set_self lt0, trivial⟩
    · show Ev te ((ρ0.set v .any).set v (.d x)) _ _
      rw [List.set_set]
      exact hs x (List.mem_of_getElem? e)
    · show (xs.take (j + 1)).map f = (xs.take j).map f ++ [f x]
      rw [take_snoc e, List.map_append]
      rfl
  have e2 : (xs.take xs.length).map f = xs.map f := by rw [List.take_length]
  rw [← e2]
  exact this
end
end OW
set_option Elab.async false
set_option linter.unusedVariables false
set_option linter.unusedSectionVars false
set_option maxRecDepth 100000
set_option maxHeartbeats 1000000
namespace OW
open PySem PySem.Spec PyProof.Rows L2 KA
variable [Tbs]
/-! ### comprehensions with targets of several names, and with a test -/
def anys (ρ : List Sl) : List Nat → List Sl
  | [] => ρ
  | v :: vs => (anys ρ vs).set v .any
def unsA (ρ : List Sl) : List Nat → List Sl
  | [] => ρ
  | v :: vs => (unsA ρ vs).set v .un
def freeAt (ρ : List Sl) : List Nat → Prop
  | [] => True
  | v :: vs => (∃ s, ρ[v]? = some s ∧ s.free) ∧ freeAt ρ vs
theorem freeAt_mem {ρ : List Sl} : ∀ {vs : List Nat} {v : Nat}, freeAt ρ vs → v ∈ vs → ∃ s, ρ[v]? = some s ∧ s.free
  | u :: vs, v, h, m => by
    rcases List.mem_cons.mp m with rfl | m
    · exact h.1
    · exact freeAt_mem h.2 m
theorem anys_length (ρ : List Sl) : ∀ vs : List Nat, (anys ρ vs).length = ρ.length
  | [] => rfl
  | v :: vs => by show ((anys ρ vs).set v .any).length = _; rw [List.length_set, anys_length ρ vs]
theorem unsA_length (ρ : List Sl) : ∀ vs : List Nat, (unsA ρ vs).length = ρ.length
  | [] => rfl
  | v :: vs => by show ((unsA ρ vs).set v .un).length = _; rw [List.length_set, unsA_length ρ vs]
theorem anys_in {ρ : List Sl} {i : Nat} : ∀ {vs : List Nat}, i ∈ vs → i < ρ.length → (anys ρ vs)[i]? = some .any
  | v :: vs, h, lt => by
    show ((anys ρ vs).set v .any)[i]? = _
    by_cases e : v = i
    · subst e
      exact List.getElem?_set_self (by rw [anys_length]; exact lt)
    · rw [List.getElem?_set_ne e]
      exact anys_in ((List.mem_cons.mp h).resolve_left (Ne.symm e)) lt
theorem anys_out {ρ : List Sl} {i : Nat} : ∀ {vs : List Nat}, i ∉ vs → (anys ρ vs)[i]? = ρ[i]?
  | [], _ => rfl
  | v :: vs, h => by
    show ((anys ρ vs).set v .any)[i]? = _
    rw [List.getElem?_set_ne fun e => h (by rw [e]; exact List.mem_cons_self)]
    exact anys_out fun m => h (List.mem_cons_of_mem _ m)
theorem unsA_in {ρ : List Sl} {i : Nat} : ∀ {vs : List Nat}, i ∈ vs → i < ρ.length → (unsA ρ vs)[i]? = some .un
  | v :: vs, h, lt => by
    show ((unsA ρ vs).set v .un)[i]? = _
    by_cases e : v = i
    · subst e
      exact List.getElem?_set_self (by rw [unsA_length]; exact lt)
    · rw [List.getElem?_set_ne e]
      exact unsA_in ((List.mem_cons.mp h).resolve_left (Ne.symm e)) lt
theorem unsA_out {ρ : List Sl} {i : Nat} : ∀ {vs : List Nat}, i ∉ vs → (unsA ρ vs)[i]? = ρ[i]?
  | [], _ => rfl
  | v :: vs, h => by
    show ((unsA ρ vs).set v .un)[i]? = _
    rw [List.getElem?_set_ne fun e => h (by rw [e]; exact List.mem_cons_self)]
    exact unsA_out fun m => h (List.mem_cons_of_mem _ m)
theorem anys_ext {ρ ρ' : List Sl} {vs : List Nat} (len : ρ'.length = ρ.length) (h : ∀ i, i ∉ vs → ρ'[i]? = ρ[i]?) : anys ρ' vs = anys ρ vs := by
  apply List.ext_getElem?
  intro i
  by_cases m : i ∈ vs
  · by_cases lt : i < ρ.length
    · rw [anys_in m lt, anys_in m (by rw [len]; exact lt)]
    · rw [List.getElem?_eq_none (by rw [anys_length]; omega), List.getElem?_eq_none (by rw [anys_length]; omega)]
  · rw [anys_out m, anys_out m]
    exact h i m
theorem anys_set {ρ : List Sl} {vs : List Nat} {i : Nat} {s : Sl} (m : i ∈ vs) : anys (ρ.set i s) vs = anys ρ vs := anys_ext (List.length_set ..) fun j n => List.getElem?_set_ne fun e => n (by rw [← e]; exact m)
theorem anys_uns {ρ : List Sl} {vs : List Nat} : anys (unsA ρ vs) vs = anys ρ vs := anys_ext (unsA_length ..) fun i n => unsA_out n
theorem anys_anys {ρ : List Sl} {vs : List Nat} : anys (anys ρ vs) vs = anys ρ vs := anys_ext (anys_length ..) fun i n => anys_out n
theorem wipe_in {σ : L2.St} {i : Nat} : ∀ {vs : List Nat}, i ∈ vs → i < σ.length → (wipe σ vs)[i]? = some none
  | v :: vs, h, lt => by
    show ((wipe σ vs).set v none)[i]? = _
    by_cases e : v = i
    · subst e
      exact List.getElem?_set_self (by rw [wipe_length]; exact lt)
    · rw [List.getElem?_set_ne e]
      exact wipe_in ((List.mem_cons.mp h).resolve_left (Ne.symm e)) lt
theorem wipe_ext {σ σ' : L2.St} {vs : List Nat} (len : σ'.length = σ.length) (h : ∀ i, i ∉ vs → σ'[i]? = σ[i]?) : wipe σ' vs = wipe σ vs := by
  apply List.ext_getElem?
  intro i
  by_cases m : i ∈ vs
  · by_cases lt : i < σ.length
    · rw [wipe_in m lt, wipe_in m (by rw [len]; exact lt)]
    · rw [List.getElem?_eq_none (by rw [wipe_length]; omega), List.getElem?_eq_none (by rw [wipe_length]; omega)]
  · rw [wipe_out m, wipe_out m]
    exact h i m
theorem wipe_set {σ : L2.St} {vs : List Nat} {i : Nat} {x : Option V} (m : i ∈ vs) : wipe (σ.set i x) vs = wipe σ vs := wipe_ext (List.length_set ..) fun j n => List.getElem?_set_ne fun e => n (by rw [← e]; exact m)
theorem wipe_wipe {σ : L2.St} {vs : List Nat} : wipe (wipe σ vs) vs = wipe σ vs := wipe_ext (wipe_length ..) fun i n => wipe_out n
section
variable {c : Fr} {A A' : Am} {ρ ρ' : List Sl} {σ : L2.St} {H H' : Hp}
theorem rp_wipes (R : Rp c A ρ σ H) {vs : List Nat} (h : ∀ v ∈ vs, ρ[v]? = some .any) : Rp c A (unsA ρ vs) (wipe σ vs) H := by
  refine ⟨by rw [wipe_length, unsA_length, R.len], by rw [unsA_length]; exact R.sz, R.inj, R.off, R.live, R.keep, R.old, R.bor, ?_, R.tz, R.tb⟩
  intro i s z
  by_cases m : i ∈ vs
  · have lt := (List.getElem?_eq_some_iff.mp (h i m)).1
    rw [unsA_in m lt] at z
    cases z
    rw [wipe_in m (by rw [R.len]; exact lt)]
    exact ⟨rfl, R.sl i _ (h i m)⟩
  · rw [unsA_out m] at z
    rw [wipe_out m]
    exact R.sl i s z
theorem rp_unwipes {σ2 : L2.St} (R : Rp c A ρ σ2 H) {vs : List Nat} (e : wipe σ2 vs = wipe σ vs) (h : freeAt ρ vs) : Rp c A (anys ρ vs) σ H := by
  have len : σ2.length = σ.length := by
    have := congrArg List.length e
    rw [wipe_length, wipe_length] at this
    exact this
  refine ⟨by rw [anys_length, ← len, R.len], by rw [anys_length]; exact R.sz, R.inj, R.off, R.live, R.keep, R.old, R.bor, ?_, R.tz, R.tb⟩
  intro i t z
  by_cases m : i ∈ vs
  · obtain ⟨s, hs, fs⟩ := freeAt_mem h m
    have lt := (List.getElem?_eq_some_iff.mp hs).1
    rw [anys_in m lt] at z
    cases z
    have o := R.sl i _ hs
    show A i = none
    cases s with
    | un => exact o.2
    | any => exact o
    | d x => exact o.1
    | p P => exact o.1
    | l xs => exact fs.elim
    | la a xs => exact fs.elim
    | wa a xs => exact fs.elim
    | dk _ => exact fs.elim
    | lm _ => exact fs.elim
  · rw [anys_out m] at z
    have e' : σ2[i]? = σ[i]? := by
      rw [← wipe_out (σ := σ2) m, e, wipe_out m]
    rw [← e']
    exact R.sl i t z
end
/-- a target that changes no slot but vs -/
def TgW (vs : List Nat) (g : TG) (s : Sl) (ρ ρ' : List Sl) : Prop := ∀ (c : Fr) (A : Am) (σ : L2.St) (H : Hp) (v : V) (Q : L2.St → Hp → Prop), Rp c A ρ σ H → A fl = none → ArOk (vw c.Z A H) v s →
  (∀ A' σ' H', Rp c A' ρ' σ' H' → A' fl = none → Same (vw c.Z A H) (vw c.Z A' H') → wipe σ' vs = wipe σ vs → Q σ' H') → g v σ H Q
def TgsW (vs : List Nat) (g : TGs) (ss : List Sl) (ρ ρ' : List Sl) : Prop := ∀ (c : Fr) (A : Am) (σ : L2.St) (H : Hp) (ws : List V) (Q : L2.St → Hp → Prop), Rp c A ρ σ H → A fl = none → ArAll (vw c.Z A H) ws ss →
  (∀ A' σ' H', Rp c A' ρ' σ' H' → A' fl = none → Same (vw c.Z A H) (vw c.Z A' H') → wipe σ' vs = wipe σ vs → Q σ' H') → g ws σ H Q
section
variable {ρ ρ' ρ0 ρ1 ρ2 : List Sl} {te ta tb tc : TE} {s s' : Sl} {x y : PyData} {i k : Nat} {tr : TA} {xs ys : List PyData} {ss : List Sl} {g : TG} {gs : TGs} {KF : PySem.W.Frag} {vs : List Nat} {wi : TI} {tt : TT}
theorem tgw_name (m : i ∈ vs := by decide) (i0 : i ≠ 0 := by decide) (i1 : i ≠ fl := by decide) : TgW vs (gName i) s ρ (ρ.set i s) := fun c A σ H v Q R f o q =>
  q _ _ H (R.set i0 o.sl) (by rw [aset_ne i1.symm]; exact f) vw_land (wipe_set m)
theorem tgsw_nil : TgsW vs gNil [] ρ ρ := fun c A σ H ws Q R f o q => by
  cases ws with
  | nil => exact ⟨rfl, q A σ H R f (Same.refl _) rfl⟩
  | cons _ _ => exact o.elim
theorem tgsw_cons (h : TgW vs g s ρ ρ1) (k : TgsW vs gs ss ρ1 ρ2) : TgsW vs (gCons g gs) (s :: ss) ρ ρ2 := fun c A σ H ws Q R f o q => by
  cases ws with
  | nil => exact o.elim
  | cons v ws => exact ⟨v, ws, rfl, h c A σ H v _ R f o.1 fun A1 σ1 H1 R1 f1 S1 w1 => k c A1 σ1 H1 ws _ R1 f1 (o.2.mono S1) fun A2 σ2 H2 R2 f2 S2 w2 => q A2 σ2 H2 R2 f2 (S1.trans S2) (w2.trans w1)⟩
theorem tgw_tup {n : Nat} (h : TgsW vs gs (xs.map Sl.d) ρ ρ1) (len : xs.length = n := by rfl) : TgW vs (gTup KF n gs) (.d (.tuple xs)) ρ ρ1 := fun c A σ H v Q R f o q => by
  obtain ⟨a, ws, rfl, e, dx⟩ := tup_v o
  exact ⟨a, ws, rfl, SqT.of (vw_sub _ _ e), dx.length.trans len, h c A σ H ws _ R f (arAll_d dx) q⟩
/-- a walk whose list may be owned, as long as each turn keeps it -/
def FiR (wi : TI) (ρ : List Sl) (xs : List PyData) (ρ0 : List Sl) (R : Nat → List Sl) : Prop := ∀ (c : Fr) (A : Am) (σ : L2.St) (H : Hp) (R0 : It → Hp → Prop), Rp c A ρ σ H → A fl = none →
  (∀ J A1 H1, Rp c A1 ρ0 σ H1 → A1 fl = none → Same (vw c.Z A H) (vw c.Z A1 H1) →
    (∀ (j : Nat) A' H', j ≤ xs.length → Rp c A' (R j) σ H' → Same (vw c.Z A1 H1) (vw c.Z A' H') → (∀ x, xs[j]? = some x → J.go j H' ∧ ∀ v H2, J.yld j H' v H2 → Same H' H2 ∧ Dn (vw c.Z A' H2) v x) ∧ (j = xs.length → J.stop j H')) → R0 J H1) → wi σ H R0
theorem fiR {R : Nat → List Sl} (h : Fi wi ρ xs ρ0) : FiR wi ρ xs ρ0 R := fun c A σ H R0 RR f k => h c A σ H R0 RR f fun J A1 H1 R1 f1 S1 jk => k J A1 H1 R1 f1 S1 fun j A' H' hj R' S' => by
  refine ⟨fun x e => ?_, fun e => ?_⟩
  · obtain ⟨go, yl⟩ := jk.1 j x H' e (S'.trans vw_sub)
    refine ⟨go, fun v H2 y => ?_⟩
    obtain ⟨S2, dn⟩ := yl v H2 y
    exact ⟨S2, dn _ (S'.trans (vw_up S2)) fun b o n e => new_view R' n e⟩
  · subst e
    exact jk.2 H' (S'.trans vw_sub)
theorem fiR_own {R : Nat → List Sl} (h : ρ[k]? = some (.l xs)) (hR : ∀ j, j ≤ xs.length → (R j)[k]? = some (.l xs)) : FiR (iList KF (tVar k)) ρ xs ρ R := fun c A σ H R0 RR f kk => by
  obtain ⟨a, us, e, e1, e2, dx⟩ := RR.sl k _ h
  refine ⟨_, e1, a, rfl, ⟨us, SqL.of e2⟩, kk _ A H RR f (Same.refl _) fun j A' H' hj R' S' => ?_⟩
  obtain ⟨b, ws, e3, e4, e5, dy⟩ := R'.sl k _ (hR j hj)
  rw [e1] at e4
  cases e4
  refine ⟨fun x ex => ?_, fun ej => ?_⟩
  · have lt : j < ws.length := by rw [dy.length]; exact (List.getElem?_eq_some_iff.mp ex).1
    refine ⟨⟨ws, ws[j], SqL.of e5, List.getElem?_eq_getElem lt⟩, fun v H3 ⟨q1, q2⟩ => ?_⟩
    subst q1
    refine ⟨Same.refl _, ?_⟩
    obtain ⟨x', e', dn⟩ := dn_at dy (q2 ws (SqL.of e5))
    rw [ex] at e'
    cases e'
    exact dn
  · subst ej
    exact ⟨ws, SqL.of e5, by rw [dy.length]; exact Nat.le_refl _⟩
theorem el_lcR (R : Nat → List Sl) (h : FiR wi ρ xs ρ0 R) (acc : Nat → List PyData) (h0 : R 0 = anys ρ0 vs) (hv : freeAt ρ0 vs) (ha : acc 0 = [])
    (len : ∀ j, j < xs.length → (acc j).length < sizeLine)
    (hs : ∀ j x, xs[j]? = some x → (∀ v ∈ vs, (R j)[v]? = some .any) → ∃ ρ2 ρ3 b, TgW vs g (.d x) (unsA (R j) vs) ρ2 ∧ Et tt ρ2 b ρ3 ∧
      (b = true → ∃ y ρ4, Ev te ρ3 (.d y) ρ4 ∧ acc (j + 1) = acc j ++ [y] ∧ anys ρ4 vs = R (j + 1) ∧ freeAt ρ4 vs) ∧ (b = false → acc (j + 1) = acc j ∧ anys ρ3 vs = R (j + 1) ∧ freeAt ρ3 vs)) :
    El (tLc wi g tt te vs) ρ (acc xs.length) (R xs.length) := fun c A σ H Q R0 f q =>
  h c A σ H _ R0 f fun J A1 H1 R1 f1 S1 jk => fun D hD => by
    have any0 : Rp c A1 (anys ρ0 vs) σ H1 := rp_unwipes R1 rfl hv
    have lts : ∀ v ∈ vs, v < ρ0.length := fun v m => by
      obtain ⟨s, hs, _⟩ := freeAt_mem hv m
      exact (List.getElem?_eq_some_iff.mp hs).1
    refine ⟨fun j m H' => m = xs.length - j ∧ j ≤ xs.length ∧ ∃ A' us, Rp c A' (R j) σ H' ∧ (∀ v ∈ vs, (R j)[v]? = some .any) ∧ A' fl = some D ∧ H' D = some (.lst us) ∧ DnAll (vw c.Z A' H') us (acc j) ∧ Same (vw c.Z A1 H1) (vw c.Z A' H'), ⟨xs.length, by simp, Nat.zero_le _, _, [], by rw [h0]; exact any0.fly hD, ?_, aset_at, upd_same, by rw [ha]; exact .nil, vw_fly hD⟩, ?_⟩
    · intro v m
      rw [h0]
      exact anys_in m (lts v m)
    rintro j m H' ⟨rfl, hj, A', us, R', an, f', eD, dx, S'⟩
    by_cases lt : j < xs.length
    · have e := List.getElem?_eq_getElem lt
      obtain ⟨go, yl⟩ := (jk j A' H' hj R' S').1 _ e
      refine Or.inr ⟨go, fun H2 => j + 1 ≤ xs.length ∧ ∃ A' us, Rp c A' (R (j + 1)) σ H2 ∧ (∀ v ∈ vs, (R (j + 1))[v]? = some .any) ∧ A' fl = some D ∧ H2 D = some (.lst us) ∧ DnAll (vw c.Z A' H2) us (acc (j + 1)) ∧ Same (vw c.Z A1 H1) (vw c.Z A' H2), fun H2 p => ⟨xs.length - (j + 1), by omega, rfl, p.1, p.2⟩, fun w H2 y => ?_⟩
      obtain ⟨S2, dn⟩ := yl w H2 y
      have R2 := R'.up S2
      have eD2 := S2 _ _ eD
      have dx2 : DnAll (vw c.Z A' H2) us (acc j) := DnAll.mono (vw_up S2) dx
      have dw : Dn (vw c.Z A' H2) w xs[j] := dn
      have P := R2.park f'
      have hvp := vw_park (c := c) (H := H2) f' R2.inj
      have PW := rp_wipes P an
      obtain ⟨ρ2, ρ3, b, tg, et, yes, no⟩ := hs j _ e an
      refine tg (c.park D H2 (vw c.Z A' H2)) _ _ H2 w _ PW aset_at (by
        show Dn (vw (fun b => c.Z b ∨ b = D) (aset A' fl none) H2) w xs[j]
        rw [hvp]
        exact dw) fun A3 σ3 H3 R3 f3 S3 w3 => ⟨w3.trans wipe_wipe, ?_⟩
      have wip : wipe σ3 vs = wipe σ vs := w3.trans wipe_wipe
      refine et (c.park D H2 (vw c.Z A' H2)) A3 σ3 H3 _ R3 f3 fun A4 H4 R4 f4 S4 => ?_
      have nZ : ¬ c.Z D := R2.off _ _ f'
      have back : ∀ {A5 : Am} {ρ5 : List Sl} {H5 : Hp}, Rp (c.park D H2 (vw c.Z A' H2)) A5 ρ5 σ3 H5 → A5 fl = none → freeAt ρ5 vs → Rp c (aset A5 fl (some D)) (anys ρ5 vs) σ H5 ∧ H5 D = some (.lst us) ∧ Same (vw c.Z A' H2) (vw c.Z (aset A5 fl (some D)) H5) := by
        intro A5 ρ5 H5 R5 f5 fr5
        have U := R5.unpark f5 nZ R2.tz (fun a z => R2.keep a z) R2.old
        refine ⟨rp_unwipes U wip fr5, ((R5.keep D (Or.inr rfl) (R2.nt f')).2).trans eD2, ?_⟩
        rw [vw_unpark (c := c) (H := H5) (D := D) f5]
        exact R5.old
      have lts2 : ∀ {ρ5 : List Sl}, freeAt ρ5 vs → ∀ v ∈ vs, (anys ρ5 vs)[v]? = some .any := fun fr v m => by
        obtain ⟨s, hs, _⟩ := freeAt_mem fr m
        exact anys_in m (List.getElem?_eq_some_iff.mp hs).1
      cases b with
      | true =>
        obtain ⟨y, ρ4, ev, ea, eR, fr⟩ := yes rfl
        show te σ3 H4 _
        refine ev (c.park D H2 (vw c.Z A' H2)) A4 σ3 H4 _ R4 f4 fun u A5 H5 R5 f5 S5 o5 => ?_
        obtain ⟨U1, eD3, SS⟩ := back R5 f5 fr
        have o5' : Dn (vw c.Z (aset A5 fl (some D)) H5) u y := by
          rw [vw_unpark (c := c) (H := H5) (D := D) f5]
          exact o5
        have an2 := lts2 fr
        rw [eR] at U1 an2
        refine ⟨us, eD3, by rw [dx.length]; exact len j lt, lt, aset A5 fl (some D), us ++ [u], U1.mutFl aset_at, an2, aset_at, upd_same, ?_, ?_⟩
        · rw [vw_mut (A := aset A5 fl (some D)) (i := fl) aset_at, ea]
          exact (DnAll.mono SS dx2).snoc o5'
        · rw [vw_mut (A := aset A5 fl (some D)) (i := fl) aset_at]
          exact (S'.trans (vw_up S2)).trans SS
      | false =>
        obtain ⟨ea, eR, fr⟩ := no rfl
        obtain ⟨U1, eD3, SS⟩ := back R4 f4 fr
        have an2 := lts2 fr
        rw [eR] at U1 an2
        show j + 1 ≤ xs.length ∧ _
        refine ⟨lt, aset A4 fl (some D), us, U1, an2, aset_at, eD3, ?_, (S'.trans (vw_up S2)).trans SS⟩
        rw [ea]
        exact DnAll.mono SS dx2
    · have e : j = xs.length := by omega
      subst e
      exact Or.inl ⟨(jk _ A' H' hj R' S').2 rfl, q D us A' H' R' f' (S1.trans S') eD dx⟩
theorem el_lcG (h : Fi wi ρ xs ρ0) (R : Nat → List Sl) (acc : Nat → List PyData) (h0 : R 0 = anys ρ0 vs) (hv : freeAt ρ0 vs) (ha : acc 0 = [])
    (len : ∀ j, j < xs.length → (acc j).length < sizeLine)
    (hs : ∀ j x, xs[j]? = some x → (∀ v ∈ vs, (R j)[v]? = some .any) → ∃ ρ2 ρ3 b, TgW vs g (.d x) (unsA (R j) vs) ρ2 ∧ Et tt ρ2 b ρ3 ∧
      (b = true → ∃ y ρ4, Ev te ρ3 (.d y) ρ4 ∧ acc (j + 1) = acc j ++ [y] ∧ anys ρ4 vs = R (j + 1) ∧ freeAt ρ4 vs) ∧ (b = false → acc (j + 1) = acc j ∧ anys ρ3 vs = R (j + 1) ∧ freeAt ρ3 vs)) :
    El (tLc wi g tt te vs) ρ (acc xs.length) (R xs.length) := el_lcR R (fiR h) acc h0 hv ha len hs
theorem et_yes : Et tYes ρ true ρ := fun c A σ H Q R f q => q A H R f (Same.refl _)
/-- .. where nothing is changed: mapped and sieved -/
theorem el_lcF {f : PyData → PyData} {p : PyData → Bool} (h : Fi wi ρ xs ρ0) (hv : freeAt ρ0 vs) (len : xs.length ≤ sizeLine)
    (hs : ∀ x, x ∈ xs → ∃ ρ2, TgW vs g (.d x) (unsA (anys ρ0 vs) vs) ρ2 ∧ Et tt ρ2 (p x) ρ2 ∧ (p x = true → Ev te ρ2 (.d (f x)) ρ2) ∧ anys ρ2 vs = anys ρ0 vs ∧ freeAt ρ2 vs) :
    El (tLc wi g tt te vs) ρ ((xs.filter p).map f) (anys ρ0 vs) := by
  have lf : ∀ j, ((xs.take j).filter p).length ≤ j := fun j => Nat.le_trans (List.length_filter_le _ _) (by rw [List.length_take]; omega)
  have := el_lcG (g := g) (tt := tt) (te := te) (vs := vs) h (fun _ => anys ρ0 vs) (fun j => ((xs.take j).filter p).map f) rfl hv rfl (fun j hj => by rw [List.length_map]; exact Nat.lt_of_le_of_lt (lf j) (by omega)) fun j x e _ => by
    obtain ⟨ρ2, a, b, c, d, fr⟩ := hs x (List.mem_of_getElem? e)
    refine ⟨ρ2, ρ2, p x, a, b, fun hp => ⟨f x, ρ2, c hp, ?_, d, fr⟩, fun hp => ⟨?_, d, fr⟩⟩
    · show ((xs.take (j + 1)).filter p).map f = ((xs.take j).filter p).map f ++ [f x]
      rw [take_snoc e, List.filter_append, List.map_append, List.filter_cons_of_pos hp]
      rfl
    · show ((xs.take (j + 1)).filter p).map f = ((xs.take j).filter p).map f
      rw [take_snoc e, List.filter_append, List.filter_cons_of_neg (by rw [hp]; decide), List.filter_nil, List.append_nil]
  rw [List.take_length] at this
  exact this
/-- .. place by place -/
theorem el_lcYR (h : FiR wi ρ xs ρ0 fun _ => anys ρ0 vs) (hv : freeAt ρ0 vs) (len : xs.length ≤ sizeLine) (hl : ys.length = xs.length)
    (hs : ∀ (j : Nat) x y, xs[j]? = some x → ys[j]? = some y → ∃ ρ2, TgW vs g (.d x) (unsA (anys ρ0 vs) vs) ρ2 ∧ Ev te ρ2 (.d y) ρ2 ∧ anys ρ2 vs = anys ρ0 vs ∧ freeAt ρ2 vs) :
    El (tLc wi g tYes te vs) ρ ys (anys ρ0 vs) := by
  have := el_lcR (g := g) (tt := tYes) (te := te) (vs := vs) (fun _ => anys ρ0 vs) h (fun j => ys.take j) rfl hv rfl (fun j hj => by rw [List.length_take]; omega) fun j x e _ => by
    have lt : j < ys.length := by rw [hl]; exact (List.getElem?_eq_some_iff.mp e).1
    have ey := List.getElem?_eq_getElem lt
    obtain ⟨ρ2, a, b, c, d⟩ := hs j x _ e ey
    exact ⟨ρ2, ρ2, true, a, et_yes, fun _ => ⟨_, ρ2, b, take_snoc ey, c, d⟩, fun z => by cases z⟩
  rw [← hl, List.take_length] at this
  exact this
theorem el_lcY (h : Fi wi ρ xs ρ0) (hv : freeAt ρ0 vs) (len : xs.length ≤ sizeLine) (hl : ys.length = xs.length)
    (hs : ∀ (j : Nat) x y, xs[j]? = some x → ys[j]? = some y → ∃ ρ2, TgW vs g (.d x) (unsA (anys ρ0 vs) vs) ρ2 ∧ Ev te ρ2 (.d y) ρ2 ∧ anys ρ2 vs = anys ρ0 vs ∧ freeAt ρ2 vs) :
    El (tLc wi g tYes te vs) ρ ys (anys ρ0 vs) := el_lcYR (fiR h) hv len hl hs
/-- .. mapped -/
theorem el_lcM {f : PyData → PyData} (h : Fi wi ρ xs ρ0) (hv : freeAt ρ0 vs) (len : xs.length ≤ sizeLine)
    (hs : ∀ x, x ∈ xs → ∃ ρ2, TgW vs g (.d x) (unsA (anys ρ0 vs) vs) ρ2 ∧ Ev te ρ2 (.d (f x)) ρ2 ∧ anys ρ2 vs = anys ρ0 vs ∧ freeAt ρ2 vs) :
    El (tLc wi g tYes te vs) ρ (xs.map f) (anys ρ0 vs) := by
  have := el_lcF (f := f) (p := fun _ => true) (g := g) (tt := tYes) (te := te) h hv len fun x hx => by
    obtain ⟨ρ2, a, b, c, d⟩ := hs x hx
    exact ⟨ρ2, a, et_yes, fun _ => b, c, d⟩
  rw [List.filter_eq_self.mpr fun _ _ => rfl] at this
  exact this
theorem sm_seqI {t u : TS} {K : KK} (I : List Sl → Prop) (h : Sm t ρ { K with nx := I }) (k : ∀ ρ', I ρ' → Sm u ρ' K) : Sm (tSeq t u) ρ K :=
  sm_seq (sm_mono h k (fun _ _ z => z) (fun _ z => z) fun _ z => z)
theorem sm_par {i j : Nat} {ta : TA} {s t : Sl} {K : KK} (h : Es ta ρ [s, t] ρ1) (k : K.nx ((ρ1.set i s).set j t)) (i0 : i ≠ 0 := by decide) (i1 : i ≠ fl := by decide) (j0 : j ≠ 0 := by decide) (j1 : j ≠ fl := by decide) : Sm (tPar i j ta) ρ K := fun c A σ H D R f dk =>
  h c A σ H _ R f fun vs A1 H1 R1 f1 S1 o1 => by
    cases vs with
    | nil => exact o1.elim
    | cons v vs => cases vs with
      | nil => exact o1.2.elim
      | cons w vs => cases vs with
        | cons u vs => exact o1.2.2.elim
        | nil =>
          have o2 : ArOk (vw c.Z (aset A1 i none) H1) w t := o1.2.1.mono vw_land
          exact ⟨v, w, rfl, dk.nx _ _ _ _ k ((R1.set i0 o1.1.sl).set j0 o2.sl) (by rw [aset_ne j1.symm, aset_ne i1.symm]; exact f1)⟩
/-- slots of comprehensions: nothing is known of them -/
theorem sm_any {t : TS} {K : KK} (vs : List Nat) (hv : freeAt ρ vs) (g : Sm t (anys ρ vs) K) : Sm t ρ K := fun c A σ H D R f dk => g c A σ H D (rp_unwipes R rfl hv) f dk
theorem sm_freeze {t : TS} {K : KK} (k : Nat) (h : ρ[k]? = some (.l xs)) (g : Sm t (ρ.set k (.d (.list xs))) K) (k0 : k ≠ 0 := by decide) : Sm t ρ K := fun c A σ H D R f dk => by
  obtain ⟨a, e, e1, dn, R'⟩ := R.freeze k0 h
  exact g c _ σ H D R' (by rw [aset_ne (idx_small R.sz h).symm]; exact f) dk
/-! ### in a comprehension: the frame's K by an equation -/
section
variable {X : Cx} {K : PySem.W.Frag}
theorem op_in_seqK (e : X.K = K) : OpR X (compareOp .In) (rIn K false) := by subst e; exact op_in_seq
theorem op_notIn_seqK (e : X.K = K) : OpR X (compareOp .NotIn) (rIn K true) := by subst e; exact op_notIn_seq
theorem pg_tupK {es : List Expr} {k : Nat} {t : TGs} {n : Nat} {pos : Pos} (e : X.K = K) (hc : X.calm = true) (h : PGs X es t)
    (hn : (assignEach es X.env).length = n := by rfl) (hst : (assignEach es X.env).findIdx? (·.1) = none := by rfl) : PG X (.Tuple es k pos) (gTup K n t) := by subst e; exact pg_tup hc h hn hst
theorem ix_tupK (e : X.K = K) : IxR X (rIxT K) := by subst e; exact ix_tup
theorem ix_listK (e : X.K = K) : IxR X (rIxL K) := by subst e; exact ix_list
theorem sl_tupAK (e : X.K = K) : SlR X (rSlA K) := by subst e; exact sl_tupA
theorem sl_listK (e : X.K = K) : SlR X (rSlL K) := by subst e; exact sl_list
theorem op_catAK (e : X.K = K) : OpR X (binaryOp .Add) (rCatA K) := by subst e; exact op_catA
theorem call_len_seqK (e : X.K = K) : CallR X (.builtin "len") (fun xs H Q => ∃ p ys, xs = [.ref p] ∧ (SqL K H p ys ∨ SqT K H p ys) ∧ Q (.int ys.length) H) := by subst e; exact call_len_seq
end
/-! ### more operators -/
theorem ev_chain {r r' : R2} {a b c : Int} {f f' : Int → Int → Bool} (ha : Ev ta ρ (.d (.int a)) ρ1) (hb : Ev tb ρ1 (.d (.int b)) ρ2) (hc : f a b = true → Ev tc ρ2 (.d (.int c)) ρ2) (hr : FV2 r (.d (.int a)) (.d (.int b)) (.d (.bool (f a b)))) (hr' : FV2 r' (.d (.int b)) (.d (.int c)) (.d (.bool (f' b c)))) :
    Ev (tChain r r' ta tb tc) ρ (.d (.bool (f a b && f' b c))) ρ2 := fun cc A σ H Q R fl0 q =>
  ha cc A σ H _ R fl0 fun u A1 H1 R1 f1 S1 o1 => hb cc A1 σ H1 _ R1 f1 fun v A2 H2 R2 f2 S2 o2 => hr _ H2 u v _ vw_sub (o1.mono S2) o2 fun z H3 S3 o3 => by
    have R3 := R2.up S3
    have z0 := o3 _ (vw_up S3) fun b o n e => new_view R2 n e
    refine ⟨f a b, bool_v z0, ?_⟩
    cases e : f a b with
    | true =>
      rw [if_pos rfl]
      refine hc e cc A2 σ H3 _ R3 f2 fun w A4 H4 R4 f4 S4 o4 => hr' _ H4 v w Q vw_sub ((o2.mono (vw_up S3)).mono S4) o4 fun z' H5 S5 o5 => ?_
      rw [e, Bool.true_and] at q
      exact q z' A4 H5 (R4.up S5) f4 ((((S1.trans S2).trans (vw_up S3)).trans S4).trans (vw_up S5)) (o5 _ (vw_up S5) fun b o n e => new_view R4 n e)
    | false =>
      rw [if_neg (by decide)]
      rw [e, Bool.false_and] at q
      exact q _ A2 H3 R3 f2 ((S1.trans S2).trans (vw_up S3)) (.bl false)
theorem ev_negI {n : Int} (h : Ev te ρ (.d (.int n)) ρ1) : Ev (tUn (rU fun i => .int (-i)) te) ρ (.d (.int (-n))) ρ1 := fun c A σ H Q R f q => h c A σ H _ R f fun v A1 H1 R1 f1 S1 o1 => by
  obtain rfl := int_v o1
  exact ⟨n, rfl, q _ A1 H1 R1 f1 S1 (.int _)⟩
theorem ev_slS {tl th : TO} {z : Str} {lo hi : Option Int} (h : Ev te ρ (.d (.str z)) ρ') (h1 : Eo tl ρ' lo ρ1) (h2 : Eo th ρ1 hi ρ2) (len : z.length ≤ sizeLine) : Ev (tSl rSlS te tl th) ρ (.d (.str (cutS z lo hi))) ρ2 := fun c A σ H Q R f q =>
  h c A σ H _ R f fun v A1 H1 R1 f1 S1 o1 => h1 c A1 σ H1 _ R1 f1 fun A2 H2 R2 f2 S2 => h2 c A2 σ H2 _ R2 f2 fun A3 H3 R3 f3 S3 => by
    obtain rfl := str_v o1
    exact ⟨z, rfl, len, q _ A3 H3 R3 f3 ((S1.trans S2).trans S3) (.str _)⟩
theorem el_revL (h : Ev te ρ (.d (.list xs)) ρ1) : El (tRevL KF te) ρ xs.reverse ρ1 := fun c A σ H Q R f q =>
  h c A σ H _ R f fun v A1 H1 R1 f1 S1 o1 => by
    obtain ⟨a, us, rfl, e, dx⟩ := lst_v o1
    have rv : ∀ {us : List V} {xs : List PyData}, DnAll (vw c.Z A1 H1) us xs → DnAll (vw c.Z A1 H1) us.reverse xs.reverse := fun {us xs} h => by
      induction h using DnAll.rec (motive_1 := fun _ _ _ => True) with
      | nil => exact .nil
      | cons a b _ ih =>
        rw [List.reverse_cons, List.reverse_cons]
        exact ih.snoc a
      | _ => trivial
    exact ⟨a, us, rfl, SqL.of (vw_sub _ _ e), fun p hp => q p _ _ _ (R1.fly hp) aset_at (S1.trans (vw_fly hp)) upd_same (DnAll.mono (vw_fly hp) (rv dx))⟩
theorem fv_strI {n : Int} (h : n.natAbs.log2 < 1920) : FV (fun xs H Q => ∃ i, xs = [.int i] ∧ i.natAbs.log2 < 1920 ∧ Q (.str (toString i)) H) [.d (.int n)] (.d (.str (toString n))) := fv_s (dS (toString n)) fun W H vs Q S o q => by
  match vs, o with
  | [v], o =>
    obtain rfl := int_v o.1
    exact ⟨n, rfl, h, q⟩
theorem fv_sign {c : Nat} {z : Str} : FV2 (fun x y H Q => ∃ (c : Nat) (z : Str), x = .str ⟨#[c]⟩ ∧ y = .str z ∧ Q (.bl (decide (c ∈ z.cps.toList))) H) (.d (.str ⟨#[c]⟩)) (.d (.str z)) (.d (.bool (decide (c ∈ z.cps.toList)))) := fv2_s (dB (decide (c ∈ z.cps.toList))) fun W H v w Q S o o' q => ⟨c, z, str_v o, str_v o', q⟩
theorem fv_nsign {c : Nat} {z : Str} : FV2 (fun x y H Q => ∃ (c : Nat) (z : Str), x = .str ⟨#[c]⟩ ∧ y = .str z ∧ Q (.bl (!decide (c ∈ z.cps.toList))) H) (.d (.str ⟨#[c]⟩)) (.d (.str z)) (.d (.bool (!decide (c ∈ z.cps.toList)))) := fv2_s (dB (!decide (c ∈ z.cps.toList))) fun W H v w Q S o o' q => ⟨c, z, str_v o, str_v o', q⟩
theorem fv_notB {a b : Bool} : FV2 rNotB (.d (.bool a)) (.d (.bool b)) (.d (.bool (!decide (a = b)))) := fv2_s (dB (!decide (a = b))) fun W H v w Q S o o' q => ⟨a, b, bool_v o, bool_v o', q⟩
theorem fv_isB {a b : Bool} : FV2 rIsB (.d (.bool a)) (.d (.bool b)) (.d (.bool (decide (a = b)))) := fv2_s (dB (decide (a = b))) fun W H v w Q S o o' q => ⟨a, b, bool_v o, bool_v o', q⟩
theorem fv_lenS {z : Str} (h : z.length ≤ sizeLine) : FV (fun xs H Q => ∃ x, xs = [.str x] ∧ x.length ≤ sizeLine ∧ Q (.int x.length) H) [.d (.str z)] (.d (.int (z.length : Int))) := fv_s (dI (z.length : Int)) fun W H vs Q S o q => by
  match vs, o with
  | [v], o =>
    obtain rfl := str_v o.1
    exact ⟨z, rfl, h, q⟩
/-- t == (), xs == [] -/
theorem fv_eqET : FV2 rEqE (.d (.tuple xs)) (.d (.tuple [])) (.d (.bool xs.isEmpty)) := fv2_s (dB xs.isEmpty) fun W H v w Q S o o' q => by
  obtain ⟨a, us, rfl, e, dx⟩ := tup_v o
  obtain ⟨b, ws, rfl, e', dy⟩ := tup_v o'
  cases dy
  refine ⟨a, b, us, rfl, rfl, Or.inl ⟨S _ _ e, S _ _ e'⟩, ?_⟩
  have : us.isEmpty = xs.isEmpty := by cases dx <;> rfl
  rw [this]
  exact q
theorem fv_eqEL : FV2 rEqE (.d (.list xs)) (.d (.list [])) (.d (.bool xs.isEmpty)) := fv2_s (dB xs.isEmpty) fun W H v w Q S o o' q => by
  obtain ⟨a, us, rfl, e, dx⟩ := lst_v o
  obtain ⟨b, ws, rfl, e', dy⟩ := lst_v o'
  cases dy
  refine ⟨a, b, us, rfl, rfl, Or.inr ⟨S _ _ e, S _ _ e'⟩, ?_⟩
  have : us.isEmpty = xs.isEmpty := by cases dx <;> rfl
  rw [this]
  exact q
theorem fv_neET : FV2 rNeE (.d (.tuple xs)) (.d (.tuple [])) (.d (.bool (!xs.isEmpty))) := fv2_s (dB (!xs.isEmpty)) fun W H v w Q S o o' q => by
  obtain ⟨a, us, rfl, e, dx⟩ := tup_v o
  obtain ⟨b, ws, rfl, e', dy⟩ := tup_v o'
  cases dy
  refine ⟨a, b, us, rfl, rfl, S _ _ e, S _ _ e', ?_⟩
  have : us.isEmpty = xs.isEmpty := by cases dx <;> rfl
  rw [this]
  exact q
def rNeEL : R2 := fun x y H Q => ∃ a b xs, x = .ref a ∧ y = .ref b ∧ H a = some (.lst xs) ∧ H b = some (.lst []) ∧ Q (.bl (!xs.isEmpty)) H
theorem op_neEL {X : Cx} (hu : X.A.units + 1 < cLine) : OpR X (compareOp .NotEq) rNeEL := by
  intro pins s σ H x y v u Q I rx ry h
  obtain ⟨a, b, xs, rfl, rfl, ha, hb, q⟩ := h
  cases rx
  cases ry
  have fin : EP X pins σ Q (.bool (!xs.isEmpty)) s := ⟨.bl (!xs.isEmpty), H, I, rfl, q⟩
  obtain ⟨_, its, n, r, ho⟩ := I.hok _ _ ha
  obtain ⟨_, its2, n2, r2, ho2⟩ := I.hok _ _ hb
  cases r2
  cases r with
  | nil => exact SeqAt.RcNeAt.lists (e := fun _ => true) ⟨_, ho, rfl, _, rfl⟩ ⟨_, ho2, rfl, _, rfl⟩ rfl (by omega) (fun j h1 h2 => absurd h2 (by simp)) _ _ _ _ (by simpa using fin)
  | cons r t => exact SeqAt.RcNeAt.lists_lengths ⟨_, ho, rfl, _, rfl⟩ ⟨_, ho2, rfl, _, rfl⟩ (by simp) (by omega) _ _ _ _ (by simpa using fin)
theorem fv_neEL : FV2 rNeEL (.d (.list xs)) (.d (.list [])) (.d (.bool (!xs.isEmpty))) := fv2_s (dB (!xs.isEmpty)) fun W H v w Q S o o' q => by
  obtain ⟨a, us, rfl, e, dx⟩ := lst_v o
  obtain ⟨b, ws, rfl, e', dy⟩ := lst_v o'
  cases dy
  refine ⟨a, b, us, rfl, rfl, S _ _ e, S _ _ e', ?_⟩
  have : us.isEmpty = xs.isEmpty := by cases dx <;> rfl
  rw [this]
  exact q
theorem ev_dnew : Ev tDNewK ρ (.d (.dict [])) ρ := fun c A σ H Q R f q => fun p hp =>
  q _ A _ (R.up (Same.new hp)) f (vw_up (Same.new hp)) (.dic (kvs := []) (new_view R hp upd_same) .nil .nil)
/-- names.index(name): the first place -/
theorem eqV_str {a b : Str} : eqV (.str a) (.str b) = decide (a = b) := by
  show (a == b) = _
  by_cases h : a = b
  · subst h
    rw [decide_eq_true rfl]
    exact beq_self_eq_true _
  · rw [decide_eq_false h]
    exact beq_eq_false_iff_ne.mpr h
theorem ev_indexS {ns : List Str} {n : Str} {j : Nat} (h : Ev te ρ (.d (.list (ns.map .str))) ρ1) (g : Ev ta ρ1 (.d (.str n)) ρ1) (hj : ns[j]? = some n) (hno : ∀ m, m < j → ns[m]? ≠ some n) :
    Ev (tBM KF "list" (rIndex KF) te (tCons ta tNil)) ρ (.d (.int (j : Int))) ρ1 := fun c A σ H Q R f q =>
  h c A σ H _ R f fun v A1 H1 R1 f1 S1 o1 => by
    obtain ⟨a, us, rfl, e, dx⟩ := lst_v o1
    have hu : us = ns.map V.str := by
      clear h hj hno o1 e
      induction ns generalizing us with
      | nil => cases dx; rfl
      | cons b bs ih =>
        cases dx with
        | cons h t =>
          cases h
          rw [List.map_cons, ih _ t]
    subst hu
    refine ⟨Or.inl ⟨rfl, _, SqL.of (vw_sub _ _ e)⟩, g c A1 σ H1 _ R1 f1 fun w A2 H2 R2 f2 S2 o2 => ?_⟩
    obtain rfl := str_v o2
    refine ⟨a, ns.map V.str, .str n, j, .str n, rfl, rfl, SqL.of (vw_sub _ _ (S2 _ _ e)), rfl, ?_, by rw [List.getElem?_map, hj]; rfl, by rw [eqV_str]; simp, fun m z' hm hz => ?_, q _ A2 H2 R2 f2 (S1.trans S2) (.int _)⟩
    · rw [List.all_map]
      exact List.all_eq_true.mpr fun _ _ => rfl
    · rw [List.getElem?_map] at hz
      cases e1 : ns[m]? with
      | none => rw [e1] at hz; cases hz
      | some b =>
        rw [e1] at hz
        cases hz
        rw [eqV_str]
        exact decide_eq_false fun z => hno m hm (by rw [e1, z])
end
end OW
/-! the code tables of this row -/
noncomputable instance : OW.Tbs := ⟨[(134, fun _ _ => "raised_by.<locals>.turn")]⟩
set_option Elab.async false
set_option linter.unusedVariables false
set_option maxRecDepth 100000
set_option maxHeartbeats 2000000
namespace KP
open PySem PySem.Spec PyProof.Rows L2 KA OW
/-! ### the purse -/
abbrev sLawCell : Stmt := top 52
abbrev nLawCell : List Str := ["_law_script", "_law_k"]
theorem scLawCell : FnScope nLawCell ["_law_script", "_law_k"] (defScope sLawCell) := ⟨rfl, rfl, rfl, by decide +kernel, rfl, by decide +kernel, by decide +kernel⟩
abbrev sLawBox : Stmt := top 53
abbrev nLawBox : List Str := ["_law_cell_here"]
theorem scLawBox : FnScope nLawBox ["_law_cell_here"] (defScope sLawBox) := ⟨rfl, rfl, rfl, by decide +kernel, rfl, by decide +kernel, by decide +kernel⟩
abbrev sLawTake : Stmt := top 54
abbrev nLawTake : List Str := ["_law_purse", "_law_wide", "_law_digit", "_law_number"]
theorem scLawTake : FnScope nLawTake ["_law_purse", "_law_wide"] (defScope sLawTake) := ⟨rfl, rfl, rfl, by decide +kernel, rfl, by decide +kernel, by decide +kernel⟩
abbrev sLawLetters : Stmt := top 55
abbrev nLawLetters : List Str := ["_law_purse", "_law_wide", "_law_letters_here", "_law_k", "_law_stem", "_law_first", "_law_at", "_law_names", "_law_letter", "_law_name"]
theorem scLawLetters : FnScope nLawLetters ["_law_purse", "_law_wide"] (defScope sLawLetters) := ⟨rfl, rfl, rfl, by decide +kernel, rfl, by decide +kernel, by decide +kernel⟩
def Purse (H : Hp) (p : Addr) (n : Nat) : Prop := ∃ a b c : Int, H p = some (.lst [.int a, .int b, .int c]) ∧ 0 ≤ a ∧ 0 ≤ b ∧ b < 2147483629 ∧ 0 ≤ c ∧ c ≤ (n : Int)
def maxN : Nat := 1000000000
def spCell (K : PySem.W.Frag) : Sp := fun vs H Q _ => ∃ (a : Addr) (ns : List Int) (j : Nat), vs = [.ref a, .int (j : Int)] ∧ SqL K H a (ns.map V.int) ∧ ∀ z, Q (.int z) H
def spPurse : Sp := fun vs H Q _ => ∃ z, vs = [.int z] ∧ ∀ p H', H p = none → Same H H' → Purse H' p 0 → Q (.ref p) H'
structure Pu where
  a : Int
  b : Int
  c : Int
def Pu.ds (p : Pu) : List PyData := [.int p.a, .int p.b, .int p.c]
def PuOk (p : Pu) (n : Nat) : Prop := 0 ≤ p.a ∧ 0 ≤ p.b ∧ p.b < 2147483629 ∧ 0 ≤ p.c ∧ p.c ≤ (n : Int)
theorem PuOk.more {p : Pu} {n m : Nat} (h : PuOk p n) (l : n ≤ m) : PuOk p m := ⟨h.1, h.2.1, h.2.2.1, h.2.2.2.1, by have := h.2.2.2.2; omega⟩
def takeF (p : Pu) (m : Int) : Int × Pu :=
  if 0 < p.a then (p.a % m, ⟨p.a / m, p.b, p.c⟩)
  else ((((p.b + 5861 * (p.c + 1) + 199) ^ 5 % 2147483647 + 92976 * (p.c + 1)) ^ 3 % 2147483587) / 16 % m, ⟨p.a, p.b, p.c + 1⟩)
theorem takeF_ok {p : Pu} {n : Nat} {m : Int} (h : PuOk p n) (hm : 0 < m) : 0 ≤ (takeF p m).1 ∧ (takeF p m).1 < m ∧ PuOk (takeF p m).2 (n + 1) := by
  obtain ⟨h1, h2, h3, h4, h5⟩ := h
  unfold takeF
  split
  · exact ⟨Int.emod_nonneg _ (by omega), Int.emod_lt_of_pos _ hm, Int.ediv_nonneg h1 (by omega), h2, h3, h4, by show p.c ≤ _; omega⟩
  · exact ⟨Int.emod_nonneg _ (by omega), Int.emod_lt_of_pos _ hm, h1, h2, h3, by show 0 ≤ p.c + 1; omega, by show p.c + 1 ≤ _; omega⟩
def tTake : List PyData → List Sl → (Rv → List PyData → Prop) → Prop := fun c as Kr => ∃ p n m, c = p.ds ∧ as = [.d (.int m)] ∧ PuOk p n ∧ n ≤ maxN ∧ 0 < m ∧ m < 1073741824 ∧ Kr (.d (.int (takeF p m).1)) (takeF p m).2.ds
/-- so a call of take tells -/
theorem got_take {p : Pu} {n : Nat} {m : Int} (h : PuOk p n) (hn : n ≤ maxN) (h0 : 0 < m) (h1 : m < 1073741824) : tTake p.ds ([.d (.int m)] ++ []) (fun r c' => r = .d (.int (takeF p m).1) ∧ c' = (takeF p m).2.ds) := ⟨p, n, m, rfl, rfl, h, hn, h0, h1, rfl, rfl⟩
theorem got_take' {p : Pu} {n : Nat} {m : Int} {q : Int × Pu} (e : takeF p m = q) (h : PuOk p n) (hn : n ≤ maxN) (h0 : 0 < m) (h1 : m < 1073741824) : tTake p.ds ([.d (.int m)] ++ []) (fun r c' => r = .d (.int q.1) ∧ c' = q.2.ds) := e ▸ got_take h hn h0 h1
section
variable {P : Program} {w : World} {K : PySem.W.Frag} {mg : Str → Option Value} {base : Heap}
theorem ok_cell {f : Addr} {fd : FuncData} (F : Fun K "_law_cell" "_law_cell" sLawCell f fd) (T : Txt K w mg) : FnOk P w K mg base CX0 1 f fd ["_law_script", "_law_k"] (spCell K) := by
  refine F.ok scLawCell (fun vs H Q E h => ?_) (fun cdv A outer s H vs Q E hr h => ?_)
  · obtain ⟨a, ns, j, rfl, _⟩ := h
    rfl
  · obtain ⟨a, ns, j, rfl, hS, k⟩ := h
    refine ⟨_, (pss_cons (ps_if (pt_cmpR op_lt (pv 1) (pe_callB call_len_seq (by rfl) T.len PySem.boot_len (pa_cons (pv 0) pa_nil)) (nomark _)) (pss_one (ps_ret (pe_ix ix_list (pv 0) (pv 1) (fun _ _ => rfl)))) pss_nil) (pss_one (ps_ret (pe_op op_add (pe_op op_mul pe_int (pv 1)) pe_int)))), ?_⟩
    refine ⟨_, rfl, _, rfl, a, _, rfl, Or.inl hS, _, _, rfl, rfl, _, rfl, ?_⟩
    refine ite2 (fun h => ?_) (fun h => ?_)
    · have lt := of_decide_eq_true h
      rw [List.length_map] at lt
      have lt : j < ns.length := by omega
      refine ⟨_, rfl, _, rfl, a, _, _, _, rfl, rfl, hS, at_of (j := j) rfl (by rw [List.getElem?_map, List.getElem?_eq_getElem lt]; rfl), k _⟩
    · exact ⟨_, rfl, _, _, rfl, rfl, Or.inl ⟨by decide, by decide⟩, _, _, rfl, rfl, k _⟩
theorem ok_purse {f : Addr} {fd : FuncData} (F : Fun K "_law_box" "_law_box" sLawBox f fd) (T : Txt K w mg) : FnOk P w K mg base CX0 1 f fd ["_law_cell_here"] spPurse := by
  refine F.ok scLawBox (fun vs H Q E h => ?_) (fun cdv A outer s H vs Q E hr h => ?_)
  · obtain ⟨z, rfl, _⟩ := h
    rfl
  · obtain ⟨z, rfl, k⟩ := h
    refine ⟨_, (pss_one (ps_ret (pe_lst (pa_cons (pe_callB (call_max2 rfl) (by rfl) T.max (by decide +kernel) (pa_cons pe_int (pa_cons (pe_op op_sub (pv 0) (pe_op op_pow pe_int pe_int)) pa_nil))) (pa_cons (pe_op op_mod (pv 0) pe_int) (pa_cons pe_int pa_nil)))))), ?_⟩
    refine ⟨_, rfl, 10, 18, rfl, rfl, ⟨by decide, by decide, by decide⟩, _, _, rfl, rfl, 0, _, rfl, _, rfl, z, 2147483629, rfl, rfl, (by show (0 : Int) < 2147483629; decide), (by show 3 ≤ sizeLine; decide), fun p hp => ?_⟩
    refine k p _ hp (Same.new hp) ⟨_, _, 0, upd_same, ?_, Int.emod_nonneg _ (by decide), Int.emod_lt_of_pos _ (by decide), Int.le_refl _, Int.le_refl _⟩
    split <;> omega
theorem ok_take {f : Addr} {fd : FuncData} (F : Fun K "_law_take" "_law_take" sLawTake f fd) (T : Txt K w mg) : FnOk P w K mg base CX0 1 f fd ["_law_purse", "_law_wide"] (spB 1 tTake) := by
  refine fn_b F scLawTake (body := fun cdv A outer s H E hr => ⟨_, (pss_cons (ps_if (pt_cmpR op_gt (pe_ix ix_list (pv 0) pe_int (fun _ _ => rfl)) pe_int (nomark _)) (pss_cons (ps_set (i := 2) scLawTake.nd rfl (Or.inl rfl) (pe_op op_mod (pe_ix ix_list (pv 0) pe_int (fun _ _ => rfl)) (pv 1)))
      (pss_cons (ps_asg (pe_op op_fdiv (pe_ix ix_list (pv 0) pe_int (fun _ _ => rfl)) (pv 1)) (pg_sub (pv 0) pe_int set_list))
      (pss_one (ps_ret (pv 2))))) pss_nil) (pss_cons (ps_asg (pe_op op_add (pe_ix ix_list (pv 0) pe_int (fun _ _ => rfl)) pe_int) (pg_sub (pv 0) pe_int set_list))
      (pss_cons (ps_set (i := 3) scLawTake.nd rfl (Or.inl rfl) (pe_op op_mod (pe_op op_pow (pe_op op_add (pe_op op_add (pe_ix ix_list (pv 0) pe_int (fun _ _ => rfl)) (pe_op op_mul pe_int (pe_ix ix_list (pv 0) pe_int (fun _ _ => rfl)))) pe_int) pe_int) pe_int))
      (pss_cons (ps_set (i := 3) scLawTake.nd rfl (Or.inl rfl) (pe_op op_mod (pe_op op_pow (pe_op op_add (pv 3) (pe_op op_mul pe_int (pe_ix ix_list (pv 0) pe_int (fun _ _ => rfl)))) pe_int) pe_int))
      (pss_one (ps_ret (pe_op op_mod (pe_op op_fdiv (pv 3) pe_int) (pv 1)))))))), ?_⟩)
  rintro ct as Kr _ ⟨p, n, m, rfl, rfl, hp, hn, hm, hm2, k⟩
  obtain ⟨a, b, c⟩ := p
  obtain ⟨h1, h2, h3, h4, h5⟩ := hp
  have h1 : 0 ≤ a := h1
  have h2 : 0 ≤ b := h2
  have h3 : b < 2147483629 := h3
  have h4 : 0 ≤ c := h4
  have h5 : c ≤ (n : Int) := h5
  unfold takeF at k
  have hcN : c + 1 ≤ 1000000001 := by
    unfold maxN at hn
    omega
  have q1 : (b + 5861 * (c + 1) + 199).natAbs < 2 ^ 64 := by omega
  have e0 := Int.emod_nonneg ((b + 5861 * (c + 1) + 199) ^ 5) (b := 2147483647) (by decide)
  have e1 := Int.emod_lt_of_pos ((b + 5861 * (c + 1) + 199) ^ 5) (b := 2147483647) (by decide)
  have q2 : ((b + 5861 * (c + 1) + 199) ^ 5 % 2147483647 + 92976 * (c + 1)).natAbs < 2 ^ 64 := by
    generalize (b + 5861 * (c + 1) + 199) ^ 5 % 2147483647 = t at e0 e1
    omega
  refine (sm_seq (sm_if (et_test (ev_op (ev_ixO rfl ev_int rfl at0) ev_int fv_cmpI)) (fun h => (sm_seq (sm_set (ev_op (ev_ixO rfl ev_int rfl at0) (ev_var rfl) (fv_intC ?_)) (sm_seq (sm_setI rfl (ev_op (ev_ixO rfl ev_int rfl at0) (ev_var rfl) (fv_intC ?_)) ev_int rfl rfl (sm_ret (ev_var rfl) ?_)))))) (fun h => (sm_next (sm_seq (sm_setI rfl (ev_op (ev_ixO rfl ev_int rfl at2) ev_int fv_int) ev_int rfl rfl (sm_seq (sm_set (ev_op (ev_op (ev_op (ev_op (ev_ixO rfl ev_int rfl at1) (ev_op ev_int (ev_ixO rfl ev_int rfl at2) (fv_intC ?_)) fv_int) ev_int fv_int) ev_int (fv_intC ?_)) ev_int (fv_intC ?_)) (sm_seq (sm_set (ev_op (ev_op (ev_op (ev_var rfl) (ev_op ev_int (ev_ixO rfl ev_int rfl at2) (fv_intC ?_)) fv_int) ev_int (fv_intC ?_)) ev_int (fv_intC ?_)) (sm_ret (ev_op (ev_op (ev_var rfl) ev_int (fv_intC ?_)) (ev_var rfl) (fv_intC ?_)) ?_)))))))))))
  · exact hm
  · exact ⟨hm, hm2⟩
  · rw [if_pos (of_decide_eq_true h)] at k
    exact ⟨_, rfl, k⟩
  · exact Or.inl ⟨by decide, by decide⟩
  · exact ⟨by decide, by decide, q1⟩
  · show (0 : Int) < 2147483647
    decide
  · exact Or.inl ⟨by decide, by decide⟩
  · exact ⟨by decide, by decide, q2⟩
  · show (0 : Int) < 2147483587
    decide
  · exact ⟨by decide, by decide⟩
  · exact hm
  · rw [if_neg (of_decide_eq_false h)] at k
    exact ⟨_, rfl, k⟩
end
/-! names -/
theorem fold_codes (cs : List Nat) : ∀ acc : Array Nat, (((cs.map fun c => (⟨#[c]⟩ : Str)).foldl (fun acc p => acc ++ (Str.ofString "").cps ++ p.cps) acc)).toList = acc.toList ++ cs := by
  have e0 : (Str.ofString "").cps = #[] := by decide +kernel
  rw [e0]
  induction cs with
  | nil => intro acc; simp
  | cons c cs ih =>
    intro acc
    rw [List.map_cons, List.foldl_cons, ih]
    simp
theorem join_codes (cs : List Nat) : (Txt.join (Str.ofString "") (cs.map fun c => (⟨#[c]⟩ : Str))).cps.toList = cs := by
  cases cs with
  | nil => decide +kernel
  | cons c cs =>
    show (((cs.map fun c => (⟨#[c]⟩ : Str)).foldl (fun acc p => acc ++ (Str.ofString "").cps ++ p.cps) (#[c] : Array Nat))).toList = c :: cs
    rw [fold_codes]
    rfl
theorem sum_ones (cs : List Nat) : ((cs.map fun c => (⟨#[c]⟩ : Str)).map (·.length)).sum = cs.length := by
  induction cs with
  | nil => rfl
  | cons c cs ih =>
    rw [List.map_cons, List.map_cons, List.sum_cons, ih, List.length_cons]
    show 1 + cs.length = cs.length + 1
    omega
theorem q_ok : ∀ y ∈ noNames, nameX ((("q" : Str)) ++ y) = true := by decide +kernel
def drawN : Nat → Pu → List Nat × Pu
  | 0, p => ([], p)
  | k + 1, p => ((drawN k p).1 ++ [97 + (takeF (drawN k p).2 26).1.toNat], (takeF (drawN k p).2 26).2)
theorem drawN_ok {p : Pu} {n : Nat} (h : PuOk p n) : ∀ k, PuOk (drawN k p).2 (n + k) ∧ (drawN k p).1.length = k ∧ (drawN k p).1.all letterB = true
  | 0 => ⟨h, rfl, rfl⟩
  | k + 1 => by
    obtain ⟨h1, h2, h3⟩ := drawN_ok h k
    obtain ⟨t0, t1, t2⟩ := takeF_ok (m := 26) h1 (by decide)
    refine ⟨t2, ?_, ?_⟩
    · show ((drawN k p).1 ++ [_]).length = k + 1
      rw [List.length_append, h2]
      rfl
    · show ((drawN k p).1 ++ [_]).all letterB = true
      rw [List.all_append, h3, List.all_cons, List.all_nil, Bool.and_true, Bool.true_and]
      unfold letterB
      rw [decide_eq_true (by omega), decide_eq_true (by omega)]
      rfl
theorem letter_is {r : Int} (h0 : 0 ≤ r) (h1 : r < 26) : atI letters.cps.toList r = some (97 + r.toNat) := by
  obtain ⟨j, rfl⟩ : ∃ j : Nat, r = (j : Int) := ⟨r.toNat, by omega⟩
  rw [letters_list, Int.toNat_natCast]
  have : ∀ j < 26, ([97, 98, 99, 100, 101, 102, 103, 104, 105, 106, 107, 108, 109, 110, 111, 112, 113, 114, 115, 116, 117, 118, 119, 120, 121, 122] : List Nat)[j]? = some (97 + j) := by decide
  exact at_nat (this j (by omega))
section
variable {ρ ρ' ρ1 ρ2 : List Sl} {te ta tb : TE} {KF : PySem.W.Frag}
theorem dn_strs {W : Hp} : ∀ {vs : List V} {bs : List Str}, DnAll W vs (bs.map .str) → vs = bs.map V.str
  | [], [], _ => rfl
  | v :: vs, b :: bs, h => by
    cases h with
    | cons h t =>
      cases h
      rw [dn_strs t]
      rfl
theorem ev_joinL {a : Str} {ys : List Str} (h : Ev ta ρ (.d (.str a)) ρ1) (g : Ev tb ρ1 (.d (.list (ys.map .str))) ρ2) (len : (ys.map (·.length)).sum + ys.length * a.length ≤ 16777216) :
    Ev (tM1 (fun x xs H Q => ∃ a p, ∃ ys : List Str, x = .str a ∧ xs = [.ref p] ∧ (SqL KF H p (ys.map V.str) ∨ SqT KF H p (ys.map V.str)) ∧ (ys.map (·.length)).sum + ys.length * a.length ≤ 16777216 ∧ Q (.str (Txt.join a ys)) H) ta tb) ρ (.d (.str (Txt.join a ys))) ρ2 := fun c A σ H Q R f q =>
  h c A σ H _ R f fun v A1 H1 R1 f1 S1 o1 => by
    obtain rfl := str_v o1
    refine ⟨⟨a, rfl⟩, g c A1 σ H1 _ R1 f1 fun u A2 H2 R2 f2 S2 o2 => ?_⟩
    obtain ⟨p, vs, rfl, e, dx⟩ := lst_v o2
    obtain rfl := dn_strs dx
    exact ⟨a, p, ys, rfl, rfl, Or.inl (SqL.of (vw_sub _ _ e)), len, q _ A2 H2 R2 f2 (S1.trans S2) (.str _)⟩
theorem fv_addS {a b : Str} (h : a.length + b.length ≤ sizeLine) : FV2 (fun x y H Q => ∃ i j, x = .str i ∧ y = .str j ∧ i.length + j.length ≤ sizeLine ∧ Q (.str (i ++ j)) H) (.d (.str a)) (.d (.str b)) (.d (.str (a ++ b))) := fv2_s (dS (a ++ b)) fun W H v w Q S o o' q => ⟨a, b, str_v o, str_v o', h, q⟩
end
def stemF (p : Pu) : Str := Txt.join (Str.ofString "") ((drawN 7 p).1.map fun c => ⟨#[c]⟩)
def nm1 (s : Str) (f a : Int) (k : Nat) : Str := cutS s none (some a) ++ (⟨#[97 + ((f + 7 * (k : Int)) % 26).toNat]⟩ : Str) ++ cutS s (some a) (some (a + (f + (k : Int)) % (8 - a)))
def nm2 (s : Str) (f : Int) (k : Nat) : Str := cutS s none (some (1 + (f + 5 * (k : Int)) % 7))
def fixq (x : Str) : Str := if (noNames.any fun y => y == x) = true then ("q" : Str) ++ x else x
/-- four names -/
def lettersF (p : Pu) : List Str × Pu :=
  ((if (takeF (takeF (takeF (drawN 7 p).2 26).2 7).2 2).1 = 0 then (List.range 4).map (nm2 (stemF p) (takeF (drawN 7 p).2 26).1) else (List.range 4).map (nm1 (stemF p) (takeF (drawN 7 p).2 26).1 (takeF (takeF (drawN 7 p).2 26).2 7).1)).map fixq,
    (takeF (takeF (takeF (drawN 7 p).2 26).2 7).2 2).2)
/-- letters, one to eight -/
def likeN (x : Str) : Prop := 1 ≤ x.length ∧ x.length ≤ 8 ∧ x.cps.toList.all letterB = true
theorem fixq_ok {x : Str} (h : likeN x) : nameX (fixq x) = true := by
  obtain ⟨h1, h2, h3⟩ := h
  unfold fixq
  split
  · rename_i c
    obtain ⟨y, hy, ey⟩ := List.any_eq_true.mp c
    obtain rfl : y = x := eq_of_beq ey
    exact q_ok y hy
  · rename_i c
    have c : (noNames.any fun y => y == x) = false := Bool.eq_false_iff.mpr c
    unfold nameX
    rw [c, h3, decide_eq_true h1, decide_eq_true h2]
    rfl
theorem cut_codes {z : Str} {lo hi : Option Int} : (cutS z lo hi).cps.toList = (z.cps.toList.drop (HT.sIx z.length 0 lo)).take (HT.sIx z.length z.length hi - HT.sIx z.length 0 lo) := by
  unfold cutS
  simp
theorem all_sub {l : List Nat} {a b : Nat} (h : l.all letterB = true) : ((l.drop a).take b).all letterB = true := by
  rw [List.all_eq_true] at h ⊢
  exact fun x hx => h x (List.mem_of_mem_drop (List.mem_of_mem_take hx))
theorem len_cps (z : Str) : z.length = z.cps.toList.length := by
  show z.cps.size = _
  exact (Array.length_toList ..).symm
theorem stem_ok {p : Pu} {n : Nat} (h : PuOk p n) : (stemF p).cps.toList = (drawN 7 p).1 ∧ (stemF p).length = 7 ∧ (stemF p).cps.toList.all letterB = true := by
  obtain ⟨d1, d2, d3⟩ := drawN_ok h 7
  have codes := join_codes (drawN 7 p).1
  have codes : (stemF p).cps.toList = (drawN 7 p).1 := codes
  exact ⟨codes, by rw [len_cps, codes, d2], by rw [codes, d3]⟩
theorem nm1_ok {s : Str} {f a : Int} {k : Nat} (l : s.length = 7) (al : s.cps.toList.all letterB = true) (f0 : 0 ≤ f) (a0 : 0 ≤ a) (a7 : a < 7) : likeN (nm1 s f a k) := by
  have m0 := Int.emod_nonneg (f + 7 * (k : Int)) (b := 26) (by decide)
  have m1 := Int.emod_lt_of_pos (f + 7 * (k : Int)) (b := 26) (by decide)
  have r0 := Int.emod_nonneg (f + (k : Int)) (b := 8 - a) (by omega)
  have r1 := Int.emod_lt_of_pos (f + (k : Int)) (b := 8 - a) (by omega)
  obtain ⟨i, rfl⟩ : ∃ i : Nat, a = (i : Int) := ⟨a.toNat, by omega⟩
  obtain ⟨j, hj⟩ : ∃ j : Nat, (i : Int) + (f + (k : Int)) % (8 - (i : Int)) = (j : Int) := ⟨((i : Int) + (f + (k : Int)) % (8 - (i : Int))).toNat, by omega⟩
  have codes : (nm1 s f i k).cps.toList = s.cps.toList.take i ++ [97 + ((f + 7 * (k : Int)) % 26).toNat] ++ (s.cps.toList.drop i).take (min j 7 - i) := by
    unfold nm1
    rw [hj]
    show ((cutS s none (some (i : Int))).cps ++ #[_] ++ (cutS s (some (i : Int)) (some (j : Int))).cps).toList = _
    rw [Array.toList_append, Array.toList_append, cut_codes, cut_codes, HT.sIx_none, HT.sIx_nat, HT.sIx_nat, HT.sIx_nat, l, List.drop_zero, Nat.sub_zero, Nat.min_eq_left (by omega : i ≤ 7)]
  refine ⟨?_, ?_, ?_⟩
  · rw [len_cps, codes]
    simp
    omega
  · rw [len_cps, codes]
    have : s.cps.toList.length = 7 := by rw [← len_cps, l]
    simp only [List.length_append, List.length_take, List.length_drop, List.length_singleton, this]
    omega
  · rw [codes, List.all_append, List.all_append, all_sub al]
    have := all_sub (a := 0) (b := i) al
    rw [List.drop_zero] at this
    rw [this, List.all_cons, List.all_nil]
    unfold letterB
    rw [decide_eq_true (by omega), decide_eq_true (by omega)]
    rfl
theorem nm2_ok {s : Str} {f : Int} {k : Nat} (l : s.length = 7) (al : s.cps.toList.all letterB = true) (f0 : 0 ≤ f) : likeN (nm2 s f k) := by
  have m0 := Int.emod_nonneg (f + 5 * (k : Int)) (b := 7) (by decide)
  have m1 := Int.emod_lt_of_pos (f + 5 * (k : Int)) (b := 7) (by decide)
  obtain ⟨j, hj⟩ : ∃ j : Nat, 1 + (f + 5 * (k : Int)) % 7 = (j : Int) := ⟨(1 + (f + 5 * (k : Int)) % 7).toNat, by omega⟩
  have codes : (nm2 s f k).cps.toList = s.cps.toList.take j := by
    unfold nm2
    rw [hj, cut_codes, HT.sIx_none, HT.sIx_nat, l, List.drop_zero, Nat.sub_zero, Nat.min_eq_left (by omega : j ≤ 7)]
  have l7 : s.cps.toList.length = 7 := by rw [← len_cps, l]
  refine ⟨?_, ?_, ?_⟩
  · rw [len_cps, codes, List.length_take]
    omega
  · rw [len_cps, codes, List.length_take]
    omega
  · rw [codes]
    have := all_sub (a := 0) (b := j) al
    rw [List.drop_zero] at this
    exact this
theorem lettersF_ok {p : Pu} {n : Nat} (h : PuOk p n) : (lettersF p).1.length = 4 ∧ (∀ x ∈ (lettersF p).1, nameX x = true) ∧ PuOk (lettersF p).2 (n + 10) := by
  obtain ⟨d1, d2, d3⟩ := drawN_ok h 7
  obtain ⟨s1, s2, s3⟩ := stem_ok h
  obtain ⟨f0, f1, f2⟩ := takeF_ok (m := 26) d1 (by decide)
  obtain ⟨a0, a1, a2⟩ := takeF_ok (m := 7) f2 (by decide)
  obtain ⟨t0, t1, t2⟩ := takeF_ok (m := 2) a2 (by decide)
  refine ⟨?_, ?_, t2⟩
  · unfold lettersF
    rw [List.length_map]
    split <;> rfl
  · intro x hx
    obtain ⟨y, hy, rfl⟩ := List.mem_map.mp hx
    refine fixq_ok ?_
    split at hy
    · obtain ⟨k, _, rfl⟩ := List.mem_map.mp hy
      exact nm2_ok s2 s3 f0
    · obtain ⟨k, _, rfl⟩ := List.mem_map.mp hy
      exact nm1_ok s2 s3 f0 a0 a1
def tLetters : List PyData → List Sl → (Rv → List PyData → Prop) → Prop := fun c as Kr => ∃ p n, c = p.ds ∧ as = [.d (.int 4)] ∧ PuOk p n ∧ n + 10 ≤ maxN ∧ Kr (.d (.list ((lettersF p).1.map .str))) (lettersF p).2.ds
end KP
set_option Elab.async false
set_option linter.unusedVariables false
set_option maxRecDepth 100000
set_option maxHeartbeats 2000000
namespace KP
open PySem PySem.Spec PyProof.Rows L2 KA OW
section
variable {P : Program} {w : World} {K : PySem.W.Frag} {mg : Str → Option Value} {base : Heap}
theorem letters26 : letters.length ≤ sizeLine := by decide +kernel
theorem ok_letters {f : Addr} {fd : FuncData} (F : Fun K "_law_letters" "_law_letters" sLawLetters f fd) (T : Txt K w mg) (C_law_take : C8.Cal P w K mg base 1 "_law_take" (spB 1 tTake) []) : FnOk P w K mg base CX0 2 f fd ["_law_purse", "_law_wide"] (spB 1 tLetters) := by
  refine fn_b F scLawLetters (body := fun cdv A outer s H E hr => ⟨_, (pss_cons (ps_set (i := 2) scLawLetters.nd rfl (Or.inr rfl) pe_str)
      (pss_cons (ps_set (i := 4) scLawLetters.nd rfl (Or.inr rfl) (pe_join pe_str (pe_lc (own := [("_law_k", 3)]) (g := gName 3) (tt := tYes) rfl scLawLetters.nd (pi_range1 (by rfl) T.range (pa_cons pe_int pa_nil)) (blkOk_by (N := nLawLetters) (sc := defScope sLawLetters) (by decide +kernel)) (fun _ _ _ _ _ => (pg_name (i := 3) scLawLetters.nd rfl (Or.inl rfl))) (fun _ _ _ _ _ => pts_nil) (fun _ _ _ _ _ => (pe_ix ix_str (pv 2) (C8.pe_c C_law_take hr (by omega) rfl (pa_cons (pv 0) (pa_cons pe_int pa_nil))) (fun _ _ => rfl))))))
      (pss_cons (ps_set (i := 5) scLawLetters.nd rfl (Or.inr rfl) (C8.pe_c C_law_take hr (by omega) rfl (pa_cons (pv 0) (pa_cons pe_int pa_nil))))
      (pss_cons (ps_set (i := 6) scLawLetters.nd rfl (Or.inl rfl) (C8.pe_c C_law_take hr (by omega) rfl (pa_cons (pv 0) (pa_cons pe_int pa_nil))))
      (pss_cons (ps_set (i := 7) scLawLetters.nd rfl (Or.inl rfl) (pe_lst pa_nil))
      (pss_cons (ps_for PassesOwn.never rfl (pi_range1 (by rfl) T.range (pa_cons (pv 1) pa_nil)) (pg_name (i := 3) scLawLetters.nd rfl (Or.inl rfl)) (pss_cons (ps_set (i := 8) scLawLetters.nd rfl (Or.inl rfl) (pe_ix ix_str (pv 2) (pe_op op_mod (pe_op op_add (pv 5) (pe_op op_mul pe_int (pv 3))) pe_int) (fun _ _ => rfl)))
      (pss_one (ps_expr (pe_bm PySem.F.plainAttrs_list PySem.F.slot_list_append PySem.F.type_list_append mt_append (pv 7) (pa_cons (pe_op op_add_str (pe_op op_add_str (pe_slice sl_str (pv 4) po_none (po_some (pv 6))) (pv 8)) (pe_slice sl_str (pv 4) (po_some (pv 6)) (po_some (pe_op op_add (pv 6) (pe_op op_mod (pe_op op_add (pv 5) (pv 3)) (pe_op op_sub pe_int (pv 6))))))) pa_nil))))))
      (pss_cons (ps_if (PW.pt (pw_and (pt_cmpR op_eq (C8.pe_c C_law_take hr (by omega) rfl (pa_cons (pv 0) (pa_cons pe_int pa_nil))) pe_int (nomark _)) (pw_and1 (pt_cmpR op_lt (pv 1) pe_int (nomark _))))) (pss_one (ps_setLc (i := 7) (own := [("_law_k", 3)]) (g := gName 3) (tt := tYes) rfl scLawLetters.nd rfl rfl (sw_true rfl rfl rfl (by decide +kernel)) (pi_range1 (by rfl) T.range (pa_cons (pv 1) pa_nil)) (blkOk_by (N := nLawLetters) (sc := defScope sLawLetters) (by decide +kernel)) (fun _ _ _ _ _ => (pg_name (i := 3) scLawLetters.nd rfl (Or.inl rfl))) (fun _ _ _ _ _ => pts_nil) (fun _ _ _ _ _ => (pe_slice sl_str (pv 4) po_none (po_some (pe_op op_add pe_int (pe_op op_mod (pe_op op_add (pv 5) (pe_op op_mul pe_int (pv 3))) pe_int))))))) pss_nil) (pss_one (ps_ret (pe_lc (own := [("_law_name", 9)]) (g := gName 9) (tt := tYes) rfl scLawLetters.nd (pi_list (pv 7)) (blkOk_by (N := nLawLetters) (sc := defScope sLawLetters) (by decide +kernel)) (fun _ _ _ _ _ => (pg_name (i := 9) scLawLetters.nd rfl (Or.inl rfl))) (fun _ _ _ _ _ => pts_nil) (fun _ _ _ _ _ => (pe_ifExp (pt_cmpR (op_in_seqK (K := K) rfl) (pv 9) (pe_tup (pa_cons pe_str (pa_cons pe_str (pa_cons pe_str (pa_cons pe_str (pa_cons pe_str pa_nil)))))) rfl) (pe_op op_add_str pe_str (pv 9)) (pv 9))))))))))))), ?_⟩)
  rintro ct as Kr _ ⟨p, n, rfl, rfl, hp, hn, k⟩
  have dk := fun j => drawN_ok hp j
  obtain ⟨s1, s2, s3⟩ := stem_ok hp
  obtain ⟨f0, f1, f2⟩ := takeF_ok (m := 26) (dk 7).1 (by decide)
  obtain ⟨a0, a1, a2⟩ := takeF_ok (m := 7) f2 (by decide)
  obtain ⟨t0, t1, t2⟩ := takeF_ok (m := 2) a2 (by decide)
  unfold lettersF at k
  refine sm_seq (sm_set ev_str (sm_seq (sm_set (ev_joinL (ys := (drawN 7 p).1.map fun c => (⟨#[c]⟩ : Str)) ev_str (Ev.of_el (El.is (el_lc (ρ0 := [.l p.ds, .d (.int 4), .d (.str letters), .un, .un, .un, .un, .un, .un, .un]) (fi_rng1 (eds_cons ev_int eds_nil) (by decide))
    (fun j => [.l (drawN j p).2.ds, .d (.int 4), .d (.str letters), .any, .un, .un, .un, .un, .un, .un]) (fun j => (drawN j p).1.map fun c => .str ⟨#[c]⟩) rfl ⟨.un, rfl, trivial⟩ rfl (by decide) ?_ fun j x ex an => ?_) ?_)) ?_) ?_)))
  · intro j hj
    have hj : j < 7 := hj
    rw [List.length_map, (dk j).2.1]
    exact Nat.lt_of_lt_of_le hj (by rw [sizeLine_eq]; decide)
  · obtain ⟨lt, rfl⟩ := rngD_at ex
    have lt : j < 7 := lt
    obtain ⟨j0, j1, j2⟩ := takeF_ok (m := 26) (dk j).1 (by decide)
    refine ⟨_, _, ev_op (ev_var rfl) (ev_callB (i := 0) rfl (es_cons ev_int es_nil) rfl ar_nil rfl (got_take (dk j).1 (by omega) (by decide) (by decide))) (fv_ixS letters26 (letter_is j0 j1)), ?_, rfl, _, rfl, trivial⟩
    show (drawN (j + 1) p).1.map _ = _
    rw [show (drawN (j + 1) p).1 = (drawN j p).1 ++ [97 + (takeF (drawN j p).2 26).1.toNat] from rfl, List.map_append]
    rfl
  · show (drawN 7 p).1.map _ = _
    rw [List.map_map]
    rfl
  · rw [sum_ones, List.length_map, (dk 7).2.1]
    have : (Str.ofString "").length = 0 := by decide +kernel
    rw [this]
    omega
  rw [show (rngD (7 : Int).toNat).length = 7 from rfl]
  refine sm_seq (sm_set (ev_callB (i := 0) rfl (es_cons ev_int es_nil) rfl ar_nil rfl (got_take (dk 7).1 (by omega) (by decide) (by decide))) (sm_seq (sm_set (ev_callB (i := 0) rfl (es_cons ev_int es_nil) rfl ar_nil rfl (got_take f2 (by omega) (by decide) (by decide))) (sm_seq (sm_setL (el_lst eds_nil) ?_)))))
  have es : Txt.join (Str.ofString "") ((drawN 7 p).1.map fun c => (⟨#[c]⟩ : Str)) = stemF p := rfl
  rw [es]
  generalize takeF (drawN 7 p).2 26 = F1 at *
  generalize takeF F1.2 7 = F2 at *
  generalize stemF p = st at *
  obtain ⟨a, ha⟩ : ∃ a : Nat, F2.1 = (a : Int) := ⟨F2.1.toNat, by omega⟩
  have sz : ∀ lo hi, (cutS st lo hi).length ≤ 7 := fun lo hi => Nat.le_trans (cutS_length ..) (by omega)
  have st7 : st.length ≤ sizeLine := by rw [s2, sizeLine_eq]; decide
  refine sm_seq (sm_for (fi_rng1 (eds_cons (ev_var rfl) eds_nil) (by decide)) (fun j ρ => ∃ s3 s8, ρ = [.l F2.2.ds, .d (.int 4), .d (.str letters), s3, .d (.str st), .d (.int F1.1), .d (.int F2.1), .l (((List.range j).map (nm1 st F1.1 F2.1)).map .str), s8, .un] ∧ s3.free) ⟨.any, .un, rfl, trivial⟩ (fun j x ρ ex r => ?_) (fun ρ r => ?_))
  · obtain ⟨s3, s8, rfl, _⟩ := r
    obtain ⟨lt, rfl⟩ := rngD_at ex
    have lt : j < 4 := lt
    have m0 := Int.emod_nonneg (F1.1 + 7 * (j : Int)) (b := 26) (by decide)
    have m1 := Int.emod_lt_of_pos (F1.1 + 7 * (j : Int)) (b := 26) (by decide)
    refine ⟨_, tg_name, (sm_seq (sm_set (ev_op (ev_var rfl) (ev_op (ev_op (ev_var rfl) (ev_op ev_int (ev_var rfl) (fv_intC ?_)) fv_int) ev_int (fv_intC ?_)) (fv_ixS letters26 (letter_is m0 m1))) (sm_app rfl (ev_op (ev_op (ev_slS (ev_var rfl) eo_none (eo_some (ev_var rfl)) st7) (ev_var rfl) (fv_addS ?_)) (ev_slS (ev_var rfl) (eo_some (ev_var rfl)) (eo_some (ev_op (ev_var rfl) (ev_op (ev_op (ev_var rfl) (ev_var rfl) fv_int) (ev_op ev_int (ev_var rfl) fv_int) (fv_intC ?_)) fv_int)) st7) (fv_addS ?_)) rfl ?_ ?_)))⟩
    · exact Or.inl ⟨by decide, by decide⟩
    · show (0 : Int) < 26
      decide
    · have := sz none (some F2.1)
      rw [sizeLine_eq]
      show _ + 1 ≤ _
      omega
    · show (0 : Int) < 8 - F2.1
      omega
    · rw [len_app]
      have h1 := sz none (some F2.1)
      have h2 := sz (some F2.1) (some (F2.1 + (F1.1 + (j : Int)) % (8 - F2.1)))
      rw [sizeLine_eq]
      show _ + 1 + _ ≤ _
      omega
    · rw [List.length_map, List.length_map, List.length_range, sizeLine_eq]
      omega
    · refine ⟨.d (.int (j : Int)), .d (.str ⟨#[97 + ((F1.1 + 7 * (j : Int)) % 26).toNat]⟩), ?_, trivial⟩
      rw [List.range_succ, List.map_append, List.map_append]
      rfl
  · obtain ⟨s3', s8, rfl, fr⟩ := r
    have e4 : (rngD (4 : Int).toNat).length = 4 := rfl
    rw [e4]
    refine sm_seqI (fun ρ => ∃ s3 s8, ρ = [.l (takeF F2.2 2).2.ds, .d (.int 4), .d (.str letters), s3, .d (.str st), .d (.int F1.1), .d (.int F2.1), .l ((if (takeF F2.2 2).1 = 0 then (List.range 4).map (nm2 st F1.1) else (List.range 4).map (nm1 st F1.1 F2.1)).map .str), s8, .un]) (sm_if (et_and (et_test (ev_op (ev_callB (i := 0) rfl (es_cons ev_int es_nil) rfl ar_nil rfl (got_take a2 (by omega) (by decide) (by decide))) ev_int fv_eqI)) fun _ => (et_test (ev_op (ev_var rfl) ev_int fv_cmpI))) (fun h => (sm_setL (el_lcM (f := fun d => match d with | .int z => .str (nm2 st F1.1 z.toNat) | d => d) (fi_rng1 (eds_cons (ev_var rfl) eds_nil) (by decide)) ⟨⟨s3', rfl, fr⟩, trivial⟩ ?_ (fun x hx => ⟨_, tgw_name, ?_, rfl, ⟨⟨_, rfl, trivial⟩, trivial⟩⟩)) ?_ (hi := by show 7 < 10; decide))) (fun h => (sm_next ?_))) (fun ρ r => ?_)
    · rw [e4, sizeLine_eq]
      decide
    · obtain ⟨i, hi⟩ := List.getElem?_of_mem hx
      obtain ⟨lt, rfl⟩ := rngD_at hi
      have lt : i < 4 := lt
      show Ev _ _ (.d (.str (nm2 st F1.1 ((i : Int)).toNat))) _
      rw [Int.toNat_natCast]
      refine (ev_slS (ev_var rfl) eo_none (eo_some (ev_op ev_int (ev_op (ev_op (ev_var rfl) (ev_op ev_int (ev_var rfl) (fv_intC ?_)) fv_int) ev_int (fv_intC ?_)) fv_int)) st7)
      · exact Or.inl ⟨by decide, by decide⟩
      · show (0 : Int) < 7
        decide
    · have h : (takeF F2.2 2).1 = 0 := by
        rw [Bool.and_eq_true] at h
        exact of_decide_eq_true h.1
      rw [if_pos h]
      exact ⟨_, _, rfl⟩
    · have h : ¬ (takeF F2.2 2).1 = 0 := fun z => by
        rw [z] at h
        exact absurd h (by decide)
      rw [if_neg h]
      exact ⟨_, _, rfl⟩
    · obtain ⟨s3, s8, rfl⟩ := r
      have lk : ∀ x ∈ (if (takeF F2.2 2).1 = 0 then (List.range 4).map (nm2 st F1.1) else (List.range 4).map (nm1 st F1.1 F2.1)), likeN x := by
        intro x hx
        split at hx
        · obtain ⟨k, _, rfl⟩ := List.mem_map.mp hx
          exact nm2_ok s2 ‹_› f0
        · obtain ⟨k, _, rfl⟩ := List.mem_map.mp hx
          exact nm1_ok s2 ‹_› f0 a0 a1
      have l4 : (if (takeF F2.2 2).1 = 0 then (List.range 4).map (nm2 st F1.1) else (List.range 4).map (nm1 st F1.1 F2.1)).length = 4 := by split <;> rfl
      generalize (if (takeF F2.2 2).1 = 0 then (List.range 4).map (nm2 st F1.1) else (List.range 4).map (nm1 st F1.1 F2.1)) = ns at *
      refine sm_ret (Ev.of_el (El.is (el_lcM (f := fun d => match d with | .str z => .str (fixq z) | d => d) (fi_list (ev_varF rfl)) ⟨⟨_, rfl, trivial⟩, trivial⟩ ?_ (fun x hx => ⟨_, tgw_name, ?_, rfl, ⟨⟨_, rfl, trivial⟩, trivial⟩⟩)) ?_)) ⟨_, rfl, k⟩
      · rw [List.length_map, l4, sizeLine_eq]
        decide
      · obtain ⟨z, hz, rfl⟩ := List.mem_map.mp hx
        obtain ⟨_, z8, _⟩ := lk z hz
        refine (ev_if (et_test (ev_op (ev_var rfl) (ev_tup (eds_cons ev_str (eds_cons ev_str (eds_cons ev_str (eds_cons ev_str (eds_cons ev_str eds_nil)))))) (fv_inT (bs := noNames)))) (fun h => Ev.is (ev_op ev_str (ev_var rfl) (fv_addS ?_)) ?_) (fun h => Ev.is (ev_var rfl) ?_))
        · have : ("q" : Str).length = 1 := by decide +kernel
          rw [this, sizeLine_eq]
          omega
        · show _ = PyData.str (fixq z)
          unfold fixq
          rw [if_pos h]
        · show _ = PyData.str (fixq z)
          unfold fixq
          rw [if_neg (by rw [h]; decide)]
      · rw [List.map_map, List.map_map]
        rfl
end
end KP
set_option Elab.async false
set_option linter.unusedVariables false
set_option maxRecDepth 100000
set_option maxHeartbeats 2000000
namespace KP
open PySem PySem.Spec PyProof.Rows L2 KA OW
/-! ### terms with names, and how they are placed -/
abbrev sLawPlaced : Stmt := top 56
abbrev nLawPlaced : List Str := ["_law_term", "_law_around", "_law_part"]
theorem scLawPlaced : FnScope nLawPlaced ["_law_term", "_law_around"] (defScope sLawPlaced) := ⟨rfl, rfl, rfl, by decide +kernel, rfl, by decide +kernel, by decide +kernel⟩
abbrev sLawGiven : Stmt := top 57
abbrev nLawGiven : List Str := ["_law_head", "_law_some", "_law_found", "_law_term"]
theorem scLawGiven : FnScope nLawGiven ["_law_head", "_law_some"] (defScope sLawGiven) := ⟨rfl, rfl, rfl, by decide +kernel, rfl, by decide +kernel, by decide +kernel⟩
abbrev sLawAllOf : Stmt := top 59
abbrev nLawAllOf : List Str := ["_law_rows", "_law_end", "_law_found", "_law_called", "_law_saying"]
theorem scLawAllOf : FnScope nLawAllOf ["_law_rows", "_law_end"] (defScope sLawAllOf) := ⟨rfl, rfl, rfl, by decide +kernel, rfl, by decide +kernel, by decide +kernel⟩
abbrev sLawDrawn : Stmt := top 58
abbrev nLawDrawn : List Str := ["_law_purse", "_law_around", "_law_names", "_law_deep", "_law_way", "_law_name", "_law_heads", "_law_one", "_law_other", "_law_called", "_law_some", "_law_k"]
theorem scLawDrawn : FnScope nLawDrawn ["_law_purse", "_law_around", "_law_names", "_law_deep"] (defScope sLawDrawn) := ⟨rfl, rfl, rfl, by decide +kernel, rfl, by decide +kernel, by decide +kernel⟩
structure Dfn (K : PySem.W.Frag) (mg : Str → Option Value) (x : Str) (st : Stmt) (f : Addr) (fd : FuncData) (ps : List Str) : Prop where
  fn : Fun K x x st f fd
  mgf : mg x = some (.ref f)
  b : Binds K fd ps []
theorem Dfn.cal {P : Program} {w : World} {K : PySem.W.Frag} {mg : Str → Option Value} {base : Heap} {x : Str} {st : Stmt} {f : Addr} {fd : FuncData} {ps : List Str} {k : Nat} {sp : Sp} (D : Dfn K mg x st f fd ps) (F : FnOk P w K mg base CX0 k f fd ps sp) :
    C8.Cal P w K mg base k x sp [] := ⟨f, fd, ps, [], F, D.mgf, D.fn.kp, D.b, .nil⟩
theorem paired_at {α β : Type} {F : α → β → Prop} : ∀ {xs : List α} {ys : List β} {j : Nat} {x : α} {y : β}, Paired F xs ys → xs[j]? = some x → ys[j]? = some y → F x y
  | _, _, 0, _, _, .cons r _, h, g => by
    cases h
    cases g
    exact r
  | _, _, j + 1, _, _, .cons _ t, h, g => paired_at (j := j) t h g
  | _, _, 0, _, _, .nil, h, _ => by cases h
  | _, _, j + 1, _, _, .nil, h, _ => by cases h
theorem paired_mono {α β : Type} {F G : α → β → Prop} (f : ∀ a b, F a b → G a b) : ∀ {xs : List α} {ys : List β}, Paired F xs ys → Paired G xs ys
  | _, _, .nil => .nil
  | _, _, .cons r t => .cons (f _ _ r) (paired_mono f t)
def Vt : Nat → List Str → PyData → PyData → Prop
  | 0, _, _, _ => False
  | n + 1, ar, d, e =>
    (∃ (x : Str) (i : Nat), d = .tuple [.str "var", .str x] ∧ ar[i]? = some x ∧ (∀ m, m < i → ar[m]? ≠ some x) ∧ e = .tuple [.str "at", .int ((ar.length : Int) - 1 - (i : Int))]) ∨
    (∃ (w x : Str) (a b a' b' : PyData), (w = "all" ∨ w = "fun") ∧ d = .tuple [.str w, .str x, a, b] ∧ e = .tuple [.str w, a', b'] ∧ Vt n ar a a' ∧ Vt n (ar ++ [x]) b b') ∨
    (∃ (w : Str) (xs ys : List PyData), w ≠ "var" ∧ w ≠ "all" ∧ w ≠ "fun" ∧ d = .tuple (.str w :: xs) ∧ e = .tuple (.str w :: ys) ∧ xs.length ≤ 10 ∧ Paired (fun x y => (isTupD x = true ∧ Vt n ar x y) ∨ (isTupD x = false ∧ x = y)) xs ys)
theorem vt_mono : ∀ {n : Nat} {ar : List Str} {d e : PyData}, Vt n ar d e → Vt (n + 1) ar d e
  | 0, _, _, _, h => h.elim
  | n + 1, ar, d, e, h => by
    rcases h with h | ⟨w, x, a, b, a', b', h1, h2, h3, h4, h5⟩ | ⟨w, xs, ys, h1, h2, h3, h4, h5, h6, h7⟩
    · exact Or.inl h
    · exact Or.inr (Or.inl ⟨w, x, a, b, a', b', h1, h2, h3, vt_mono h4, vt_mono h5⟩)
    · exact Or.inr (Or.inr ⟨w, xs, ys, h1, h2, h3, h4, h5, h6, paired_mono (fun a b r => r.imp (fun z => ⟨z.1, vt_mono z.2⟩) id) h7⟩)
theorem vt_le {n m : Nat} (l : n ≤ m) {ar : List Str} {d e : PyData} (h : Vt n ar d e) : Vt m ar d e := by
  induction l with
  | refl => exact h
  | step _ ih => exact vt_mono ih
theorem vt_tup : ∀ {n : Nat} {ar : List Str} {d e : PyData}, Vt n ar d e → isTupD d = true ∧ isTupD e = true
  | n + 1, ar, d, e, h => by
    rcases h with ⟨x, i, rfl, _, _, rfl⟩ | ⟨w, x, a, b, a', b', _, rfl, rfl, _⟩ | ⟨w, xs, ys, _, _, _, rfl, rfl, _⟩ <;> exact ⟨rfl, rfl⟩
theorem vt_node {n : Nat} {ar : List Str} {w : Str} {xs ys : List PyData} (h1 : w ≠ "var") (h2 : w ≠ "all") (h3 : w ≠ "fun") (l : xs.length ≤ 10) (h : Paired (fun x y => Vt n ar x y ∨ (isTupD x = false ∧ x = y)) xs ys) : Vt (n + 1) ar (.tuple (.str w :: xs)) (.tuple (.str w :: ys)) :=
  Or.inr (Or.inr ⟨w, xs, ys, h1, h2, h3, rfl, rfl, l, paired_mono (fun a b r => r.imp (fun z => ⟨(vt_tup z).1, z⟩) id) h⟩)
theorem vt_bind {n : Nat} {ar : List Str} {w x : Str} {a b a' b' : PyData} (hw : w = "all" ∨ w = "fun") (h : Vt n ar a a') (g : Vt n (ar ++ [x]) b b') : Vt (n + 1) ar (.tuple [.str w, .str x, a, b]) (.tuple [.str w, a', b']) := Or.inr (Or.inl ⟨w, x, a, b, a', b', hw, rfl, rfl, h, g⟩)
def givenD (h : PyData) (ss : List PyData) : PyData := ss.foldl (fun acc t => .tuple [.str "app", acc, t]) h
def rowT (r : Str × PyData) : PyData := .tuple [.str r.1, r.2]
def allOfD (rs : List (Str × PyData)) (e : PyData) : PyData := rs.reverse.foldl (fun acc r => .tuple [.str "all", .str r.1, r.2, acc]) e
def allP (es : List PyData) (e : PyData) : PyData := es.reverse.foldl (fun acc s => .tuple [.str "all", s, acc]) e
theorem allOfD_cons (r : Str × PyData) (rs : List (Str × PyData)) (e : PyData) : allOfD (r :: rs) e = .tuple [.str "all", .str r.1, r.2, allOfD rs e] := by
  unfold allOfD
  rw [List.reverse_cons, List.foldl_append]
  rfl
theorem allP_cons (r : PyData) (rs : List PyData) (e : PyData) : allP (r :: rs) e = .tuple [.str "all", r, allP rs e] := by
  unfold allP
  rw [List.reverse_cons, List.foldl_append]
  rfl
/-- binders, each beneath those ahead -/
def VtB (n : Nat) : List Str → List (Str × PyData) → List PyData → Prop
  | _, [], [] => True
  | ar, r :: rs, e :: es => Vt n ar r.2 e ∧ VtB n (ar ++ [r.1]) rs es
  | _, _, _ => False
theorem vt_allOf {n : Nat} : ∀ {ar : List Str} {rs : List (Str × PyData)} {es : List PyData} {d e : PyData}, VtB n ar rs es → Vt n (ar ++ rs.map (·.1)) d e → Vt (n + rs.length) ar (allOfD rs d) (allP es e)
  | ar, [], [], d, e, _, h => by
    rw [List.map_nil, List.append_nil] at h
    exact h
  | ar, r :: rs, s :: es, d, e, b, h => by
    rw [allOfD_cons, allP_cons]
    have := vt_allOf (d := d) (e := e) b.2 (by rw [List.append_assoc]; exact h)
    exact vt_bind (Or.inl rfl) (vt_le (Nat.le_add_right _ _) b.1) this
  | _, [], _ :: _, _, _, b, _ => b.elim
  | _, _ :: _, [], _, _, b, _ => b.elim
theorem vt_given {n : Nat} {ar : List Str} : ∀ {ss ts : List PyData} {h h' : PyData} {m : Nat}, n ≤ m → Vt m ar h h' → Paired (Vt n ar) ss ts → Vt (m + ss.length) ar (givenD h ss) (givenD h' ts)
  | _, _, h, h', m, l, v, .nil => v
  | s :: ss, t :: ts, h, h', m, l, v, .cons r q => by
    have := vt_given (ss := ss) (ts := ts) (h := .tuple [.str "app", h, s]) (h' := .tuple [.str "app", h', t]) (m := m + 1) (by omega) (vt_node (by decide) (by decide) (by decide) (by show 2 ≤ 10; decide) (.cons (Or.inl v) (.cons (Or.inl (vt_le l r)) .nil))) q
    rw [List.length_cons, show m + (ss.length + 1) = m + 1 + ss.length by omega]
    exact this
def tPlaced (lim : Nat) : List Sl → (Rv → Prop) → Prop := fun as Kr => ∃ n ar d e, as = [.d d, .d (.list (ar.map .str))] ∧ n ≤ lim ∧ ar.length + n ≤ 1000 ∧ Vt n ar d e ∧ Kr (.d e)
def tGiven : List Sl → (Rv → Prop) → Prop := fun as Kr => ∃ h ss, as = [.d h, .d (.list ss)] ∧ Kr (.d (givenD h ss))
def tAllOf : List Sl → (Rv → Prop) → Prop := fun as Kr => ∃ rs e, as = [.d (.list (rs.map rowT)), .d e] ∧ Kr (.d (allOfD rs e))
section
variable {P : Program} {w : World} {K : PySem.W.Frag} {mg : Str → Option Value} {base : Heap}
theorem ok_given {f : Addr} {fd : FuncData} (F : Fun K "_law_given" "_law_given" sLawGiven f fd) (T : Txt K w mg) : FnOk P w K mg base CX0 1 f fd ["_law_head", "_law_some"] (spD 2 tGiven) := by
  refine fn_d F scLawGiven (body := fun cdv A outer s H E hr => ⟨_, (pss_cons (ps_set (i := 2) scLawGiven.nd rfl (Or.inl rfl) (pv 0))
      (pss_cons (ps_for PassesOwn.never rfl (pi_list (pv 1)) (pg_name (i := 3) scLawGiven.nd rfl (Or.inl rfl)) (pss_one (ps_set (i := 2) scLawGiven.nd rfl (Or.inl rfl) (pe_tup (pa_cons pe_str (pa_cons (pv 2) (pa_cons (pv 3) pa_nil)))))))
      (pss_one (ps_ret (pv 2))))), ?_⟩)
  rintro as Kr _ ⟨h, ss, rfl, k⟩
  refine (sm_seq (sm_set (ev_var rfl) (sm_seq (sm_for (fi_list (ev_var rfl)) (fun j ρ => ∃ s3, ρ = [.d h, .d (.list ss), .d (givenD h (ss.take j)), s3]) ⟨_, rfl⟩ (fun j x ρ e r => ?_) (fun ρ r => ?_)))))
  · obtain ⟨s3, rfl⟩ := r
    refine ⟨_, tg_name, (sm_set (ev_tup (eds_cons ev_str (eds_cons (ev_var rfl) (eds_cons (ev_var rfl) eds_nil)))) ?_)⟩
    refine ⟨.d x, ?_⟩
    rw [take_snoc e]
    unfold givenD
    rw [List.foldl_append]
    rfl
  · obtain ⟨s3, rfl⟩ := r
    rw [List.take_length]
    exact sm_ret (ev_var rfl) k
theorem ok_allof {f : Addr} {fd : FuncData} (F : Fun K "_law_all_of" "_law_all_of" sLawAllOf f fd) (T : Txt K w mg) : FnOk P w K mg base CX0 1 f fd ["_law_rows", "_law_end"] (spD 2 tAllOf) := by
  refine fn_d F scLawAllOf (body := fun cdv A outer s H E hr => ⟨_, (pss_cons (ps_set (i := 2) scLawAllOf.nd rfl (Or.inl rfl) (pv 1))
      (pss_cons (ps_for PassesOwn.never rfl (pi_list (pe_revL (pv 0))) (pg_tup rfl (pgs_cons (pg_name (i := 3) scLawAllOf.nd rfl (Or.inl rfl)) (pgs_cons (pg_name (i := 4) scLawAllOf.nd rfl (Or.inl rfl)) pgs_nil))) (pss_one (ps_set (i := 2) scLawAllOf.nd rfl (Or.inl rfl) (pe_tup (pa_cons pe_str (pa_cons (pv 3) (pa_cons (pv 4) (pa_cons (pv 2) pa_nil))))))))
      (pss_one (ps_ret (pv 2))))), ?_⟩)
  rintro as Kr _ ⟨rs, e, rfl, k⟩
  refine (sm_seq (sm_set (ev_var rfl) (sm_seq (sm_for (fi_list (Ev.of_el (el_revL (ev_var rfl)))) (fun j ρ => ∃ s3 s4, ρ = [.d (.list (rs.map rowT)), .d e, .d ((rs.reverse.take j).foldl (fun acc r => .tuple [.str "all", .str r.1, r.2, acc]) e), s3, s4]) ⟨_, _, rfl⟩ (fun j x ρ ex r => ?_) (fun ρ r => ?_)))))
  · obtain ⟨s3, s4, rfl⟩ := r
    rw [← List.map_reverse, List.getElem?_map] at ex
    cases e0 : rs.reverse[j]? with
    | none => rw [e0] at ex; cases ex
    | some r0 =>
      rw [e0] at ex
      obtain rfl : rowT r0 = x := Option.some.inj ex
      refine ⟨_, tg_tup (xs := [.str r0.1, r0.2]) (tgs_cons tg_name (tgs_cons tg_name tgs_nil)), (sm_set (ev_tup (eds_cons ev_str (eds_cons (ev_var rfl) (eds_cons (ev_var rfl) (eds_cons (ev_var rfl) eds_nil))))) ?_)⟩
      refine ⟨.d (.str r0.1), .d r0.2, ?_⟩
      rw [take_snoc e0, List.foldl_append]
      rfl
  · obtain ⟨s3, s4, rfl⟩ := r
    rw [List.length_reverse, List.length_map, ← List.length_reverse, List.take_length]
    exact sm_ret (ev_var rfl) k
theorem any2 {w a b : Str} : ([a, b].any fun y => y == w) = true ↔ (w = a ∨ w = b) := by
  simp only [List.any_cons, List.any_nil, Bool.or_false, Bool.or_eq_true, beq_iff_eq]
  exact ⟨fun h => h.imp Eq.symm Eq.symm, fun h => h.imp Eq.symm Eq.symm⟩
theorem ok_placed {f : Addr} {fd : FuncData} (D : Dfn K mg "_law_placed" sLawPlaced f fd ["_law_term", "_law_around"]) (T : Txt K w mg) : ∀ lim : Nat, FnOk P w K mg base CX0 (1 + lim) f fd ["_law_term", "_law_around"] (spD 2 (tPlaced lim))
  | 0 => ⟨fun vs H Q E h => by
      obtain ⟨Z, as, Kr, hZ, ha, hl, _⟩ := h
      rw [ha.length, hl]
      rfl, fun A outer s H args us vs Q E hr e0 bt rv h => by
      obtain ⟨Z, as, Kr, hZ, ha, hl, ⟨n, _, _, _, _, h0, _, h1, _⟩, go⟩ := h
      obtain rfl : n = 0 := by omega
      exact h1.elim⟩
  | lim + 1 => by
    have C_law_placed : C8.Cal P w K mg base (1 + lim) "_law_placed" (spD 2 (tPlaced lim)) [] := D.cal (ok_placed D T lim)
    refine fn_d (k := 1 + lim) D.fn scLawPlaced (body := fun cdv A outer s H E hr => ⟨_, (pss_cons (ps_if (pt_cmpR op_eq (pe_ix ix_tup (pv 0) pe_int (fun _ _ => rfl)) pe_str (nomark _)) (pss_one (ps_ret (pe_tup (pa_cons pe_str (pa_cons (pe_op op_sub (pe_op op_sub (pe_callB call_len_seq (by rfl) T.len PySem.boot_len (pa_cons (pv 1) pa_nil)) pe_int) (pe_bm PySem.F.plainAttrs_list PySem.F.slot_list_index PySem.F.type_list_index mt_index (pv 1) (pa_cons (pe_ix ix_tup (pv 0) pe_int (fun _ _ => rfl)) pa_nil))) pa_nil))))) pss_nil) (pss_cons (ps_if (pt_cmpR op_in_seq (pe_ix ix_tup (pv 0) pe_int (fun _ _ => rfl)) (pe_tup (pa_cons pe_str (pa_cons pe_str pa_nil))) rfl) (pss_one (ps_ret (pe_tup (pa_cons (pe_ix ix_tup (pv 0) pe_int (fun _ _ => rfl)) (pa_cons (C8.pe_c C_law_placed hr (by omega) rfl (pa_cons (pe_ix ix_tup (pv 0) pe_int (fun _ _ => rfl)) (pa_cons (pv 1) pa_nil))) (pa_cons (C8.pe_c C_law_placed hr (by omega) rfl (pa_cons (pe_ix ix_tup (pv 0) pe_int (fun _ _ => rfl)) (pa_cons (pe_op op_cat (pv 1) (pe_lst (pa_cons (pe_ix ix_tup (pv 0) pe_int (fun _ _ => rfl)) pa_nil))) pa_nil))) pa_nil)))))) pss_nil) (pss_one (ps_ret (pe_callTy call_tuple_of (by rfl) T.tuple (by decide +kernel) (pa_cons (pe_lc (own := [("_law_part", 2)]) (g := gName 2) (tt := tYes) rfl scLawPlaced.nd (pi_tup (pv 0)) (blkOk_by (N := nLawPlaced) (sc := defScope sLawPlaced) (by decide +kernel)) (fun _ _ _ _ _ => (pg_name (i := 2) scLawPlaced.nd rfl (Or.inl rfl))) (fun _ _ _ _ _ => pts_nil) (fun _ _ _ _ _ => (pe_ifExp (pt_val (pe_isD is_tup (pv 2) T.isi T.tuple (by decide +kernel))) (C8.pe_c C_law_placed hr (by omega) rfl (pa_cons (pv 2) (pa_cons (pv 1) pa_nil))) (pv 2)))) pa_nil)))))), ?_⟩)
    rintro as Kr _ ⟨n, ar, d, e, rfl, hn, hl, v, k⟩
    obtain ⟨n, rfl⟩ : ∃ m, n = m + 1 := by
      cases n with
      | zero => exact v.elim
      | succ m => exact ⟨m, rfl⟩
    have sm : ar.length + 1 ≤ sizeLine := by rw [sizeLine_eq]; omega
    rcases v with ⟨x, i, rfl, h1, h2, rfl⟩ | ⟨w, x, a, b, a', b', hw, rfl, rfl, h1, h2⟩ | ⟨w, xs, ys, h1, h2, h3, rfl, rfl, l10, hp⟩
    · have k : Kr (.d (.tuple [.str "at", .int (((ar.map PyData.str).length : Int) - 1 - (i : Int))])) := by rw [List.length_map]; exact k
      exact (sm_seq (sm_if (et_test (ev_op (ev_op (ev_var rfl) ev_int (fv_ixT at0)) ev_str fv_eqS)) (fun h => (sm_ret (ev_tup (eds_cons ev_str (eds_cons (ev_op (ev_op (ev_fn (es_cons (ev_var rfl) es_nil) fv_lenL) ev_int fv_int) (ev_indexS (ev_var rfl) (ev_op (ev_var rfl) ev_int (fv_ixT at1)) h1 h2) fv_int) eds_nil))) k)) (fun h => absurd h (by decide +kernel))))
    · have nv : w ≠ "var" := by rcases hw with rfl | rfl <;> decide
      refine (sm_seq (sm_if (et_test (ev_op (ev_op (ev_var rfl) ev_int (fv_ixT at0)) ev_str fv_eqS)) (fun h => absurd (of_decide_eq_true h) nv) (fun h => (sm_next (sm_seq (sm_if (et_test (ev_op (ev_op (ev_var rfl) ev_int (fv_ixT at0)) (ev_tup (eds_cons ev_str (eds_cons ev_str eds_nil))) (fv_inT (bs := ["all", "fun"])))) (fun h => (sm_ret (ev_tup (eds_cons (ev_op (ev_var rfl) ev_int (fv_ixT at0)) (eds_cons (ev_call (es_cons (ev_op (ev_var rfl) ev_int (fv_ixT at2)) (es_cons (ev_var rfl) es_nil)) ar_nil rfl ?_) (eds_cons (ev_call (es_cons (ev_op (ev_var rfl) ev_int (fv_ixT at3)) (es_cons (Ev.of_el (el_op (ev_var rfl) (Ev.of_el (el_lst (eds_cons (ev_op (ev_var rfl) ev_int (fv_ixT at1)) eds_nil))) (fl_cat ?_))) es_nil)) ar_nil rfl ?_) eds_nil)))) k)) (fun h => ?_)))))))
      · exact ⟨n, ar, a, a', rfl, by omega, by omega, h1, rfl⟩
      · rw [List.length_map]
        exact sm
      · refine ⟨n, ar ++ [x], b, b', ?_, by omega, by rw [List.length_append, List.length_singleton]; omega, h2, rfl⟩
        rw [List.map_append]
        rfl
      · rw [any2.mpr hw] at h
        cases h
    · refine (sm_seq (sm_if (et_test (ev_op (ev_op (ev_var rfl) ev_int (fv_ixT at0)) ev_str fv_eqS)) (fun h => absurd (of_decide_eq_true h) h1) (fun h => (sm_next (sm_seq (sm_if (et_test (ev_op (ev_op (ev_var rfl) ev_int (fv_ixT at0)) (ev_tup (eds_cons ev_str (eds_cons ev_str eds_nil))) (fv_inT (bs := ["all", "fun"])))) (fun h => ?_) (fun h => (sm_next (sm_ret (ev_fn (es_cons (Ev.of_el (el_lcY (ys := .str w :: ys) (fi_tup (ev_var rfl)) ⟨⟨_, rfl, trivial⟩, trivial⟩ ?_ ?_ (fun j x y hx hy => ⟨_, tgw_name, ?_, rfl, ⟨⟨_, rfl, trivial⟩, trivial⟩⟩))) es_nil) fv_tupL) k)))))))))
      · rcases any2.mp h with z | z
        · exact absurd z h2
        · exact absurd z h3
      · rw [List.length_cons, sizeLine_eq]
        omega
      · rw [List.length_cons, List.length_cons, Paired.length hp]
      · cases j with
        | zero =>
          cases hx
          cases hy
          exact ev_if (b := false) (et_B (ev_fn (es_cons (ev_var rfl) (es_cons ev_cv es_nil)) fv_isD)) (fun h => by cases h) (fun h => (ev_var rfl))
        | succ j =>
          have r := paired_at hp hx hy
          refine ev_if (b := isTupD x) (et_B (ev_fn (es_cons (ev_var rfl) (es_cons ev_cv es_nil)) fv_isD)) (fun h => (ev_call (es_cons (ev_var rfl) (es_cons (ev_var rfl) es_nil)) ar_nil rfl ?_)) (fun h => ?_)
          · rcases r with r | r
            · exact ⟨n, ar, x, y, rfl, by omega, by omega, r.2, rfl⟩
            · rw [r.1] at h
              cases h
          · rcases r with r | r
            · rw [r.1] at h
              cases h
            · rw [← r.2]
              exact ev_var rfl
end
end KP
set_option Elab.async false
set_option linter.unusedVariables false
set_option maxRecDepth 100000
set_option maxHeartbeats 2000000
namespace KP
open PySem PySem.Spec PyProof.Rows L2 KA OW
/-! ### drawn terms -/
abbrev Dr := PyData × Pu
def callD (m : Nat) (t : Int) (k : Nat) : Str := (("v" : Str) ++ (toString (m : Int) : Str) ++ (⟨#[97 + t.toNat]⟩ : Str)) ++ (toString (k : Int) : Str)
def headsD (x : Str) (z : Int) : List PyData := [.tuple [.str "name", .str x], .tuple [.str "thing", .str x], .tuple [.str "maker", .str x, .int z], .tuple [.str "eater", .str x, .int 2]]
def varF (ar : List Str) (q : Pu) : Dr := (.tuple [.str "var", .str ((ar[(takeF q ar.length).1.toNat]?).getD "")], (takeF q ar.length).2)
def kindF (q : Pu) : Dr := (.tuple [.str "kind", .int (takeF q 6).1], (takeF q 6).2)
def headF (x : Str) (q : Pu) : Dr := (((headsD x (takeF q 6).1)[(takeF (takeF q 6).2 4).1.toNat]?).getD .none, (takeF (takeF q 6).2 4).2)
def appF (rec : List Str → Pu → Dr) (ar : List Str) (q : Pu) : Dr := (.tuple [.str "app", (rec ar q).1, (rec ar (rec ar q).2).1], (rec ar (rec ar q).2).2)
def bindF (rec : List Str → Pu → Dr) (ar : List Str) (k : Nat) (w : Str) (q : Pu) : Dr :=
  (.tuple [.str w, .str (callD ar.length (takeF (rec ar q).2 4).1 k), (rec ar q).1, (rec (ar ++ [callD ar.length (takeF (rec ar q).2 4).1 k]) (takeF (rec ar q).2 4).2).1],
    (rec (ar ++ [callD ar.length (takeF (rec ar q).2 4).1 k]) (takeF (rec ar q).2 4).2).2)
def someF (rec : List Str → Pu → Dr) (ar : List Str) : Nat → Pu → List PyData × Pu
  | 0, q => ([], q)
  | j + 1, q => ((someF rec ar j q).1 ++ [(rec ar (someF rec ar j q).2).1], (rec ar (someF rec ar j q).2).2)
def threeD (s : List PyData) : List PyData := [.tuple (.str "same" :: s), .tuple (.str "self" :: s.take 2), .tuple (.str "put" :: s)]
def threeF (rec : List Str → Pu → Dr) (ar : List Str) (q : Pu) : Dr := (((threeD (someF rec ar 3 q).1)[(takeF (someF rec ar 3 q).2 3).1.toNat]?).getD .none, (takeF (someF rec ar 3 q).2 3).2)
def restF (rec : List Str → Pu → Dr) (ar : List Str) (k : Nat) (x : Str) (wy : Int) (q : Pu) : Dr :=
  if wy < 2 ∧ ar ≠ [] then varF ar q
  else if wy < 3 then kindF q
  else if wy < 5 then headF x q
  else if wy < 8 then appF rec ar q
  else if wy < 10 then bindF rec ar k (if wy = 8 then "all" else "fun") q
  else threeF rec ar q
def bodyD (rec : List Str → Pu → Dr) (ns : List Str) (ar : List Str) (k : Nat) (p : Pu) : Dr :=
  restF rec ar k ((ns[(takeF (takeF p (if 0 < k then 12 else 5)).2 ns.length).1.toNat]?).getD "") (takeF p (if 0 < k then 12 else 5)).1 (takeF (takeF p (if 0 < k then 12 else 5)).2 ns.length).2
def drawnF (ns : List Str) : Nat → List Str → Pu → Dr
  | 0, ar, p => bodyD (fun _ q => (.none, q)) ns ar 0 p
  | k + 1, ar, p => bodyD (drawnF ns k) ns ar (k + 1) p
def recD (ns : List Str) : Nat → List Str → Pu → Dr
  | 0 => fun _ q => (.none, q)
  | k + 1 => drawnF ns k
theorem drawnF_eq (ns : List Str) (k : Nat) (ar : List Str) (p : Pu) : drawnF ns k ar p = bodyD (recD ns k) ns ar k p := by cases k <;> rfl
structure Vg (n : Nat) (ar : List Str) (dp sz : Nat) (d e : PyData) : Prop where
  v : Vt n ar d e
  t : tm e = true
  b : Bd dp sz e
def DrOk (k : Nat) (ar : List Str) (n : Nat) (r : Dr) : Prop := ∃ e, Vg (k + 1) ar (k + 1) (1000 * 4 ^ k) r.1 e ∧ PuOk r.2 (n + 40 * 4 ^ k)
def NsOk (ns : List Str) : Prop := ns ≠ [] ∧ ns.length ≤ 10 ∧ ∀ x ∈ ns, nameX x = true
def RcOk (ns : List Str) (k : Nat) : Prop := ∀ ar q n, ar.length + k ≤ 90 → PuOk q n → n + 40 * 4 ^ k ≤ maxN → DrOk k ar n (drawnF ns k ar q)
theorem first_at {ar : List Str} {x : Str} : ∀ {j : Nat}, ar[j]? = some x → ∃ i, ar[i]? = some x ∧ (∀ m, m < i → ar[m]? ≠ some x) ∧ i ≤ j := by
  intro j
  induction j using Nat.strongRecOn with
  | ind j ih =>
    intro h
    by_cases q : ∃ m, m < j ∧ ar[m]? = some x
    · obtain ⟨m, lt, e⟩ := q
      obtain ⟨i, a, b, c⟩ := ih m lt e
      exact ⟨i, a, b, by omega⟩
    · exact ⟨j, h, fun m lt e => q ⟨m, lt, e⟩, Nat.le_refl _⟩
theorem leaf_b {w : Str} (fw : fine (.str w) = true) {ds : List PyData} {sz : Nat} (b : BdAll 0 sz ds) (hz : sz ≤ 700) : Bd 1 1000 (.tuple (.str w :: ds)) := (Bd.tup (BdAll.cons (Bd.str fw) b)).mono (Nat.le_refl _) (by omega)
theorem name_b {x : Str} (h : nameX x = true) : Bd 0 220 (.str x) := Bd.str (name_fine h)
theorem varF_ok {ar : List Str} {q : Pu} {n : Nat} (h : PuOk q n) (ne : ar ≠ []) (l : ar.length ≤ 90) : ∃ e, Vg 1 ar 1 1000 (varF ar q).1 e ∧ PuOk (varF ar q).2 (n + 1) := by
  have l0 : 0 < ar.length := List.length_pos_iff.mpr ne
  obtain ⟨t0, t1, t2⟩ := takeF_ok (m := (ar.length : Int)) h (by omega)
  have e := List.getElem?_eq_getElem (show (takeF q ar.length).1.toNat < ar.length by omega)
  obtain ⟨i, h1, h2, _⟩ := first_at e
  have li := (List.getElem?_eq_some_iff.mp h1).1
  refine ⟨.tuple [.str "at", .int ((ar.length : Int) - 1 - (i : Int))], ⟨Or.inl ⟨_, i, ?_, h1, h2, rfl⟩, ?_, ?_⟩, t2⟩
  · show PyData.tuple [.str "var", .str ((ar[(takeF q ar.length).1.toNat]?).getD "")] = _
    rw [e, Option.getD_some]
  · rw [tm_leaf (by decide +kernel)]
    exact decide_eq_true (by omega)
  · exact leaf_b (by decide +kernel) (BdAll.one (Bd.int (by omega))) (by decide)
theorem same_leaf {ar : List Str} {w : Str} {ds : List PyData} (h1 : w ≠ "var") (h2 : w ≠ "all") (h3 : w ≠ "fun") (l : ds.length ≤ 10) (h : ∀ d ∈ ds, isTupD d = false) : Vt 1 ar (.tuple (.str w :: ds)) (.tuple (.str w :: ds)) := by
  refine vt_node h1 h2 h3 l ?_
  clear l
  induction ds with
  | nil => exact .nil
  | cons d ds ih => exact .cons (Or.inr ⟨h d List.mem_cons_self, rfl⟩) (ih fun x m => h x (List.mem_cons_of_mem _ m))
theorem kindF_ok {ar : List Str} {q : Pu} {n : Nat} (h : PuOk q n) : ∃ e, Vg 1 ar 1 1000 (kindF q).1 e ∧ PuOk (kindF q).2 (n + 1) := by
  obtain ⟨t0, t1, t2⟩ := takeF_ok (m := 6) h (by decide)
  refine ⟨_, ⟨same_leaf (by decide) (by decide) (by decide) (by show 1 ≤ 10; decide) (fun d m => by rw [List.mem_singleton.mp m]; rfl), ?_, leaf_b (by decide +kernel) (BdAll.one (Bd.int (by omega))) (by decide)⟩, t2⟩
  rw [tm_leaf (by decide +kernel)]
  show (decide (0 ≤ (takeF q 6).1) && decide ((takeF q 6).1 ≤ 5)) = true
  rw [decide_eq_true t0, decide_eq_true (by omega : (takeF q 6).1 ≤ 5)]
  rfl
theorem heads_ok {ar : List Str} {x : Str} {z : Int} (hx : nameX x = true) (z0 : 0 ≤ z) (z1 : z < 6) : ∀ g ∈ headsD x z, Vg 1 ar 1 1000 g g := by
  have nb := name_b hx
  have ib : Bd 0 40 (.int z) := Bd.int (by omega)
  intro g hg
  unfold headsD at hg
  simp only [List.mem_cons, List.not_mem_nil, or_false] at hg
  have two : ∀ (a b : PyData), isTupD a = false → isTupD b = false → ∀ d ∈ [a, b], isTupD d = false := fun a b ha hb d m => by
    simp only [List.mem_cons, List.not_mem_nil, or_false] at m
    rcases m with rfl | rfl
    · exact ha
    · exact hb
  rcases hg with rfl | rfl | rfl | rfl
  · refine ⟨same_leaf (by decide) (by decide) (by decide) (by show 1 ≤ 10; decide) (fun d m => by rw [List.mem_singleton.mp m]; rfl), ?_, leaf_b (by decide +kernel) (BdAll.one nb) (by decide)⟩
    rw [tm_leaf (by decide +kernel)]
    exact hx
  · refine ⟨same_leaf (by decide) (by decide) (by decide) (by show 1 ≤ 10; decide) (fun d m => by rw [List.mem_singleton.mp m]; rfl), ?_, leaf_b (by decide +kernel) (BdAll.one nb) (by decide)⟩
    rw [tm_leaf (by decide +kernel)]
    exact hx
  · refine ⟨same_leaf (by decide) (by decide) (by decide) (by show 2 ≤ 10; decide) (two _ _ rfl rfl), ?_, leaf_b (by decide +kernel) (BdAll.cons nb (BdAll.one ib)) (by decide)⟩
    rw [tm_leaf (by decide +kernel)]
    show (nameX x && decide (0 ≤ z)) = true
    rw [hx, decide_eq_true z0]
    rfl
  · refine ⟨same_leaf (by decide) (by decide) (by decide) (by show 2 ≤ 10; decide) (two _ _ rfl rfl), ?_, leaf_b (by decide +kernel) (BdAll.cons nb (BdAll.one (Bd.int (i := 2) (by decide)))) (by decide)⟩
    rw [tm_leaf (by decide +kernel)]
    show (nameX x && true) = true
    rw [hx]
    rfl
theorem headF_ok {ar : List Str} {x : Str} {q : Pu} {n : Nat} (hx : nameX x = true) (h : PuOk q n) : ∃ e, Vg 1 ar 1 1000 (headF x q).1 e ∧ PuOk (headF x q).2 (n + 2) := by
  obtain ⟨t0, t1, t2⟩ := takeF_ok (m := 6) h (by decide)
  obtain ⟨u0, u1, u2⟩ := takeF_ok (m := 4) t2 (by decide)
  have e := List.getElem?_eq_getElem (show (takeF (takeF q 6).2 4).1.toNat < (headsD x (takeF q 6).1).length by show _ < 4; omega)
  refine ⟨(headF x q).1, ?_, u2⟩
  unfold headF
  dsimp only
  rw [e, Option.getD_some]
  exact heads_ok hx t0 t1 _ (List.mem_of_getElem? e)
theorem Vg.up {n m dp dp' sz sz' : Nat} {ar : List Str} {d e : PyData} (h : Vg n ar dp sz d e) (h1 : n ≤ m) (h2 : dp ≤ dp') (h3 : sz ≤ sz') : Vg m ar dp' sz' d e := ⟨vt_le h1 h.v, h.t, h.b.mono h2 h3⟩
theorem vg_two {n dp s1 s2 : Nat} {ar : List Str} {w : Str} {a b a' b' : PyData} (h1 : w ≠ "var") (h2 : w ≠ "all") (h3 : w ≠ "fun") (hw : parts w = some 2) (fw : fine (.str w) = true) (ha : Vg n ar dp s1 a a') (hb : Vg n ar dp s2 b b') : Vg (n + 1) ar (dp + 1) (s1 + s2 + 300) (.tuple [.str w, a, b]) (.tuple [.str w, a', b']) := by
  refine ⟨vt_node h1 h2 h3 (by show 2 ≤ 10; decide) (.cons (Or.inl ha.v) (.cons (Or.inl hb.v) .nil)), ?_, (Bd.tup (BdAll.cons ((Bd.str fw).mono (Nat.zero_le _) (Nat.le_refl _)) (BdAll.cons ha.b (BdAll.one hb.b)))).mono (Nat.le_refl _) (by omega)⟩
  rw [tm_parts hw]
  simp only [tmAll, ha.t, hb.t]
  rfl
theorem vg_three {n dp s : Nat} {ar : List Str} {w : Str} {a b c a' b' c' : PyData} (h1 : w ≠ "var") (h2 : w ≠ "all") (h3 : w ≠ "fun") (hw : parts w = some 3) (fw : fine (.str w) = true) (ha : Vg n ar dp s a a') (hb : Vg n ar dp s b b') (hc : Vg n ar dp s c c') : Vg (n + 1) ar (dp + 1) (3 * s + 300) (.tuple [.str w, a, b, c]) (.tuple [.str w, a', b', c']) := by
  refine ⟨vt_node h1 h2 h3 (by show 3 ≤ 10; decide) (.cons (Or.inl ha.v) (.cons (Or.inl hb.v) (.cons (Or.inl hc.v) .nil))), ?_, (Bd.tup (BdAll.cons ((Bd.str fw).mono (Nat.zero_le _) (Nat.le_refl _)) (BdAll.cons ha.b (BdAll.cons hb.b (BdAll.one hc.b))))).mono (Nat.le_refl _) (by omega)⟩
  rw [tm_parts hw]
  simp only [tmAll, ha.t, hb.t, hc.t]
  rfl
theorem vg_bind {n dp s1 s2 : Nat} {ar : List Str} {w x : Str} {a b a' b' : PyData} (hw : w = "all" ∨ w = "fun") (ha : Vg n ar dp s1 a a') (hb : Vg n (ar ++ [x]) dp s2 b b') : Vg (n + 1) ar (dp + 1) (s1 + s2 + 300) (.tuple [.str w, .str x, a, b]) (.tuple [.str w, a', b']) := by
  have fw : fine (.str w) = true := by rcases hw with rfl | rfl <;> decide +kernel
  have pw : parts w = some 2 := by rcases hw with rfl | rfl <;> decide +kernel
  refine ⟨vt_bind hw ha.v hb.v, ?_, (Bd.tup (BdAll.cons ((Bd.str fw).mono (Nat.zero_le _) (Nat.le_refl _)) (BdAll.cons ha.b (BdAll.one hb.b)))).mono (Nat.le_refl _) (by omega)⟩
  rw [tm_parts pw]
  simp only [tmAll, ha.t, hb.t]
  rfl
theorem someF_ok {ns : List Str} {k : Nat} (hr : RcOk ns k) {ar : List Str} {q : Pu} {n : Nat} (l : ar.length + k ≤ 90) (h : PuOk q n) (hn : n + 3 * (40 * 4 ^ k) ≤ maxN) : ∀ j, j ≤ 3 → PuOk (someF (drawnF ns k) ar j q).2 (n + j * (40 * 4 ^ k)) ∧ ∃ es, Paired (fun d e => Vg (k + 1) ar (k + 1) (1000 * 4 ^ k) d e) (someF (drawnF ns k) ar j q).1 es
  | 0, _ => ⟨h.more (by omega), [], .nil⟩
  | j + 1, hj => by
    obtain ⟨h1, es, h2⟩ := someF_ok hr l h hn j (by omega)
    have m : j * (40 * 4 ^ k) + 40 * 4 ^ k ≤ 3 * (40 * 4 ^ k) := by
      have : (j + 1) * (40 * 4 ^ k) ≤ 3 * (40 * 4 ^ k) := Nat.mul_le_mul_right _ hj
      rw [Nat.add_mul, Nat.one_mul] at this
      exact this
    obtain ⟨e, v, pq⟩ := hr ar _ _ l h1 (by omega)
    refine ⟨?_, es ++ [e], ?_⟩
    · have : n + (j + 1) * (40 * 4 ^ k) = n + j * (40 * 4 ^ k) + 40 * 4 ^ k := by rw [Nat.add_mul, Nat.one_mul]; omega
      rw [this]
      exact pq
    · have app : ∀ {xs : List PyData} {ys : List PyData} {x y : PyData}, Paired (fun d e => Vg (k + 1) ar (k + 1) (1000 * 4 ^ k) d e) xs ys → Vg (k + 1) ar (k + 1) (1000 * 4 ^ k) x y → Paired (fun d e => Vg (k + 1) ar (k + 1) (1000 * 4 ^ k) d e) (xs ++ [x]) (ys ++ [y]) := by
        intro xs ys x y p
        induction p with
        | nil => exact fun v => .cons v .nil
        | cons r t ih => exact fun v => .cons r (ih v)
      exact app h2 v
theorem someF_len (rec : List Str → Pu → Dr) (ar : List Str) (q : Pu) : ∀ j, (someF rec ar j q).1.length = j
  | 0 => rfl
  | j + 1 => by
    show ((someF rec ar j q).1 ++ [_]).length = j + 1
    rw [List.length_append, someF_len rec ar q j]
    rfl
theorem threes_ok {k : Nat} {ar : List Str} {a b c a' b' c' : PyData} (ha : Vg (k + 1) ar (k + 1) (1000 * 4 ^ k) a a') (hb : Vg (k + 1) ar (k + 1) (1000 * 4 ^ k) b b') (hc : Vg (k + 1) ar (k + 1) (1000 * 4 ^ k) c c') : ∀ g ∈ threeD [a, b, c], ∃ e, Vg (k + 2) ar (k + 2) (3 * (1000 * 4 ^ k) + 300) g e := by
  intro g hg
  unfold threeD at hg
  simp only [List.mem_cons, List.not_mem_nil, or_false] at hg
  rcases hg with rfl | rfl | rfl
  · exact ⟨_, vg_three (by decide) (by decide) (by decide) (by decide +kernel) (by decide +kernel) ha hb hc⟩
  · exact ⟨_, (vg_two (by decide) (by decide) (by decide) (by decide +kernel) (by decide +kernel) ha hb).up (Nat.le_refl _) (Nat.le_refl _) (by omega)⟩
  · exact ⟨_, vg_three (by decide) (by decide) (by decide) (by decide +kernel) (by decide +kernel) ha hb hc⟩
theorem drawnF_step {ns : List Str} (hns : NsOk ns) {k : Nat} (hr : ∀ k', k = k' + 1 → RcOk ns k') : RcOk ns k := fun ar p n l hp hn => by
  have c1 : 0 < 4 ^ k := Nat.pow_pos (by decide)
  obtain ⟨n0, n1, n2⟩ := hns
  have n0 : 0 < ns.length := List.length_pos_iff.mpr n0
  rw [drawnF_eq]
  unfold bodyD
  obtain ⟨t0, t1, t2⟩ := takeF_ok (m := if 0 < k then 12 else 5) hp (by split <;> decide)
  have top : k = 0 → (takeF p (if 0 < k then 12 else 5)).1 < 5 := fun z => by rw [if_neg (by omega)] at t1 ⊢; exact t1
  generalize takeF p (if 0 < k then 12 else 5) = w at *
  obtain ⟨u0, u1, u2⟩ := takeF_ok (m := (ns.length : Int)) t2 (by omega)
  have e := List.getElem?_eq_getElem (show (takeF w.2 ns.length).1.toNat < ns.length by omega)
  rw [e, Option.getD_some]
  have hx := n2 _ (List.mem_of_getElem? e)
  clear e
  generalize ns[(takeF w.2 ns.length).1.toNat] = x at hx
  generalize takeF w.2 ns.length = u at *
  have lift : ∀ {r : Dr} {m : Nat}, (∃ e, Vg 1 ar 1 1000 r.1 e ∧ PuOk r.2 (n + 1 + 1 + m)) → m ≤ 2 → DrOk k ar n r := fun {r m} ⟨e, v, q⟩ hm => ⟨e, v.up (by omega) (by omega) (by omega), q.more (by omega)⟩
  unfold restF
  split
  · rename_i c
    exact lift (varF_ok u2 c.2 (by omega)) (by decide)
  split
  · exact lift (kindF_ok u2) (by decide)
  split
  · exact lift (headF_ok hx u2) (by decide)
  rename_i c5
  obtain ⟨k', rfl⟩ : ∃ k', k = k' + 1 := ⟨k - 1, by have := top; omega⟩
  have pw : 4 ^ (k' + 1) = 4 * 4 ^ k' := by rw [Nat.pow_succ, Nat.mul_comm]
  have rc := hr k' rfl
  show DrOk (k' + 1) ar n (if w.1 < 8 then appF (drawnF ns k') ar u.2 else _)
  obtain ⟨a', va, qa⟩ := rc ar u.2 _ (by omega) u2 (by omega)
  split
  · obtain ⟨b', vb, qb⟩ := rc ar (drawnF ns k' ar u.2).2 _ (by omega) qa (by omega)
    exact ⟨_, (vg_two (by decide) (by decide) (by decide) (by decide +kernel) (by decide +kernel) va vb).up (Nat.le_refl _) (Nat.le_refl _) (by omega), qb.more (by omega)⟩
  split
  · obtain ⟨s0, s1, s2⟩ := takeF_ok (m := 4) qa (by decide)
    obtain ⟨b', vb, qb⟩ := rc (ar ++ [callD ar.length (takeF (drawnF ns k' ar u.2).2 4).1 (k' + 1)]) (takeF (drawnF ns k' ar u.2).2 4).2 _ (by rw [List.length_append, List.length_singleton]; omega) s2 (by omega)
    refine ⟨_, (vg_bind ?_ va vb).up (Nat.le_refl _) (Nat.le_refl _) (by omega), qb.more (by omega)⟩
    split
    · exact Or.inl rfl
    · exact Or.inr rfl
  · obtain ⟨q3, es, p3⟩ := someF_ok rc (ar := ar) (q := u.2) (by omega) u2 (by omega) 3 (Nat.le_refl _)
    have l3 := someF_len (drawnF ns k') ar u.2 3
    obtain ⟨s0, s1, s2⟩ := takeF_ok (m := 3) q3 (by decide)
    unfold threeF
    show DrOk (k' + 1) ar n (((threeD (someF (drawnF ns k') ar 3 u.2).1)[(takeF (someF (drawnF ns k') ar 3 u.2).2 3).1.toNat]?).getD .none, (takeF (someF (drawnF ns k') ar 3 u.2).2 3).2)
    generalize someF (drawnF ns k') ar 3 u.2 = S at *
    obtain ⟨ss, sp⟩ := S
    match ss, l3, p3 with
    | [a, b, c], _, .cons ha (.cons hb (.cons hc .nil)) =>
      have s1 : (takeF sp 3).1 < 3 := s1
      have s0 : 0 ≤ (takeF sp 3).1 := s0
      have e3 := List.getElem?_eq_getElem (show (takeF sp 3).1.toNat < (threeD [a, b, c]).length by show _ < 3; omega)
      obtain ⟨e, v⟩ := threes_ok ha hb hc _ (List.mem_of_getElem? e3)
      refine ⟨e, ?_, s2.more (by omega)⟩
      show Vg _ _ _ _ (((threeD [a, b, c])[(takeF sp 3).1.toNat]?).getD .none) e
      rw [e3, Option.getD_some]
      exact v.up (Nat.le_refl _) (Nat.le_refl _) (by omega)
theorem drawnF_ok {ns : List Str} (hns : NsOk ns) : ∀ k, RcOk ns k
  | 0 => drawnF_step hns fun k' e => by cases e
  | k + 1 => drawnF_step hns fun k' e => by
    obtain rfl : k = k' := by omega
    exact drawnF_ok hns k
end KP
set_option Elab.async false
set_option linter.unusedVariables false
set_option maxRecDepth 100000
set_option maxHeartbeats 2000000
namespace KP
open PySem PySem.Spec PyProof.Rows L2 KA OW
abbrev psDrawn : List Str := ["_law_purse", "_law_around", "_law_names", "_law_deep"]
def tDrawn (lim : Nat) : List PyData → List Sl → (Rv → List PyData → Prop) → Prop := fun c as Kr => ∃ p n k ar ns, c = p.ds ∧ as = [.d (.list (ar.map .str)), .d (.list (ns.map .str)), .d (.int ((k : Nat) : Int))] ∧ PuOk p n ∧ k < lim ∧ NsOk ns ∧ ar.length + k ≤ 90 ∧ n + 40 * 4 ^ k ≤ maxN ∧ Kr (.d (drawnF ns k ar p).1) (drawnF ns k ar p).2.ds
theorem got_drawn {lim k n : Nat} {p : Pu} {ar ns : List Str} {z : Int} (ez : z = (k : Int)) (hp : PuOk p n) (hk : k < lim) (hns : NsOk ns) (l : ar.length + k ≤ 90) (hn : n + 40 * 4 ^ k ≤ maxN) :
    tDrawn lim p.ds ([.d (.list (ar.map .str)), .d (.list (ns.map .str)), .d (.int z)] ++ []) (fun r c' => r = .d (drawnF ns k ar p).1 ∧ c' = (drawnF ns k ar p).2.ds) := ⟨p, n, k, ar, ns, rfl, by rw [ez]; rfl, hp, hk, hns, l, hn, rfl, rfl⟩
theorem at_nat' {α : Type} {xs : List α} {v : α} {z : Int} (h : xs[z.toNat]? = some v) (z0 : 0 ≤ z) : atI xs z = some v := by
  have := at_nat h
  rw [Int.toNat_of_nonneg z0] at this
  exact this
theorem abcd_at {r : Int} (h0 : 0 ≤ r) (h1 : r < 4) : atI ("abcd" : Str).cps.toList r = some (97 + r.toNat) := by
  have e : ("abcd" : Str).cps.toList = [97, 98, 99, 100] := by decide +kernel
  rw [e]
  refine at_nat' ?_ h0
  have : ∀ j < 4, ([97, 98, 99, 100] : List Nat)[j]? = some (97 + j) := by decide
  exact this _ (by omega)
theorem int_txt {i : Int} (h : -(10 ^ 31) ≤ i ∧ i ≤ 10 ^ 31) : ((toString i : String) : Str).length ≤ 40 := int_len h
theorem log_ok {i : Int} (h : -(10 ^ 31) ≤ i ∧ i ≤ 10 ^ 31) : i.natAbs.log2 < 1920 := log2_small h
section
variable {P : Program} {w : World} {K : PySem.W.Frag} {mg : Str → Option Value} {base : Heap}
theorem ok_drawn {f : Addr} {fd : FuncData} (D : Dfn K mg "_law_drawn" sLawDrawn f fd psDrawn) (T : Txt K w mg) (C_law_take : C8.Cal P w K mg base 1 "_law_take" (spB 1 tTake) []) : ∀ lim : Nat, FnOk P w K mg base CX0 (2 + lim) f fd psDrawn (spB 3 (tDrawn lim))
  | 0 => ⟨fun vs H Q E h => by
      obtain ⟨Z, p, cs, ct, ws, as, Kr, rfl, hp, hZ, ep, dc, ha, hl, hT, go⟩ := h
      rw [List.length_cons, ha.length, hl]
      rfl, fun A outer s H args us vs Q E hr e0 bt rv h => by
      obtain ⟨Z, p, cs, ct, ws, as, Kr, rfl, hp, hZ, ep, dc, ha, hl, ⟨_, _, _, _, _, _, _, _, h0, _⟩, go⟩ := h
      omega⟩
  | lim + 1 => by
    have C_law_drawn : C8.Cal P w K mg base (2 + lim) "_law_drawn" (spB 3 (tDrawn lim)) [] := D.cal (ok_drawn D T C_law_take lim)
    refine fn_b (k := 2 + lim) D.fn scLawDrawn (body := fun cdv A outer s H E hr => ⟨_, (pss_cons (ps_set (i := 4) scLawDrawn.nd rfl (Or.inl rfl) (pe_ifExp (pt_cmpR op_gt (pv 3) pe_int (nomark _)) (C8.pe_c C_law_take hr (by omega) rfl (pa_cons (pv 0) (pa_cons pe_int pa_nil))) (C8.pe_c C_law_take hr (by omega) rfl (pa_cons (pv 0) (pa_cons pe_int pa_nil)))))
      (pss_cons (ps_set (i := 5) scLawDrawn.nd rfl (Or.inl rfl) (pe_ix ix_list (pv 2) (C8.pe_c C_law_take hr (by omega) rfl (pa_cons (pv 0) (pa_cons (pe_callB call_len_seq (by rfl) T.len PySem.boot_len (pa_cons (pv 2) pa_nil)) pa_nil))) (fun _ _ => rfl)))
      (pss_cons (ps_if (PW.pt (pw_and (pt_cmpR op_lt (pv 4) pe_int (nomark _)) (pw_and1 (pt_cmpR (op_neEL (hu_of hr)) (pv 1) (pe_lst pa_nil) (nomark _))))) (pss_one (ps_ret (pe_tup (pa_cons pe_str (pa_cons (pe_ix ix_list (pv 1) (C8.pe_c C_law_take hr (by omega) rfl (pa_cons (pv 0) (pa_cons (pe_callB call_len_seq (by rfl) T.len PySem.boot_len (pa_cons (pv 1) pa_nil)) pa_nil))) (fun _ _ => rfl)) pa_nil))))) pss_nil) (pss_cons (ps_if (pt_cmpR op_lt (pv 4) pe_int (nomark _)) (pss_one (ps_ret (pe_tup (pa_cons pe_str (pa_cons (C8.pe_c C_law_take hr (by omega) rfl (pa_cons (pv 0) (pa_cons pe_int pa_nil))) pa_nil))))) pss_nil) (pss_cons (ps_if (pt_cmpR op_lt (pv 4) pe_int (nomark _)) (pss_cons (ps_set (i := 6) scLawDrawn.nd rfl (Or.inl rfl) (pe_lst (pa_cons (pe_tup (pa_cons pe_str (pa_cons (pv 5) pa_nil))) (pa_cons (pe_tup (pa_cons pe_str (pa_cons (pv 5) pa_nil))) (pa_cons (pe_tup (pa_cons pe_str (pa_cons (pv 5) (pa_cons (C8.pe_c C_law_take hr (by omega) rfl (pa_cons (pv 0) (pa_cons pe_int pa_nil))) pa_nil)))) (pa_cons (pe_tup (pa_cons pe_str (pa_cons (pv 5) (pa_cons pe_int pa_nil)))) pa_nil))))))
      (pss_one (ps_ret (pe_ix ix_list (pv 6) (C8.pe_c C_law_take hr (by omega) rfl (pa_cons (pv 0) (pa_cons pe_int pa_nil))) (fun _ _ => rfl))))) pss_nil) (pss_cons (ps_if (pt_cmpR op_lt (pv 4) pe_int (nomark _)) (pss_cons (ps_set (i := 7) scLawDrawn.nd rfl (Or.inl rfl) (C8.pe_c C_law_drawn hr (by omega) rfl (pa_cons (pv 0) (pa_cons (pv 1) (pa_cons (pv 2) (pa_cons (pe_op op_sub (pv 3) pe_int) pa_nil))))))
      (pss_cons (ps_set (i := 8) scLawDrawn.nd rfl (Or.inl rfl) (C8.pe_c C_law_drawn hr (by omega) rfl (pa_cons (pv 0) (pa_cons (pv 1) (pa_cons (pv 2) (pa_cons (pe_op op_sub (pv 3) pe_int) pa_nil))))))
      (pss_one (ps_ret (pe_tup (pa_cons pe_str (pa_cons (pv 7) (pa_cons (pv 8) pa_nil)))))))) pss_nil) (pss_cons (ps_if (pt_cmpR op_lt (pv 4) pe_int (nomark _)) (pss_cons (ps_set (i := 7) scLawDrawn.nd rfl (Or.inl rfl) (C8.pe_c C_law_drawn hr (by omega) rfl (pa_cons (pv 0) (pa_cons (pv 1) (pa_cons (pv 2) (pa_cons (pe_op op_sub (pv 3) pe_int) pa_nil))))))
      (pss_cons (ps_set (i := 9) scLawDrawn.nd rfl (Or.inl rfl) (pe_op op_add_str (pe_op op_add_str (pe_op op_add_str pe_str (pe_callTy call_str_int (by rfl) T.str (by decide +kernel) (pa_cons (pe_callB call_len_seq (by rfl) T.len PySem.boot_len (pa_cons (pv 1) pa_nil)) pa_nil))) (pe_ix ix_str pe_str (C8.pe_c C_law_take hr (by omega) rfl (pa_cons (pv 0) (pa_cons pe_int pa_nil))) (fun _ _ => rfl))) (pe_callTy call_str_int (by rfl) T.str (by decide +kernel) (pa_cons (pv 3) pa_nil))))
      (pss_one (ps_ret (pe_tup (pa_cons (pe_ix ix_list (pe_lst (pa_cons pe_str (pa_cons pe_str pa_nil))) (pe_op op_sub (pv 4) pe_int) (fun _ _ => rfl)) (pa_cons (pv 9) (pa_cons (pv 7) (pa_cons (C8.pe_c C_law_drawn hr (by omega) rfl (pa_cons (pv 0) (pa_cons (pe_op op_cat (pv 1) (pe_lst (pa_cons (pv 9) pa_nil))) (pa_cons (pv 2) (pa_cons (pe_op op_sub (pv 3) pe_int) pa_nil))))) pa_nil))))))))) pss_nil) (pss_cons (ps_setLc (i := 10) (own := [("_law_k", 11)]) (g := gName 11) (tt := tYes) rfl scLawDrawn.nd rfl rfl (sw_true rfl rfl rfl (by decide +kernel)) (pi_range1 (by rfl) T.range (pa_cons pe_int pa_nil)) (blkOk_by (N := nLawDrawn) (sc := defScope sLawDrawn) (by decide +kernel)) (fun _ _ _ _ _ => (pg_name (i := 11) scLawDrawn.nd rfl (Or.inl rfl))) (fun _ _ _ _ _ => pts_nil) (fun _ _ _ _ _ => (C8.pe_c C_law_drawn hr (by omega) rfl (pa_cons (pv 0) (pa_cons (pv 1) (pa_cons (pv 2) (pa_cons (pe_op op_sub (pv 3) pe_int) pa_nil)))))))
      (pss_one (ps_ret (pe_ix ix_list (pe_lst (pa_cons (pe_op op_catA (pe_tup (pa_cons pe_str pa_nil)) (pe_callTy call_tuple_of (by rfl) T.tuple (by decide +kernel) (pa_cons (pv 10) pa_nil))) (pa_cons (pe_op op_catA (pe_tup (pa_cons pe_str pa_nil)) (pe_callTy call_tuple_of (by rfl) T.tuple (by decide +kernel) (pa_cons (pe_slice sl_list (pv 10) po_none (po_some pe_int)) pa_nil))) (pa_cons (pe_op op_catA (pe_tup (pa_cons pe_str pa_nil)) (pe_callTy call_tuple_of (by rfl) T.tuple (by decide +kernel) (pa_cons (pv 10) pa_nil))) pa_nil)))) (C8.pe_c C_law_take hr (by omega) rfl (pa_cons (pv 0) (pa_cons pe_int pa_nil))) (fun _ _ => rfl)))))))))))), ?_⟩)
    rintro ct as Kr _ ⟨p, n, k, ar, ns, rfl, rfl, hp, hk, hns, hl, hn, kk⟩
    have c1 : 0 < 4 ^ k := Nat.pow_pos (by decide)
    have mN : maxN = 1000000000 := rfl
    have hns' := hns
    obtain ⟨n0, n1, n2⟩ := hns'
    have n0 : 0 < ns.length := List.length_pos_iff.mpr n0
    rw [drawnF_eq] at kk
    unfold bodyD at kk
    obtain ⟨t0, t1, t2⟩ := takeF_ok (m := if 0 < k then 12 else 5) hp (by split <;> decide)
    have top : k = 0 → (takeF p (if 0 < k then 12 else 5)).1 < 5 := fun z => by rw [if_neg (by omega)] at t1 ⊢; exact t1
    have gt : ∀ b : Bool, b = decide (((k : Nat) : Int) > 0) → takeF p (if 0 < k then 12 else 5) = takeF p (if b = true then 12 else 5) := fun b hb => by
      rw [hb]
      by_cases z : 0 < k
      · rw [if_pos z, if_pos (decide_eq_true (by omega))]
      · rw [if_neg z, if_neg (by simpa using z)]
    have nM : n ≤ maxN := by omega
    have hk90 : k ≤ 90 := by omega
    generalize hW : takeF p (if 0 < k then 12 else 5) = W at *
    obtain ⟨u0, u1, u2⟩ := takeF_ok (m := (ns.length : Int)) t2 (by omega)
    have e := List.getElem?_eq_getElem (show (takeF W.2 ns.length).1.toNat < ns.length by omega)
    rw [e, Option.getD_some] at kk
    have hx := n2 _ (List.mem_of_getElem? e)
    have ix : atI (ns.map PyData.str) (takeF W.2 ns.length).1 = some (.str ns[(takeF W.2 ns.length).1.toNat]) := at_nat' (by rw [List.getElem?_map, e]; rfl) u0
    clear e
    generalize ns[(takeF W.2 ns.length).1.toNat] = x at hx ix kk
    have lm : ((ns.map PyData.str).length : Int) = (ns.length : Int) := by rw [List.length_map]
    have hU : takeF W.2 ((ns.map PyData.str).length : Int) = takeF W.2 (ns.length : Int) := by rw [lm]
    generalize takeF W.2 (ns.length : Int) = U at *
    refine (sm_seq (sm_set (s := .d (.int W.1)) (ρ1 := [.l W.2.ds, .d (.list (ar.map .str)), .d (.list (ns.map .str)), .d (.int ((k : Nat) : Int)), .un, .un, .un, .un, .un, .un, .un, .un]) (ev_if (et_test (ev_op (ev_var rfl) ev_int fv_cmpI)) (fun h => ?_) (fun h => ?_))
      (sm_seq (sm_set (ev_op (ev_var rfl) (ev_callB (i := 0) rfl (es_cons (ev_fn (es_cons (ev_var rfl) es_nil) fv_lenL) es_nil) rfl ar_nil rfl (got_take' hU t2 (by omega) (by omega) (by omega))) (fv_ixL ix)) ?_))))
    · have z := gt _ h.symm
      rw [if_pos rfl] at z
      exact (ev_callB (i := 0) rfl (es_cons ev_int es_nil) rfl ar_nil rfl (got_take' z.symm hp nM (by decide) (by decide)))
    · have z := gt _ h.symm
      rw [if_neg (by decide)] at z
      exact (ev_callB (i := 0) rfl (es_cons ev_int es_nil) rfl ar_nil rfl (got_take' z.symm hp nM (by decide) (by decide)))
    have la : ((ar.map PyData.str).length : Int) = (ar.length : Int) := by rw [List.length_map]
    unfold restF at kk
    refine sm_seq (sm_if (et_and (et_test (ev_op (ev_var rfl) ev_int fv_cmpI)) fun _ => (et_test (ev_op (ev_var rfl) (Ev.of_el (el_lst eds_nil)) fv_neEL))) (fun h => ?_) (fun h => sm_next ?_))
    · have hc : W.1 < 2 ∧ ar ≠ [] := by
        rw [Bool.and_eq_true] at h
        refine ⟨of_decide_eq_true h.1, fun z => ?_⟩
        rw [z] at h
        exact absurd h.2 (by decide)
      rw [if_pos hc] at kk
      have l0 : 0 < ar.length := List.length_pos_iff.mpr hc.2
      obtain ⟨v0, v1, v2⟩ := takeF_ok (m := (ar.length : Int)) u2 (by omega)
      have e := List.getElem?_eq_getElem (show (takeF U.2 ar.length).1.toNat < ar.length by omega)
      unfold varF at kk
      rw [e, Option.getD_some] at kk
      have ix2 : atI (ar.map PyData.str) (takeF U.2 ar.length).1 = some (.str ar[(takeF U.2 ar.length).1.toNat]) := at_nat' (by rw [List.getElem?_map, e]; rfl) v0
      exact sm_ret (ev_tup (eds_cons ev_str (eds_cons (ev_op (ev_var rfl) (ev_callB (i := 0) rfl (es_cons (ev_fn (es_cons (ev_var rfl) es_nil) fv_lenL) es_nil) rfl ar_nil rfl (got_take' (by rw [la]) u2 (by omega) (by omega) (by omega))) (fv_ixL ix2)) eds_nil))) ⟨_, rfl, kk⟩
    have nc : ¬ (W.1 < 2 ∧ ar ≠ []) := fun z => by
      have h1 : decide (W.1 < 2) = true := decide_eq_true z.1
      have h2 : (!(ar.map PyData.str).isEmpty) = true := by
        cases ar with
        | nil => exact absurd rfl z.2
        | cons _ _ => rfl
      have h : (decide (W.1 < 2) && !(ar.map PyData.str).isEmpty) = false := h
      rw [h1, h2] at h
      cases h
    rw [if_neg nc] at kk
    refine sm_seq (sm_if (et_test (ev_op (ev_var rfl) ev_int fv_cmpI)) (fun h => ?_) (fun h => sm_next ?_))
    · rw [if_pos (of_decide_eq_true h)] at kk
      exact (sm_ret (ev_tup (eds_cons ev_str (eds_cons (ev_callB (i := 0) rfl (es_cons ev_int es_nil) rfl ar_nil rfl (got_take u2 (by omega) (by decide) (by decide))) eds_nil))) ⟨_, rfl, kk⟩)
    rw [if_neg (of_decide_eq_false h)] at kk
    refine sm_seq (sm_if (et_test (ev_op (ev_var rfl) ev_int fv_cmpI)) (fun h => ?_) (fun h => sm_next ?_))
    · rw [if_pos (of_decide_eq_true h)] at kk
      obtain ⟨v0, v1, v2⟩ := takeF_ok (m := 6) u2 (by decide)
      obtain ⟨y0, y1, y2⟩ := takeF_ok (m := 4) v2 (by decide)
      have e := List.getElem?_eq_getElem (show (takeF (takeF U.2 6).2 4).1.toNat < (headsD x (takeF U.2 6).1).length by show _ < 4; omega)
      unfold headF at kk
      rw [e, Option.getD_some] at kk
      exact (sm_seq (sm_setL (el_lst (eds_cons (ev_tup (eds_cons ev_str (eds_cons (ev_var rfl) eds_nil))) (eds_cons (ev_tup (eds_cons ev_str (eds_cons (ev_var rfl) eds_nil))) (eds_cons (ev_tup (eds_cons ev_str (eds_cons (ev_var rfl) (eds_cons (ev_callB (i := 0) rfl (es_cons ev_int es_nil) rfl ar_nil rfl (got_take u2 (by omega) (by decide) (by decide))) eds_nil)))) (eds_cons (ev_tup (eds_cons ev_str (eds_cons (ev_var rfl) (eds_cons ev_int eds_nil)))) eds_nil))))) (sm_ret (ev_ixO (xs := headsD x (takeF U.2 6).1) rfl (ev_callB (i := 0) rfl (es_cons ev_int es_nil) rfl ar_nil rfl (got_take v2 (by omega) (by decide) (by decide))) rfl (at_nat' e y0)) ⟨_, rfl, kk⟩)))
    rw [if_neg (of_decide_eq_false h)] at kk
    have h5 := of_decide_eq_false h
    obtain ⟨k', rfl⟩ : ∃ k', k = k' + 1 := ⟨k - 1, by have := top; omega⟩
    have pw : 4 ^ (k' + 1) = 4 * 4 ^ k' := by rw [Nat.pow_succ, Nat.mul_comm]
    have rc := drawnF_ok hns k'
    have ek : (((k' + 1 : Nat) : Int) - 1) = (k' : Int) := by omega
    have kk : Kr (.d (if W.1 < 8 then appF (drawnF ns k') ar U.2 else if W.1 < 10 then bindF (drawnF ns k') ar (k' + 1) (if W.1 = 8 then "all" else "fun") U.2 else threeF (drawnF ns k') ar U.2).1) (if W.1 < 8 then appF (drawnF ns k') ar U.2 else if W.1 < 10 then bindF (drawnF ns k') ar (k' + 1) (if W.1 = 8 then "all" else "fun") U.2 else threeF (drawnF ns k') ar U.2).2.ds := kk
    have ga := got_drawn (lim := lim) (ar := ar) ek u2 (by omega) hns (by omega) (by omega)
    obtain ⟨_, _, qa⟩ := rc ar U.2 _ (by omega) u2 (by omega)
    refine sm_seq (sm_if (et_test (ev_op (ev_var rfl) ev_int fv_cmpI)) (fun h => ?_) (fun h => sm_next ?_))
    · rw [if_pos (of_decide_eq_true h)] at kk
      unfold appF at kk
      have gb := got_drawn (lim := lim) (ar := ar) ek qa (by omega) hns (by omega) (by omega)
      exact (sm_seq (sm_set (ev_callB (i := 0) rfl (es_cons (ev_var rfl) (es_cons (ev_var rfl) (es_cons (ev_op (ev_var rfl) ev_int fv_int) es_nil))) rfl ar_nil rfl ga) (sm_seq (sm_set (ev_callB (i := 0) rfl (es_cons (ev_var rfl) (es_cons (ev_var rfl) (es_cons (ev_op (ev_var rfl) ev_int fv_int) es_nil))) rfl ar_nil rfl gb) (sm_ret (ev_tup (eds_cons ev_str (eds_cons (ev_var rfl) (eds_cons (ev_var rfl) eds_nil)))) ⟨_, rfl, kk⟩)))))
    rw [if_neg (of_decide_eq_false h)] at kk
    have h8 := of_decide_eq_false h
    refine sm_seq (sm_if (et_test (ev_op (ev_var rfl) ev_int fv_cmpI)) (fun h => ?_) (fun h => sm_next ?_))
    · have h10 := of_decide_eq_true h
      rw [if_pos h10] at kk
      unfold bindF at kk
      obtain ⟨s0, s1, s2⟩ := takeF_ok (m := 4) qa (by decide)
      have gt4 := got_take qa (m := 4) (by omega) (by decide) (by decide)
      refine (sm_seq (sm_set (ev_callB (i := 0) rfl (es_cons (ev_var rfl) (es_cons (ev_var rfl) (es_cons (ev_op (ev_var rfl) ev_int fv_int) es_nil))) rfl ar_nil rfl ga) ?_))
      generalize drawnF ns k' ar U.2 = A1 at *
      generalize takeF A1.2 4 = A2 at *
      have lc : ∀ i : Int, 0 ≤ i → i ≤ 1000 → ((toString i : String) : Str).length ≤ 40 := fun i h0 h1 => int_txt (by omega)
      have v1 : ("v" : Str).length = 1 := by decide +kernel
      have l1 := lc ((ar.map PyData.str).length : Int) (by omega) (by omega)
      have l2 := lc ((k' + 1 : Nat) : Int) (by omega) (by omega)
      refine (sm_seq (sm_set (s := .d (.str (callD ar.length A2.1 (k' + 1)))) (Ev.is (ev_op (ev_op (ev_op ev_str (ev_fn (es_cons (ev_fn (es_cons (ev_var rfl) es_nil) fv_lenL) es_nil) (fv_strI (log_ok (by omega)))) (fv_addS ?_)) (ev_op ev_str (ev_callB (i := 0) rfl (es_cons ev_int es_nil) rfl ar_nil rfl gt4) (fv_ixS (by decide +kernel) (abcd_at s0 s1))) (fv_addS ?_)) (ev_fn (es_cons (ev_var rfl) es_nil) (fv_strI (log_ok (by omega)))) (fv_addS ?_)) ?_) ?_))
      · rw [v1, sizeLine_eq]
        omega
      · rw [len_app, v1, sizeLine_eq]
        show _ + 1 ≤ _
        omega
      · rw [len_app, len_app, v1, sizeLine_eq]
        show _ + 1 + _ ≤ _
        omega
      · rw [la]
        rfl
      · have gb := got_drawn (lim := lim) (ar := ar ++ [callD ar.length A2.1 (k' + 1)]) ek s2 (by omega) hns (by rw [List.length_append, List.length_singleton]; omega) (by omega)
        rw [List.map_append] at gb
        have iw : atI [PyData.str "all", .str "fun"] (W.1 - 8) = some (.str (if W.1 = 8 then "all" else "fun")) := by
          rcases (by omega : W.1 = 8 ∨ W.1 = 9) with z | z
          · rw [z]
            rfl
          · rw [z]
            rfl
        refine (sm_ret (ev_tup (eds_cons (ev_op (Ev.of_el (el_lst (eds_cons ev_str (eds_cons ev_str eds_nil)))) (ev_op (ev_var rfl) ev_int fv_int) (fv_ixL iw)) (eds_cons (ev_var rfl) (eds_cons (ev_var rfl) (eds_cons (ev_callB (i := 0) rfl (es_cons (Ev.of_el (el_op (ev_var rfl) (Ev.of_el (el_lst (eds_cons (ev_var rfl) eds_nil))) (fl_cat ?_))) (es_cons (ev_var rfl) (es_cons (ev_op (ev_var rfl) ev_int fv_int) es_nil))) rfl ar_nil rfl gb) eds_nil))))) ⟨_, rfl, kk⟩)
        rw [List.length_map, sizeLine_eq]
        show _ + 1 ≤ _
        omega
    · rw [if_neg (of_decide_eq_false h)] at kk
      unfold threeF at kk
      have so := fun j hj => someF_ok rc (ar := ar) (q := U.2) (by omega) u2 (by omega) j hj
      have l3 := someF_len (drawnF ns k') ar U.2
      obtain ⟨s0, s1, s2⟩ := takeF_ok (m := 3) (so 3 (by decide)).1 (by decide)
      refine (sm_seq (sm_set (s := .d (.list (someF (drawnF ns k') ar 3 U.2).1)) (Ev.of_el (El.is (el_lc (ρ0 := [.l U.2.ds, .d (.list (ar.map .str)), .d (.list (ns.map .str)), .d (.int ((k' + 1 : Nat) : Int)), .d (.int W.1), .d (.str x), .un, .un, .un, .un, .un, .un]) (fi_rng1 (eds_cons ev_int eds_nil) (by decide))
        (fun j => [.l (someF (drawnF ns k') ar j U.2).2.ds, .d (.list (ar.map .str)), .d (.list (ns.map .str)), .d (.int ((k' + 1 : Nat) : Int)), .d (.int W.1), .d (.str x), .un, .un, .un, .un, .un, .any]) (fun j => (someF (drawnF ns k') ar j U.2).1) rfl ⟨.un, rfl, trivial⟩ rfl (by decide) ?_ fun j z ex an => ?_) rfl)) ?_))
      · intro j hj
        have hj : j < 3 := hj
        rw [l3, sizeLine_eq]
        omega
      · obtain ⟨lt, rfl⟩ := rngD_at ex
        have lt : j < 3 := lt
        have hj : j * (40 * 4 ^ k') ≤ 2 * (40 * 4 ^ k') := Nat.mul_le_mul_right _ (by omega)
        exact ⟨_, _, (ev_callB (i := 0) rfl (es_cons (ev_var rfl) (es_cons (ev_var rfl) (es_cons (ev_op (ev_var rfl) ev_int fv_int) es_nil))) rfl ar_nil rfl (got_drawn (lim := lim) ek (so j (by omega)).1 (by omega) hns (by omega) (by omega))), rfl, rfl, _, rfl, trivial⟩
      · show Sm _ [.l (someF (drawnF ns k') ar 3 U.2).2.ds, _, _, _, _, _, _, _, _, _, .d (.list (someF (drawnF ns k') ar 3 U.2).1), .any] _
        have l33 := l3 3
        have so3 := (so 3 (by decide)).1
        generalize someF (drawnF ns k') ar 3 U.2 = S at *
        obtain ⟨g, e3⟩ : ∃ g, (threeD S.1)[(takeF S.2 3).1.toNat]? = some g := ⟨_, List.getElem?_eq_getElem (show (takeF S.2 3).1.toNat < (threeD S.1).length by show _ < 3; omega)⟩
        rw [e3, Option.getD_some] at kk
        have et : threeD S.1 = [.tuple ([.str "same"] ++ S.1), .tuple ([.str "self"] ++ cutD S.1 none (some 2)), .tuple ([.str "put"] ++ S.1)] := by
          rw [show cutD S.1 none (some (2 : Int)) = S.1.take 2 from cutD_to' (n := 2)]
          rfl
        have i3 := at_nat' e3 s0
        rw [et] at i3
        have ct : (cutD S.1 none (some (2 : Int))).length ≤ 3 := by
          rw [show cutD S.1 none (some (2 : Int)) = S.1.take 2 from cutD_to' (n := 2), List.length_take]
          omega
        refine (sm_ret (ev_op (Ev.of_el (el_lst (eds_cons (ev_op (ev_tup (eds_cons ev_str eds_nil)) (ev_fn (es_cons (ev_var rfl) es_nil) fv_tupL) (fv_catA ?_)) (eds_cons (ev_op (ev_tup (eds_cons ev_str eds_nil)) (ev_fn (es_cons (Ev.of_el (el_slL (ev_var rfl) eo_none (eo_some ev_int))) es_nil) fv_tupL) (fv_catA ?_)) (eds_cons (ev_op (ev_tup (eds_cons ev_str eds_nil)) (ev_fn (es_cons (ev_var rfl) es_nil) fv_tupL) (fv_catA ?_)) eds_nil))))) (ev_callB (i := 0) rfl (es_cons ev_int es_nil) rfl ar_nil rfl (got_take so3 (by omega) (by decide) (by decide))) (fv_ixL i3)) ⟨_, rfl, kk⟩)
        · rw [l33, sizeLine_eq]
          decide
        · rw [sizeLine_eq]
          show 1 + _ ≤ _
          omega
        · rw [l33, sizeLine_eq]
          decide
end
end KP
set_option Elab.async false
set_option linter.unusedVariables false
set_option maxRecDepth 100000
set_option maxHeartbeats 2000000
namespace KP
open PySem PySem.Spec PyProof.Rows L2 KA OW
/-! ### drawn things -/
abbrev BL := List (Str × PyData)
def nmK (c : Str) (k : Nat) : Str := c ++ ((toString (k : Int) : String) : Str)
def names (b : BL) : List Str := b.map (·.1)
def seqF (c : Str) (pre ns : List Str) : Nat → Pu → BL × Pu
  | 0, p => ([], p)
  | k + 1, p => ((seqF c pre ns k p).1 ++ [(nmK c k, (drawnF ns 1 (pre ++ names (seqF c pre ns k p).1) (seqF c pre ns k p).2).1)], (drawnF ns 1 (pre ++ names (seqF c pre ns k p).1) (seqF c pre ns k p).2).2)
def thingD (x : Str) : PyData := .tuple [.str "thing", .str x]
def varD (x : Str) : PyData := .tuple [.str "var", .str x]
def endD (x : Str) (b : BL) : PyData := givenD (thingD x) (b.map fun r => varD r.1)
def ownF (ns ar : List Str) (p : Pu) : BL × Pu := seqF "w" ar ns (takeF p 4).1.toNat (takeF p 4).2
structure Arg where
  nm : Str
  btw : Option BL
  say : PyData
def btwT : Option BL → PyData
  | none => .none
  | some b => .list (b.map rowT)
def argT (a : Arg) : PyData := .tuple [.str a.nm, btwT a.btw, a.say]
def anames (as : List Arg) : List Str := as.map (·.nm)
def argF (ns : List Str) (x : Str) (b : BL) (ar : List Str) (c : Str) (q : Pu) : Arg × Pu :=
  if (takeF q 2).1 = 0 then (⟨c, some (ownF ns ar (takeF q 2).2).1, allOfD (ownF ns ar (takeF q 2).2).1 (endD x b)⟩, (ownF ns ar (takeF q 2).2).2)
  else (⟨c, none, (drawnF ns 2 ar (takeF q 2).2).1⟩, (drawnF ns 2 ar (takeF q 2).2).2)
def argsF (ns : List Str) (x : Str) (b : BL) : Nat → Pu → List Arg × Pu
  | 0, p => ([], p)
  | k + 1, p => ((argsF ns x b k p).1 ++ [(argF ns x b (names b ++ anames (argsF ns x b k p).1) (nmK "a" k) (argsF ns x b k p).2).1], (argF ns x b (names b ++ anames (argsF ns x b k p).1) (nmK "a" k) (argsF ns x b k p).2).2)
def mksF (ns : List Str) (x : Str) (b : BL) : Nat → Pu → List (List Arg) × Pu
  | 0, p => ([], p)
  | k + 1, p => ((mksF ns x b k p).1 ++ [(argsF ns x b (takeF (mksF ns x b k p).2 5).1.toNat (takeF (mksF ns x b k p).2 5).2).1], (argsF ns x b (takeF (mksF ns x b k p).2 5).1.toNat (takeF (mksF ns x b k p).2 5).2).2)
structure Thing where
  name : Str
  height : Int
  bounds : BL
  makers : List (List Arg)
def bndF (ns : List Str) (p : Pu) : BL × Pu := seqF "b" [] ns (takeF p 4).1.toNat (takeF p 4).2
def makF (ns : List Str) (x : Str) (b : BL) (q : Pu) : List (List Arg) × Pu := mksF ns x b (takeF q 6).1.toNat (takeF q 6).2
def thingF (ns : List Str) (x : Str) (p : Pu) : Thing × Pu :=
  (⟨x, (takeF (makF ns x (bndF ns p).1 (bndF ns p).2).2 6).1, (bndF ns p).1, (makF ns x (bndF ns p).1 (bndF ns p).2).1⟩, (takeF (makF ns x (bndF ns p).1 (bndF ns p).2).2 6).2)
def makersT (m : List (List Arg)) : PyData := .list (m.map fun as => .list (as.map argT))
def thingT (t : Thing) : PyData := .tuple [.str t.name, .int t.height, .list (t.bounds.map rowT), makersT t.makers]
/-- each beneath those ahead, and how it is placed -/
def VgB (n dp sz : Nat) : List Str → BL → List PyData → Prop
  | _, [], [] => True
  | ar, r :: rs, e :: es => Vg n ar dp sz r.2 e ∧ VgB n dp sz (ar ++ [r.1]) rs es
  | _, _, _ => False
theorem vgB_snoc {n dp sz : Nat} : ∀ {ar : List Str} {rs : BL} {es : List PyData} {r : Str × PyData} {e : PyData}, VgB n dp sz ar rs es → Vg n (ar ++ names rs) dp sz r.2 e → VgB n dp sz ar (rs ++ [r]) (es ++ [e])
  | ar, [], [], r, e, _, v => by
    have v : Vg n (ar ++ []) dp sz r.2 e := v
    rw [List.append_nil] at v
    exact ⟨v, trivial⟩
  | ar, q :: rs, f :: es, r, e, b, v => ⟨b.1, vgB_snoc b.2 (by rw [List.append_assoc]; exact v)⟩
  | _, [], _ :: _, _, _, b, _ => b.elim
  | _, _ :: _, [], _, _, b, _ => b.elim
theorem vgB_len {n dp sz : Nat} : ∀ {ar : List Str} {rs : BL} {es : List PyData}, VgB n dp sz ar rs es → rs.length = es.length
  | _, [], [], _ => rfl
  | ar, q :: rs, f :: es, b => congrArg (· + 1) (vgB_len b.2)
  | _, [], _ :: _, b => b.elim
  | _, _ :: _, [], b => b.elim
theorem vgB_at {n dp sz : Nat} : ∀ {ar : List Str} {rs : BL} {es : List PyData} {k : Nat} {r : Str × PyData} {e : PyData}, VgB n dp sz ar rs es → rs[k]? = some r → es[k]? = some e → Vg n (ar ++ (names rs).take k) dp sz r.2 e
  | ar, q :: rs, f :: es, 0, r, e, b, h, g => by
    cases h
    cases g
    rw [List.take_zero, List.append_nil]
    exact b.1
  | ar, q :: rs, f :: es, k + 1, r, e, b, h, g => by
    have := vgB_at (k := k) b.2 h g
    rw [List.append_assoc] at this
    exact this
  | _, [], [], _, _, _, _, h, _ => by cases h
  | _, [], _ :: _, _, _, _, b, _, _ => b.elim
  | _, _ :: _, [], _, _, _, b, _, _ => b.elim
theorem vgB_bd {n dp sz : Nat} : ∀ {ar : List Str} {rs : BL} {es : List PyData}, VgB n dp sz ar rs es → tmAll es = true ∧ BdAll dp (es.length * (sz + 2)) es
  | _, [], [], _ => ⟨rfl, BdAll.nil⟩
  | ar, q :: rs, f :: es, b => by
    obtain ⟨h1, h2⟩ := vgB_bd b.2
    refine ⟨by simp only [tmAll, b.1.t, h1, Bool.and_self], (BdAll.cons b.1.b h2).mono (Nat.le_refl _) ?_⟩
    rw [List.length_cons, Nat.add_mul, Nat.one_mul]
    omega
  | _, [], _ :: _, b => b.elim
  | _, _ :: _, [], b => b.elim
theorem vg_allOf {n m dp dp' sz sz' : Nat} (h1 : n ≤ m) (h2 : dp ≤ dp') : ∀ {ar : List Str} {rs : BL} {es : List PyData} {d e : PyData}, VgB n dp sz ar rs es → Vg m (ar ++ names rs) dp' sz' d e → Vg (m + rs.length) ar (dp' + rs.length) (sz' + rs.length * (sz + 300)) (allOfD rs d) (allP es e)
  | ar, [], [], d, e, _, v => by
    have v : Vg m (ar ++ []) dp' sz' d e := v
    rw [List.append_nil] at v
    exact v.up (Nat.le_refl _) (Nat.le_refl _) (Nat.le_add_right _ _)
  | ar, r :: rs, s :: es, d, e, b, v => by
    rw [allOfD_cons, allP_cons]
    have := vg_allOf h1 h2 (d := d) (e := e) b.2 (by rw [List.append_assoc]; exact v)
    refine (vg_bind (Or.inl rfl) (b.1.up (Nat.le_trans h1 (Nat.le_add_right _ _)) (Nat.le_trans h2 (Nat.le_add_right _ _)) (Nat.le_refl _)) this).up (Nat.le_refl _) (Nat.le_refl _) ?_
    rw [List.length_cons, Nat.add_mul, Nat.one_mul]
    omega
  | _, [], _ :: _, _, _, b, _ => b.elim
  | _, _ :: _, [], _, _, b, _ => b.elim
theorem vg_given {ar : List Str} : ∀ {ss ts : List PyData} {h h' : PyData} {m dp s : Nat}, 1 ≤ m → 1 ≤ dp → Vg m ar dp s h h' → Paired (Vg 1 ar 1 1000) ss ts → Vg (m + ss.length) ar (dp + ss.length) (s + ss.length * 1300) (givenD h ss) (givenD h' ts)
  | _, _, h, h', m, dp, s, l, l2, v, .nil => v.up (Nat.le_refl _) (Nat.le_refl _) (Nat.le_add_right _ _)
  | a :: ss, t :: ts, h, h', m, dp, s, l, l2, v, .cons r q => by
    have := vg_given (ss := ss) (ts := ts) (by omega) (by omega) (vg_two (w := "app") (by decide) (by decide) (by decide) (by decide +kernel) (by decide +kernel) v (r.up l l2 (Nat.le_refl _))) q
    refine this.up ?_ ?_ ?_ <;> rw [List.length_cons] <;> omega
theorem seqF_len (c : Str) (pre ns : List Str) (p : Pu) : ∀ k, (seqF c pre ns k p).1.length = k
  | 0 => rfl
  | k + 1 => by
    show ((seqF c pre ns k p).1 ++ [_]).length = k + 1
    rw [List.length_append, seqF_len c pre ns p k]
    rfl
theorem names_len (b : BL) : (names b).length = b.length := List.length_map ..
theorem seqF_ok {c : Str} {pre ns : List Str} (hns : NsOk ns) {p : Pu} {n : Nat} (hp : PuOk p n) (l : pre.length ≤ 20) (hn : n + 2000 ≤ maxN) : ∀ k, k ≤ 10 → PuOk (seqF c pre ns k p).2 (n + k * 160) ∧ ∃ es, VgB 2 2 4000 pre (seqF c pre ns k p).1 es
  | 0, _ => ⟨hp.more (by omega), [], trivial⟩
  | k + 1, hk => by
    obtain ⟨h1, es, h2⟩ := seqF_ok hns hp l hn k (by omega)
    have lb : (pre ++ names (seqF c pre ns k p).1).length + 1 ≤ 90 := by
      rw [List.length_append, names_len, seqF_len]
      omega
    obtain ⟨e, v, q⟩ := drawnF_ok hns 1 (pre ++ names (seqF c pre ns k p).1) _ _ lb h1 (by omega)
    exact ⟨q.more (by omega), es ++ [e], vgB_snoc h2 v⟩
theorem thing_vg {ar : List Str} {x : Str} (hx : nameX x = true) : Vg 1 ar 1 1000 (thingD x) (thingD x) := heads_ok hx (Int.le_refl 0) (by decide) _ (List.mem_cons_of_mem _ List.mem_cons_self)
theorem var_vg {ar : List Str} {x : Str} (h : x ∈ ar) (l : ar.length ≤ 90) : ∃ e, Vg 1 ar 1 1000 (varD x) e := by
  obtain ⟨j, hj⟩ := List.getElem?_of_mem h
  obtain ⟨i, h1, h2, _⟩ := first_at hj
  have li := (List.getElem?_eq_some_iff.mp h1).1
  refine ⟨_, Or.inl ⟨x, i, rfl, h1, h2, rfl⟩, ?_, leaf_b (by decide +kernel) (BdAll.one (Bd.int (by omega))) (by decide)⟩
  rw [tm_leaf (by decide +kernel)]
  exact decide_eq_true (by omega)
theorem end_vg {ar : List Str} {x : Str} {b : BL} (hx : nameX x = true) (lb : b.length ≤ 3) (l : ar.length ≤ 90) (h : ∀ y ∈ names b, y ∈ ar) : ∃ e, Vg 4 ar 4 4900 (endD x b) e := by
  have : ∀ c : BL, (∀ y ∈ names c, y ∈ ar) → ∃ ts, Paired (Vg 1 ar 1 1000) (c.map fun r => varD r.1) ts := by
    intro c
    induction c with
    | nil => exact fun _ => ⟨[], .nil⟩
    | cons r c ih =>
      intro hc
      obtain ⟨ts, p⟩ := ih fun y m => hc y (List.mem_cons_of_mem _ m)
      obtain ⟨e, v⟩ := var_vg (hc r.1 List.mem_cons_self) l
      exact ⟨e :: ts, .cons v p⟩
  obtain ⟨ts, p⟩ := this b h
  have := vg_given (Nat.le_refl 1) (Nat.le_refl 1) (thing_vg hx) p
  rw [List.length_map] at this
  exact ⟨_, this.up (by omega) (by omega) (by omega)⟩
theorem ownF_ok {ns ar : List Str} (hns : NsOk ns) {p : Pu} {n : Nat} (hp : PuOk p n) (l : ar.length ≤ 20) (hn : n + 2001 ≤ maxN) : (ownF ns ar p).1.length ≤ 3 ∧ PuOk (ownF ns ar p).2 (n + 481) ∧ ∃ es, VgB 2 2 4000 ar (ownF ns ar p).1 es := by
  obtain ⟨t0, t1, t2⟩ := takeF_ok (m := 4) hp (by decide)
  obtain ⟨h1, h2⟩ := seqF_ok (c := "w") hns t2 l (by omega) (takeF p 4).1.toNat (by omega)
  exact ⟨by unfold ownF; rw [seqF_len]; omega, h1.more (by omega), h2⟩
theorem argF_ok {ns ar : List Str} {x c : Str} {b : BL} (hns : NsOk ns) (hx : nameX x = true) (lb : b.length ≤ 3) {q : Pu} {n : Nat} (hp : PuOk q n) (l : ar.length ≤ 20) (hb : ∀ y ∈ names b, y ∈ ar) (hn : n + 2002 ≤ maxN) :
    PuOk (argF ns x b ar c q).2 (n + 641) ∧ (argF ns x b ar c q).1.nm = c ∧ (∀ w, (argF ns x b ar c q).1.btw = some w → w.length ≤ 3) ∧ ∃ e, Vg 10 ar 10 20000 (argF ns x b ar c q).1.say e := by
  obtain ⟨t0, t1, t2⟩ := takeF_ok (m := 2) hp (by decide)
  unfold argF
  split
  · obtain ⟨h1, h2, es, h3⟩ := ownF_ok hns t2 l (by omega)
    generalize ownF ns ar (takeF q 2).2 = O at *
    obtain ⟨e, v⟩ := end_vg (ar := ar ++ names O.1) hx lb (by rw [List.length_append, names_len]; omega) fun y m => List.mem_append_left _ (hb y m)
    refine ⟨h2.more (by omega), rfl, fun w e => by cases e; exact h1, _, (vg_allOf (by decide) (by decide) h3 v).up (by omega) (by omega) (by omega)⟩
  · obtain ⟨e, v, q⟩ := drawnF_ok hns 2 ar _ _ (by omega) t2 (by omega)
    exact ⟨q.more (by omega), rfl, (fun w e => by cases e), e, v.up (by decide) (by decide) (by decide)⟩
def bl (as : List Arg) : BL := as.map fun a => (a.nm, a.say)
theorem names_bl (as : List Arg) : names (bl as) = anames as := by
  unfold names bl anames
  rw [List.map_map]
  rfl
theorem argsF_len (ns : List Str) (x : Str) (b : BL) (p : Pu) : ∀ k, (argsF ns x b k p).1.length = k
  | 0 => rfl
  | k + 1 => by
    show ((argsF ns x b k p).1 ++ [_]).length = k + 1
    rw [List.length_append, argsF_len ns x b p k]
    rfl
theorem argsF_ok {ns : List Str} {x : Str} {b : BL} (hns : NsOk ns) (hx : nameX x = true) (lb : b.length ≤ 3) {p : Pu} {n : Nat} (hp : PuOk p n) (hn : n + 10000 ≤ maxN) : ∀ k, k ≤ 4 →
    PuOk (argsF ns x b k p).2 (n + k * 641) ∧ (∀ a ∈ (argsF ns x b k p).1, ∀ w, a.btw = some w → w.length ≤ 3) ∧ ∃ es, VgB 10 10 20000 (names b) (bl (argsF ns x b k p).1) es
  | 0, _ => ⟨hp.more (by omega), (fun a h => by cases h), [], trivial⟩
  | k + 1, hk => by
    obtain ⟨h1, h2, es, h3⟩ := argsF_ok hns hx lb hp hn k (by omega)
    have la : (names b ++ anames (argsF ns x b k p).1).length ≤ 20 := by
      rw [List.length_append, names_len, show (anames (argsF ns x b k p).1).length = (argsF ns x b k p).1.length from List.length_map .., argsF_len]
      omega
    obtain ⟨a1, a2, a3, e, a4⟩ := argF_ok (c := nmK "a" k) hns hx lb h1 la (fun y m => List.mem_append_left _ m) (by omega)
    refine ⟨a1.more (by omega), fun a m w e => ?_, es ++ [e], ?_⟩
    · rcases List.mem_append.mp m with m | m
      · exact h2 a m w e
      · rw [List.mem_singleton.mp m] at e
        exact a3 w e
    · show VgB 10 10 20000 (names b) (bl ((argsF ns x b k p).1 ++ [_])) _
      unfold bl
      rw [List.map_append]
      exact vgB_snoc h3 (by
        have e0 : names ((argsF ns x b k p).1.map fun a => (a.nm, a.say)) = anames (argsF ns x b k p).1 := names_bl _
        rw [e0]
        exact a4)
structure MkOk (b : BL) (as : List Arg) (es : List PyData) : Prop where
  len : as.length ≤ 4
  btw : ∀ a ∈ as, ∀ w, a.btw = some w → w.length ≤ 3
  vg : VgB 10 10 20000 (names b) (bl as) es
theorem mksF_len (ns : List Str) (x : Str) (b : BL) (p : Pu) : ∀ k, (mksF ns x b k p).1.length = k
  | 0 => rfl
  | k + 1 => by
    show ((mksF ns x b k p).1 ++ [_]).length = k + 1
    rw [List.length_append, mksF_len ns x b p k]
    rfl
theorem paired_snoc {α β : Type} {F : α → β → Prop} {x : α} {y : β} : ∀ {xs : List α} {ys : List β}, Paired F xs ys → F x y → Paired F (xs ++ [x]) (ys ++ [y])
  | _, _, .nil, h => .cons h .nil
  | _, _, .cons r t, h => .cons r (paired_snoc t h)
theorem mksF_ok {ns : List Str} {x : Str} {b : BL} (hns : NsOk ns) (hx : nameX x = true) (lb : b.length ≤ 3) {p : Pu} {n : Nat} (hp : PuOk p n) (hn : n + 25000 ≤ maxN) : ∀ k, k ≤ 5 → PuOk (mksF ns x b k p).2 (n + k * 2600) ∧ ∃ es, Paired (MkOk b) (mksF ns x b k p).1 es
  | 0, _ => ⟨hp.more (by omega), [], .nil⟩
  | k + 1, hk => by
    obtain ⟨h1, es, h2⟩ := mksF_ok hns hx lb hp hn k (by omega)
    obtain ⟨t0, t1, t2⟩ := takeF_ok (m := 5) h1 (by decide)
    obtain ⟨a1, a2, e, a3⟩ := argsF_ok hns hx lb t2 (by omega) (takeF (mksF ns x b k p).2 5).1.toNat (by omega)
    exact ⟨a1.more (by omega), es ++ [e], paired_snoc h2 ⟨by rw [argsF_len]; omega, a2, a3⟩⟩
/-- a drawn thing is well made; es, fs: how its bounds and its makers' arguments are placed -/
structure ThOk (t : Thing) (es : List PyData) (fs : List (List PyData)) : Prop where
  name : nameX t.name = true
  h0 : 0 ≤ t.height
  h6 : t.height < 6
  lb : t.bounds.length ≤ 3
  bnd : VgB 2 2 4000 [] t.bounds es
  lm : t.makers.length ≤ 5
  mks : Paired (MkOk t.bounds) t.makers fs
theorem thingF_ok {ns : List Str} {x : Str} (hns : NsOk ns) (hx : nameX x = true) {p : Pu} {n : Nat} (hp : PuOk p n) (hn : n + 40000 ≤ maxN) : (∃ es fs, ThOk (thingF ns x p).1 es fs) ∧ PuOk (thingF ns x p).2 (n + 20000) := by
  obtain ⟨t0, t1, t2⟩ := takeF_ok (m := 4) hp (by decide)
  obtain ⟨h1, es, h2⟩ := seqF_ok (c := "b") (pre := []) hns t2 (by decide) (by omega) (takeF p 4).1.toNat (by omega)
  have lb : (bndF ns p).1.length ≤ 3 := by unfold bndF; rw [seqF_len]; omega
  have h1 : PuOk (bndF ns p).2 (n + 481) := h1.more (by omega)
  have h2 : VgB 2 2 4000 [] (bndF ns p).1 es := h2
  unfold thingF
  generalize bndF ns p = B at *
  obtain ⟨u0, u1, u2⟩ := takeF_ok (m := 6) h1 (by decide)
  obtain ⟨m1, fs, m2⟩ := mksF_ok hns hx lb u2 (by omega) (takeF B.2 6).1.toNat (by omega)
  have lm : (makF ns x B.1 B.2).1.length ≤ 5 := by unfold makF; rw [mksF_len]; omega
  have m1 : PuOk (makF ns x B.1 B.2).2 (n + 14000) := m1.more (by omega)
  have m2 : Paired (MkOk B.1) (makF ns x B.1 B.2).1 fs := m2
  generalize makF ns x B.1 B.2 = M at *
  obtain ⟨v0, v1, v2⟩ := takeF_ok (m := 6) m1 (by decide)
  exact ⟨⟨es, fs, hx, v0, v1, lb, h2, lm, m2⟩, v2.more (by omega)⟩
def rowD (t : Thing) (es : List PyData) (fs : List (List PyData)) : PyData := .tuple [.str "thing", .str t.name, .int t.height, .tuple es, .tuple (fs.map .tuple)]
end KP
set_option Elab.async false
set_option linter.unusedVariables false
set_option maxRecDepth 100000
set_option maxHeartbeats 2000000
namespace KP
open PySem PySem.Spec PyProof.Rows L2 KA OW
abbrev sLawOwn : Stmt := top 60
abbrev nLawOwn : List Str := ["_law_purse", "_law_around", "_law_name", "_law_bounds", "_law_names", "_law_between", "_law_k", "_law_called", "_law_bound", "_law_saying", "_law_one"]
theorem scLawOwn : FnScope nLawOwn ["_law_purse", "_law_around", "_law_name", "_law_bounds", "_law_names"] (defScope sLawOwn) := ⟨rfl, rfl, rfl, by decide +kernel, rfl, by decide +kernel, by decide +kernel⟩
abbrev sLawThing : Stmt := top 61
abbrev nLawThing : List Str := ["_law_purse", "_law_name", "_law_names", "_law_bounds", "_law_k", "_law_makers", "_law_some", "_law_at", "_law_around", "_law_between", "_law_end", "_law_one", "_law_saying", "_law_row_here"]
theorem scLawThing : FnScope nLawThing ["_law_purse", "_law_name", "_law_names"] (defScope sLawThing) := ⟨rfl, rfl, rfl, by decide +kernel, rfl, by decide +kernel, by decide +kernel⟩
abbrev sLawRow : Stmt := top 62
abbrev nLawRow : List Str := ["_law_thing_here", "_law_name", "_law_height", "_law_bounds", "_law_makers", "_law_called", "_law_first", "_law_found", "_law_some", "_law_around", "_law_one", "_law_saying", "_law_k", "_law_row_here"]
theorem scLawRow : FnScope nLawRow ["_law_thing_here"] (defScope sLawRow) := ⟨rfl, rfl, rfl, by decide +kernel, rfl, by decide +kernel, by decide +kernel⟩
def tOwn : List PyData → List Sl → (Rv → List PyData → Prop) → Prop := fun c as Kr => ∃ p n ns ar x b, c = p.ds ∧ as = [.d (.list (ar.map .str)), .d (.str x), .d (.list (b.map rowT)), .d (.list (ns.map .str))] ∧ PuOk p n ∧ NsOk ns ∧ nameX x = true ∧ b.length ≤ 3 ∧ ar.length ≤ 20 ∧ n + 3000 ≤ maxN ∧
  Kr (.d (.tuple [.list ((ownF ns ar p).1.map rowT), endD x b])) (ownF ns ar p).2.ds
def tThing : List PyData → List Sl → (Rv → List PyData → Prop) → Prop := fun c as Kr => ∃ p n ns x, c = p.ds ∧ as = [.d (.str x), .d (.list (ns.map .str))] ∧ PuOk p n ∧ NsOk ns ∧ nameX x = true ∧ n + 40000 ≤ maxN ∧
  Kr (.d (thingT (thingF ns x p).1)) (thingF ns x p).2.ds
def tRow : List Sl → (Rv → Prop) → Prop := fun as Kr => ∃ t es fs, as = [.d (thingT t)] ∧ ThOk t es fs ∧ Kr (.d (rowD t es fs))
theorem nmK_len {c : Str} {k : Nat} (h : c.length ≤ 5) (hk : k ≤ 1000) : c.length + ((toString (k : Int) : String) : Str).length ≤ sizeLine := by
  have := int_txt (i := (k : Int)) (by omega)
  rw [sizeLine_eq]
  omega
theorem nm_map (b : BL) : (b.map rowT).map (fun d => match d with | .tuple [a, _] => a | d => d) = (names b).map .str := by
  unfold names
  rw [List.map_map, List.map_map]
  rfl
section
variable {ρ ρ' ρ1 ρ0 : List Sl} {te : TE} {wi : TI} {v w : Nat} {b : BL} {KF : PySem.W.Frag} {k : Nat}
/-- [a for a, s in rows] -/
theorem el_names {ρ0 : List Sl} (h : FiR wi ρ (b.map rowT) ρ0 fun _ => anys ρ0 [v, w]) (hv : freeAt ρ0 [v, w]) (vw : v ≠ w) (lb : b.length ≤ 1000) (v0 : v ≠ 0 := by decide) (w0 : w ≠ 0 := by decide) (v1 : v ≠ fl := by decide) (w1 : w ≠ fl := by decide)
    (hc : ∀ r, (((unsA (anys ρ0 [v, w]) [v, w]).set v (.d (.str r))).set w (.d .none))[v]? = some (.d (.str r))) (ha : ∀ r s, anys (((unsA (anys ρ0 [v, w]) [v, w]).set v (.d (.str r))).set w (.d s)) [v, w] = anys ρ0 [v, w]) :
    El (tLc wi (gTup KF 2 (gCons (gName v) (gCons (gName w) gNil))) tYes (tVar v) [v, w]) ρ ((names b).map .str) (anys ρ0 [v, w]) := by
  have hv' := hv
  obtain ⟨⟨s1, h1, _⟩, ⟨s2, h2, _⟩, _⟩ := hv'
  have l1 := (List.getElem?_eq_some_iff.mp h1).1
  have l2 := (List.getElem?_eq_some_iff.mp h2).1
  refine el_lcYR h hv (by rw [List.length_map, sizeLine_eq]; omega) (by rw [List.length_map, List.length_map, names_len]) fun j x y hx hy => ?_
  rw [List.getElem?_map] at hx hy
  unfold names at hy
  rw [List.getElem?_map] at hy
  cases e : b[j]? with
  | none => rw [e] at hx; cases hx
  | some r =>
    rw [e] at hx hy
    cases hx
    cases hy
    refine ⟨_, tgw_tup (xs := [.str r.1, r.2]) (tgsw_cons (tgw_name (by simp) v0 v1) (tgsw_cons (tgw_name (by simp) w0 w1) tgsw_nil)), ev_var ?_, ha _ _, ?_⟩
    · rw [List.getElem?_set_ne (Ne.symm vw)]
      exact List.getElem?_set_self (by rw [unsA_length, anys_length]; exact l1)
    · refine ⟨⟨.d (.str r.1), ?_, trivial⟩, ⟨.d r.2, ?_, trivial⟩, trivial⟩
      · rw [List.getElem?_set_ne (Ne.symm vw)]
        exact List.getElem?_set_self (by rw [unsA_length, anys_length]; exact l1)
      · exact List.getElem?_set_self (by rw [List.length_set, unsA_length, anys_length]; exact l2)
end
section
variable {P : Program} {w : World} {K : PySem.W.Frag} {mg : Str → Option Value} {base : Heap}
theorem ok_own {f : Addr} {fd : FuncData} (F : Fun K "_law_own" "_law_own" sLawOwn f fd) (T : Txt K w mg) (C_law_take : C8.Cal P w K mg base 1 "_law_take" (spB 1 tTake) []) (C_law_drawn : C8.Cal P w K mg base 10 "_law_drawn" (spB 3 (tDrawn 8)) []) (C_law_given : C8.Cal P w K mg base 1 "_law_given" (spD 2 tGiven) []) :
    FnOk P w K mg base CX0 11 f fd ["_law_purse", "_law_around", "_law_name", "_law_bounds", "_law_names"] (spB 4 tOwn) := by
  refine fn_b F scLawOwn (body := fun cdv A outer s H E hr => ⟨_, (pss_cons (ps_set (i := 5) scLawOwn.nd rfl (Or.inl rfl) (pe_lst pa_nil))
      (pss_cons (ps_for PassesOwn.never rfl (pi_range1 (by rfl) T.range (pa_cons (pe_ix ix_list (pe_lst (pa_cons pe_int (pa_cons pe_int (pa_cons pe_int (pa_cons pe_int pa_nil))))) (C8.pe_c C_law_take hr (by omega) rfl (pa_cons (pv 0) (pa_cons pe_int pa_nil))) (fun _ _ => rfl)) pa_nil)) (pg_name (i := 6) scLawOwn.nd rfl (Or.inl rfl)) (pss_cons (ps_set (i := 7) scLawOwn.nd rfl (Or.inl rfl) (pe_op op_add_str pe_str (pe_callTy call_str_int (by rfl) T.str (by decide +kernel) (pa_cons (pv 6) pa_nil))))
      (pss_one (ps_expr (pe_bm PySem.F.plainAttrs_list PySem.F.slot_list_append PySem.F.type_list_append mt_append (pv 5) (pa_cons (pe_tup (pa_cons (pv 7) (pa_cons (C8.pe_c C_law_drawn hr (by omega) rfl (pa_cons (pv 0) (pa_cons (pe_op op_cat (pv 1) (pe_lc (own := [("_law_one", 10), ("_law_saying", 9)]) (g := gTup K 2 (gCons (gName 10) (gCons (gName 9) gNil))) (tt := tYes) rfl scLawOwn.nd (pi_list (pv 5)) (blkOk_by (N := nLawOwn) (sc := defScope sLawOwn) (by decide +kernel)) (fun _ _ _ _ _ => (pg_tupK (K := K) rfl rfl (pgs_cons (pg_name (i := 10) scLawOwn.nd rfl (Or.inl rfl)) (pgs_cons (pg_name (i := 9) scLawOwn.nd rfl (Or.inl rfl)) pgs_nil)))) (fun _ _ _ _ _ => pts_nil) (fun _ _ _ _ _ => (pv 10)))) (pa_cons (pv 4) (pa_cons pe_int pa_nil))))) pa_nil))) pa_nil))))))
      (pss_one (ps_ret (pe_tup (pa_cons (pv 5) (pa_cons (C8.pe_c C_law_given hr (by omega) rfl (pa_cons (pe_tup (pa_cons pe_str (pa_cons (pv 2) pa_nil))) (pa_cons (pe_lc (own := [("_law_bound", 8), ("_law_saying", 9)]) (g := gTup K 2 (gCons (gName 8) (gCons (gName 9) gNil))) (tt := tYes) rfl scLawOwn.nd (pi_list (pv 3)) (blkOk_by (N := nLawOwn) (sc := defScope sLawOwn) (by decide +kernel)) (fun _ _ _ _ _ => (pg_tupK (K := K) rfl rfl (pgs_cons (pg_name (i := 8) scLawOwn.nd rfl (Or.inl rfl)) (pgs_cons (pg_name (i := 9) scLawOwn.nd rfl (Or.inl rfl)) pgs_nil)))) (fun _ _ _ _ _ => pts_nil) (fun _ _ _ _ _ => (pe_tup (pa_cons pe_str (pa_cons (pv 8) pa_nil))))) pa_nil))) pa_nil))))))), ?_⟩)
  rintro ct as Kr _ ⟨p, n, ns, ar, x, b, rfl, rfl, hp, hns, hx, lb, la, hn, kk⟩
  have mN : maxN = 1000000000 := rfl
  obtain ⟨t0, t1, t2⟩ := takeF_ok (m := 4) hp (by decide)
  have so := fun k hk => seqF_ok (c := "w") (pre := ar) hns t2 la (by omega) k hk
  have sl := seqF_len "w" ar ns (takeF p 4).2
  unfold ownF at kk
  have gt := got_take hp (m := 4) (by omega) (by decide) (by decide)
  generalize takeF p 4 = W at *
  have i4 : atI [PyData.int 0, .int 1, .int 2, .int 3] W.1 = some (.int W.1) := by
    rcases (by omega : W.1 = 0 ∨ W.1 = 1 ∨ W.1 = 2 ∨ W.1 = 3) with z | z | z | z <;> rw [z] <;> rfl
  refine (sm_seq (sm_setL (el_lst eds_nil) (sm_seq (sm_for (fi_rng1 (eds_cons (ev_op (Ev.of_el (el_lst (eds_cons ev_int (eds_cons ev_int (eds_cons ev_int (eds_cons ev_int eds_nil)))))) (ev_callB (i := 0) rfl (es_cons ev_int es_nil) rfl ar_nil rfl gt) (fv_ixL i4)) eds_nil) (by omega))
    (fun j ρ => ∃ s6 s7 s9 s10, ρ = [.l (seqF "w" ar ns j W.2).2.ds, .d (.list (ar.map .str)), .d (.str x), .d (.list (b.map rowT)), .d (.list (ns.map .str)), .l ((seqF "w" ar ns j W.2).1.map rowT), s6, s7, .un, s9, s10] ∧ s9.free ∧ s10.free) ⟨.un, .un, .un, .un, rfl, trivial, trivial⟩ (fun j z ρ ez r => ?_) (fun ρ r => ?_)))))
  · obtain ⟨s6, s7, s9, s10, rfl, f9, f10⟩ := r
    obtain ⟨lt, rfl⟩ := rngD_at ez
    have j3 : j < 3 := by omega
    obtain ⟨q1, es, q2⟩ := so j (by omega)
    have w1 : ("w" : Str).length = 1 := by decide +kernel
    have lsj := sl j
    have lns : (ar ++ names (seqF "w" ar ns j W.2).1).length + 1 ≤ 90 := by rw [List.length_append, names_len, lsj]; omega
    have gd := got_drawn (lim := 8) (k := 1) (z := 1) rfl q1 (by decide) hns lns (by omega)
    rw [List.map_append] at gd
    refine ⟨_, tg_name, (sm_seq (sm_set (ev_op ev_str (ev_fn (es_cons (ev_var rfl) es_nil) (fv_strI (log_ok (by omega)))) (fv_addS (nmK_len (by rw [w1]; decide) (by omega)))) (sm_app rfl (ev_tup (eds_cons (ev_var rfl) (eds_cons (ev_callB (i := 0) rfl (es_cons (Ev.of_el (el_op (ev_var rfl) (Ev.of_el (el_names (b := (seqF "w" ar ns j W.2).1) (fiR_own (k := 5) rfl (fun _ _ => rfl)) ⟨⟨s10, rfl, f10⟩, ⟨s9, rfl, f9⟩, trivial⟩ (by decide) (by rw [lsj]; omega) (hc := fun _ => rfl) (ha := fun _ _ => rfl))) (fl_cat ?_))) (es_cons (ev_var rfl) (es_cons ev_int es_nil))) rfl ar_nil rfl gd) eds_nil))) rfl ?_ ?_)))⟩
    · rw [List.length_map, List.length_map, names_len, lsj, sizeLine_eq]
      omega
    · rw [List.length_map, lsj, sizeLine_eq]
      omega
    · refine ⟨.d (.int (j : Int)), .d (.str (nmK "w" j)), .any, .any, ?_, trivial, trivial⟩
      show _ = [Sl.l (seqF "w" ar ns (j + 1) W.2).2.ds, _, _, _, _, Sl.l (((seqF "w" ar ns j W.2).1 ++ [_]).map rowT), _, _, _, _, _]
      rw [List.map_append]
      rfl
  · obtain ⟨s6, s7, s9, s10, rfl, f9, f10⟩ := r
    rw [rngD_len]
    refine (sm_ret (ev_tup (eds_cons (ev_varF rfl) (eds_cons (ev_call (es_cons (ev_tup (eds_cons ev_str (eds_cons (ev_var rfl) eds_nil))) (es_cons (Ev.of_el (el_lcY (ys := b.map fun r : Str × PyData => varD r.1) (fi_list (ev_var rfl)) ⟨⟨.un, rfl, trivial⟩, ⟨s9, rfl, f9⟩, trivial⟩ ?_ ?_ (fun j z y hz hy => ?_))) es_nil)) ar_nil rfl ⟨_, _, rfl, rfl⟩) eds_nil))) ⟨_, rfl, kk⟩)
    · rw [List.length_map, sizeLine_eq]
      omega
    · rw [List.length_map, List.length_map]
    · rw [List.getElem?_map] at hz hy
      cases e : b[j]? with
      | none => rw [e] at hz; cases hz
      | some r =>
        rw [e] at hz hy
        cases hz
        cases hy
        exact ⟨_, tgw_tup (xs := [.str r.1, r.2]) (tgsw_cons tgw_name (tgsw_cons tgw_name tgsw_nil)), (ev_tup (eds_cons ev_str (eds_cons (ev_var rfl) eds_nil))), rfl, ⟨⟨_, rfl, trivial⟩, ⟨_, rfl, trivial⟩, trivial⟩⟩
theorem got_own {p : Pu} {n : Nat} {ns ar : List Str} {x : Str} {b : BL} (hp : PuOk p n) (hns : NsOk ns) (hx : nameX x = true) (lb : b.length ≤ 3) (la : ar.length ≤ 20) (hn : n + 3000 ≤ maxN) :
    tOwn p.ds ([.d (.list (ar.map .str)), .d (.str x), .d (.list (b.map rowT)), .d (.list (ns.map .str))] ++ []) (fun r c' => r = .d (.tuple [.list ((ownF ns ar p).1.map rowT), endD x b]) ∧ c' = (ownF ns ar p).2.ds) := ⟨p, n, ns, ar, x, b, rfl, rfl, hp, hns, hx, lb, la, hn, rfl, rfl⟩
theorem ok_thing {f : Addr} {fd : FuncData} (F : Fun K "_law_thing" "_law_thing" sLawThing f fd) (T : Txt K w mg) (C_law_take : C8.Cal P w K mg base 1 "_law_take" (spB 1 tTake) []) (C_law_drawn : C8.Cal P w K mg base 10 "_law_drawn" (spB 3 (tDrawn 8)) []) (C_law_own : C8.Cal P w K mg base 11 "_law_own" (spB 4 tOwn) []) (C_law_all_of : C8.Cal P w K mg base 1 "_law_all_of" (spD 2 tAllOf) []) :
    FnOk P w K mg base CX0 12 f fd ["_law_purse", "_law_name", "_law_names"] (spB 2 tThing) := by
  refine fn_b F scLawThing (body := fun cdv A outer s H E hr => ⟨_, (pss_cons (ps_set (i := 3) scLawThing.nd rfl (Or.inl rfl) (pe_lst pa_nil))
      (pss_cons (ps_for PassesOwn.never rfl (pi_range1 (by rfl) T.range (pa_cons (C8.pe_c C_law_take hr (by omega) rfl (pa_cons (pv 0) (pa_cons pe_int pa_nil))) pa_nil)) (pg_name (i := 4) scLawThing.nd rfl (Or.inl rfl)) (pss_one (ps_expr (pe_bm PySem.F.plainAttrs_list PySem.F.slot_list_append PySem.F.type_list_append mt_append (pv 3) (pa_cons (pe_tup (pa_cons (pe_op op_add_str pe_str (pe_callTy call_str_int (by rfl) T.str (by decide +kernel) (pa_cons (pv 4) pa_nil))) (pa_cons (C8.pe_c C_law_drawn hr (by omega) rfl (pa_cons (pv 0) (pa_cons (pe_lc (own := [("_law_one", 11), ("_law_saying", 12)]) (g := gTup K 2 (gCons (gName 11) (gCons (gName 12) gNil))) (tt := tYes) rfl scLawThing.nd (pi_list (pv 3)) (blkOk_by (N := nLawThing) (sc := defScope sLawThing) (by decide +kernel)) (fun _ _ _ _ _ => (pg_tupK (K := K) rfl rfl (pgs_cons (pg_name (i := 11) scLawThing.nd rfl (Or.inl rfl)) (pgs_cons (pg_name (i := 12) scLawThing.nd rfl (Or.inl rfl)) pgs_nil)))) (fun _ _ _ _ _ => pts_nil) (fun _ _ _ _ _ => (pv 11))) (pa_cons (pv 2) (pa_cons pe_int pa_nil))))) pa_nil))) pa_nil)))))
      (pss_cons (ps_set (i := 5) scLawThing.nd rfl (Or.inl rfl) (pe_lst pa_nil))
      (pss_cons (ps_for PassesOwn.never rfl (pi_range1 (by rfl) T.range (pa_cons (C8.pe_c C_law_take hr (by omega) rfl (pa_cons (pv 0) (pa_cons pe_int pa_nil))) pa_nil)) (pg_name (i := 4) scLawThing.nd rfl (Or.inl rfl)) (pss_cons (ps_set (i := 6) scLawThing.nd rfl (Or.inl rfl) (pe_lst pa_nil))
      (pss_cons (ps_for PassesOwn.never rfl (pi_range1 (by rfl) T.range (pa_cons (C8.pe_c C_law_take hr (by omega) rfl (pa_cons (pv 0) (pa_cons pe_int pa_nil))) pa_nil)) (pg_name (i := 7) scLawThing.nd rfl (Or.inl rfl)) (pss_cons (ps_set (i := 8) scLawThing.nd rfl (Or.inl rfl) (pe_op op_cat (pe_lc (own := [("_law_one", 11), ("_law_saying", 12)]) (g := gTup K 2 (gCons (gName 11) (gCons (gName 12) gNil))) (tt := tYes) rfl scLawThing.nd (pi_list (pv 3)) (blkOk_by (N := nLawThing) (sc := defScope sLawThing) (by decide +kernel)) (fun _ _ _ _ _ => (pg_tupK (K := K) rfl rfl (pgs_cons (pg_name (i := 11) scLawThing.nd rfl (Or.inl rfl)) (pgs_cons (pg_name (i := 12) scLawThing.nd rfl (Or.inl rfl)) pgs_nil)))) (fun _ _ _ _ _ => pts_nil) (fun _ _ _ _ _ => (pv 11))) (pe_lc (own := [("_law_row_here", 13)]) (g := gName 13) (tt := tYes) rfl scLawThing.nd (pi_list (pv 6)) (blkOk_by (N := nLawThing) (sc := defScope sLawThing) (by decide +kernel)) (fun _ _ _ _ _ => (pg_name (i := 13) scLawThing.nd rfl (Or.inl rfl))) (fun _ _ _ _ _ => pts_nil) (fun _ _ _ _ _ => (pe_ix (ix_tupK (K := K) rfl) (pv 13) pe_int (fun _ _ => rfl))))))
      (pss_one (ps_if (pt_cmpR op_eq (C8.pe_c C_law_take hr (by omega) rfl (pa_cons (pv 0) (pa_cons pe_int pa_nil))) pe_int (nomark _)) (pss_cons (ps_asg (C8.pe_c C_law_own hr (by omega) rfl (pa_cons (pv 0) (pa_cons (pv 8) (pa_cons (pv 1) (pa_cons (pv 3) (pa_cons (pv 2) pa_nil)))))) (pg_tup rfl (pgs_cons (pg_name (i := 9) scLawThing.nd rfl (Or.inl rfl)) (pgs_cons (pg_name (i := 10) scLawThing.nd rfl (Or.inl rfl)) pgs_nil))))
      (pss_one (ps_expr (pe_bm PySem.F.plainAttrs_list PySem.F.slot_list_append PySem.F.type_list_append mt_append (pv 6) (pa_cons (pe_tup (pa_cons (pe_op op_add_str pe_str (pe_callTy call_str_int (by rfl) T.str (by decide +kernel) (pa_cons (pv 7) pa_nil))) (pa_cons (pv 9) (pa_cons (C8.pe_c C_law_all_of hr (by omega) rfl (pa_cons (pv 9) (pa_cons (pv 10) pa_nil))) pa_nil)))) pa_nil))))) (pss_one (ps_expr (pe_bm PySem.F.plainAttrs_list PySem.F.slot_list_append PySem.F.type_list_append mt_append (pv 6) (pa_cons (pe_tup (pa_cons (pe_op op_add_str pe_str (pe_callTy call_str_int (by rfl) T.str (by decide +kernel) (pa_cons (pv 7) pa_nil))) (pa_cons pe_non (pa_cons (C8.pe_c C_law_drawn hr (by omega) rfl (pa_cons (pv 0) (pa_cons (pv 8) (pa_cons (pv 2) (pa_cons pe_int pa_nil))))) pa_nil)))) pa_nil))))))))
      (pss_one (ps_expr (pe_bm PySem.F.plainAttrs_list PySem.F.slot_list_append PySem.F.type_list_append mt_append (pv 5) (pa_cons (pv 6) pa_nil)))))))
      (pss_one (ps_ret (pe_tup (pa_cons (pv 1) (pa_cons (C8.pe_c C_law_take hr (by omega) rfl (pa_cons (pv 0) (pa_cons pe_int pa_nil))) (pa_cons (pv 3) (pa_cons (pv 5) pa_nil))))))))))), ?_⟩)
  rintro ct as Kr _ ⟨p, n, ns, x, rfl, rfl, hp, hns, hx, hn, kk⟩
  have mN : maxN = 1000000000 := rfl
  obtain ⟨t0, t1, t2⟩ := takeF_ok (m := 4) hp (by decide)
  have so := fun k hk => seqF_ok (c := "b") (pre := []) hns t2 (by decide) (by omega) k hk
  have sl := seqF_len "b" [] ns (takeF p 4).2
  have gt := got_take hp (m := 4) (by omega) (by decide) (by decide)
  have eB : bndF ns p = seqF "b" [] ns (takeF p 4).1.toNat (takeF p 4).2 := rfl
  unfold thingF at kk
  rw [eB] at kk
  clear eB
  generalize takeF p 4 = W at *
  refine (sm_seq (sm_setL (el_lst eds_nil) (sm_seq (sm_for (fi_rng1 (eds_cons (ev_callB (i := 0) rfl (es_cons ev_int es_nil) rfl ar_nil rfl gt) eds_nil) (by omega))
    (fun j ρ => ∃ s4 s11 s12, ρ = [.l (seqF "b" [] ns j W.2).2.ds, .d (.str x), .d (.list (ns.map .str)), .l ((seqF "b" [] ns j W.2).1.map rowT), s4, .un, .un, .un, .un, .un, .un, s11, s12, .un] ∧ s11.free ∧ s12.free) ⟨.un, .un, .un, rfl, trivial, trivial⟩ (fun j z ρ ez r => ?_) (fun ρ r => ?_)))))
  · obtain ⟨s4, s11, s12, rfl, f11, f12⟩ := r
    obtain ⟨lt, rfl⟩ := rngD_at ez
    have j3 : j < 3 := by omega
    obtain ⟨q1, es, q2⟩ := so j (by omega)
    have b1 : ("b" : Str).length = 1 := by decide +kernel
    have lsj := sl j
    have gd := got_drawn (lim := 8) (k := 1) (z := 1) (ar := [] ++ names (seqF "b" [] ns j W.2).1) rfl q1 (by decide) hns (by rw [List.nil_append, names_len, lsj]; omega) (by omega)
    refine ⟨_, tg_name, (sm_app rfl (ev_tup (eds_cons (ev_op ev_str (ev_fn (es_cons (ev_var rfl) es_nil) (fv_strI (log_ok (by omega)))) (fv_addS (nmK_len (by rw [b1]; decide) (by omega)))) (eds_cons (ev_callB (i := 0) rfl (es_cons (Ev.of_el (el_names (b := (seqF "b" [] ns j W.2).1) (fiR_own (k := 3) rfl (fun _ _ => rfl)) ⟨⟨s11, rfl, f11⟩, ⟨s12, rfl, f12⟩, trivial⟩ (by decide) (by rw [lsj]; omega) (hc := fun _ => rfl) (ha := fun _ _ => rfl))) (es_cons (ev_var rfl) (es_cons ev_int es_nil))) rfl ar_nil rfl gd) eds_nil))) rfl ?_ ?_)⟩
    · rw [List.length_map, lsj, sizeLine_eq]
      omega
    · refine ⟨.d (.int (j : Int)), .any, .any, ?_, trivial, trivial⟩
      show _ = [Sl.l (seqF "b" [] ns (j + 1) W.2).2.ds, _, _, Sl.l (((seqF "b" [] ns j W.2).1 ++ [_]).map rowT), _, _, _, _, _, _, _, _, _, _]
      rw [List.map_append]
      rfl
  · obtain ⟨s4, s11, s12, rfl, f11, f12⟩ := r
    rw [rngD_len]
    obtain ⟨h1, es, h2⟩ := so W.1.toNat (by omega)
    have lb := sl W.1.toNat
    have lb : (seqF "b" [] ns W.1.toNat W.2).1.length ≤ 3 := by omega
    have h1 : PuOk (seqF "b" [] ns W.1.toNat W.2).2 (n + 481) := h1.more (by omega)
    generalize seqF "b" [] ns W.1.toNat W.2 = B at *
    refine sm_freeze 3 rfl ?_
    obtain ⟨u0, u1, u2⟩ := takeF_ok (m := 6) h1 (by decide)
    have mo := fun k hk => mksF_ok hns hx lb u2 (by omega) k hk
    have ml := mksF_len ns x B.1 (takeF B.2 6).2
    have gu := got_take h1 (m := 6) (by omega) (by decide) (by decide)
    unfold makF at kk
    generalize takeF B.2 6 = U at *
    refine (sm_seq (sm_setL (el_lst eds_nil) (sm_seq (sm_for (fi_rng1 (eds_cons (ev_callB (i := 0) rfl (es_cons ev_int es_nil) rfl ar_nil rfl gu) eds_nil) (by omega))
      (fun j ρ => ∃ s4 s6 s7 s8 s9 s10 s11 s12 s13, ρ = [.l (mksF ns x B.1 j U.2).2.ds, .d (.str x), .d (.list (ns.map .str)), .d (.list (B.1.map rowT)), s4, .l ((mksF ns x B.1 j U.2).1.map fun as => .list (as.map argT)), s6, s7, s8, s9, s10, s11, s12, s13] ∧ s11.free ∧ s12.free ∧ s13.free)
      ⟨_, _, _, _, _, _, s11, s12, .un, rfl, f11, f12, trivial⟩ (fun j z ρ ez r => ?_) (fun ρ r => ?_)))))
    · obtain ⟨s4, s6, s7, s8, s9, s10, s11, s12, s13, rfl, f11, f12, f13⟩ := r
      obtain ⟨lt, rfl⟩ := rngD_at ez
      have j5 : j < 5 := by omega
      obtain ⟨q1, fs, q2⟩ := mo j (by omega)
      have mlj := ml j
      obtain ⟨v0, v1, v2⟩ := takeF_ok (m := 5) q1 (by decide)
      have gv := got_take q1 (m := 5) (by omega) (by decide) (by decide)
      have e1 : mksF ns x B.1 (j + 1) U.2 = ((mksF ns x B.1 j U.2).1 ++ [(argsF ns x B.1 (takeF (mksF ns x B.1 j U.2).2 5).1.toNat (takeF (mksF ns x B.1 j U.2).2 5).2).1], (argsF ns x B.1 (takeF (mksF ns x B.1 j U.2).2 5).1.toNat (takeF (mksF ns x B.1 j U.2).2 5).2).2) := rfl
      rw [e1]
      generalize mksF ns x B.1 j U.2 = M at *
      have ao := fun k hk => argsF_ok hns hx lb v2 (by omega) k hk
      have al := argsF_len ns x B.1 (takeF M.2 5).2
      generalize takeF M.2 5 = V at *
      refine ⟨_, tg_name, (sm_seq (sm_setL (el_lst eds_nil) (sm_seq (sm_for (fi_rng1 (eds_cons (ev_callB (i := 0) rfl (es_cons ev_int es_nil) rfl ar_nil rfl gv) eds_nil) (by omega))
        (fun i ρ => ∃ s7 s8 s9 s10 s11 s12 s13, ρ = [.l (argsF ns x B.1 i V.2).2.ds, .d (.str x), .d (.list (ns.map .str)), .d (.list (B.1.map rowT)), .d (.int (j : Int)), .l (M.1.map fun as => .list (as.map argT)), .l ((argsF ns x B.1 i V.2).1.map argT), s7, s8, s9, s10, s11, s12, s13] ∧ s11.free ∧ s12.free ∧ s13.free)
        ⟨_, _, _, _, s11, s12, s13, rfl, f11, f12, f13⟩ (fun i z ρ ez r => ?_) (fun ρ r => ?_)))))⟩
      · obtain ⟨s7, s8, s9, s10, s11, s12, s13, rfl, f11, f12, f13⟩ := r
        obtain ⟨lti, rfl⟩ := rngD_at ez
        have i4 : i < 4 := by omega
        obtain ⟨a1, a2, gs, a3⟩ := ao i (by omega)
        have ali := al i
        have e2 : argsF ns x B.1 (i + 1) V.2 = ((argsF ns x B.1 i V.2).1 ++ [(argF ns x B.1 (names B.1 ++ anames (argsF ns x B.1 i V.2).1) (nmK "a" i) (argsF ns x B.1 i V.2).2).1], (argF ns x B.1 (names B.1 ++ anames (argsF ns x B.1 i V.2).1) (nmK "a" i) (argsF ns x B.1 i V.2).2).2) := rfl
        rw [e2]
        generalize argsF ns x B.1 i V.2 = G at *
        have lan : (anames G.1).length = i := by rw [show (anames G.1).length = G.1.length from List.length_map .., ali]
        have lar : (names B.1 ++ anames G.1).length ≤ 20 := by rw [List.length_append, names_len, lan]; omega
        have ear : (names B.1).map PyData.str ++ (anames G.1).map .str = (names B.1 ++ anames G.1).map .str := by rw [List.map_append]
        obtain ⟨w0, w1, w2⟩ := takeF_ok (m := 2) a1 (by decide)
        have gw := got_take a1 (m := 2) (by omega) (by decide) (by decide)
        have g1 : ("a" : Str).length = 1 := by decide +kernel
        refine ⟨_, tg_name, (sm_seq (sm_set (s := .d (.list ((names B.1 ++ anames G.1).map .str))) (ρ1 := [.l G.2.ds, .d (.str x), .d (.list (ns.map .str)), .d (.list (B.1.map rowT)), .d (.int (j : Int)), .l (M.1.map fun as => .list (as.map argT)), .l (G.1.map argT), .d (.int (i : Int)), s8, s9, s10, .any, .any, .any]) (Ev.of_el (El.is (el_op (Ev.of_el (el_names (b := B.1) (fiR (fi_list (ev_var rfl))) ⟨⟨s11, rfl, f11⟩, ⟨s12, rfl, f12⟩, trivial⟩ (by decide) (by omega) (hc := fun _ => rfl) (ha := fun _ _ => rfl))) (Ev.of_el (el_lcYR (ys := (anames G.1).map .str) (fiR_own (k := 6) rfl (fun _ _ => rfl)) ⟨⟨s13, rfl, f13⟩, trivial⟩ ?_ ?_ (fun m z y hz hy => ?_))) (fl_cat ?_)) ear))
          (sm_if (et_test (ev_op (ev_callB (i := 0) rfl (es_cons ev_int es_nil) rfl ar_nil rfl gw) ev_int fv_eqI)) (fun h => ?_) (fun h => ?_))))⟩
        · rw [List.length_map, ali, sizeLine_eq]
          omega
        · rw [List.length_map, List.length_map, lan, ali]
        · unfold anames at hy
          rw [List.getElem?_map] at hz hy
          rw [List.getElem?_map] at hy
          cases e : G.1[m]? with
          | none => rw [e] at hz; cases hz
          | some r =>
            rw [e] at hz hy
            cases hz
            cases hy
            exact ⟨_, tgw_name, (ev_op (ev_var rfl) ev_int (fv_ixT (xs := [.str r.nm, btwT r.btw, r.say]) at0)), rfl, ⟨⟨_, rfl, trivial⟩, trivial⟩⟩
        · rw [List.length_map, List.length_map, names_len, lan, sizeLine_eq]
          omega
        · have h0 : (takeF G.2 2).1 = 0 := of_decide_eq_true h
          have go := got_own w2 hns hx lb lar (by omega)
          unfold argF
          rw [if_pos h0]
          obtain ⟨o1, o2, es', o3⟩ := ownF_ok hns w2 lar (by omega)
          refine (sm_seq (sm_asg (ev_callB (i := 0) rfl (es_cons (ev_var rfl) (es_cons (ev_var rfl) (es_cons (ev_var rfl) (es_cons (ev_var rfl) es_nil)))) rfl ar_nil rfl go) (tg_tup (xs := [.list ((ownF ns (names B.1 ++ anames G.1) (takeF G.2 2).2).1.map rowT), endD x B.1]) (tgs_cons tg_name (tgs_cons tg_name tgs_nil)))
            (sm_app rfl (ev_tup (eds_cons (ev_op ev_str (ev_fn (es_cons (ev_var rfl) es_nil) (fv_strI (log_ok (by omega)))) (fv_addS (nmK_len (by rw [g1]; decide) (by omega)))) (eds_cons (ev_var rfl) (eds_cons (ev_call (es_cons (ev_var rfl) (es_cons (ev_var rfl) es_nil)) ar_nil rfl ⟨_, _, rfl, rfl⟩) eds_nil)))) rfl ?_ ?_)))
          · rw [List.length_map, ali, sizeLine_eq]
            omega
          · refine ⟨.d (.int (i : Int)), .d (.list ((names B.1 ++ anames G.1).map .str)), .d (.list ((ownF ns (names B.1 ++ anames G.1) (takeF G.2 2).2).1.map rowT)), .d (endD x B.1), .any, .any, .any, ?_, trivial, trivial, trivial⟩
            rw [List.map_append (f := argT)]
            rfl
        · have h0 : ¬ (takeF G.2 2).1 = 0 := of_decide_eq_false h
          unfold argF
          rw [if_neg h0]
          have gd := got_drawn (lim := 8) (k := 2) (z := 2) (ar := names B.1 ++ anames G.1) rfl w2 (by decide) hns (by omega) (by omega)
          refine (sm_app rfl (ev_tup (eds_cons (ev_op ev_str (ev_fn (es_cons (ev_var rfl) es_nil) (fv_strI (log_ok (by omega)))) (fv_addS (nmK_len (by rw [g1]; decide) (by omega)))) (eds_cons ev_non (eds_cons (ev_callB (i := 0) rfl (es_cons (ev_var rfl) (es_cons (ev_var rfl) (es_cons ev_int es_nil))) rfl ar_nil rfl gd) eds_nil)))) rfl ?_ ?_)
          · rw [List.length_map, ali, sizeLine_eq]
            omega
          · refine ⟨.d (.int (i : Int)), .d (.list ((names B.1 ++ anames G.1).map .str)), s9, s10, .any, .any, .any, ?_, trivial, trivial, trivial⟩
            rw [List.map_append (f := argT)]
            rfl
      · obtain ⟨s7, s8, s9, s10, s11, s12, s13, rfl, f11, f12, f13⟩ := r
        rw [rngD_len]
        refine (sm_app rfl (ev_varF rfl) rfl ?_ ?_)
        · rw [List.length_map, mlj, sizeLine_eq]
          omega
        · refine ⟨.d (.int (j : Int)), .d (.list ((argsF ns x B.1 V.1.toNat V.2).1.map argT)), s7, s8, s9, s10, s11, s12, s13, ?_, f11, f12, f13⟩
          rw [List.map_append]
          rfl
    · obtain ⟨s4, s6, s7, s8, s9, s10, s11, s12, s13, rfl, f11, f12, f13⟩ := r
      rw [rngD_len]
      obtain ⟨q1, fs, q2⟩ := mo U.1.toNat (by omega)
      exact (sm_ret (ev_tup (eds_cons (ev_var rfl) (eds_cons (ev_callB (i := 0) rfl (es_cons ev_int es_nil) rfl ar_nil rfl (got_take q1 (by omega) (by decide) (by decide))) (eds_cons (ev_var rfl) (eds_cons (ev_varF rfl) eds_nil))))) ⟨_, rfl, kk⟩)
end
end KP
set_option Elab.async false
set_option linter.unusedVariables false
set_option maxRecDepth 100000
set_option maxHeartbeats 2000000
namespace KP
open PySem PySem.Spec PyProof.Rows L2 KA OW
theorem cut_names {ns : List Str} {z : Int} {n : Nat} (h : z = (n : Int)) : cutD (ns.map PyData.str) none (some z) = (ns.take n).map .str := by
  rw [h, cutD_to', List.map_take]
theorem got_placed {lim n : Nat} {ar : List Str} {d e r : PyData} (er : r = .list (ar.map .str)) (hn : n ≤ lim) (hl : ar.length + n ≤ 1000) (v : Vt n ar d e) : tPlaced lim ([.d d, .d r] ++ []) (fun s => s = .d e) := ⟨n, ar, d, e, by rw [er]; rfl, hn, hl, v, rfl⟩
section
variable {P : Program} {w : World} {K : PySem.W.Frag} {mg : Str → Option Value} {base : Heap}
theorem ok_row {f : Addr} {fd : FuncData} (F : Fun K "_law_row" "_law_row" sLawRow f fd) (T : Txt K w mg) (Tenum : mg "enumerate" = none) (C_law_placed : C8.Cal P w K mg base 41 "_law_placed" (spD 2 (tPlaced 40)) []) : FnOk P w K mg base CX0 42 f fd ["_law_thing_here"] (spD 1 tRow) := by
  refine fn_d F scLawRow (body := fun cdv A outer s H E hr => ⟨_, (pss_cons (ps_asg (pv 0) (pg_tup rfl (pgs_cons (pg_name (i := 1) scLawRow.nd rfl (Or.inl rfl)) (pgs_cons (pg_name (i := 2) scLawRow.nd rfl (Or.inl rfl)) (pgs_cons (pg_name (i := 3) scLawRow.nd rfl (Or.inl rfl)) (pgs_cons (pg_name (i := 4) scLawRow.nd rfl (Or.inl rfl)) pgs_nil))))))
      (pss_cons (ps_set (i := 5) scLawRow.nd rfl (Or.inr rfl) (pe_lc (own := [("_law_one", 10), ("_law_saying", 11)]) (g := gTup K 2 (gCons (gName 10) (gCons (gName 11) gNil))) (tt := tYes) rfl scLawRow.nd (pi_list (pv 3)) (blkOk_by (N := nLawRow) (sc := defScope sLawRow) (by decide +kernel)) (fun _ _ _ _ _ => (pg_tupK (K := K) rfl rfl (pgs_cons (pg_name (i := 10) scLawRow.nd rfl (Or.inl rfl)) (pgs_cons (pg_name (i := 11) scLawRow.nd rfl (Or.inl rfl)) pgs_nil)))) (fun _ _ _ _ _ => pts_nil) (fun _ _ _ _ _ => (pv 10))))
      (pss_cons (ps_set (i := 6) scLawRow.nd rfl (Or.inl rfl) (pe_callTy call_tuple_of (by rfl) T.tuple (by decide +kernel) (pa_cons (pe_lc (own := [("_law_k", 12), ("_law_one", 10), ("_law_saying", 11)]) (g := gTup K 2 (gCons (gName 12) (gCons (gTup K 2 (gCons (gName 10) (gCons (gName 11) gNil))) gNil))) (tt := tYes) rfl scLawRow.nd (pi_enum (by rfl) Tenum (pa_cons (pv 3) pa_nil)) (blkOk_by (N := nLawRow) (sc := defScope sLawRow) (by decide +kernel)) (fun _ _ _ _ _ => (pg_tupK (K := K) rfl rfl (pgs_cons (pg_name (i := 12) scLawRow.nd rfl (Or.inl rfl)) (pgs_cons (pg_tupK (K := K) rfl rfl (pgs_cons (pg_name (i := 10) scLawRow.nd rfl (Or.inl rfl)) (pgs_cons (pg_name (i := 11) scLawRow.nd rfl (Or.inl rfl)) pgs_nil))) pgs_nil)))) (fun _ _ _ _ _ => pts_nil) (fun _ _ _ _ _ => (C8.pe_c C_law_placed hr (by omega) rfl (pa_cons (pv 11) (pa_cons (pe_slice (sl_listK (K := K) rfl) (pv 5) po_none (po_some (pv 12))) pa_nil))))) pa_nil)))
      (pss_cons (ps_set (i := 7) scLawRow.nd rfl (Or.inl rfl) (pe_lst pa_nil))
      (pss_cons (ps_for PassesOwn.never rfl (pi_list (pv 4)) (pg_name (i := 8) scLawRow.nd rfl (Or.inl rfl)) (pss_cons (ps_set (i := 9) scLawRow.nd rfl (Or.inr rfl) (pe_op op_cat (pv 5) (pe_lc (own := [("_law_row_here", 13)]) (g := gName 13) (tt := tYes) rfl scLawRow.nd (pi_list (pv 8)) (blkOk_by (N := nLawRow) (sc := defScope sLawRow) (by decide +kernel)) (fun _ _ _ _ _ => (pg_name (i := 13) scLawRow.nd rfl (Or.inl rfl))) (fun _ _ _ _ _ => pts_nil) (fun _ _ _ _ _ => (pe_ix (ix_tupK (K := K) rfl) (pv 13) pe_int (fun _ _ => rfl))))))
      (pss_one (ps_expr (pe_bm PySem.F.plainAttrs_list PySem.F.slot_list_append PySem.F.type_list_append mt_append (pv 7) (pa_cons (pe_callTy call_tuple_of (by rfl) T.tuple (by decide +kernel) (pa_cons (pe_lc (own := [("_law_k", 12), ("_law_row_here", 13)]) (g := gTup K 2 (gCons (gName 12) (gCons (gName 13) gNil))) (tt := tYes) rfl scLawRow.nd (pi_enum (by rfl) Tenum (pa_cons (pv 8) pa_nil)) (blkOk_by (N := nLawRow) (sc := defScope sLawRow) (by decide +kernel)) (fun _ _ _ _ _ => (pg_tupK (K := K) rfl rfl (pgs_cons (pg_name (i := 12) scLawRow.nd rfl (Or.inl rfl)) (pgs_cons (pg_name (i := 13) scLawRow.nd rfl (Or.inl rfl)) pgs_nil)))) (fun _ _ _ _ _ => pts_nil) (fun _ _ _ _ _ => (C8.pe_c C_law_placed hr (by omega) rfl (pa_cons (pe_ix (ix_tupK (K := K) rfl) (pv 13) pe_int (fun _ _ => rfl)) (pa_cons (pe_slice (sl_listK (K := K) rfl) (pv 9) po_none (po_some (pe_op op_add (pe_callB (call_len_seqK (K := K) rfl) (by rfl) T.len PySem.boot_len (pa_cons (pv 5) pa_nil)) (pv 12)))) pa_nil))))) pa_nil)) pa_nil))))))
      (pss_one (ps_ret (pe_tup (pa_cons pe_str (pa_cons (pv 1) (pa_cons (pv 2) (pa_cons (pv 6) (pa_cons (pe_callTy call_tuple_of (by rfl) T.tuple (by decide +kernel) (pa_cons (pv 7) pa_nil)) pa_nil))))))))))))), ?_⟩)
  rintro as Kr _ ⟨t, es, fs, rfl, th, kk⟩
  obtain ⟨hx, h0, h6, lb, bnd, lm, mks⟩ := th
  obtain ⟨x, h, b, m⟩ := t
  have lb : b.length ≤ 3 := lb
  have lm : m.length ≤ 5 := lm
  have le := vgB_len bnd
  have le : b.length = es.length := le
  have bnd : VgB 2 2 4000 [] b es := bnd
  have mks : Paired (MkOk b) m fs := mks
  have lf : m.length = fs.length := Paired.length mks
  refine (sm_seq (sm_asg (ev_var rfl) (tg_tup (xs := [.str x, .int h, .list (b.map rowT), makersT m]) (tgs_cons tg_name (tgs_cons tg_name (tgs_cons tg_name (tgs_cons tg_name tgs_nil))))) ?_))
  show Sm _ [.d (thingT ⟨x, h, b, m⟩), .d (.str x), .d (.int h), .d (.list (b.map rowT)), .d (makersT m), .un, .un, .un, .un, .un, .un, .un, .un, .un] _
  refine (sm_seq (sm_set (Ev.of_el (el_names (b := b) (fiR (fi_list (ev_var rfl))) ⟨⟨.un, rfl, trivial⟩, ⟨.un, rfl, trivial⟩, trivial⟩ (by decide) (by omega) (hc := fun _ => rfl) (ha := fun _ _ => rfl))) ?_))
  show Sm _ [.d (thingT ⟨x, h, b, m⟩), .d (.str x), .d (.int h), .d (.list (b.map rowT)), .d (makersT m), .d (.list ((names b).map .str)), .un, .un, .un, .un, .any, .any, .un, .un] _
  refine (sm_seq (sm_set (ev_fn (es_cons (Ev.of_el (el_lcY (ys := es) (fi_enum (xs := b.map rowT) (eds_cons (ev_var rfl) eds_nil)) ⟨⟨.un, rfl, trivial⟩, ⟨.any, rfl, trivial⟩, ⟨.any, rfl, trivial⟩, trivial⟩ ?_ ?_ (fun j z y hz hy => ?_))) es_nil) fv_tupL) ?_))
  · rw [enumD_len, List.length_map, sizeLine_eq]
    omega
  · rw [enumD_len, List.length_map, le]
  · obtain ⟨r0, hr0, rfl⟩ := enumD_at hz
    rw [List.getElem?_map] at hr0
    cases e : b[j]? with
    | none => rw [e] at hr0; cases hr0
    | some r =>
      rw [e] at hr0
      cases hr0
      have lj := (List.getElem?_eq_some_iff.mp e).1
      have v := vgB_at bnd e hy
      rw [List.nil_append] at v
      refine ⟨_, tgw_tup (xs := [.int ((0 + j : Nat) : Int), rowT r]) (tgsw_cons tgw_name (tgsw_cons (tgw_tup (xs := [.str r.1, r.2]) (tgsw_cons tgw_name (tgsw_cons tgw_name tgsw_nil))) tgsw_nil)), (ev_call (es_cons (ev_var rfl) (es_cons (Ev.of_el (el_slL (ev_var rfl) eo_none (eo_some (ev_var rfl)))) es_nil)) ar_nil rfl (got_placed (n := 2) (ar := (names b).take j) ?_ (by decide) ?_ v.v)), rfl, ⟨⟨_, rfl, trivial⟩, ⟨_, rfl, trivial⟩, ⟨_, rfl, trivial⟩, trivial⟩⟩
      · rw [cut_names (n := j) (by rw [Nat.zero_add])]
      · rw [List.length_take, names_len]
        omega
  show Sm _ [.d (thingT ⟨x, h, b, m⟩), .d (.str x), .d (.int h), .d (.list (b.map rowT)), .d (makersT m), .d (.list ((names b).map .str)), .d (.tuple es), .un, .un, .un, .any, .any, .any, .un] _
  refine (sm_seq (sm_setL (el_lst eds_nil) (sm_seq (sm_for (fi_list (xs := m.map fun as => .list (as.map argT)) (ev_var rfl))
        (fun j ρ => ∃ s8 s9 s10 s11 s12 s13, ρ = [.d (thingT ⟨x, h, b, m⟩), .d (.str x), .d (.int h), .d (.list (b.map rowT)), .d (makersT m), .d (.list ((names b).map .str)), .d (.tuple es), .l ((fs.take j).map .tuple), s8, s9, s10, s11, s12, s13] ∧ s10.free ∧ s12.free ∧ s13.free) ⟨.un, .un, .any, .any, .any, .un, rfl, trivial, trivial, trivial⟩ (fun j z ρ ez r => ?_) (fun ρ r => ?_)))))
  · obtain ⟨s8, s9, s10, s11, s12, s13, rfl, f10, f12, f13⟩ := r
    rw [List.getElem?_map] at ez
    cases e : m[j]? with
    | none => rw [e] at ez; cases ez
    | some as =>
    rw [e] at ez
    obtain rfl := Option.some.inj ez
    have lj := (List.getElem?_eq_some_iff.mp e).1
    have e2 := List.getElem?_eq_getElem (show j < fs.length by omega)
    obtain ⟨a1, a2, a3⟩ := paired_at mks e e2
    generalize fs[j] = gs at e2 a3
    have lg : as.length = gs.length := by
      have := vgB_len a3
      unfold bl at this
      rw [List.length_map] at this
      exact this
    have lan : (anames as).length = as.length := List.length_map ..
    have ear : (names b).map PyData.str ++ (anames as).map .str = (names b ++ anames as).map .str := by rw [List.map_append]
    refine ⟨_, tg_name, (sm_seq (sm_set (s := .d (.list ((names b ++ anames as).map .str))) (Ev.of_el (El.is (el_op (ev_var rfl) (Ev.of_el (el_lcY (ys := (anames as).map .str) (fi_list (xs := as.map argT) (ev_var rfl)) ⟨⟨s13, rfl, f13⟩, trivial⟩ ?_ ?_ (fun i z y hz hy => ?_))) (fl_cat ?_)) ear))
      (sm_app rfl (ev_fn (es_cons (Ev.of_el (el_lcY (ys := gs) (fi_enum (xs := as.map argT) (eds_cons (ev_var rfl) eds_nil)) ⟨⟨s12, rfl, f12⟩, ⟨.any, rfl, trivial⟩, trivial⟩ ?_ ?_ (fun i z y hz hy => ?_))) es_nil) fv_tupL) rfl ?_ ?_)))⟩
    · rw [List.length_map, sizeLine_eq]
      omega
    · rw [List.length_map, List.length_map, lan]
    · unfold anames at hy
      rw [List.getElem?_map] at hz hy
      rw [List.getElem?_map] at hy
      cases e : as[i]? with
      | none => rw [e] at hz; cases hz
      | some r =>
        rw [e] at hz hy
        cases hz
        cases hy
        exact ⟨_, tgw_name, (ev_op (ev_var rfl) ev_int (fv_ixT (xs := [.str r.nm, btwT r.btw, r.say]) at0)), rfl, ⟨⟨_, rfl, trivial⟩, trivial⟩⟩
    · rw [List.length_map, List.length_map, names_len, lan, sizeLine_eq]
      omega
    · rw [enumD_len, List.length_map, sizeLine_eq]
      omega
    · rw [enumD_len, List.length_map, lg]
    · obtain ⟨r0, hr0, rfl⟩ := enumD_at hz
      rw [List.getElem?_map] at hr0
      cases e : as[i]? with
      | none => rw [e] at hr0; cases hr0
      | some r =>
        rw [e] at hr0
        cases hr0
        have li := (List.getElem?_eq_some_iff.mp e).1
        have v := vgB_at (k := i) (r := (r.nm, r.say)) a3 (by unfold bl; rw [List.getElem?_map, e]; rfl) hy
        rw [names_bl] at v
        refine ⟨_, tgw_tup (xs := [.int ((0 + i : Nat) : Int), argT r]) (tgsw_cons tgw_name (tgsw_cons tgw_name tgsw_nil)), (ev_call (es_cons (ev_op (ev_var rfl) ev_int (fv_ixT (xs := [.str r.nm, btwT r.btw, r.say]) at2)) (es_cons (Ev.of_el (el_slL (ev_var rfl) eo_none (eo_some (ev_op (ev_fn (es_cons (ev_var rfl) es_nil) fv_lenL) (ev_var rfl) fv_int)))) es_nil)) ar_nil rfl (got_placed (n := 10) (ar := names b ++ (anames as).take i) ?_ (by decide) ?_ v.v)), rfl, ⟨⟨_, rfl, trivial⟩, ⟨_, rfl, trivial⟩, trivial⟩⟩
        · rw [cut_names (n := (names b).length + i) (by rw [List.length_map, Nat.zero_add]; omega), List.take_length_add_append]
        · rw [List.length_append, List.length_take, names_len, lan]
          omega
    · rw [List.length_map, List.length_take, sizeLine_eq]
      omega
    · refine ⟨.d (.list (as.map argT)), .d (.list ((names b ++ anames as).map .str)), s10, s11, .any, .any, ?_, f10, trivial, trivial⟩
      rw [take_snoc e2, List.map_append (f := PyData.tuple)]
      rfl
  · obtain ⟨s8, s9, s10, s11, s12, s13, rfl, f10, f12, f13⟩ := r
    rw [List.length_map, lf, List.take_length]
    exact (sm_ret (ev_tup (eds_cons ev_str (eds_cons (ev_var rfl) (eds_cons (ev_var rfl) (eds_cons (ev_var rfl) (eds_cons (ev_fn (es_cons (ev_varF rfl) es_nil) fv_tupL) eds_nil)))))) kk)
end
end KP
set_option Elab.async false
set_option linter.unusedVariables false
set_option linter.unusedSectionVars false
set_option maxRecDepth 100000
set_option maxHeartbeats 1000000
namespace OW
open PySem PySem.Spec PyProof.Rows L2 KA
variable [Tbs]
open PySem.SeqAt PySem.AutoSeq1 PySem.MeetsSeq
/-! ### any data == a text -/
theorem str_eq_declines_dict (b : Str) (u : Tok) (l : Addr) (c : Value) (dd : Option Addr) (es : Array DictEntry) (ep : Nat) (sl : Array (Option Value)) :
    Meets (Builtin.«str.__eq__» ⟨[.str b u, .ref l], []⟩) (fun _ R s => s.heap.get? l = some { cls := c, dict := dd, data := .dict es ep, slots := sl } ∧ R (.ok (.ret .notImplemented)) s) :=
  .of_wp fun prog w A R s h => by
    obtain ⟨hp, g, d, tk, os⟩ := s
    obtain ⟨hl, h⟩ := h
    wp_walk using wpAny_loadPart' hl, wpAny_load hl
    exact ⟨_, rfl, h⟩
def isS (d : PyData) (z : Str) : Bool := match d with | .str x => decide (x = z) | _ => false
def rEqDS : R2 := fun x y H Q => ∃ d z, Dn H x d ∧ y = .str z ∧ Q (.bl (isS d z)) H
theorem op_eqDS {X : Cx} (hu : X.A.units + 1 < cLine) : OpR X (compareOp .Eq) rEqDS := by
  intro pins s σ H x y v u Q I rx ry h
  obtain ⟨d, z, hd, rfl, q⟩ := h
  obtain ⟨tk, rfl⟩ := ry
  have hu' : X.A.units < cLine := by omega
  have fin : EP X pins σ Q (.bool (isS d z)) s := ⟨.bl (isS d z), H, I, rfl, q⟩
  cases hd with
  | non =>
    cases rx
    exact RcAt.none_str z tk _ _ _ _ fin
  | bl b =>
    cases rx
    exact RcAt.bool_str b z tk _ _ _ _ fin
  | int i =>
    obtain ⟨t, rfl⟩ := rx
    exact RcAt.int_str i t z tk _ _ _ _ fin
  | str x =>
    obtain ⟨t, rfl⟩ := rx
    refine RcAt.str_str x t z tk _ _ _ _ ?_
    have : (x == z) = isS (.str x) z := by
      show _ = decide (x = z)
      by_cases h : x = z
      · subst h
        rw [decide_eq_true rfl]
        exact beq_self_eq_true _
      · rw [decide_eq_false h]
        exact beq_eq_false_iff_ne.mpr h
    rw [this]
    exact fin
  | lst e r =>
    cases rx
    obtain ⟨_, its, n, rv, ho⟩ := I.hok _ _ e
    exact RcAt.list_str z tk ⟨_, ho, rfl, _, rfl⟩ hu' _ _ _ _ fin
  | tup e r =>
    cases rx
    obtain ⟨_, its, rv, o, ho, hc, n, hd⟩ := I.hok _ _ e
    exact RcAt.tuple_str z tk ⟨o, ho, hc, n, hd⟩ hu' _ _ _ _ fin
  | dic e r r' =>
    cases rx
    obtain ⟨_, _, vs, kv, dO⟩ := I.hok _ _ e
    obtain ⟨⟨cls, dd, data, sl⟩, es, ep, ho, ex, hd, c⟩ := id dO
    simp only at hd
    subst hd
    refine SeqAt.rc_eq_decline_or (k := false) dO.typeIs (typeIs_str s z tk) (by decide) F.sub_str_dict F.slot_dict_eq F.slot_str_eq_refl (fun Q' hq => ?_)
      (fun _ hq => call_meets F.slot_str_eq_refl (typeIs_str s z tk) F.entry_str_eq (F.args_str_eq_2 _ _) (str_eq_declines_dict z tk _ cls dd es ep sl) ⟨ho, hq⟩)
      (fun _ hq => wpAny_of_eq (rfl : isSame (.ref _) (.str z tk) = pure false) hq) (.inr hu') fin
    refine wpAny_call_entry F.slot_dict_eq dO.typeIs F.entry_dict_eq ?_ (F.args_dict_eq_2 _ _)
    show wpAny _ _ (Builtin.Dict.dictSlotArgs "__eq__" ⟨[.ref _, .str z tk], []⟩ >>= _) _ _ s
    refine wpAny_bind ?_
    unfold Builtin.Dict.dictSlotArgs
    refine wpAny_bind (wpAny_notOrdered_dict dO.typeIs ?_)
    show wpAny _ _ (pure (Value.ref _, Value.str z tk)) _ _ s
    refine wpAny_pure ?_
    refine wpAny_bind (wpAny_isInstance (T := "str") (typeIs_str s z tk) F.sub_str_dict ?_)
    show wpAny _ _ (rule _ >>= fun _ => ret Value.notImplemented) _ _ s
    refine wpAny_bind (wpAny_rule ?_)
    refine wpAny_pure ⟨_, rfl, ?_⟩
    exact hq
theorem fv_eqDS {x : PyData} {z : Str} : FV2 rEqDS (.d x) (.d (.str z)) (.d (.bool (isS x z))) := fv2_s (dB (isS x z)) fun W H v w Q S o o' q => by
  obtain rfl := str_v o'
  exact ⟨x, z, Dn.mono S o, rfl, q⟩
end OW
set_option Elab.async false
set_option linter.unusedVariables false
set_option maxRecDepth 100000
set_option maxHeartbeats 2000000
namespace KP
open PySem PySem.Spec PyProof.Rows L2 KA OW
/-! ### rows: the program's look -/
abbrev sIsRow : Stmt := top 35
abbrev nIsRow : List Str := ["thing"]
theorem scIsRow : FnScope nIsRow ["thing"] (defScope sIsRow) := ⟨rfl, rfl, rfl, by decide +kernel, rfl, by decide +kernel, by decide +kernel⟩
abbrev sAreOfThing : Stmt := top 36
abbrev nAreOfThing : List Str := ["height", "bounds", "makers", "sayings"]
theorem scAreOfThing : FnScope nAreOfThing ["height", "bounds", "makers"] (defScope sAreOfThing) := ⟨rfl, rfl, rfl, by decide +kernel, rfl, by decide +kernel, by decide +kernel⟩
abbrev sAreTerms : Stmt := top 37
abbrev nAreTerms : List Str := ["thing", "most", "term"]
theorem scAreTerms : FnScope nAreTerms ["thing", "most"] (defScope sAreTerms) := ⟨rfl, rfl, rfl, by decide +kernel, rfl, by decide +kernel, by decide +kernel⟩
structure TxtR (mg : Str → Option Value) : Prop where
  most_bounds : ∃ u, mg "MOST_BOUNDS" = some u ∧ RelV (.int 3) u
  most_makers : ∃ u, mg "MOST_MAKERS" = some u ∧ RelV (.int 5) u
  most_arguments : ∃ u, mg "MOST_ARGUMENTS" = some u ∧ RelV (.int 4) u
def areT (most : Int) : PyData → Bool | .tuple ds => decide ((ds.length : Int) ≤ most) && tmAll ds | _ => false
def makB : PyData → Bool | .tuple ms => decide ((ms.length : Int) ≤ 5) && ms.all (areT 4) | _ => false
def thB : List PyData → Bool | [h, b, m] => wholeB 0 5 h && areT 3 b && makB m | _ => false
def meB : List PyData → Bool | [a, b] => tm a && tm b | _ => false
def hoB : List PyData → Bool | [a] => tm a | _ => false
def rowB : PyData → Bool
  | .tuple (w :: n :: rest) => nameB n && (if isS w "thing" = true then thB rest else if isS w "mean" = true then meB rest else isS w "hold" && hoB rest)
  | _ => false
theorem okT_mem {ds : List PyData} {x : PyData} (h : okT (.tuple ds)) (m : x ∈ ds) : okT x := by
  obtain ⟨h1, h2⟩ := h
  have f : fineAll ds = true := by simpa only [fine] using h1
  have n : nodesAll ds + 1 ≤ 1000000 := h2
  clear h1 h2
  induction ds with
  | nil => cases m
  | cons d ds ih =>
    have f' : fine d = true ∧ fineAll ds = true := by simpa only [fineAll, Bool.and_eq_true] using f
    have n' : nodes d + nodesAll ds + 1 ≤ 1000000 := n
    rcases List.mem_cons.mp m with rfl | m
    · exact ⟨f'.1, by omega⟩
    · exact ih m f'.2 (by omega)
theorem okT_len {ds : List PyData} (h : okT (.tuple ds)) : ds.length ≤ 1000000 := by
  have n : nodesAll ds + 1 ≤ 1000000 := h.2
  have := len_nodes ds
  omega
theorem tmAll_all : ∀ ds : List PyData, tmAll ds = (ds.map tm).all id
  | [] => rfl
  | d :: ds => by
    show (tm d && tmAll ds) = (tm d && (ds.map tm).all id)
    rw [tmAll_all ds]
theorem all_bools {f : PyData → Bool} (ds : List PyData) : (ds.map fun x => PyData.bool (f x)) = (ds.map f).map .bool := by rw [List.map_map]; rfl
def tAreT : List Sl → (Rv → Prop) → Prop := fun as Kr => ∃ d m, as = [.d d, .d (.int m)] ∧ okT d ∧ Kr (.d (.bool (areT m d)))
def tOfTh : List Sl → (Rv → Prop) → Prop := fun as Kr => ∃ h b m, as = [.d h, .d b, .d m] ∧ okT b ∧ okT m ∧ Kr (.d (.bool (thB [h, b, m])))
def tIsRow : List Sl → (Rv → Prop) → Prop := fun as Kr => ∃ d, as = [.d d] ∧ okT d ∧ Kr (.d (.bool (rowB d)))
section
variable {ρ ρ' ρ1 : List Sl} {te : TE} {x : PyData} {tr : TA}
theorem ev_sp1 {ok : PyData → Prop} {f : PyData → Bool} {E : XK} (h : Es tr ρ [.d x] ρ') (hx : ok x) : Ev (tCall (sp1 ok f) [] E tr) ρ (.d (.bool (f x))) ρ' := fun c A σ H Q R f' q =>
  h c A σ H _ R f' fun vs A1 H1 R1 f1 S1 o1 => by
    match vs, o1 with
    | [v], o1 => exact ⟨v, x, rfl, Dn.mono vw_sub o1.1, hx, fun H2 S2 => q _ A1 H2 (R1.up S2) f1 (S1.trans (vw_up S2)) (.bl _)⟩
theorem ev_whole {E : XK} {lo hi : Int} (h : Es tr ρ [.d x, .d (.int lo), .d (.int hi)] ρ') : Ev (tCall spWhole [] E tr) ρ (.d (.bool (wholeB lo hi x))) ρ' := fun c A σ H Q R f' q =>
  h c A σ H _ R f' fun vs A1 H1 R1 f1 S1 o1 => by
    match vs, o1 with
    | [v, u, w], o1 =>
      obtain rfl := int_v o1.2.1
      obtain rfl := int_v o1.2.2.1
      exact ⟨v, x, lo, hi, rfl, Dn.mono vw_sub o1.1, fun H2 S2 => q _ A1 H2 (R1.up S2) f1 (S1.trans (vw_up S2)) (.bl _)⟩
end
theorem tup_or (d : PyData) : isTupD d = false ∨ ∃ ds, d = .tuple ds := by
  cases d <;> first | exact Or.inl rfl | exact Or.inr ⟨_, rfl⟩
section
variable {P : Program} {w : World} {K : PySem.W.Frag} {mg : Str → Option Value} {base : Heap}
theorem ok_areterms {f : Addr} {fd : FuncData} (F : Fun K "_are_terms" "_are_terms" sAreTerms f fd) (T : Txt K w mg) (C_is_term : C8.Cal P w K mg base 4 "is_term" (sp1 okT tm) []) : FnOk P w K mg base CX0 5 f fd ["thing", "most"] (spD 2 tAreT) := by
  refine fn_d F scAreTerms (body := fun cdv A outer s H E hr => ⟨_, (pss_one (ps_ret (pe_and (pe_isD is_tup (pv 0) T.isi T.tuple (by decide +kernel)) (pe_and (pe_cmpR op_le (pe_callB call_len_seq (by rfl) T.len PySem.boot_len (pa_cons (pv 0) pa_nil)) (pv 1) (nomark _)) (pe_one (pe_callB (cr_all rfl) (by rfl) T.all (by decide +kernel) (pa_cons (pe_lc (own := [("term", 2)]) (g := gName 2) (tt := tYes) rfl scAreTerms.nd (pi_tup (pv 0)) (blkOk_by (N := nAreTerms) (sc := defScope sAreTerms) (by decide +kernel)) (fun _ _ _ _ _ => (pg_name (i := 2) scAreTerms.nd rfl (Or.inl rfl))) (fun _ _ _ _ _ => pts_nil) (fun _ _ _ _ _ => (C8.pe_c C_is_term hr (by omega) rfl (pa_cons (pv 2) pa_nil)))) pa_nil))))))), ?_⟩)
  rintro as Kr _ ⟨d, m, rfl, ok, k⟩
  refine sm_any [2] ⟨⟨.un, rfl, trivial⟩, trivial⟩ ?_
  show Sm _ [.d d, .d (.int m), .any] _
  rcases tup_or d with hd | ⟨ds, rfl⟩
  · have e : areT m d = false := by cases d <;> first | rfl | cases hd
    rw [e] at k
    refine sm_ret (Ev.is (ev_andV (b := false) (ev_fn (es_cons (ev_var rfl) (es_cons ev_cv es_nil)) fv_isD) (fun h => ?_) (fun _ => rfl)) ?_) k
    · rw [hd] at h
      cases h
    · rw [hd]
      rfl
  · have l := okT_len ok
    have lz : ds.length ≤ sizeLine := Nat.le_trans l (by rw [sizeLine_eq]; decide)
    have k : Kr (.d (.bool (true && (decide ((ds.length : Int) ≤ m) && (ds.map tm).all id)))) := by
      rw [← tmAll_all, Bool.true_and]
      exact k
    refine sm_ret (ev_andV (ev_fn (es_cons (ev_var rfl) (es_cons ev_cv es_nil)) fv_isD) (fun _ => ev_andV (ev_op (ev_fn (es_cons (ev_var rfl) es_nil) fv_lenT) (ev_var rfl) fv_cmpI) (fun _ => (ev_fn (es_cons (Ev.of_el (El.is (el_lcM (f := fun x => .bool (tm x)) (fi_tup (ev_var rfl)) ⟨⟨_, rfl, trivial⟩, trivial⟩ lz (fun x hx => ⟨_, tgw_name, (ev_sp1 (es_cons (ev_var rfl) es_nil) (okT_mem ok hx)), rfl, ⟨⟨_, rfl, trivial⟩, trivial⟩⟩)) (all_bools ds))) es_nil) fv_all)))) k
theorem areT_all (ds : List PyData) : ds.all (areT 4) = (ds.map (areT 4)).all id := by rw [List.all_map]; rfl
theorem ok_ofthing {f : Addr} {fd : FuncData} (F : Fun K "_are_of_thing" "_are_of_thing" sAreOfThing f fd) (T : Txt K w mg) (TB : TxtR mg) (C_is_whole : C8.Cal P w K mg base 2 "is_whole" spWhole []) (C_are_terms : C8.Cal P w K mg base 5 "_are_terms" (spD 2 tAreT) []) : FnOk P w K mg base CX0 6 f fd ["height", "bounds", "makers"] (spD 3 tOfTh) := by
  refine fn_d F scAreOfThing (body := fun cdv A outer s H E hr => ⟨_, (pss_cons (ps_if (PW.pt (pw_or (pt_not (pt_val (C8.pe_c C_is_whole hr (by omega) rfl (pa_cons (pv 0) (pa_cons pe_int (pa_cons (C8.pe_gc rfl T.highest) pa_nil)))))) (pw_or1 (pt_not (pt_val (C8.pe_c C_are_terms hr (by omega) rfl (pa_cons (pv 1) (pa_cons (C8.pe_gc rfl TB.most_bounds) pa_nil)))))))) (pss_one (ps_ret pe_bl)) pss_nil) (pss_cons (ps_if (PW.pt (pw_or (pt_not (pt_val (pe_isD is_tup (pv 2) T.isi T.tuple (by decide +kernel)))) (pw_or1 (pt_cmpR op_gt (pe_callB call_len_seq (by rfl) T.len PySem.boot_len (pa_cons (pv 2) pa_nil)) (C8.pe_gc rfl TB.most_makers) (nomark _))))) (pss_one (ps_ret pe_bl)) pss_nil) (pss_one (ps_ret (pe_callB (cr_all rfl) (by rfl) T.all (by decide +kernel) (pa_cons (pe_lc (own := [("sayings", 3)]) (g := gName 3) (tt := tYes) rfl scAreOfThing.nd (pi_tup (pv 2)) (blkOk_by (N := nAreOfThing) (sc := defScope sAreOfThing) (by decide +kernel)) (fun _ _ _ _ _ => (pg_name (i := 3) scAreOfThing.nd rfl (Or.inl rfl))) (fun _ _ _ _ _ => pts_nil) (fun _ _ _ _ _ => (C8.pe_c C_are_terms hr (by omega) rfl (pa_cons (pv 3) (pa_cons (C8.pe_gc rfl TB.most_arguments) pa_nil))))) pa_nil)))))), ?_⟩)
  rintro as Kr _ ⟨h, b, m, rfl, okb, okm, k⟩
  refine sm_any [3] ⟨⟨.un, rfl, trivial⟩, trivial⟩ ?_
  show Sm _ [.d h, .d b, .d m, .any] _
  have e0 : thB [h, b, m] = (wholeB 0 5 h && areT 3 b && makB m) := rfl
  rw [e0] at k
  refine (sm_seq (sm_if (et_or (et_not (et_B (ev_whole (es_cons (ev_var rfl) (es_cons ev_int (es_cons ev_int es_nil)))))) fun _ => (et_not (et_B (ev_call (es_cons (ev_var rfl) (es_cons ev_int es_nil)) ar_nil rfl ⟨b, 3, rfl, okb, rfl⟩)))) (fun hh => (sm_ret ev_bl ?_)) (fun hh => (sm_next ?_))))
  · have : (wholeB 0 5 h && areT 3 b) = false := by
      cases e1 : wholeB 0 5 h <;> cases e2 : areT 3 b <;> first | rfl | (rw [e1, e2] at hh; cases hh)
    rw [this, Bool.false_and] at k
    exact k
  have : (wholeB 0 5 h && areT 3 b) = true := by
    cases e1 : wholeB 0 5 h <;> cases e2 : areT 3 b <;> first | rfl | (rw [e1, e2] at hh; cases hh)
  rw [this, Bool.true_and] at k
  rcases tup_or m with hd | ⟨ds, rfl⟩
  · have e : makB m = false := by cases m <;> first | rfl | cases hd
    rw [e] at k
    refine (sm_seq (sm_if (b := true) (Et.is (et_or (b := false) (et_not (et_B (ev_fn (es_cons (ev_var rfl) (es_cons ev_cv es_nil)) fv_isD))) fun h => ?_) ?_) (fun _ => sm_ret ev_bl k) (fun h => by cases h)))
    · rw [hd] at h
      cases h
    · rw [hd]
      rfl
  · have l := okT_len okm
    have lz : ds.length ≤ sizeLine := Nat.le_trans l (by rw [sizeLine_eq]; decide)
    have e1 : makB (.tuple ds) = (decide ((ds.length : Int) ≤ 5) && (ds.map (areT 4)).all id) := by
      rw [← areT_all]
      rfl
    rw [e1] at k
    refine (sm_seq (sm_if (et_or (et_not (et_B (ev_fn (es_cons (ev_var rfl) (es_cons ev_cv es_nil)) fv_isD))) fun _ => (et_test (ev_op (ev_fn (es_cons (ev_var rfl) es_nil) fv_lenT) ev_int fv_cmpI))) (fun h => (sm_ret ev_bl ?_)) (fun h => (sm_next ?_))))
    · have h : decide ((ds.length : Int) > 5) = true := h
      have : decide ((ds.length : Int) ≤ 5) = false := decide_eq_false (by have := of_decide_eq_true h; omega)
      rw [this, Bool.false_and] at k
      exact k
    · have h : decide ((ds.length : Int) > 5) = false := h
      have : decide ((ds.length : Int) ≤ 5) = true := decide_eq_true (by have := of_decide_eq_false h; omega)
      rw [this, Bool.true_and] at k
      exact (sm_ret (ev_fn (es_cons (Ev.of_el (El.is (el_lcM (f := fun x => .bool (areT 4 x)) (fi_tup (ev_var rfl)) ⟨⟨_, rfl, trivial⟩, trivial⟩ lz (fun x hx => ⟨_, tgw_name, (ev_call (es_cons (ev_var rfl) (es_cons ev_int es_nil)) ar_nil rfl ⟨x, 4, rfl, okT_mem okm hx, rfl⟩), rfl, ⟨⟨_, rfl, trivial⟩, trivial⟩⟩)) (all_bools ds))) es_nil) fv_all) k)
theorem thB_no {r : List PyData} (h : r.length ≠ 3) : thB r = false := by
  match r, h with
  | [], _ => rfl
  | [_], _ => rfl
  | [_, _], _ => rfl
  | [_, _, _], h => exact absurd rfl h
  | _ :: _ :: _ :: _ :: _, _ => rfl
theorem meB_no {r : List PyData} (h : r.length ≠ 2) : meB r = false := by
  match r, h with
  | [], _ => rfl
  | [_], _ => rfl
  | [_, _], h => exact absurd rfl h
  | _ :: _ :: _ :: _, _ => rfl
theorem hoB_no {r : List PyData} (h : r.length ≠ 1) : hoB r = false := by
  match r, h with
  | [], _ => rfl
  | [_], h => exact absurd rfl h
  | _ :: _ :: _, _ => rfl
theorem ok_isrow {f : Addr} {fd : FuncData} (F : Fun K "is_row" "is_row" sIsRow f fd) (T : Txt K w mg) (C_is_name : C8.Cal P w K mg base 1 "is_name" (sp1 (fun d => fine d = true) nameB) []) (C_is_term : C8.Cal P w K mg base 4 "is_term" (sp1 okT tm) []) (C_are_of_thing : C8.Cal P w K mg base 6 "_are_of_thing" (spD 3 tOfTh) []) : FnOk P w K mg base CX0 7 f fd ["thing"] (spD 1 tIsRow) := by
  refine fn_d F scIsRow (body := fun cdv A outer s H E hr => ⟨_, (pss_cons (ps_if (PW.pt (pw_or (pt_not (pt_val (pe_isD is_tup (pv 0) T.isi T.tuple (by decide +kernel)))) (pw_or (pt_cmpR op_lt (pe_callB call_len_seq (by rfl) T.len PySem.boot_len (pa_cons (pv 0) pa_nil)) pe_int (nomark _)) (pw_or1 (pt_not (pt_val (C8.pe_c C_is_name hr (by omega) rfl (pa_cons (pe_ix ix_tup (pv 0) pe_int (fun _ _ => rfl)) pa_nil)))))))) (pss_one (ps_ret pe_bl)) pss_nil) (pss_cons (ps_if (pt_cmpR (op_eqDS (hu_of hr)) (pe_ix ix_tup (pv 0) pe_int (fun _ _ => rfl)) pe_str (nomark _)) (pss_one (ps_ret (pe_and (pe_cmpR op_eq (pe_callB call_len_seq (by rfl) T.len PySem.boot_len (pa_cons (pv 0) pa_nil)) pe_int (nomark _)) (pe_one (C8.pe_c C_are_of_thing hr (by omega) rfl (pa_cons (pe_ix ix_tup (pv 0) pe_int (fun _ _ => rfl)) (pa_cons (pe_ix ix_tup (pv 0) pe_int (fun _ _ => rfl)) (pa_cons (pe_ix ix_tup (pv 0) pe_int (fun _ _ => rfl)) pa_nil)))))))) pss_nil) (pss_cons (ps_if (pt_cmpR (op_eqDS (hu_of hr)) (pe_ix ix_tup (pv 0) pe_int (fun _ _ => rfl)) pe_str (nomark _)) (pss_one (ps_ret (pe_and (pe_cmpR op_eq (pe_callB call_len_seq (by rfl) T.len PySem.boot_len (pa_cons (pv 0) pa_nil)) pe_int (nomark _)) (pe_and (C8.pe_c C_is_term hr (by omega) rfl (pa_cons (pe_ix ix_tup (pv 0) pe_int (fun _ _ => rfl)) pa_nil)) (pe_one (C8.pe_c C_is_term hr (by omega) rfl (pa_cons (pe_ix ix_tup (pv 0) pe_int (fun _ _ => rfl)) pa_nil))))))) pss_nil) (pss_one (ps_ret (pe_and (pe_cmpR (op_eqDS (hu_of hr)) (pe_ix ix_tup (pv 0) pe_int (fun _ _ => rfl)) pe_str (nomark _)) (pe_and (pe_cmpR op_eq (pe_callB call_len_seq (by rfl) T.len PySem.boot_len (pa_cons (pv 0) pa_nil)) pe_int (nomark _)) (pe_one (C8.pe_c C_is_term hr (by omega) rfl (pa_cons (pe_ix ix_tup (pv 0) pe_int (fun _ _ => rfl)) pa_nil)))))))))), ?_⟩)
  rintro as Kr _ ⟨d, rfl, ok, k⟩
  rcases tup_or d with hd | ⟨ds, rfl⟩
  · have e : rowB d = false := by cases d <;> first | rfl | cases hd
    rw [e] at k
    refine (sm_seq (sm_if (b := true) (Et.is (et_or (b := false) (et_not (et_B (ev_fn (es_cons (ev_var rfl) (es_cons ev_cv es_nil)) fv_isD))) fun h => ?_) ?_) (fun _ => sm_ret ev_bl k) (fun h => by cases h)))
    · rw [hd] at h
      cases h
    · rw [hd]
      rfl
  match ds, ok, k with
  | [], ok, k =>
    exact (sm_seq (sm_if (b := true) (Et.is (et_or (et_not (et_B (ev_fn (es_cons (ev_var rfl) (es_cons ev_cv es_nil)) fv_isD))) fun _ => et_or (b := true) (et_test (ev_op (ev_fn (es_cons (ev_var rfl) es_nil) fv_lenT) ev_int fv_cmpI)) fun h => absurd h (fun z => Bool.noConfusion z)) rfl) (fun _ => sm_ret ev_bl k) (fun h => by cases h)))
  | [x], ok, k =>
    exact (sm_seq (sm_if (b := true) (Et.is (et_or (et_not (et_B (ev_fn (es_cons (ev_var rfl) (es_cons ev_cv es_nil)) fv_isD))) fun _ => et_or (b := true) (et_test (ev_op (ev_fn (es_cons (ev_var rfl) es_nil) fv_lenT) ev_int fv_cmpI)) fun h => absurd h (fun z => Bool.noConfusion z)) rfl) (fun _ => sm_ret ev_bl k) (fun h => by cases h)))
  | [x, y], ok, k =>
    have k : Kr (.d (.bool false)) := by
      have : rowB (.tuple [x, y]) = false := by
        show (nameB y && (if isS x "thing" = true then false else if isS x "mean" = true then false else isS x "hold" && false)) = false
        rw [Bool.and_false]
        cases nameB y <;> cases isS x "thing" <;> cases isS x "mean" <;> rfl
      rw [this] at k
      exact k
    exact (sm_seq (sm_if (b := true) (Et.is (et_or (et_not (et_B (ev_fn (es_cons (ev_var rfl) (es_cons ev_cv es_nil)) fv_isD))) fun _ => et_or (b := true) (et_test (ev_op (ev_fn (es_cons (ev_var rfl) es_nil) fv_lenT) ev_int fv_cmpI)) fun h => absurd h (fun z => Bool.noConfusion z)) rfl) (fun _ => sm_ret ev_bl k) (fun h => by cases h)))
  | x :: n :: z :: rest, ok, k =>
    have fn : fine n = true := (okT_mem ok (List.mem_cons_of_mem _ List.mem_cons_self)).1
    have l3 : decide ((((x :: n :: z :: rest).length : Nat) : Int) < 3) = false := decide_eq_false (by simp only [List.length_cons]; omega)
    have e0 : rowB (.tuple (x :: n :: z :: rest)) = (nameB n && (if isS x "thing" = true then thB (z :: rest) else if isS x "mean" = true then meB (z :: rest) else isS x "hold" && hoB (z :: rest))) := rfl
    rw [e0] at k
    have rl : ∀ m : Nat, decide ((((x :: n :: z :: rest).length : Nat) : Int) = ((m + 2 : Nat) : Int)) = decide ((z :: rest).length = m) := fun m => by
      apply decide_eq_decide.mpr
      simp only [List.length_cons]
      omega
    refine (sm_seq (sm_if (et_or (et_not (et_B (ev_fn (es_cons (ev_var rfl) (es_cons ev_cv es_nil)) fv_isD))) fun _ => (et_or (et_test (ev_op (ev_fn (es_cons (ev_var rfl) es_nil) fv_lenT) ev_int fv_cmpI)) fun _ => (et_not (et_B (ev_sp1 (es_cons (ev_op (ev_var rfl) ev_int (fv_ixT at1)) es_nil) fn))))) (fun h => (sm_ret ev_bl ?_)) (fun h => (sm_next ?_))))
    · have h : (decide ((((x :: n :: z :: rest).length : Nat) : Int) < 3) || !nameB n) = true := h
      rw [l3, Bool.false_or] at h
      have : nameB n = false := by simpa using h
      rw [this, Bool.false_and] at k
      exact k
    have h : (decide ((((x :: n :: z :: rest).length : Nat) : Int) < 3) || !nameB n) = false := h
    rw [l3, Bool.false_or] at h
    have nn : nameB n = true := by simpa using h
    rw [nn, Bool.true_and] at k
    refine (sm_seq (sm_if (et_test (ev_op (ev_op (ev_var rfl) ev_int (fv_ixT at0)) ev_str fv_eqDS)) (fun h => ?_) (fun h => (sm_next ?_))))
    · rw [if_pos h] at k
      match rest, ok, k, rl with
      | [b, m], ok, k, rl =>
        exact (sm_ret (ev_andV (a := true) (ev_op (ev_fn (es_cons (ev_var rfl) es_nil) fv_lenT) ev_int fv_eqI) fun _ => (ev_call (es_cons (ev_op (ev_var rfl) ev_int (fv_ixT at2)) (es_cons (ev_op (ev_var rfl) ev_int (fv_ixT at3)) (es_cons (ev_op (ev_var rfl) ev_int (fv_ixT (at_nat (j := 4) rfl))) es_nil))) ar_nil rfl ⟨z, b, m, rfl, okT_mem ok (by simp), okT_mem ok (by simp), rfl⟩)) k)
      | [], ok, k, rl => exact sm_ret (ev_andV (a := false) (b := false) (ev_op (ev_fn (es_cons (ev_var rfl) es_nil) fv_lenT) ev_int fv_eqI) fun h => by cases h) k
      | [b], ok, k, rl => exact sm_ret (ev_andV (a := false) (b := false) (ev_op (ev_fn (es_cons (ev_var rfl) es_nil) fv_lenT) ev_int fv_eqI) fun h => by cases h) k
      | b :: m :: u :: rest, ok, k, rl =>
        have e5 := rl 3
        rw [decide_eq_false (show ¬ (z :: b :: m :: u :: rest).length = 3 by simp only [List.length_cons]; omega)] at e5
        have k : Kr (.d (.bool (false && false))) := k
        refine sm_ret (Ev.is (ev_andV (a := decide ((((x :: n :: z :: b :: m :: u :: rest).length : Nat) : Int) = 5)) (b := false) (ev_op (ev_fn (es_cons (ev_var rfl) es_nil) fv_lenT) ev_int fv_eqI) fun h => ?_) ?_) k
        · rw [show ((5 : Int)) = ((3 + 2 : Nat) : Int) from rfl, e5] at h
          cases h
        · rw [show ((5 : Int)) = ((3 + 2 : Nat) : Int) from rfl, e5]
    rw [if_neg (by rw [h]; decide)] at k
    refine (sm_seq (sm_if (et_test (ev_op (ev_op (ev_var rfl) ev_int (fv_ixT at0)) ev_str fv_eqDS)) (fun h => ?_) (fun h => (sm_next ?_))))
    · rw [if_pos h] at k
      match rest, ok, k, rl with
      | [b], ok, k, rl =>
        exact (sm_ret (ev_andV (a := true) (ev_op (ev_fn (es_cons (ev_var rfl) es_nil) fv_lenT) ev_int fv_eqI) fun _ => (ev_andV (ev_sp1 (es_cons (ev_op (ev_var rfl) ev_int (fv_ixT at2)) es_nil) (okT_mem ok (by simp))) fun _ => (ev_sp1 (es_cons (ev_op (ev_var rfl) ev_int (fv_ixT at3)) es_nil) (okT_mem ok (by simp))))) k)
      | [], ok, k, rl => exact sm_ret (ev_andV (a := false) (b := false) (ev_op (ev_fn (es_cons (ev_var rfl) es_nil) fv_lenT) ev_int fv_eqI) fun h => by cases h) k
      | b :: m :: rest, ok, k, rl =>
        have e5 := rl 2
        rw [decide_eq_false (show ¬ (z :: b :: m :: rest).length = 2 by simp only [List.length_cons]; omega)] at e5
        have k : Kr (.d (.bool (false && false))) := k
        refine sm_ret (Ev.is (ev_andV (a := decide ((((x :: n :: z :: b :: m :: rest).length : Nat) : Int) = 4)) (b := false) (ev_op (ev_fn (es_cons (ev_var rfl) es_nil) fv_lenT) ev_int fv_eqI) fun h => ?_) ?_) k
        · rw [show ((4 : Int)) = ((2 + 2 : Nat) : Int) from rfl, e5] at h
          cases h
        · rw [show ((4 : Int)) = ((2 + 2 : Nat) : Int) from rfl, e5]
    rw [if_neg (by rw [h]; decide)] at k
    match rest, ok, k, rl with
    | [], ok, k, rl =>
      have k : Kr (.d (.bool (isS x "hold" && (true && tm z)))) := k
      exact (sm_ret (ev_andV (ev_op (ev_op (ev_var rfl) ev_int (fv_ixT at0)) ev_str fv_eqDS) fun _ => (ev_andV (a := true) (ev_op (ev_fn (es_cons (ev_var rfl) es_nil) fv_lenT) ev_int fv_eqI) fun _ => (ev_sp1 (es_cons (ev_op (ev_var rfl) ev_int (fv_ixT at2)) es_nil) (okT_mem ok (by simp))))) k)
    | b :: rest, ok, k, rl =>
      have e5 := rl 1
      rw [decide_eq_false (show ¬ (z :: b :: rest).length = 1 by simp only [List.length_cons]; omega)] at e5
      have k : Kr (.d (.bool (isS x "hold" && (false && false)))) := k
      refine (sm_ret (ev_andV (ev_op (ev_op (ev_var rfl) ev_int (fv_ixT at0)) ev_str fv_eqDS) fun _ => Ev.is (ev_andV (a := decide ((((x :: n :: z :: b :: rest).length : Nat) : Int) = 3)) (b := false) (ev_op (ev_fn (es_cons (ev_var rfl) es_nil) fv_lenT) ev_int fv_eqI) fun h => ?_) ?_) k)
      · rw [show ((3 : Int)) = ((1 + 2 : Nat) : Int) from rfl, e5] at h
        cases h
      · rw [show ((3 : Int)) = ((1 + 2 : Nat) : Int) from rfl, e5]
end
end KP
set_option Elab.async false
set_option linter.unusedVariables false
set_option maxRecDepth 100000
set_option maxHeartbeats 2000000
namespace KP
open PySem PySem.Spec PyProof.Rows L2 KA
mutual
def flatD : PyData → Bool
  | .tuple ds => flatAll ds
  | .list _ => false
  | .dict _ => false
  | _ => true
def flatAll : List PyData → Bool
  | [] => true
  | d :: ds => flatD d && flatAll ds
end
theorem cnt_flat {lo : Int} {d : PyData} (h : cntB lo d = true) : flatD d = true := by cases d <;> first | rfl | cases h
theorem whole_flat {lo hi : Int} {d : PyData} (h : wholeB lo hi d = true) : flatD d = true := by cases d <;> first | rfl | cases h
theorem name_flat {d : PyData} (h : nameB d = true) : flatD d = true := by cases d <;> first | rfl | cases h
theorem leaf_flat {wd : Str} : ∀ {ds : List PyData}, leafB wd ds = true → flatAll ds = true
  | [x], h => by
    have h : (if wd = "at" then cntB 0 x else if wd = "kind" then wholeB 0 5 x else (decide (wd = "name") || decide (wd = "thing")) && nameB x) = true := h
    have f : flatD x = true := by
      split at h
      · exact cnt_flat h
      · split at h
        · exact whole_flat h
        · exact name_flat (Bool.and_eq_true_iff.mp h).2
    simp only [flatAll, f, Bool.and_self]
  | [x, y], h => by
    have h : (nameB x && (if wd = "maker" then cntB 0 y else decide (wd = "eater") && wholeB 0 5 y)) = true := h
    obtain ⟨h1, h2⟩ := Bool.and_eq_true_iff.mp h
    have f : flatD y = true := by
      split at h2
      · exact cnt_flat h2
      · exact whole_flat (Bool.and_eq_true_iff.mp h2).2
    simp only [flatAll, name_flat h1, f, Bool.and_self]
  | [], h => by cases h
  | _ :: _ :: _ :: _, h => by cases h
mutual
theorem tm_flat : ∀ d : PyData, tm d = true → flatD d = true
  | .tuple [], h => by simp [tm] at h
  | .tuple (d :: ds), h => by
    cases hS : isStrD d with
    | false =>
      rw [isStr_false hS] at h
      cases h
    | true =>
      obtain ⟨wd, rfl⟩ : ∃ wd, d = .str wd := by cases d <;> first | exact ⟨_, rfl⟩ | cases hS
      cases hp : parts wd with
      | none =>
        rw [tm_leaf hp] at h
        simp only [flatD, flatAll, leaf_flat h, Bool.and_self]
      | some n =>
        rw [tm_parts hp] at h
        simp only [flatD, flatAll, tmAll_flat ds (Bool.and_eq_true_iff.mp h).2, Bool.and_self]
  | .none, h => by simp [tm] at h
  | .bool _, h => by simp [tm] at h
  | .int _, h => by simp [tm] at h
  | .str _, h => by simp [tm] at h
  | .list _, h => by simp [tm] at h
  | .dict _, h => by simp [tm] at h
theorem tmAll_flat : ∀ ds : List PyData, tmAll ds = true → flatAll ds = true
  | [], _ => rfl
  | d :: ds, h => by
    have h : tm d = true ∧ tmAll ds = true := by simpa only [tmAll, Bool.and_eq_true] using h
    simp only [flatAll, tm_flat d h.1, tmAll_flat ds h.2, Bool.and_self]
end
theorem str_ok {x : Str} (h : fine (.str x) = true) : (PyData.str x).canLay0 = true := by
  have h' : x.length ≤ 20 ∧ ∀ c ∈ x.cps.toList, c < 128 := by simpa only [fine, Bool.and_eq_true, decide_eq_true_eq, List.all_eq_true] using h
  show (x.cps.all (· < 0x110000)) = true
  rw [Array.all_eq_true_iff_forall_mem]
  intro c hc
  exact decide_eq_true (Nat.lt_trans (h'.2 c (by simpa using hc)) (by decide))
mutual
theorem lay_flat : ∀ d : PyData, flatD d = true → fine d = true → d.canLay0 = true
  | .none, _, _ => rfl
  | .bool _, _, _ => rfl
  | .int _, _, _ => rfl
  | .str x, _, h => str_ok h
  | .list _, h, _ => by simp [flatD] at h
  | .dict _, h, _ => by simp [flatD] at h
  | .tuple ds, h, f => by
    have := lay_flatAll ds (by simpa only [flatD] using h) (by simpa only [fine] using f)
    simpa only [PyData.canLay0] using this
theorem lay_flatAll : ∀ ds : List PyData, flatAll ds = true → fineAll ds = true → PyData.canLayAll0 ds = true
  | [], _, _ => rfl
  | d :: ds, h, f => by
    have h : flatD d = true ∧ flatAll ds = true := by simpa only [flatAll, Bool.and_eq_true] using h
    have f : fine d = true ∧ fineAll ds = true := by simpa only [fineAll, Bool.and_eq_true] using f
    simp only [PyData.canLayAll0, lay_flat d h.1 f.1, lay_flatAll ds h.2 f.2, Bool.and_self]
end
theorem depth_in {e : PyData} : ∀ {es : List PyData}, e ∈ es → e.depth ≤ PyData.depthAll es
  | a :: es, h => by
    show e.depth ≤ max a.depth (PyData.depthAll es)
    rcases List.mem_cons.mp h with rfl | h
    · exact Nat.le_max_left _ _
    · exact Nat.le_trans (depth_in h) (Nat.le_max_right _ _)
theorem flat_in {e : PyData} : ∀ {es : List PyData}, flatAll es = true → e ∈ es → flatD e = true
  | a :: es, f, h => by
    have f : flatD a = true ∧ flatAll es = true := by simpa only [flatAll, Bool.and_eq_true] using f
    rcases List.mem_cons.mp h with rfl | h
    · exact f.1
    · exact flat_in f.2 h
theorem fine_in {e : PyData} : ∀ {es : List PyData}, fineAll es = true → e ∈ es → fine e = true
  | a :: es, f, h => by
    have f : fine a = true ∧ fineAll es = true := by simpa only [fineAll, Bool.and_eq_true] using f
    rcases List.mem_cons.mp h with rfl | h
    · exact f.1
    · exact fine_in f.2 h
theorem shaped_flat {d : PyData} (f : flatD d = true) (g : fine d = true) (h : d.depth ≤ 64) : SeqAt.shaped d = true := by
  unfold SeqAt.shaped
  rw [Bool.and_eq_true]
  exact ⟨lay_flat d f g, decide_eq_true h⟩
theorem shaped_list {ds : List PyData} (f : flatAll ds = true) (g : fineAll ds = true) (h : PyData.depthAll ds ≤ 63) : SeqAt.shaped (.list ds) = true := by
  unfold SeqAt.shaped
  rw [Bool.and_eq_true]
  refine ⟨by simp only [PyData.canLay0, lay_flatAll ds f g], decide_eq_true ?_⟩
  show PyData.depthAll ds + 1 ≤ 64
  omega
end KP
set_option Elab.async false
set_option linter.unusedVariables false
set_option linter.unusedSectionVars false
set_option maxRecDepth 100000
set_option maxHeartbeats 1000000
namespace OW
open PySem PySem.Spec PyProof.Rows L2 KA
variable [Tbs]
/-! ### what is never reached; calls by the arguments' names -/
structure CalK (P : Program) (w : World) (K : PySem.W.Frag) (mg : Str → Option Value) (base : Heap) (k : Nat) (x : Str) (ks : List Str) (gV : List V → List V → List V) (sp : Sp) : Prop where
  ex : ∃ (f : Addr) (fd : FuncData) (ps : List Str) (g : List Value → List Value → List Value), FnOk P w K mg base CX0 k f fd ps sp ∧ mg x = some (.ref f) ∧ PySem.W.keepIn K (.ref f) = true ∧ KBinds K fd ps ks g gV
section
variable {X : Cx} {k j : Nat} {f : Addr} {fd : FuncData} {ps ks : List Str} {sp : Sp} {x : Str} {p pos : Pos} {kws : List Keyword} {tk : TA} {g : List Value → List Value → List Value} {gV : List V → List V → List V}
theorem pe_callK0 (F : FnOk X.prog X.w X.K X.mg X.base CX0 k f fd ps sp) (hr : Room k X.A) (hg : Gl X x) (hm : X.mg x = some (.ref f)) (hk : PySem.W.keepIn X.K (.ref f) = true) (hb : KBinds X.K fd ps ks g gV)
    (hkw : PK X kws tk) (hall : (backToKw pos (keywordEach kws X.env)).all (·.1.isSome) = true := by rfl) (hks : (backToKw pos (keywordEach kws X.env)).filterMap (·.1) = ks := by rfl)
    (hdb : (x == ("__debug__" : Str)) = false := by decide) (hpl : ((backTo pos (starEach [] X.env)).any (·.1) || (backToKw pos (keywordEach kws X.env)).any (·.1.isNone)) = false := by rfl) :
    PE X (.Call (.Name x p) [] kws pos) (tCallK sp gV C8.E0 tNil tk) := by
  refine ⟨fun pins s σ H Q I h => ?_⟩
  have h : tk σ H fun zs H2 => sp (gV [] zs) H2 Q C8.E0 := h
  refine wpAny_Call_Name_kw (ld_glob I hg hm ?_ hdb)
  refine PySem.W.callWith_KW0 (h₀ := X.base) I.ok.mod.kin hk hall (thn (hkw.run pos pins s σ H _ I h) fun ws s2 ⟨zs, H2, I2, rz, q2⟩ => ⟨I2.kIn, ?_⟩) hpl
  rw [hks]
  exact run_fnk (us := []) (vs := []) F hr hb pass0 I2 .nil rz q2
theorem pe_ck (c : CalK X.prog X.w X.K X.mg X.base k x ks gV sp) (hr : Room j X.A) (hk : k ≤ j) (hg : Gl X x)
    (hkw : PK X kws tk) (hall : (backToKw pos (keywordEach kws X.env)).all (·.1.isSome) = true := by rfl) (hks : (backToKw pos (keywordEach kws X.env)).filterMap (·.1) = ks := by rfl)
    (hdb : (x == ("__debug__" : Str)) = false := by decide) (hpl : ((backTo pos (starEach [] X.env)).any (·.1) || (backToKw pos (keywordEach kws X.env)).any (·.1.isNone)) = false := by rfl) :
    PE X (.Call (.Name x p) [] kws pos) (tCallK sp gV C8.E0 tNil tk) := by
  obtain ⟨f, fd, ps, g, F, hm, kp, b⟩ := c.ex
  exact pe_callK0 F (hr.mono hk) hg hm kp b hkw hall hks hdb hpl
theorem kb_of {K : PySem.W.Frag} {qual : Str} {st : Stmt} (F : Fun K x qual st f fd) (h : ∀ (kV doc pm : Value) (an : Option Addr) (cdv ct : Value) (us ws : List Value), (g us ws).length = ps.length → bindArgs (PySem.W.fnOf x qual (defArgs st) (defBody st) (defScope st) .none kV doc pm an cdv ct) ⟨us, ks.zip ws⟩ = pure (ps.zip (g us ws)))
    (rel : ∀ {vs : List V} {us : List Value} {zs : List V} {ws : List Value}, Vals vs us → Vals zs ws → Vals (gV vs zs) (g us ws)) : KBinds K fd ps ks g gV := by
  obtain ⟨oc, od, kV, doc, pm, an, cdv, ct, osl, rfl, lk, hcd⟩ := F.ex
  exact ⟨fun s us ws _ hl => .of_eq (h kV doc pm an cdv ct us ws hl), rel⟩
end
section
variable {ρ ρ' : List Sl} {tk : TA} {ss as : List Sl} {x : PyData} {gV : List V → List V → List V}
theorem ev_ck {n : Nat} {T : List Sl → (Rv → Prop) → Prop} {E : XK} (h : Es tk ρ ss ρ') (hgV : ∀ W vs, ArAll W vs ss → ArAll W (gV [] vs) as) (hn : as.length = n) (g : T as fun r => r = .d x) : Ev (tCallK (spD n T) gV E tNil tk) ρ (.d x) ρ' := fun c A σ H Q R f q =>
  h c A σ H _ R f fun vs A1 H1 R1 f1 S1 o1 => by
    refine ⟨zz c.Z A1, as, _, zz_ok R1, by rw [hz_eq]; exact hgV _ _ o1, hn, g, fun r v H' hr S o => ?_⟩
    · subst hr
      have o : Dn (hz (zz c.Z A1) H') v x := o
      rw [hz_eq] at o
      exact q v A1 H' (R1.upA S) f1 (S1.trans (vw_upA R1 S)) o
end
/-! the two orders that laws ask: f(a=..), f(b=.., a=..) -/
def g1 {α : Type} : List α → List α → List α
  | [], [a] => [a]
  | _, _ => []
def g21 {α : Type} : List α → List α → List α
  | [], [b, a] => [a, b]
  | _, _ => []
theorem g1_rel {vs : List V} {us : List Value} {zs : List V} {ws : List Value} (h : Vals vs us) (g : Vals zs ws) : Vals (g1 vs zs) (g1 us ws) := by
  cases h with
  | cons _ _ => exact .nil
  | nil => cases g with
    | nil => exact .nil
    | cons r t => cases t with
      | nil => exact .cons r .nil
      | cons _ _ => exact .nil
theorem g21_rel {vs : List V} {us : List Value} {zs : List V} {ws : List Value} (h : Vals vs us) (g : Vals zs ws) : Vals (g21 vs zs) (g21 us ws) := by
  cases h with
  | cons _ _ => exact .nil
  | nil => cases g with
    | nil => exact .nil
    | cons r t => cases t with
      | nil => exact .nil
      | cons r2 t2 => cases t2 with
        | nil => exact .cons r2 (.cons r .nil)
        | cons _ _ => exact .nil
theorem g1_ar {W : Hp} {vs : List V} {a : Sl} (h : ArAll W vs [a]) : ArAll W (g1 [] vs) [a] := by
  cases vs with
  | nil => exact h.elim
  | cons v vs => cases vs with
    | nil => exact h
    | cons _ _ => exact h.2.elim
theorem g21_ar {W : Hp} {vs : List V} {a b : Sl} (h : ArAll W vs [b, a]) : ArAll W (g21 [] vs) [a, b] := by
  cases vs with
  | nil => exact h.elim
  | cons v vs => cases vs with
    | nil => exact h.2.elim
    | cons w vs => cases vs with
      | nil => exact ⟨h.2.1, h.1, trivial⟩
      | cons _ _ => exact h.2.2.elim
end OW
set_option Elab.async false
set_option linter.unusedVariables false
set_option maxRecDepth 100000
set_option maxHeartbeats 2000000
namespace KP
open PySem PySem.Spec PyProof.Rows L2 KA OW
/-! ### terms taken apart -/
abbrev sPartsOf : Stmt := top 8
abbrev nPartsOf : List Str := ["term"]
theorem scPartsOf : FnScope nPartsOf ["term"] (defScope sPartsOf) := ⟨rfl, rfl, rfl, by decide +kernel, rfl, by decide +kernel, by decide +kernel⟩
abbrev sPassed : Stmt := top 9
abbrev nPassed : List Str := ["word", "at"]
theorem scPassed : FnScope nPassed ["word", "at"] (defScope sPassed) := ⟨rfl, rfl, rfl, by decide +kernel, rfl, by decide +kernel, by decide +kernel⟩
abbrev sInnerTerms : Stmt := top 10
abbrev nInnerTerms : List Str := ["term", "found", "waiting", "part", "above", "below", "at"]
theorem scInnerTerms : FnScope nInnerTerms ["term"] (defScope sInnerTerms) := ⟨rfl, rfl, rfl, by decide +kernel, rfl, by decide +kernel, by decide +kernel⟩
abbrev sAllSpots : Stmt := top 11
abbrev nAllSpots : List Str := ["term", "found", "waiting", "part", "spot", "below", "at"]
theorem scAllSpots : FnScope nAllSpots ["term"] (defScope sAllSpots) := ⟨rfl, rfl, rfl, by decide +kernel, rfl, by decide +kernel, by decide +kernel⟩
def partsD : PyData → List PyData
  | .tuple (.str wd :: ds) => if (parts wd).isSome = true then ds else []
  | _ => []
def passD (wd : Str) (i : Int) : Int := if i = 1 ∧ (wd = "all" ∨ wd = "fun") then 1 else 0
def wdD : PyData → Str
  | .tuple (.str wd :: _) => wd
  | _ => ""
def spotT (p : List Nat) : PyData := .tuple (p.map fun i : Nat => .int (i : Int))
/-- a part: its spot, it, how many binders stand above it -/
abbrev Row3 := List Nat × PyData × Int
mutual
def wk : PyData → List Nat → Int → List Row3
  | .tuple (.str w :: ds), p, u => (p, .tuple (.str w :: ds), u) :: (if (parts w).isSome = true then wkL ds w p u 0 else [])
  | d, p, u => [(p, d, u)]
def wkL : List PyData → Str → List Nat → Int → Nat → List Row3
  | [], _, _, _, _ => []
  | d :: ds, w, p, u, i => wk d (p ++ [i]) (u + passD w (i : Int)) ++ wkL ds w p u (i + 1)
end
def push3 : List PyData → Str → List Nat → Int → Nat → List Row3
  | [], _, _, _, _ => []
  | e :: es, w, p, u, i => (p ++ [i], e, u + passD w (i : Int)) :: push3 es w p u (i + 1)
theorem tm_shape {d : PyData} (h : tm d = true) : ∃ wd ds, d = .tuple (.str wd :: ds) := by
  cases hT : isTupD d with
  | false =>
    rw [isTup_false hT] at h
    cases h
  | true =>
    obtain ⟨ds, rfl⟩ : ∃ ds, d = .tuple ds := by cases d <;> first | exact ⟨_, rfl⟩ | cases hT
    cases ds with
    | nil => simp [tm] at h
    | cons e ds =>
      cases hS : isStrD e with
      | false =>
        rw [isStr_false hS] at h
        cases h
      | true =>
        obtain ⟨wd, rfl⟩ : ∃ wd, e = .str wd := by cases e <;> first | exact ⟨_, rfl⟩ | cases hS
        exact ⟨wd, ds, rfl⟩
theorem parts_tm {d : PyData} (h : tm d = true) : tmAll (partsD d) = true := by
  obtain ⟨wd, ds, rfl⟩ := tm_shape h
  show tmAll (if (parts wd).isSome = true then ds else []) = true
  cases hp : parts wd with
  | none => rfl
  | some n =>
    rw [tm_parts hp] at h
    simp only [Bool.and_eq_true] at h
    exact h.2
theorem tmAll_mem : ∀ {ds : List PyData} {d : PyData}, tmAll ds = true → d ∈ ds → tm d = true
  | e :: ds, d, f, h => by
    have : tm e = true ∧ tmAll ds = true := by simpa only [tmAll, Bool.and_eq_true] using f
    rcases List.mem_cons.mp h with rfl | h
    · exact this.1
    · exact tmAll_mem this.2 h
theorem wk_eq {d : PyData} (h : tm d = true) (p : List Nat) (u : Int) : wk d p u = (p, d, u) :: wkL (partsD d) (wdD d) p u 0 := by
  obtain ⟨wd, ds, rfl⟩ := tm_shape h
  show (p, PyData.tuple (.str wd :: ds), u) :: (if (parts wd).isSome = true then wkL ds wd p u 0 else []) = _ :: wkL (if (parts wd).isSome = true then ds else []) wd p u 0
  split <;> rfl
theorem wkL_push : ∀ (ds : List PyData) (w : Str) (p : List Nat) (u : Int) (i : Nat), wkL ds w p u i = (push3 ds w p u i).flatMap fun q => wk q.2.1 q.1 q.2.2
  | [], _, _, _, _ => rfl
  | d :: ds, w, p, u, i => by
    show wk d (p ++ [i]) _ ++ wkL ds w p u (i + 1) = _
    rw [wkL_push ds w p u (i + 1)]
    rfl
theorem push3_len : ∀ (ds : List PyData) (w : Str) (p : List Nat) (u : Int) (i : Nat), (push3 ds w p u i).length = ds.length
  | [], _, _, _, _ => rfl
  | _ :: ds, w, p, u, i => congrArg (· + 1) (push3_len ds w p u (i + 1))
theorem push3_at : ∀ {ds : List PyData} {w : Str} {p : List Nat} {u : Int} {i k : Nat} {e : PyData}, ds[k]? = some e → (push3 ds w p u i)[k]? = some (p ++ [i + k], e, u + passD w ((i + k : Nat) : Int))
  | d :: ds, w, p, u, i, 0, e, h => by
    cases h
    rfl
  | d :: ds, w, p, u, i, k + 1, e, h => by
    have := push3_at (w := w) (p := p) (u := u) (i := i + 1) (k := k) (ds := ds) h
    show (push3 ds w p u (i + 1))[k]? = _
    rw [this, show i + 1 + k = i + (k + 1) by omega]
theorem push3_mem : ∀ {ds : List PyData} {w : Str} {p : List Nat} {u : Int} {i : Nat} {q : Row3}, q ∈ push3 ds w p u i → q.2.1 ∈ ds
  | d :: ds, w, p, u, i, q, h => by
    rcases List.mem_cons.mp h with rfl | h
    · exact List.mem_cons_self
    · exact List.mem_cons_of_mem _ (push3_mem h)
theorem push3_plen : ∀ {ds : List PyData} {w : Str} {p : List Nat} {u : Int} {i : Nat} {q : Row3}, q ∈ push3 ds w p u i → q.1.length = p.length + 1
  | d :: ds, w, p, u, i, q, h => by
    rcases List.mem_cons.mp h with rfl | h
    · show (p ++ [i]).length = p.length + 1
      rw [List.length_append, List.length_singleton]
    · exact push3_plen h
theorem mem_nodes : ∀ {ds : List PyData} {d : PyData}, d ∈ ds → nodes d ≤ nodesAll ds
  | e :: ds, d, h => by
    show nodes d ≤ nodes e + nodesAll ds
    rcases List.mem_cons.mp h with rfl | h
    · omega
    · have := mem_nodes h
      omega
def load3 (ps : List Row3) : Nat := (ps.map fun q => nodes q.2.1).sum
theorem load3_append (a b : List Row3) : load3 (a ++ b) = load3 a + load3 b := by unfold load3; rw [List.map_append, List.sum_append]
theorem load3_rev (a : List Row3) : load3 a.reverse = load3 a := by
  unfold load3
  rw [List.map_reverse, List.sum_reverse]
theorem load3_push : ∀ (ds : List PyData) (w : Str) (p : List Nat) (u : Int) (i : Nat), load3 (push3 ds w p u i) = nodesAll ds
  | [], _, _, _, _ => rfl
  | d :: ds, w, p, u, i => by
    show nodes d + load3 (push3 ds w p u (i + 1)) = nodes d + nodesAll ds
    rw [load3_push ds w p u (i + 1)]
theorem load3_len (ps : List Row3) : ps.length ≤ load3 ps := by
  induction ps with
  | nil => exact Nat.le_refl _
  | cons q ps ih =>
    have := nodes_pos q.2.1
    show ps.length + 1 ≤ nodes q.2.1 + load3 ps
    omega
theorem parts_nodes {d : PyData} (h : tm d = true) : nodesAll (partsD d) + 1 ≤ nodes d := by
  obtain ⟨wd, ds, rfl⟩ := tm_shape h
  show nodesAll (if (parts wd).isSome = true then ds else []) + 1 ≤ nodesAll (.str wd :: ds) + 1
  have e : nodesAll (.str wd :: ds) = 1 + nodesAll ds := rfl
  split
  · omega
  · show 0 + 1 ≤ _
    omega
theorem parts_depth {d e : PyData} (h : e ∈ partsD d) (t : tm d = true) : e.depth < d.depth := by
  obtain ⟨wd, ds, rfl⟩ := tm_shape t
  have m : e ∈ ds := by
    have h : e ∈ (if (parts wd).isSome = true then ds else []) := h
    split at h
    · exact h
    · cases h
  have le : ∀ {es : List PyData}, e ∈ es → e.depth ≤ PyData.depthAll es := by
    intro es
    induction es with
    | nil => intro h; cases h
    | cons a es ih =>
      intro h
      show e.depth ≤ max a.depth (PyData.depthAll es)
      rcases List.mem_cons.mp h with rfl | h
      · exact Nat.le_max_left _ _
      · exact Nat.le_trans (ih h) (Nat.le_max_right _ _)
  have h2 : e.depth ≤ PyData.depthAll (.str wd :: ds) := le (List.mem_cons_of_mem _ m)
  show e.depth < PyData.depthAll (.str wd :: ds) + 1
  omega
section
variable {P : Program} {w : World} {K : PySem.W.Frag} {mg : Str → Option Value} {base : Heap}
theorem fv_parted {a : Addr} {z : Str} (pn : ∀ z, ∃ r, PySem.W.nsIn K a z = some r ∧ RelO ((parts z).map fun n => V.int (n : Int)) r) :
    FV2 (fun x y H Q => ∃ (z : Str) (r : Option Value), x = .str z ∧ y = .ref a ∧ PySem.W.nsIn K a z = some r ∧ Q (.bl r.isSome) H) (.d (.str z)) (.p (isV (.ref a))) (.d (.bool (parts z).isSome)) := by
  obtain ⟨r, h1, h2⟩ := pn z
  have e : r.isSome = (parts z).isSome := by
    cases hp : parts z with
    | none =>
      rw [hp] at h2
      cases r with
      | none => rfl
      | some u => exact h2.elim
    | some n =>
      rw [hp] at h2
      cases r with
      | none => exact h2.elim
      | some u => rfl
  exact fv2_s (dB (parts z).isSome) fun W H v u Q S o o' q => ⟨z, r, str_v o, isv_v o', h1, by rw [e]; exact q⟩
def tPartsOf : List Sl → (Rv → Prop) → Prop := fun as Kr => ∃ wd ds, as = [.d (.tuple (.str wd :: ds))] ∧ Kr (.d (.tuple (partsD (.tuple (.str wd :: ds)))))
theorem ok_partsof {f : Addr} {fd : FuncData} (F : Fun K "parts_of" "parts_of" sPartsOf f fd) (T : Txt K w mg) : FnOk P w K mg base CX0 1 f fd ["term"] (spD 1 tPartsOf) := by
  obtain ⟨pa, es, en, pm, PD, pn⟩ := T.parted
  refine fn_d F scPartsOf (body := fun cdv A outer s H E hr => ⟨_, pss_cons (ps_if (pt_cmpR (op_in_kd PD) (pe_ix ix_tup (pv 0) pe_int (fun _ _ => rfl)) (pe_glob (v := .ref pa) rfl pm rfl) rfl) (pss_one (ps_ret (pe_slice sl_tupA (pv 0) (po_some pe_int) po_none))) pss_nil) (pss_one (ps_ret (pe_tup pa_nil))), ?_⟩)
  rintro as Kr _ ⟨wd, ds, rfl, k⟩
  have e0 : partsD (.tuple (.str wd :: ds)) = if (parts wd).isSome = true then ds else [] := rfl
  rw [e0] at k
  refine sm_seq (sm_if (et_test (ev_op (ev_op (ev_var rfl) ev_int (fv_ixT at0)) ev_cv (fv_parted pn))) (fun h => sm_ret (ev_slA (ev_var rfl) (eo_some ev_int) eo_none) ?_) fun h => sm_next (sm_ret (ev_tup eds_nil) ?_))
  · rw [if_pos h] at k
    rw [show (1 : Int) = ((1 : Nat) : Int) from rfl, cutD_from']
    exact k
  · rw [if_neg (by rw [h]; decide)] at k
    exact k
def tPassed : List Sl → (Rv → Prop) → Prop := fun as Kr => ∃ wd i, as = [.d (.str wd), .d (.int i)] ∧ Kr (.d (.int (passD wd i)))
theorem ok_passed {f : Addr} {fd : FuncData} (F : Fun K "passed" "passed" sPassed f fd) : FnOk P w K mg base CX0 1 f fd ["word", "at"] (spD 2 tPassed) := by
  refine fn_d F scPassed (body := fun cdv A outer s H E hr => ⟨_, pss_cons (ps_if (PW.pt (pw_and (pt_cmpR op_eq (pv 1) pe_int (nomark _)) (pw_and1 (pt_cmpR op_in_seq (pv 0) (pe_tup (pa_cons pe_str (pa_cons pe_str pa_nil))) rfl)))) (pss_one (ps_ret pe_int)) pss_nil) (pss_one (ps_ret pe_int)), ?_⟩)
  rintro as Kr _ ⟨wd, i, rfl, k⟩
  refine sm_seq (sm_if (et_and (et_test (ev_op (ev_var rfl) ev_int fv_eqI)) fun _ => et_test (ev_op (ev_var rfl) (ev_tup (eds_cons ev_str (eds_cons ev_str eds_nil))) (fv_inT (bs := ["all", "fun"])))) (fun h => sm_ret ev_int ?_) fun h => sm_next (sm_ret ev_int ?_))
  · have e : passD wd i = 1 := by
      simp only [Bool.and_eq_true, decide_eq_true_eq, List.any_cons, List.any_nil, Bool.or_false, Bool.or_eq_true, beq_iff_eq] at h
      exact if_pos ⟨h.1, h.2.imp Eq.symm Eq.symm⟩
    rw [e] at k
    exact k
  · have e : passD wd i = 0 := by
      refine if_neg fun z => ?_
      have : (decide (i = 1) && (["all", "fun"] : List Str).any fun b => b == wd) = true := by
        simp only [Bool.and_eq_true, decide_eq_true_eq, List.any_cons, List.any_nil, Bool.or_false, Bool.or_eq_true, beq_iff_eq]
        exact ⟨z.1, z.2.imp Eq.symm Eq.symm⟩
      rw [h] at this
      cases this
    rw [e] at k
    exact k
/-- what stands of the walk while it goes -/
structure Wking (d : PyData) (f ps : List Row3) : Prop where
  t : ∀ q ∈ ps, tm q.2.1 = true ∧ q.1.length + nodes q.2.1 ≤ nodes d
  eq : wk d [] 0 = f ++ ps.reverse.flatMap (fun q => wk q.2.1 q.1 q.2.2)
  ln : f.length + load3 ps ≤ nodes d
theorem Wking.start {d : PyData} (td : tm d = true) : Wking d [] [([], d, 0)] where
  t q hq := by
    rw [List.mem_singleton.mp hq]
    exact ⟨td, by show 0 + nodes d ≤ nodes d; omega⟩
  eq := by
    show _ = [] ++ (wk d [] 0 ++ [])
    rw [List.append_nil, List.nil_append]
  ln := by
    show 0 + (nodes d + 0) ≤ nodes d
    omega
theorem Wking.step {d : PyData} {f qs : List Row3} {q : Row3} (h : Wking d f (qs ++ [q])) : Wking d (f ++ [q]) (qs ++ (push3 (partsD q.2.1) (wdD q.2.1) q.1 q.2.2 0).reverse) ∧ load3 (qs ++ (push3 (partsD q.2.1) (wdD q.2.1) q.1 q.2.2 0).reverse) < load3 (qs ++ [q]) ∧
    f.length + qs.length + (partsD q.2.1).length ≤ nodes d ∧ q.1.length + (partsD q.2.1).length ≤ nodes d ∧ tm q.2.1 = true := by
  obtain ⟨t, eq, ln⟩ := h
  obtain ⟨p, e, u⟩ := q
  have te : tm e = true ∧ p.length + nodes e ≤ nodes d := t _ (List.mem_append_right _ List.mem_cons_self)
  obtain ⟨te, pe⟩ := te
  have lq : load3 (qs ++ [(p, e, u)]) = load3 qs + nodes e := by
    rw [load3_append]
    rfl
  have pn := parts_nodes te
  have len1 := load3_len qs
  have pl := len_nodes (partsD e)
  have ll : load3 (qs ++ (push3 (partsD e) (wdD e) p u 0).reverse) = load3 qs + nodesAll (partsD e) := by rw [load3_append, load3_rev, load3_push]
  rw [lq] at ln
  refine ⟨⟨fun q hq => ?_, ?_, ?_⟩, ?_, ?_, ?_, te⟩
  · rcases List.mem_append.mp hq with hq | hq
    · exact t q (List.mem_append_left _ hq)
    · have hm := List.mem_reverse.mp hq
      refine ⟨tmAll_mem (parts_tm te) (push3_mem hm), ?_⟩
      have n1 : nodes q.2.1 ≤ nodesAll (partsD e) := mem_nodes (push3_mem hm)
      have l1 : q.1.length = p.length + 1 := push3_plen hm
      omega
  · rw [eq, List.reverse_append, List.reverse_append, List.reverse_reverse, List.flatMap_append, List.flatMap_append, ← wkL_push]
    show f ++ ((wk e p u ++ []) ++ _) = _
    rw [List.append_nil, wk_eq te, List.append_assoc]
    rfl
  · show (f ++ [(p, e, u)]).length + load3 (qs ++ (push3 (partsD e) (wdD e) p u 0).reverse) ≤ nodes d
    rw [ll, List.length_append, List.length_singleton]
    omega
  · show load3 (qs ++ (push3 (partsD e) (wdD e) p u 0).reverse) < _
    rw [ll, lq]
    omega
  · show f.length + qs.length + (partsD e).length ≤ nodes d
    omega
  · show p.length + (partsD e).length ≤ nodes d
    omega
theorem Wking.fin {d : PyData} {f : List Row3} (h : Wking d f []) : wk d [] 0 = f := by
  have := h.eq
  rw [show (([] : List Row3).reverse.flatMap fun q => wk q.2.1 q.1 q.2.2) = [] from rfl, List.append_nil] at this
  exact this
def rowS (r : Row3) : PyData := spotT r.1
def rowI (r : Row3) : PyData := .tuple [r.2.1, .int r.2.2]
def itemS (r : Row3) : PyData := .tuple [r.2.1, spotT r.1]
theorem spot_snoc (p : List Nat) (i : Nat) : spotT (p ++ [i]) = .tuple (p.map (fun i : Nat => PyData.int (i : Int)) ++ [.int (i : Int)]) := by
  unfold spotT
  rw [List.map_append]
  rfl
def tAllSpots : List Sl → (Rv → Prop) → Prop := fun as Kr => ∃ d, as = [.d d] ∧ tm d = true ∧ nodes d ≤ 1000000 ∧ Kr (.l ((wk d [] 0).map rowS))
def tInner : List Sl → (Rv → Prop) → Prop := fun as Kr => ∃ d, as = [.d d] ∧ tm d = true ∧ nodes d ≤ 1000000 ∧ Kr (.l ((wk d [] 0).map rowI))
theorem small {n : Nat} (h : n ≤ 1000000) : n < sizeLine := Nat.lt_of_le_of_lt h (by rw [sizeLine_eq]; decide)
theorem ok_allspots {f : Addr} {fd : FuncData} (F : Fun K "all_spots" "all_spots" sAllSpots f fd) (T : Txt K w mg) (Trev : mg "reversed" = none) (C_parts_of : C8.Cal P w K mg base 1 "parts_of" (spD 1 tPartsOf) []) : FnOk P w K mg base CX0 2 f fd ["term"] (spD 1 tAllSpots) := by
  refine fn_d F scAllSpots (body := fun cdv A outer s H E hr => ⟨_, (pss_cons (ps_set (i := 1) scAllSpots.nd rfl (Or.inl rfl) (pe_lst pa_nil))
      (pss_cons (ps_set (i := 2) scAllSpots.nd rfl (Or.inl rfl) (pe_lst (pa_cons (pe_tup (pa_cons (pv 0) (pa_cons (pe_tup pa_nil) pa_nil))) pa_nil)))
      (pss_cons (ps_while PassesOwn.never (pt_truth (pv 2) (by intro _; rfl)) (pss_cons (ps_asg (pe_bm0 PySem.F.plainAttrs_list PySem.F.slot_list_pop PySem.F.type_list_pop mt_pop (pv 2)) (pg_tup rfl (pgs_cons (pg_name (i := 3) scAllSpots.nd rfl (Or.inl rfl)) (pgs_cons (pg_name (i := 4) scAllSpots.nd rfl (Or.inl rfl)) pgs_nil))))
      (pss_cons (ps_expr (pe_bm PySem.F.plainAttrs_list PySem.F.slot_list_append PySem.F.type_list_append mt_append (pv 1) (pa_cons (pv 4) pa_nil)))
      (pss_cons (ps_set (i := 5) scAllSpots.nd rfl (Or.inl rfl) (C8.pe_c C_parts_of hr (by omega) rfl (pa_cons (pv 3) pa_nil)))
      (pss_one (ps_for PassesOwn.never rfl (pi_revR (by rfl) Trev (prg_1 (by rfl) T.range (pe_callB call_len_seq (by rfl) T.len PySem.boot_len (pa_cons (pv 5) pa_nil)))) (pg_name (i := 6) scAllSpots.nd rfl (Or.inl rfl)) (pss_one (ps_expr (pe_bm PySem.F.plainAttrs_list PySem.F.slot_list_append PySem.F.type_list_append mt_append (pv 2) (pa_cons (pe_tup (pa_cons (pe_ix ix_tup (pv 5) (pv 6) (fun _ _ => rfl)) (pa_cons (pe_tup (StX.pa_star (pv 4) (pa_cons (pv 6) pa_nil))) pa_nil))) pa_nil))))))))))
      (pss_one (ps_ret (pv 1)))))), ?_⟩)
  rintro as Kr _ ⟨d, rfl, td, nd, k⟩
  refine sm_seq (sm_setL (el_lst eds_nil) (sm_seq (sm_setL (el_lst (eds_cons (ev_tup (eds_cons (ev_var rfl) (eds_cons (ev_tup eds_nil) eds_nil))) eds_nil)) (sm_seq (sm_while
    (fun m ρ => ∃ (f ps : List Row3) (s3 s4 s5 s6 : Sl), ρ = [.d d, .l (f.map rowS), .l (ps.map itemS), s3, s4, s5, s6] ∧ Wking d f ps ∧ m = load3 ps)
    ⟨_, [], [([], d, 0)], _, _, _, _, rfl, Wking.start td, rfl⟩ ?_)))))
  rintro m ρ ⟨f, ps, s3, s4, s5, s6, rfl, wk0, rfl⟩
  refine ⟨_, _, et_truO rfl, fun h => ?_, fun h => ?_⟩
  · obtain ⟨qs, q, rfl⟩ : ∃ qs q, ps = qs ++ [q] := by
      rcases List.eq_nil_or_concat ps with rfl | ⟨qs, q, rfl⟩
      · cases h
      · exact ⟨qs, q, by simp⟩
    obtain ⟨w1, dec, l1, l2, te⟩ := wk0.step
    obtain ⟨p, e, u⟩ := q
    have te : tm e = true := te
    have l1 : f.length + qs.length + (partsD e).length ≤ nodes d := l1
    have l2 : p.length + (partsD e).length ≤ nodes d := l2
    rw [List.map_append]
    have sh := tm_shape te
    obtain ⟨wd, ds, ed⟩ := sh
    refine sm_seq (sm_asg (ev_pop (xs := qs.map itemS) (x := itemS (p, e, u)) rfl) (tg_tup (xs := [e, spotT p]) (tgs_cons tg_name (tgs_cons tg_name tgs_nil)))
      (sm_seq (sm_app rfl (ev_var rfl) rfl ?_ (sm_seq (sm_set (ev_call (x := .tuple (partsD e)) (es_cons (ev_var rfl) es_nil) ar_nil rfl ⟨wd, ds, by rw [ed]; rfl, by rw [ed]⟩)
        (sm_for (fi_revR (ev_fn (es_cons (ev_var rfl) es_nil) fv_lenT) ?_) (fun j ρ => ∃ s6, ρ = [.d d, .l ((f ++ [(p, e, u)]).map rowS), .l ((qs ++ (push3 (partsD e) (wdD e) p u 0).reverse.take j).map itemS), .d e, .d (spotT p), .d (.tuple (partsD e)), s6]) ⟨s6, ?_⟩ (fun j x ρ ex r => ?_) fun ρ r => ?_))))))
    · rw [List.length_map]
      exact small (by omega)
    · constructor <;> omega
    · rw [List.take_zero, List.append_nil, List.map_append]
      rfl
    · obtain ⟨s6, rfl⟩ := r
      have lt : j < (partsD e).length := by
        have := (List.getElem?_eq_some_iff.mp ex).1
        rw [List.length_reverse, rngD_len, Int.toNat_natCast] at this
        exact this
      rw [List.getElem?_reverse (by rw [rngD_len, Int.toNat_natCast]; exact lt), rngD_len, Int.toNat_natCast] at ex
      obtain ⟨_, rfl⟩ := rngD_at ex
      have hk := List.getElem?_eq_getElem (show (partsD e).length - 1 - j < (partsD e).length by omega)
      refine ⟨_, tg_name, sm_app rfl (ev_tup (eds_cons (ev_op (ev_var rfl) (ev_var rfl) (fv_ixT (at_nat hk))) (eds_cons (ev_tup (eds_star (ev_var rfl) (eds_cons (ev_var rfl) eds_nil)) ?_) eds_nil))) rfl ?_ ?_⟩
      · rw [List.length_append, List.length_map, List.length_singleton]
        exact Nat.le_of_lt (small (by omega))
      · rw [List.length_map, List.length_append]
        have : ((push3 (partsD e) (wdD e) p u 0).reverse.take j).length ≤ (partsD e).length := by
          rw [List.length_take, List.length_reverse, push3_len]
          omega
        exact small (by omega)
      · refine ⟨.d (.int (((partsD e).length - 1 - j : Nat) : Int)), ?_⟩
        have hp : (push3 (partsD e) (wdD e) p u 0).reverse[j]? = some (p ++ [0 + ((partsD e).length - 1 - j)], (partsD e)[(partsD e).length - 1 - j], u + passD (wdD e) ((0 + ((partsD e).length - 1 - j) : Nat) : Int)) := by
          rw [List.getElem?_reverse (by rw [push3_len]; exact lt), push3_len]
          exact push3_at hk
        rw [take_snoc hp, ← List.append_assoc, List.map_append (l₁ := qs ++ _)]
        show _ = [_, _, Sl.l (_ ++ [.tuple [_, spotT (p ++ [0 + ((partsD e).length - 1 - j)])]]), _, _, _, _]
        rw [spot_snoc, Nat.zero_add]
        rfl
    · obtain ⟨s6, rfl⟩ := r
      have full : (rngD ((partsD e).length : Int).toNat).reverse.length = (partsD e).length := by rw [List.length_reverse, rngD_len, Int.toNat_natCast]
      rw [full]
      have tk : (push3 (partsD e) (wdD e) p u 0).reverse.take (partsD e).length = (push3 (partsD e) (wdD e) p u 0).reverse := List.take_of_length_le (by rw [List.length_reverse, push3_len]; exact Nat.le_refl _)
      rw [tk]
      exact ⟨_, dec, _, _, _, _, _, _, rfl, w1, rfl⟩
  · have e0 : ps = [] := by cases ps with | nil => rfl | cons _ _ => cases h
    subst e0
    refine sm_retL (el_var rfl) ?_
    rw [wk0.fin] at k
    exact k
theorem ok_inner {f : Addr} {fd : FuncData} (F : Fun K "inner_terms" "inner_terms" sInnerTerms f fd) (T : Txt K w mg) (Trev : mg "reversed" = none) (C_parts_of : C8.Cal P w K mg base 1 "parts_of" (spD 1 tPartsOf) []) (C_passed : C8.Cal P w K mg base 1 "passed" (spD 2 tPassed) []) : FnOk P w K mg base CX0 2 f fd ["term"] (spD 1 tInner) := by
  refine fn_d F scInnerTerms (body := fun cdv A outer s H E hr => ⟨_, (pss_cons (ps_set (i := 1) scInnerTerms.nd rfl (Or.inl rfl) (pe_lst pa_nil))
      (pss_cons (ps_set (i := 2) scInnerTerms.nd rfl (Or.inl rfl) (pe_lst (pa_cons (pe_tup (pa_cons (pv 0) (pa_cons pe_int pa_nil))) pa_nil)))
      (pss_cons (ps_while PassesOwn.never (pt_truth (pv 2) (by intro _; rfl)) (pss_cons (ps_asg (pe_bm0 PySem.F.plainAttrs_list PySem.F.slot_list_pop PySem.F.type_list_pop mt_pop (pv 2)) (pg_tup rfl (pgs_cons (pg_name (i := 3) scInnerTerms.nd rfl (Or.inl rfl)) (pgs_cons (pg_name (i := 4) scInnerTerms.nd rfl (Or.inl rfl)) pgs_nil))))
      (pss_cons (ps_expr (pe_bm PySem.F.plainAttrs_list PySem.F.slot_list_append PySem.F.type_list_append mt_append (pv 1) (pa_cons (pe_tup (pa_cons (pv 3) (pa_cons (pv 4) pa_nil))) pa_nil)))
      (pss_cons (ps_set (i := 5) scInnerTerms.nd rfl (Or.inl rfl) (C8.pe_c C_parts_of hr (by omega) rfl (pa_cons (pv 3) pa_nil)))
      (pss_one (ps_for PassesOwn.never rfl (pi_revR (by rfl) Trev (prg_1 (by rfl) T.range (pe_callB call_len_seq (by rfl) T.len PySem.boot_len (pa_cons (pv 5) pa_nil)))) (pg_name (i := 6) scInnerTerms.nd rfl (Or.inl rfl)) (pss_one (ps_expr (pe_bm PySem.F.plainAttrs_list PySem.F.slot_list_append PySem.F.type_list_append mt_append (pv 2) (pa_cons (pe_tup (pa_cons (pe_ix ix_tup (pv 5) (pv 6) (fun _ _ => rfl)) (pa_cons (pe_op op_add (pv 4) (C8.pe_c C_passed hr (by omega) rfl (pa_cons (pe_ix ix_tup (pv 3) pe_int (fun _ _ => rfl)) (pa_cons (pv 6) pa_nil)))) pa_nil))) pa_nil))))))))))
      (pss_one (ps_ret (pv 1)))))), ?_⟩)
  rintro as Kr _ ⟨d, rfl, td, nd, k⟩
  refine sm_seq (sm_setL (el_lst eds_nil) (sm_seq (sm_setL (el_lst (eds_cons (ev_tup (eds_cons (ev_var rfl) (eds_cons ev_int eds_nil))) eds_nil)) (sm_seq (sm_while
    (fun m ρ => ∃ (f ps : List Row3) (s3 s4 s5 s6 : Sl), ρ = [.d d, .l (f.map rowI), .l (ps.map rowI), s3, s4, s5, s6] ∧ Wking d f ps ∧ m = load3 ps)
    ⟨_, [], [([], d, 0)], _, _, _, _, rfl, Wking.start td, rfl⟩ ?_)))))
  rintro m ρ ⟨f, ps, s3, s4, s5, s6, rfl, wk0, rfl⟩
  refine ⟨_, _, et_truO rfl, fun h => ?_, fun h => ?_⟩
  · obtain ⟨qs, q, rfl⟩ : ∃ qs q, ps = qs ++ [q] := by
      rcases List.eq_nil_or_concat ps with rfl | ⟨qs, q, rfl⟩
      · cases h
      · exact ⟨qs, q, by simp⟩
    obtain ⟨w1, dec, l1, l2, te⟩ := wk0.step
    obtain ⟨p, e, u⟩ := q
    have te : tm e = true := te
    have l1 : f.length + qs.length + (partsD e).length ≤ nodes d := l1
    rw [List.map_append]
    obtain ⟨wd, ds, rfl⟩ := tm_shape te
    have ew : wdD (.tuple (.str wd :: ds)) = wd := rfl
    rw [ew] at w1 dec
    generalize eps : partsD (.tuple (.str wd :: ds)) = es at *
    refine sm_seq (sm_asg (ev_pop (xs := qs.map rowI) (x := rowI (p, PyData.tuple (.str wd :: ds), u)) rfl) (tg_tup (xs := [.tuple (.str wd :: ds), .int u]) (tgs_cons tg_name (tgs_cons tg_name tgs_nil)))
      (sm_seq (sm_app rfl (ev_tup (eds_cons (ev_var rfl) (eds_cons (ev_var rfl) eds_nil))) rfl ?_ (sm_seq (sm_set (ev_call (x := .tuple es) (es_cons (ev_var rfl) es_nil) ar_nil rfl ⟨wd, ds, rfl, by rw [eps]⟩)
        (sm_for (fi_revR (ev_fn (es_cons (ev_var rfl) es_nil) fv_lenT) ?_) (fun j ρ => ∃ s6, ρ = [.d d, .l ((f ++ [(p, PyData.tuple (.str wd :: ds), u)]).map rowI), .l ((qs ++ (push3 es wd p u 0).reverse.take j).map rowI), .d (.tuple (.str wd :: ds)), .d (.int u), .d (.tuple es), s6]) ⟨s6, ?_⟩ (fun j x ρ ex r => ?_) fun ρ r => ?_))))))
    · rw [List.length_map]
      exact small (by omega)
    · constructor <;> omega
    · rw [List.take_zero, List.append_nil, List.map_append]
      rfl
    · obtain ⟨s6, rfl⟩ := r
      have lt : j < es.length := by
        have := (List.getElem?_eq_some_iff.mp ex).1
        rw [List.length_reverse, rngD_len, Int.toNat_natCast] at this
        exact this
      rw [List.getElem?_reverse (by rw [rngD_len, Int.toNat_natCast]; exact lt), rngD_len, Int.toNat_natCast] at ex
      obtain ⟨_, rfl⟩ := rngD_at ex
      have hk := List.getElem?_eq_getElem (show es.length - 1 - j < es.length by omega)
      refine ⟨_, tg_name, sm_app rfl (ev_tup (eds_cons (ev_op (ev_var rfl) (ev_var rfl) (fv_ixT (at_nat hk))) (eds_cons (ev_op (ev_var rfl) (ev_call (es_cons (ev_op (ev_var rfl) ev_int (fv_ixT at0)) (es_cons (ev_var rfl) es_nil)) ar_nil rfl ⟨_, _, rfl, rfl⟩) fv_int) eds_nil))) rfl ?_ ?_⟩
      · rw [List.length_map, List.length_append]
        have : ((push3 es wd p u 0).reverse.take j).length ≤ es.length := by
          rw [List.length_take, List.length_reverse, push3_len]
          omega
        exact small (by omega)
      · refine ⟨.d (.int ((es.length - 1 - j : Nat) : Int)), ?_⟩
        have hp : (push3 es wd p u 0).reverse[j]? = some (p ++ [0 + (es.length - 1 - j)], es[es.length - 1 - j], u + passD wd ((0 + (es.length - 1 - j) : Nat) : Int)) := by
          rw [List.getElem?_reverse (by rw [push3_len]; exact lt), push3_len]
          exact push3_at hk
        rw [take_snoc hp, ← List.append_assoc, List.map_append (l₁ := qs ++ _), Nat.zero_add]
        rfl
    · obtain ⟨s6, rfl⟩ := r
      have full : (rngD (es.length : Int).toNat).reverse.length = es.length := by rw [List.length_reverse, rngD_len, Int.toNat_natCast]
      rw [full]
      have tk : (push3 es wd p u 0).reverse.take es.length = (push3 es wd p u 0).reverse := List.take_of_length_le (by rw [List.length_reverse, push3_len]; exact Nat.le_refl _)
      rw [tk]
      refine ⟨_, dec, _, _, _, _, _, _, rfl, ?_, rfl⟩
      exact w1
  · have e0 : ps = [] := by cases ps with | nil => rfl | cons _ _ => cases h
    subst e0
    refine sm_retL (el_var rfl) ?_
    rw [wk0.fin] at k
    exact k
end
end KP
set_option Elab.async false
set_option linter.unusedVariables false
set_option linter.unusedSectionVars false
set_option maxRecDepth 100000
set_option maxHeartbeats 4000000
namespace OW
open PySem PySem.Spec PyProof.Rows L2 KA
variable [Tbs]
/-! ### a tuple so many times, also none or once -/
theorem tuple_mul1 (l : Addr) (items : Array Value) (n : Nat) (dd : Option Addr) (sl : Array (Option Value)) (u : Tok) :
    Meets (Builtin.«tuple.__mul__» ⟨[.ref l, .int 1 u], []⟩) (fun _ R s => s.heap.get? l = some { cls := .type "tuple", dict := dd, data := .seq items n, slots := sl } ∧ R (.ok (.ret (.ref l))) s) :=
  .of_wp fun prog w A R s h => by
    obtain ⟨hp, g, d, tk, os⟩ := s
    obtain ⟨hl, h⟩ := h
    have f1 := AutoSeq1.idx_int
    have c1 : (items.isEmpty || (1 : Int) == 1) = true := by rw [show ((1 : Int) == 1) = true from rfl, Bool.or_true]
    wp_walk using wpAny_loadPart' hl
    repeat (first
      | (refine wpAny_ite_false (decide_eq_false (by decide)) ?_; wp_walk using wpAny_loadPart' hl)
      | (refine wpAny_ite_true (decide_eq_true c1) ?_; wp_walk using wpAny_loadPart' hl))
    exact ⟨_, rfl, h⟩
theorem tuple_mul0 (l : Addr) (items : Array Value) (n : Nat) (dd : Option Addr) (sl : Array (Option Value)) (u : Tok) (hi : items.isEmpty = false) :
    Meets (Builtin.«tuple.__mul__» ⟨[.ref l, .int 0 u], []⟩) (fun _ R s => s.heap.get? l = some { cls := .type "tuple", dict := dd, data := .seq items n, slots := sl } ∧
      R (.ok (.ret (Value.ref s.heap.objs.size))) { s with heap := s.heap.push { cls := Value.type "tuple", data := Data.seq #[] }, toks := s.toks }) :=
  .of_wp fun prog w A R s h => by
    obtain ⟨hp, g, d, tk, os⟩ := s
    obtain ⟨hl, h⟩ := h
    have f1 := AutoSeq1.idx_int
    have c1 : (items.isEmpty || (0 : Int) == 1) = false := by rw [hi]; rfl
    have c2 : (decide ((0 : Int) ≤ 0) || items.isEmpty) = true := rfl
    wp_walk using wpAny_loadPart' hl
    repeat (first
      | (refine wpAny_ite_false (decide_eq_false (by decide)) ?_; wp_walk using wpAny_loadPart' hl)
      | (refine wpAny_ite_false (decide_eq_false (by rw [c1]; exact Bool.false_ne_true)) ?_; wp_walk using wpAny_loadPart' hl)
      | (refine wpAny_ite_true (decide_eq_true c2) ?_; wp_walk using wpAny_loadPart' hl))
    exact ⟨_, rfl, h⟩
def rRepA (K : PySem.W.Frag) : R2 := fun x y H Q => ∃ l k xs, x = .ref l ∧ y = .int k ∧ SqT K H l xs ∧ xs ≠ [] ∧ 0 ≤ k ∧ k ≤ 1000 ∧ xs.length ≤ 1000 ∧ (k = 1 → Q (.ref l) H) ∧ (k ≠ 1 → ∀ p, H p = none → Q (.ref p) (upd H p (.tup (List.replicate k.toNat xs).flatten)))
section
variable {X : Cx}
theorem op_repA : OpR X (binaryOp .Mult) (rRepA X.K) := by
  intro pins s σ H x y v u Q I rx ry h
  obtain ⟨l, k, xs, rfl, rfl, hT, hne, h1, h2, hz, q1, q2⟩ := h
  by_cases k2 : 2 ≤ k
  · exact op_repT pins s σ H _ _ v u Q I rx ry ⟨l, k, xs, rfl, rfl, hT, hne, k2, h2, hz, q2 (by omega)⟩
  cases rx
  obtain ⟨t, rfl⟩ := ry
  obtain ⟨its, r, ⟨⟨cls, dd, data, sl⟩, ho, hc, n, hd⟩, hs⟩ := I.tuple hT
  simp only at hc hd
  subst hc hd
  have hle : its.length = xs.length := r.length.symm
  have hn : its ≠ [] := fun e => hne (by
    rw [e] at hle
    exact List.eq_nil_of_length_eq_zero hle.symm)
  have hi : its.toArray.isEmpty = false := by
    cases its with
    | nil => exact absurd rfl hn
    | cons a b => rfl
  by_cases k1 : k = 1
  · subst k1
    refine wpAny_binaryOp_repeat_ref (T := "tuple") (U := "int") (by decide) ⟨_, ho, rfl⟩ (fun s' => typeIs_int s' 1 t) noFill_tuple_mul F.fills_int_mul F.slot_int_rmul repeat_tuple F.slot_int_index.lookup
      (call_meets F.slot_int_rmul (typeIs_int s 1 t) F.entry_int_rmul (F.args_int_rmul_2 _ _) (int_rmul_tuple 1 t l its.toArray n dd sl)
        ⟨ho, rfl, ⟨_, ho, rfl⟩, call_meets F.slot_tuple_mul ⟨_, ho, rfl⟩ F.entry_tuple_mul (F.args_tuple_mul_2 _ _) (tuple_mul1 l its.toArray n dd sl t) ⟨ho, ?_⟩⟩)
    exact ⟨.ref l, H, I, rfl, q1 rfl⟩
  · obtain rfl : k = 0 := by omega
    refine wpAny_binaryOp_repeat_ref (T := "tuple") (U := "int") (by decide) ⟨_, ho, rfl⟩ (fun s' => typeIs_int s' 0 t) noFill_tuple_mul F.fills_int_mul F.slot_int_rmul repeat_tuple F.slot_int_index.lookup
      (call_meets F.slot_int_rmul (typeIs_int s 0 t) F.entry_int_rmul (F.args_int_rmul_2 _ _) (int_rmul_tuple 0 t l its.toArray n dd sl)
        ⟨ho, rfl, ⟨_, ho, rfl⟩, call_meets F.slot_tuple_mul ⟨_, ho, rfl⟩ F.entry_tuple_mul (F.args_tuple_mul_2 _ _) (tuple_mul0 l its.toArray n dd sl t hi) ⟨ho, ?_⟩⟩)
    refine ⟨.ref s.heap.objs.size, _, I.laid (t' := s.toks) (o := .tup (List.replicate (0 : Int).toNat xs).flatten) (fun b ob q => Heap.get?_push_of_some _ q) (Nat.le_refl _) ?_, rfl, q2 (by decide) _ (I.hok.fresh (Nat.le_refl _))⟩
    exact ⟨by show 0 ≤ sizeLine; exact Nat.zero_le _, _, .nil, IsTup.new _ _⟩
end
section
variable {KF : PySem.W.Frag} {xs : List PyData}
theorem fv_repA {n : Int} (h : xs ≠ [] ∧ 0 ≤ n ∧ n ≤ 1000 ∧ xs.length ≤ 1000) : FV2 (rRepA KF) (.d (.tuple xs)) (.d (.int n)) (.d (.tuple (List.replicate n.toNat xs).flatten)) := fun W H v w Q S o o' q => by
  obtain rfl := int_v o'
  obtain ⟨a, vs, rfl, e, dx⟩ := tup_v o
  refine ⟨a, n, vs, rfl, rfl, SqT.of (S _ _ e), fun z => ?_, h.2.1, h.2.2.1, by rw [dx.length]; exact h.2.2.2, fun z => ?_, fun z p hp => ?_⟩
  · subst z
    cases dx
    exact h.1 rfl
  · subst z
    refine q _ _ (Same.refl _) fun W' S1 S2 => ?_
    have : (List.replicate (1 : Int).toNat xs).flatten = xs := by
      show xs ++ [] = xs
      rw [List.append_nil]
    rw [this]
    exact Dn.mono S1 o
  · refine q _ _ (Same.new hp) fun W' S' nw => .tup (nw _ _ hp upd_same) (DnAll.mono S' ?_)
    have : ∀ m : Nat, DnAll W (List.replicate m vs).flatten (List.replicate m xs).flatten := fun m => by
      induction m with
      | zero => exact .nil
      | succ m ih => exact dx.append ih
    exact this _
end
end OW
set_option Elab.async false
set_option linter.unusedVariables false
set_option maxRecDepth 100000
set_option maxHeartbeats 2000000
namespace KP
open PySem PySem.Spec PyProof.Rows L2 KA OW
/-! ### where a thing grows: the program -/
abbrev sGivenAll : Stmt := top 15
abbrev nGivenAll : List Str := ["head", "some", "made", "term"]
theorem scGivenAll : FnScope nGivenAll ["head", "some"] (defScope sGivenAll) := ⟨rfl, rfl, rfl, by decide +kernel, rfl, by decide +kernel, by decide +kernel⟩
abbrev sPlaces : Stmt := top 19
abbrev nPlaces : List Str := ["many", "inward", "at"]
theorem scPlaces : FnScope nPlaces ["many", "inward"] (defScope sPlaces) := ⟨rfl, rfl, rfl, by decide +kernel, rfl, by decide +kernel, by decide +kernel⟩
abbrev sWantWhole : Stmt := top 30
abbrev nWantWhole : List Str := ["thing", "low", "high"]
theorem scWantWhole : FnScope nWantWhole ["thing", "low", "high"] (defScope sWantWhole) := ⟨rfl, rfl, rfl, by decide +kernel, rfl, by decide +kernel, by decide +kernel⟩
abbrev sWantRowOfThing : Stmt := top 38
abbrev nWantRowOfThing : List Str := ["row"]
theorem scWantRowOfThing : FnScope nWantRowOfThing ["row"] (defScope sWantRowOfThing) := ⟨rfl, rfl, rfl, by decide +kernel, rfl, by decide +kernel, by decide +kernel⟩
abbrev sWantMaker : Stmt := top 39
abbrev nWantMaker : List Str := ["row", "maker"]
theorem scWantMaker : FnScope nWantMaker ["row", "maker"] (defScope sWantMaker) := ⟨rfl, rfl, rfl, by decide +kernel, rfl, by decide +kernel, by decide +kernel⟩
abbrev sBounded : Stmt := top 45
abbrev nBounded : List Str := ["row", "head", "inward"]
theorem scBounded : FnScope nBounded ["row", "head", "inward"] (defScope sBounded) := ⟨rfl, rfl, rfl, by decide +kernel, rfl, by decide +kernel, by decide +kernel⟩
abbrev sSayingsAndEnd : Stmt := top 18
abbrev nSayingsAndEnd : List Str := ["term", "sayings", "end"]
theorem scSayingsAndEnd : FnScope nSayingsAndEnd ["term"] (defScope sSayingsAndEnd) := ⟨rfl, rfl, rfl, by decide +kernel, rfl, by decide +kernel, by decide +kernel⟩
abbrev sSayingsIfGrown : Stmt := top 47
abbrev nSayingsIfGrown : List Str := ["row", "argument", "saying", "sayings", "end"]
theorem scSayingsIfGrown : FnScope nSayingsIfGrown ["row", "argument", "saying"] (defScope sSayingsIfGrown) := ⟨rfl, rfl, rfl, by decide +kernel, rfl, by decide +kernel, by decide +kernel⟩
abbrev sStraySpot : Stmt := top 48
abbrev nStraySpot : List Str := ["row", "argument", "saying", "sayings", "grown", "spot", "part", "_"]
theorem scStraySpot : FnScope nStraySpot ["row", "argument", "saying"] (defScope sStraySpot) := ⟨rfl, rfl, rfl, by decide +kernel, rfl, by decide +kernel, by decide +kernel⟩
abbrev sOwnArguments : Stmt := top 46
abbrev nOwnArguments : List Str := ["row", "maker", "found", "argument", "saying", "sayings"]
theorem scOwnArguments : FnScope nOwnArguments ["row", "maker"] (defScope sOwnArguments) := ⟨rfl, rfl, rfl, by decide +kernel, rfl, by decide +kernel, by decide +kernel⟩
abbrev sUngrown : Stmt := top 40
abbrev nUngrown : List Str := ["row", "maker", "sayings", "argument", "saying", "spot"]
theorem scUngrown : FnScope nUngrown ["row"] (defScope sUngrown) := ⟨rfl, rfl, rfl, by decide +kernel, rfl, by decide +kernel, by decide +kernel⟩
abbrev sOwns : Stmt := top 41
abbrev nOwns : List Str := ["row", "maker"]
theorem scOwns : FnScope nOwns ["row", "maker"] (defScope sOwns) := ⟨rfl, rfl, rfl, by decide +kernel, rfl, by decide +kernel, by decide +kernel⟩
def atD (n : Int) : PyData := .tuple [.str "at", .int n]
def plcs (n : Nat) (i : Int) : List PyData := (rngD n).reverse.map fun d => match d with | .int k => atD (i + k) | d => d
def tGivenAll : List Sl → (Rv → Prop) → Prop := fun as Kr => ∃ h ss, as = [.d h, .d (.list ss)] ∧ Kr (.d (givenD h ss))
def tPlaces : List Sl → (Rv → Prop) → Prop := fun as Kr => ∃ (n : Nat) (i : Int), as = [.d (.int (n : Int)), .d (.int i)] ∧ n ≤ 1000000 ∧ Kr (.d (.list (plcs n i)))
/-- a row of a thing, by its parts -/
structure RwOk (x : Str) (h : Int) (es : List PyData) (fs : List (List PyData)) : Prop where
  b : rowB (.tuple [.str "thing", .str x, .int h, .tuple es, .tuple (fs.map .tuple)]) = true
  ok : okT (.tuple [.str "thing", .str x, .int h, .tuple es, .tuple (fs.map .tuple)])
  dp : (PyData.tuple [.str "thing", .str x, .int h, .tuple es, .tuple (fs.map .tuple)]).depth ≤ 50
abbrev rwT (x : Str) (h : Int) (es : List PyData) (fs : List (List PyData)) : PyData := .tuple [.str "thing", .str x, .int h, .tuple es, .tuple (fs.map .tuple)]
def tWantW : List Sl → (Rv → Prop) → Prop := fun as Kr => ∃ z lo hi, as = [.d (.int z), .d (.int lo), .d (.int hi)] ∧ lo ≤ z ∧ z ≤ hi ∧ Kr (.d .none)
def tWantR : List Sl → (Rv → Prop) → Prop := fun as Kr => ∃ x h es fs, as = [.d (rwT x h es fs)] ∧ RwOk x h es fs ∧ Kr (.d .none)
def tWantM : List Sl → (Rv → Prop) → Prop := fun as Kr => ∃ x h es fs m, as = [.d (rwT x h es fs), .d (.int m)] ∧ RwOk x h es fs ∧ 0 ≤ m ∧ m < fs.length ∧ Kr (.d .none)
def tBounded : List Sl → (Rv → Prop) → Prop := fun as Kr => ∃ x h es fs hd i, as = [.d (rwT x h es fs), .d hd, .d (.int i)] ∧ RwOk x h es fs ∧ Kr (.d (givenD hd (plcs es.length i)))
theorem RwOk.len {x : Str} {h : Int} {es : List PyData} {fs : List (List PyData)} (r : RwOk x h es fs) : es.length ≤ 1000000 ∧ fs.length ≤ 1000000 := by
  have h1 := okT_len (okT_mem r.ok (x := .tuple es) (by simp))
  have h2 := okT_len (okT_mem r.ok (x := .tuple (fs.map .tuple)) (by simp))
  rw [List.length_map] at h2
  exact ⟨h1, h2⟩
section
variable {P : Program} {w : World} {K : PySem.W.Frag} {mg : Str → Option Value} {base : Heap}
theorem ok_givenall {f : Addr} {fd : FuncData} (F : Fun K "given_all" "given_all" sGivenAll f fd) (T : Txt K w mg) : FnOk P w K mg base CX0 1 f fd ["head", "some"] (spD 2 tGivenAll) := by
  refine fn_d F scGivenAll (body := fun cdv A outer s H E hr => ⟨_, (pss_cons (ps_set (i := 2) scGivenAll.nd rfl (Or.inl rfl) (pv 0))
      (pss_cons (ps_for PassesOwn.never rfl (pi_list (pv 1)) (pg_name (i := 3) scGivenAll.nd rfl (Or.inl rfl)) (pss_one (ps_set (i := 2) scGivenAll.nd rfl (Or.inl rfl) (pe_tup (pa_cons pe_str (pa_cons (pv 2) (pa_cons (pv 3) pa_nil)))))))
      (pss_one (ps_ret (pv 2))))), ?_⟩)
  rintro as Kr _ ⟨h, ss, rfl, k⟩
  refine (sm_seq (sm_set (ev_var rfl) (sm_seq (sm_for (fi_list (ev_var rfl)) (fun j ρ => ∃ s3, ρ = [.d h, .d (.list ss), .d (givenD h (ss.take j)), s3]) ⟨_, rfl⟩ (fun j x ρ e r => ?_) (fun ρ r => ?_)))))
  · obtain ⟨s3, rfl⟩ := r
    refine ⟨_, tg_name, (sm_set (ev_tup (eds_cons ev_str (eds_cons (ev_var rfl) (eds_cons (ev_var rfl) eds_nil)))) ?_)⟩
    refine ⟨.d x, ?_⟩
    rw [take_snoc e]
    unfold givenD
    rw [List.foldl_append]
    rfl
  · obtain ⟨s3, rfl⟩ := r
    rw [List.take_length]
    exact sm_ret (ev_var rfl) k
theorem ok_places {f : Addr} {fd : FuncData} (F : Fun K "places" "places" sPlaces f fd) (T : Txt K w mg) (Trev : mg "reversed" = none) : FnOk P w K mg base CX0 1 f fd ["many", "inward"] (spD 2 tPlaces) := by
  refine fn_d F scPlaces (body := fun cdv A outer s H E hr => ⟨_, (pss_one (ps_ret (pe_lc (own := [("at", 2)]) (g := gName 2) (tt := tYes) rfl scPlaces.nd (pi_revR (by rfl) Trev (prg_1 (by rfl) T.range (pv 0))) (blkOk_by (N := nPlaces) (sc := defScope sPlaces) (by decide +kernel)) (fun _ _ _ _ _ => (pg_name (i := 2) scPlaces.nd rfl (Or.inl rfl))) (fun _ _ _ _ _ => pts_nil) (fun _ _ _ _ _ => (pe_tup (pa_cons pe_str (pa_cons (pe_op op_add (pv 1) (pv 2)) pa_nil))))))), ?_⟩)
  rintro as Kr _ ⟨n, i, rfl, hn, k⟩
  refine (sm_ret (Ev.of_el (el_lcM (f := fun d => match d with | .int k => atD (i + k) | d => d) (fi_revR (ev_var rfl) (by constructor <;> omega)) ⟨⟨.un, rfl, trivial⟩, trivial⟩ ?_ (fun x hx => ⟨_, tgw_name, ?_, rfl, ⟨⟨_, rfl, trivial⟩, trivial⟩⟩))) k)
  · rw [List.length_reverse, rngD_len, Int.toNat_natCast, sizeLine_eq]
    omega
  · obtain ⟨j, hj⟩ := List.getElem?_of_mem (List.mem_reverse.mp hx)
    obtain ⟨_, rfl⟩ := rngD_at hj
    exact (ev_tup (eds_cons ev_str (eds_cons (ev_op (ev_var rfl) (ev_var rfl) fv_int) eds_nil)))
theorem ok_wantwhole {f : Addr} {fd : FuncData} (F : Fun K "want_whole" "want_whole" sWantWhole f fd) (T : Txt K w mg) (C_is_whole : C8.Cal P w K mg base 2 "is_whole" spWhole []) : FnOk P w K mg base CX0 3 f fd ["thing", "low", "high"] (spD 3 tWantW) := by
  refine fn_d F scWantWhole (body := fun cdv A outer s H E hr => ⟨_, (pss_one (ps_if (pt_not (pt_val (C8.pe_c C_is_whole hr (by omega) rfl (pa_cons (pv 0) (pa_cons (pv 1) (pa_cons (pv 2) pa_nil)))))) (pss_one ps_never) pss_nil)), ?_⟩)
  rintro as Kr _ ⟨z, lo, hi, rfl, h0, h1, k⟩
  refine (sm_if (b := false) (Et.is (et_not (et_B (ev_whole (es_cons (ev_var rfl) (es_cons (ev_var rfl) (es_cons (ev_var rfl) es_nil)))))) ?_) (fun h => by cases h) (fun h => (sm_next k)))
  show (!(decide (lo ≤ z) && decide (z ≤ hi))) = false
  rw [decide_eq_true h0, decide_eq_true h1]
  rfl
theorem ok_wantrow {f : Addr} {fd : FuncData} (F : Fun K "_want_row_of_thing" "_want_row_of_thing" sWantRowOfThing f fd) (T : Txt K w mg) (C_is_row : C8.Cal P w K mg base 7 "is_row" (spD 1 tIsRow) []) : FnOk P w K mg base CX0 8 f fd ["row"] (spD 1 tWantR) := by
  refine fn_d F scWantRowOfThing (body := fun cdv A outer s H E hr => ⟨_, (pss_one (ps_if (PW.pt (pw_or (pt_not (pt_val (C8.pe_c C_is_row hr (by omega) rfl (pa_cons (pv 0) pa_nil)))) (pw_or1 (pt_cmpR op_ne (pe_ix ix_tup (pv 0) pe_int (fun _ _ => rfl)) pe_str (nomark _))))) (pss_one ps_never) pss_nil)), ?_⟩)
  rintro as Kr _ ⟨x, h, es, fs, rfl, r, k⟩
  refine (sm_if (b := false) (Et.is (et_or (et_not (et_B (ev_call (es_cons (ev_var rfl) es_nil) ar_nil rfl ⟨_, rfl, r.ok, rfl⟩))) fun _ => (et_test (ev_op (ev_op (ev_var rfl) ev_int (fv_ixT at0)) ev_str fv_neS))) ?_) (fun h => by cases h) (fun h => (sm_next k)))
  rw [r.b]
  rfl
theorem ok_wantmaker {f : Addr} {fd : FuncData} (F : Fun K "_want_maker" "_want_maker" sWantMaker f fd) (T : Txt K w mg) (C_want_row_of_thing : C8.Cal P w K mg base 8 "_want_row_of_thing" (spD 1 tWantR) []) (C_want_whole : C8.Cal P w K mg base 3 "want_whole" (spD 3 tWantW) []) : FnOk P w K mg base CX0 9 f fd ["row", "maker"] (spD 2 tWantM) := by
  refine fn_d F scWantMaker (body := fun cdv A outer s H E hr => ⟨_, (pss_cons (ps_expr (C8.pe_c C_want_row_of_thing hr (by omega) rfl (pa_cons (pv 0) pa_nil)))
      (pss_one (ps_expr (C8.pe_c C_want_whole hr (by omega) rfl (pa_cons (pv 1) (pa_cons pe_int (pa_cons (pe_op op_sub (pe_callB call_len_seq (by rfl) T.len PySem.boot_len (pa_cons (pe_ix ix_tup (pv 0) pe_int (fun _ _ => rfl)) pa_nil)) pe_int) pa_nil))))))), ?_⟩)
  rintro as Kr _ ⟨x, h, es, fs, m, rfl, r, m0, m1, k⟩
  refine (sm_seq (sm_drop (ev_call (x := .none) (es_cons (ev_var rfl) es_nil) ar_nil rfl ⟨_, _, _, _, rfl, r, rfl⟩) (sm_drop (ev_call (x := .none) (es_cons (ev_var rfl) (es_cons ev_int (es_cons (ev_op (ev_fn (es_cons (ev_op (ev_var rfl) ev_int (fv_ixT (at_nat (j := 4) rfl))) es_nil) fv_lenT) ev_int fv_int) es_nil))) ar_nil rfl ⟨_, _, _, rfl, m0, ?_, rfl⟩) k)))
  rw [List.length_map]
  omega
theorem ok_bounded {f : Addr} {fd : FuncData} (F : Fun K "bounded" "bounded" sBounded f fd) (T : Txt K w mg) (C_given_all : C8.Cal P w K mg base 1 "given_all" (spD 2 tGivenAll) []) (C_places : C8.Cal P w K mg base 1 "places" (spD 2 tPlaces) []) : FnOk P w K mg base CX0 2 f fd ["row", "head", "inward"] (spD 3 tBounded) := by
  refine fn_d F scBounded (body := fun cdv A outer s H E hr => ⟨_, (pss_one (ps_ret (C8.pe_c C_given_all hr (by omega) rfl (pa_cons (pv 1) (pa_cons (C8.pe_c C_places hr (by omega) rfl (pa_cons (pe_callB call_len_seq (by rfl) T.len PySem.boot_len (pa_cons (pe_ix ix_tup (pv 0) pe_int (fun _ _ => rfl)) pa_nil)) (pa_cons (pv 2) pa_nil))) pa_nil))))), ?_⟩)
  rintro as Kr _ ⟨x, h, es, fs, hd, i, rfl, r, k⟩
  exact (sm_ret (ev_call (es_cons (ev_var rfl) (es_cons (ev_call (es_cons (ev_fn (es_cons (ev_op (ev_var rfl) ev_int (fv_ixT at3)) es_nil) fv_lenT) (es_cons (ev_var rfl) es_nil)) ar_nil rfl ⟨_, _, rfl, r.len.1, rfl⟩) es_nil)) ar_nil rfl ⟨_, _, rfl, rfl⟩) k)
end
/-- what stands between, and what stands behind all of it -/
def untie : PyData → List PyData × PyData
  | .tuple [.str w, a, b] => if w = "all" then (a :: (untie b).1, (untie b).2) else ([], .tuple [.str w, a, b])
  | d => ([], d)
theorem untie_all (a b : PyData) : untie (.tuple [.str "all", a, b]) = (a :: (untie b).1, (untie b).2) := rfl
theorem untie_else {w : Str} {ds : List PyData} (h : w ≠ "all") : untie (.tuple (.str w :: ds)) = ([], .tuple (.str w :: ds)) := by
  match ds with
  | [] => rfl
  | [_] => rfl
  | [a, b] =>
    show (if w = "all" then _ else _) = _
    rw [if_neg h]
  | _ :: _ :: _ :: _ => rfl
theorem all_shape {ds : List PyData} (h : tm (.tuple (.str "all" :: ds)) = true) : ∃ a b, ds = [a, b] ∧ tm a = true ∧ tm b = true := by
  rw [tm_parts (n := 2) (by decide +kernel)] at h
  obtain ⟨h1, h2⟩ := Bool.and_eq_true_iff.mp h
  match ds, h1, h2 with
  | [a, b], _, h2 =>
    have h2 : (tm a && (tm b && true)) = true := h2
    simp only [Bool.and_eq_true] at h2
    exact ⟨a, b, rfl, h2.1, h2.2.1⟩
  | [], h1, _ => exact absurd h1 (by simp)
  | [_], h1, _ => exact absurd h1 (by simp)
  | _ :: _ :: _ :: _, h1, _ => exact absurd h1 (by simp)
/-- a saying -/
structure SyOk (d : PyData) : Prop where
  t : tm d = true
  ok : okT d
  dp : d.depth ≤ 60
theorem SyOk.all {a b : PyData} (h : SyOk (.tuple [.str "all", a, b])) : SyOk b := by
  obtain ⟨h1, h2, h3⟩ := h
  obtain ⟨a', b', e, _, tb⟩ := all_shape h1
  cases e
  refine ⟨tb, okT_mem h2 (by simp), ?_⟩
  have : max (PyData.str "all").depth (max a.depth (max b.depth 0)) + 1 ≤ 60 := h3
  omega
theorem SyOk.shaped {d : PyData} (h : SyOk d) : SeqAt.shaped d = true := shaped_flat (tm_flat _ h.t) h.ok.1 (Nat.le_trans h.dp (by decide))
theorem SyOk.untie : ∀ (n : Nat) {d : PyData}, d.depth ≤ n → SyOk d → SyOk (untie d).2 ∧ (untie d).1.length ≤ n
  | 0, d, l, h => by
    obtain ⟨w, ds, rfl⟩ := tm_shape h.t
    have l : PyData.depthAll (.str w :: ds) + 1 ≤ 0 := l
    omega
  | n + 1, d, l, h => by
    obtain ⟨w, ds, rfl⟩ := tm_shape h.t
    by_cases hw : w = "all"
    · subst hw
      obtain ⟨a, b, rfl, ta, tb⟩ := all_shape h.t
      have l' : max (PyData.str "all").depth (max a.depth (max b.depth 0)) + 1 ≤ n + 1 := l
      obtain ⟨h1, h2⟩ := SyOk.untie n (d := b) (by omega) h.all
      rw [untie_all]
      exact ⟨h1, Nat.succ_le_succ h2⟩
    · rw [untie_else hw]
      exact ⟨h, Nat.zero_le _⟩
theorem giv_bd : ∀ {ss : List PyData} {h : PyData} {m s : Nat}, 1 ≤ m → tm h = true → Bd m s h → (∀ t ∈ ss, tm t = true ∧ Bd 1 1000 t) → tm (givenD h ss) = true ∧ Bd (m + ss.length) (s + ss.length * 1300) (givenD h ss)
  | [], h, m, s, _, t, b, _ => ⟨t, b.mono (Nat.le_refl _) (Nat.le_add_right _ _)⟩
  | t :: ss, h, m, s, l, th, b, hs => by
    obtain ⟨tt, bt⟩ := hs t List.mem_cons_self
    have tn : tm (.tuple [.str "app", h, t]) = true := by
      rw [tm_parts (n := 2) (by decide +kernel)]
      simp only [tmAll, th, tt]
      rfl
    have bn : Bd (m + 1) (s + 1300) (.tuple [.str "app", h, t]) := (Bd.tup (BdAll.cons ((Bd.str (x := "app") (by decide +kernel)).mono (Nat.zero_le _) (Nat.le_refl _)) (BdAll.cons b (BdAll.one (bt.mono l (Nat.le_refl _)))))).mono (Nat.le_refl _) (by omega)
    obtain ⟨g1, g2⟩ := giv_bd (ss := ss) (h := .tuple [.str "app", h, t]) (m := m + 1) (s := s + 1300) (by omega) tn bn fun t m => hs t (List.mem_cons_of_mem _ m)
    exact ⟨g1, g2.mono (by rw [List.length_cons]; omega) (by rw [List.length_cons]; omega)⟩
theorem at_ok {i : Int} (h0 : 0 ≤ i) (h1 : i ≤ 1000000) : tm (atD i) = true ∧ Bd 1 1000 (atD i) := by
  refine ⟨?_, leaf_b (by decide +kernel) (BdAll.one (Bd.int (by omega))) (by decide)⟩
  show tm (.tuple [.str "at", _]) = true
  rw [tm_leaf (by decide +kernel)]
  exact decide_eq_true h0
theorem plcs_len (n : Nat) (i : Int) : (plcs n i).length = n := by
  unfold plcs
  rw [List.length_map, List.length_reverse, rngD_len]
theorem plcs_mem {n : Nat} {i : Int} {d : PyData} (h : d ∈ plcs n i) : ∃ k : Nat, k < n ∧ d = atD (i + (k : Int)) := by
  unfold plcs at h
  obtain ⟨x, hx, rfl⟩ := List.mem_map.mp h
  obtain ⟨j, hj⟩ := List.getElem?_of_mem (List.mem_reverse.mp hx)
  obtain ⟨lt, rfl⟩ := rngD_at hj
  exact ⟨j, lt, rfl⟩
theorem thing_ok {x : Str} (hx : nameX x = true) : tm (thingD x) = true ∧ Bd 1 1000 (thingD x) := by
  refine ⟨?_, leaf_b (by decide +kernel) (BdAll.one (name_b hx)) (by decide)⟩
  show tm (.tuple [.str "thing", _]) = true
  rw [tm_leaf (by decide +kernel)]
  exact hx
/-- the thing, given its bounds -/
def endP (x : Str) (n : Nat) (i : Int) : PyData := givenD (thingD x) (plcs n i)
theorem endP_ok {x : Str} (hx : nameX x = true) {n : Nat} {i : Int} (hn : n ≤ 3) (h0 : 0 ≤ i) (h1 : i ≤ 1000) : tm (endP x n i) = true ∧ Bd 4 4900 (endP x n i) := by
  obtain ⟨t, b⟩ := thing_ok hx
  obtain ⟨g1, g2⟩ := giv_bd (ss := plcs n i) (Nat.le_refl 1) t b fun t m => by
    obtain ⟨k, lt, rfl⟩ := plcs_mem m
    exact at_ok (by omega) (by omega)
  rw [plcs_len] at g2
  exact ⟨g1, g2.mono (by omega) (by omega)⟩
theorem endP_shaped {x : Str} (hx : nameX x = true) {n : Nat} {i : Int} (hn : n ≤ 3) (h0 : 0 ≤ i) (h1 : i ≤ 1000) : SeqAt.shaped (endP x n i) = true := by
  obtain ⟨t, b⟩ := endP_ok hx hn h0 h1
  exact shaped_flat (tm_flat _ t) b.1 (Nat.le_trans b.2.1 (by decide))
theorem RwOk.parts {x : Str} {h : Int} {es : List PyData} {fs : List (List PyData)} (r : RwOk x h es fs) : nameX x = true ∧ es.length ≤ 3 ∧ tmAll es = true ∧ fs.length ≤ 5 ∧ ∀ gs ∈ fs, gs.length ≤ 4 ∧ tmAll gs = true := by
  have b : (nameX x && (if isS (.str "thing") "thing" = true then (wholeB 0 5 (.int h) && areT 3 (.tuple es) && makB (.tuple (fs.map .tuple))) else _)) = true := r.b
  rw [if_pos (by decide)] at b
  simp only [Bool.and_eq_true] at b
  obtain ⟨b1, ⟨_, b3⟩, b4⟩ := b
  have b3 : (decide ((es.length : Int) ≤ 3) && tmAll es) = true := b3
  have b4 : (decide (((fs.map PyData.tuple).length : Int) ≤ 5) && (fs.map PyData.tuple).all (areT 4)) = true := b4
  simp only [Bool.and_eq_true, decide_eq_true_eq, List.length_map] at b3 b4
  refine ⟨b1, by omega, b3.2, by omega, fun gs hg => ?_⟩
  have := List.all_eq_true.mp b4.2 (.tuple gs) (List.mem_map.mpr ⟨gs, hg, rfl⟩)
  have this : (decide ((gs.length : Int) ≤ 4) && tmAll gs) = true := this
  simp only [Bool.and_eq_true, decide_eq_true_eq] at this
  exact ⟨by omega, this.2⟩
theorem RwOk.saying {x : Str} {h : Int} {es : List PyData} {fs : List (List PyData)} (r : RwOk x h es fs) {gs : List PyData} (hg : gs ∈ fs) {d : PyData} (hd : d ∈ gs) : SyOk d := by
  have e1 : PyData.tuple gs ∈ fs.map PyData.tuple := List.mem_map.mpr ⟨gs, hg, rfl⟩
  refine ⟨tmAll_mem ((r.parts.2.2.2.2 gs hg).2) hd, okT_mem (okT_mem (okT_mem r.ok (x := .tuple (fs.map .tuple)) (by simp)) e1) hd, ?_⟩
  have h1 := depth_in hd
  have h2 := depth_in e1
  have h3 := r.dp
  have h2 : PyData.depthAll gs + 1 ≤ PyData.depthAll (fs.map PyData.tuple) := h2
  have h4 := depth_in (e := PyData.tuple (fs.map PyData.tuple)) (es := [.str "thing", .str x, .int h, .tuple es, .tuple (fs.map .tuple)]) (by simp)
  have h4 : PyData.depthAll (fs.map PyData.tuple) + 1 ≤ _ := h4
  have h3 : PyData.depthAll [.str "thing", .str x, .int h, .tuple es, .tuple (fs.map .tuple)] + 1 ≤ 50 := h3
  omega
def tUntie : List Sl → (Rv → Prop) → Prop := fun as Kr => ∃ d, as = [.d d] ∧ SyOk d ∧ Kr (.d (.tuple [.list (untie d).1, (untie d).2]))
section
variable {P : Program} {w : World} {K : PySem.W.Frag} {mg : Str → Option Value} {base : Heap}
theorem ok_untie {f : Addr} {fd : FuncData} (F : Fun K "sayings_and_end" "sayings_and_end" sSayingsAndEnd f fd) (T : Txt K w mg) : FnOk P w K mg base CX0 1 f fd ["term"] (spD 1 tUntie) := by
  refine fn_d F scSayingsAndEnd (body := fun cdv A outer s H E hr => ⟨_, (pss_cons (ps_set (i := 1) scSayingsAndEnd.nd rfl (Or.inl rfl) (pe_lst pa_nil))
      (pss_cons (ps_set (i := 2) scSayingsAndEnd.nd rfl (Or.inl rfl) (pv 0))
      (pss_cons (ps_while PassesOwn.never (pt_cmpR op_eq (pe_ix ix_tup (pv 2) pe_int (fun _ _ => rfl)) pe_str (nomark _)) (pss_cons (ps_expr (pe_bm PySem.F.plainAttrs_list PySem.F.slot_list_append PySem.F.type_list_append mt_append (pv 1) (pa_cons (pe_ix ix_tup (pv 2) pe_int (fun _ _ => rfl)) pa_nil)))
      (pss_one (ps_set (i := 2) scSayingsAndEnd.nd rfl (Or.inl rfl) (pe_ix ix_tup (pv 2) pe_int (fun _ _ => rfl))))))
      (pss_one (ps_ret (pe_tup (pa_cons (pv 1) (pa_cons (pv 2) pa_nil)))))))), ?_⟩)
  rintro as Kr _ ⟨d, rfl, sy, k⟩
  have sl0 := (SyOk.untie 60 sy.dp sy).2
  refine (sm_seq (sm_setL (el_lst eds_nil) (sm_seq (sm_set (ev_var rfl) (sm_seq (sm_while (fun m ρ => ∃ f e, ρ = [.d d, .l f, .d e] ∧ SyOk e ∧ untie d = (f ++ (untie e).1, (untie e).2) ∧ m = e.depth) ⟨_, [], d, rfl, sy, rfl, rfl⟩ ?_)))))) 
  rintro m ρ ⟨f, e, rfl, se, eq, rfl⟩
  obtain ⟨wd, ds, rfl⟩ := tm_shape se.t
  refine ⟨decide (wd = "all"), _, (et_test (ev_op (ev_op (ev_var rfl) ev_int (fv_ixT at0)) ev_str fv_eqS)), fun h => ?_, fun h => ?_⟩
  · obtain rfl := of_decide_eq_true h
    obtain ⟨a, b, rfl, ta, tb⟩ := all_shape se.t
    rw [untie_all] at eq
    have lf : f.length ≤ 60 := by
      rw [eq] at sl0
      simp only [List.length_append] at sl0
      omega
    refine (sm_seq (sm_app rfl (ev_op (ev_var rfl) ev_int (fv_ixT at1)) rfl (small (by omega)) (sm_set (ev_op (ev_var rfl) ev_int (fv_ixT at2)) ?_)))
    refine ⟨_, ?_, f ++ [a], b, rfl, se.all, ?_, rfl⟩
    · show b.depth < max (PyData.str "all").depth (max a.depth (max b.depth 0)) + 1
      omega
    · rw [eq, List.append_assoc]
      rfl
  · have hw : wd ≠ "all" := of_decide_eq_false h
    rw [untie_else hw, List.append_nil] at eq
    rw [eq] at k
    exact sm_ret (ev_tup (eds_cons (ev_varF rfl) (eds_cons (ev_var rfl) eds_nil))) k
end
end KP
set_option Elab.async false
set_option linter.unusedVariables false
set_option maxRecDepth 100000
set_option maxHeartbeats 2000000
namespace KP
open PySem PySem.Spec PyProof.Rows L2 KA OW
/-! ### where a thing grows, and where it strays -/
def growD (x : Str) (nb i : Nat) (d : PyData) : Option (List PyData) := if PyData.eqv (untie d).2 (endP x nb ((i : Int) + ((untie d).1.length : Int))) = true then some (untie d).1 else none
def optL : Option (List PyData) → PyData | none => .none | some ss => .list ss
def goodS (nb : Nat) (ss : List PyData) : List Nat := List.replicate ss.length 1 ++ List.replicate nb 0
def goodD (nb : Nat) : Option (List PyData) → PyData | none => .none | some ss => spotT (goodS nb ss)
def ownP (x : Str) : PyData → Bool
  | .tuple (.str w :: .str y :: _) => ((["thing", "maker", "eater"] : List Str).any fun b => b == w) && decide (y = x)
  | _ => false
def strayP (x : Str) (nb i : Nat) (d : PyData) (r : Row3) : Bool := ownP x r.2.1 && !PyData.eqv (spotT r.1) (goodD nb (growD x nb i d))
def strayR (x : Str) (nb i : Nat) (d : PyData) : Option Row3 := (wk d [] 0).find? (strayP x nb i d)
def optS : Option Row3 → PyData | none => .none | some r => spotT r.1
theorem find_at {α : Type} {p : α → Bool} : ∀ {xs : List α} {j : Nat} {r : α}, (∀ y ∈ xs.take j, p y = false) → xs[j]? = some r → p r = true → xs.find? p = some r
  | x :: xs, 0, r, _, h, pr => by
    cases h
    rw [List.find?_cons, pr]
  | x :: xs, j + 1, r, n, h, pr => by
    rw [List.find?_cons, n x (by simp)]
    exact find_at (fun y m => n y (by rw [List.take_succ_cons]; exact List.mem_cons_of_mem _ m)) h pr
  | [], _, _, _, h, _ => by cases h
theorem find_no {α : Type} {p : α → Bool} {xs : List α} (h : ∀ y ∈ xs, p y = false) : xs.find? p = none := by
  rw [List.find?_eq_none]
  intro y m z
  rw [h y m] at z
  cases z
theorem take_more {α : Type} {P : α → Prop} {xs : List α} {j : Nat} {r : α} (h : ∀ y ∈ xs.take j, P y) (e : xs[j]? = some r) (pr : P r) : ∀ y ∈ xs.take (j + 1), P y := by
  rw [take_snoc e]
  intro y m
  rcases List.mem_append.mp m with m | m
  · exact h y m
  · rw [List.mem_singleton.mp m]
    exact pr
theorem rep_flat {α : Type} (a : α) : ∀ n : Nat, (List.replicate n [a]).flatten = List.replicate n a
  | 0 => rfl
  | n + 1 => by
    rw [List.replicate_succ, List.replicate_succ, List.flatten_cons, rep_flat a n]
    rfl
theorem spot_flat (p : List Nat) : flatD (spotT p) = true := by
  show flatAll (p.map fun i : Nat => PyData.int (i : Int)) = true
  induction p with
  | nil => rfl
  | cons a p ih =>
    rw [List.map_cons]
    simp only [flatAll, ih]
    rfl
theorem spot_bd (p : List Nat) (h : ∀ i ∈ p, i ≤ 1000000) : fine (spotT p) = true ∧ (spotT p).depth ≤ 1 := by
  have : fineAll (p.map fun i : Nat => PyData.int (i : Int)) = true ∧ PyData.depthAll (p.map fun i : Nat => PyData.int (i : Int)) = 0 := by
    induction p with
    | nil => exact ⟨rfl, rfl⟩
    | cons a p ih =>
      obtain ⟨h1, h2⟩ := ih fun i m => h i (List.mem_cons_of_mem _ m)
      have := h a List.mem_cons_self
      rw [List.map_cons]
      refine ⟨?_, ?_⟩
      · simp only [fineAll, h1, Bool.and_true]
        exact (Bd.int (i := (a : Int)) (by omega)).1
      · show max (PyData.int (a : Int)).depth _ = 0
        rw [h2]
        rfl
  refine ⟨by simpa only [fine, spotT] using this.1, ?_⟩
  show PyData.depthAll _ + 1 ≤ 1
  rw [this.2]
  exact Nat.le_refl _
theorem spot_shaped {p : List Nat} (h : ∀ i ∈ p, i ≤ 1000000) : SeqAt.shaped (spotT p) = true := shaped_flat (spot_flat p) (spot_bd p h).1 (Nat.le_trans (spot_bd p h).2 (by decide))
theorem good_shaped {nb : Nat} {o : Option (List PyData)} : SeqAt.shaped (goodD nb o) = true := by
  cases o with
  | none => rfl
  | some ss =>
    refine spot_shaped fun i m => ?_
    rcases List.mem_append.mp m with m | m
    · rw [(List.mem_replicate.mp m).2]
      decide
    · rw [(List.mem_replicate.mp m).2]
      decide
/-- the rows of a walk -/
structure WkOk (d : PyData) (r : Row3) : Prop where
  t : tm r.2.1 = true
  p : ∀ i ∈ r.1, i ≤ 1000000
mutual
theorem wk_ok : ∀ (d : PyData) (p : List Nat) (u : Int), tm d = true → (∀ i ∈ p, i ≤ 1000000) → nodes d ≤ 1000000 → ∀ r ∈ wk d p u, tm r.2.1 = true ∧ ∀ i ∈ r.1, i ≤ 1000000
  | .tuple (.str w :: ds), p, u, t, hp, hn, r, h => by
    rw [wk_eq t] at h
    rcases List.mem_cons.mp h with rfl | h
    · exact ⟨t, hp⟩
    · have e0 : partsD (.tuple (.str w :: ds)) = if (parts w).isSome = true then ds else [] := rfl
      have nn : nodesAll (.str w :: ds) + 1 ≤ 1000000 := hn
      have nn : 1 + nodesAll ds + 1 ≤ 1000000 := nn
      have tp := parts_tm t
      rw [e0] at h tp
      split at h
      · rename_i c
        rw [if_pos c] at tp
        exact wkL_ok ds _ p u 0 tp hp (by have := len_nodes ds; omega) (by omega) r h
      · cases h
  | .tuple [], p, u, t, _, _, _, _ => by simp [tm] at t
  | .tuple (.none :: _), p, u, t, _, _, _, _ => by simp [tm] at t
  | .tuple (.bool _ :: _), p, u, t, _, _, _, _ => by simp [tm] at t
  | .tuple (.int _ :: _), p, u, t, _, _, _, _ => by simp [tm] at t
  | .tuple (.tuple _ :: _), p, u, t, _, _, _, _ => by simp [tm] at t
  | .tuple (.list _ :: _), p, u, t, _, _, _, _ => by simp [tm] at t
  | .tuple (.dict _ :: _), p, u, t, _, _, _, _ => by simp [tm] at t
  | .none, p, u, t, _, _, _, _ => by simp [tm] at t
  | .bool _, p, u, t, _, _, _, _ => by simp [tm] at t
  | .int _, p, u, t, _, _, _, _ => by simp [tm] at t
  | .str _, p, u, t, _, _, _, _ => by simp [tm] at t
  | .list _, p, u, t, _, _, _, _ => by simp [tm] at t
  | .dict _, p, u, t, _, _, _, _ => by simp [tm] at t
theorem wkL_ok : ∀ (ds : List PyData) (w : Str) (p : List Nat) (u : Int) (i : Nat), tmAll ds = true → (∀ i ∈ p, i ≤ 1000000) → i + ds.length ≤ 1000000 → nodesAll ds ≤ 1000000 → ∀ r ∈ wkL ds w p u i, tm r.2.1 = true ∧ ∀ i ∈ r.1, i ≤ 1000000
  | [], _, _, _, _, _, _, _, _, _, h => by cases h
  | d :: ds, w, p, u, i, t, hp, hi, hn, r, h => by
    have t : tm d = true ∧ tmAll ds = true := by simpa only [tmAll, Bool.and_eq_true] using t
    have hn : nodes d + nodesAll ds ≤ 1000000 := hn
    have hi : i + (ds.length + 1) ≤ 1000000 := hi
    have h : r ∈ wk d (p ++ [i]) (u + passD w (i : Int)) ++ wkL ds w p u (i + 1) := h
    rcases List.mem_append.mp h with h | h
    · refine wk_ok d _ _ t.1 (fun k m => ?_) (by omega) r h
      rcases List.mem_append.mp m with m | m
      · exact hp k m
      · rw [List.mem_singleton.mp m]
        omega
    · exact wkL_ok ds w p u (i + 1) t.2 hp (by omega) (by omega) r h
end
theorem SyOk.wk {d : PyData} (h : SyOk d) {r : Row3} (m : r ∈ wk d [] 0) : tm r.2.1 = true ∧ SeqAt.shaped (spotT r.1) = true := by
  obtain ⟨h1, h2⟩ := wk_ok d [] 0 h.t (fun i m => by cases m) h.ok.2 r m
  exact ⟨h1, spot_shaped h2⟩
/-- of what begins with one of the three words the second is a text -/
theorem own_shape {w : Str} {ds : List PyData} (t : tm (.tuple (.str w :: ds)) = true) (h : ((["thing", "maker", "eater"] : List Str).any fun b => b == w) = true) : ∃ y rest, ds = .str y :: rest := by
  have hw : w = "thing" ∨ w = "maker" ∨ w = "eater" := by
    simp only [List.any_cons, List.any_nil, Bool.or_false, Bool.or_eq_true, beq_iff_eq] at h
    rcases h with h | h | h
    · exact Or.inl h.symm
    · exact Or.inr (Or.inl h.symm)
    · exact Or.inr (Or.inr h.symm)
  have hp : parts w = none := by rcases hw with rfl | rfl | rfl <;> decide +kernel
  rw [tm_leaf hp] at t
  have nm : ∀ {e : PyData}, nameB e = true → ∃ y, e = .str y := fun {e} h => by cases e <;> first | exact ⟨_, rfl⟩ | cases h
  match ds, t with
  | [a], t =>
    have t : (if w = "at" then cntB 0 a else if w = "kind" then wholeB 0 5 a else (decide (w = "name") || decide (w = "thing")) && nameB a) = true := t
    rw [if_neg (by rcases hw with rfl | rfl | rfl <;> decide), if_neg (by rcases hw with rfl | rfl | rfl <;> decide)] at t
    obtain ⟨y, rfl⟩ := nm (Bool.and_eq_true_iff.mp t).2
    exact ⟨y, [], rfl⟩
  | [a, b], t =>
    have t : (nameB a && (if w = "maker" then cntB 0 b else decide (w = "eater") && wholeB 0 5 b)) = true := t
    obtain ⟨y, rfl⟩ := nm (Bool.and_eq_true_iff.mp t).1
    exact ⟨y, [b], rfl⟩
  | [], t => cases t
  | _ :: _ :: _ :: _, t => cases t
/-- all that strays, with its numbers -/
def candA (x : Str) (nb m : Nat) (gs : List PyData) : List PyData := gs.zipIdx.flatMap fun p => match strayR x nb p.2 p.1 with
  | none => []
  | some r => [.tuple [.int (m : Int), .int (p.2 : Int), spotT r.1]]
def candM (x : Str) (nb : Nat) (fs : List (List PyData)) : List PyData := fs.zipIdx.flatMap fun p => candA x nb p.2 p.1
def headD : List PyData → PyData | [] => .none | c :: _ => c
/-- the own ones, with what stands between -/
def ownsD (x : Str) (nb : Nat) (gs : List PyData) : List PyData := gs.zipIdx.flatMap fun p => match growD x nb p.2 p.1 with
  | none => []
  | some ss => if (strayR x nb p.2 p.1).isNone = true then [.tuple [.int (p.2 : Int), .list ss]] else []
theorem zipIdx_take {α : Type} {xs : List α} {j : Nat} {x : α} (e : xs[j]? = some x) : (xs.take (j + 1)).zipIdx = (xs.take j).zipIdx ++ [(x, j)] := by
  have lt := (List.getElem?_eq_some_iff.mp e).1
  rw [take_snoc e, List.zipIdx_append]
  have : 0 + (xs.take j).length = j := by rw [List.length_take]; omega
  rw [this]
  rfl
theorem candA_snoc {x : Str} {nb m : Nat} {gs : List PyData} {j : Nat} {d : PyData} (e : gs[j]? = some d) : candA x nb m (gs.take (j + 1)) = candA x nb m (gs.take j) ++ (match strayR x nb j d with | none => [] | some r => [.tuple [.int (m : Int), .int (j : Int), spotT r.1]]) := by
  unfold candA
  rw [zipIdx_take e, List.flatMap_append]
  simp only [List.flatMap_cons, List.flatMap_nil, List.append_nil]
theorem candM_snoc {x : Str} {nb : Nat} {fs : List (List PyData)} {j : Nat} {gs : List PyData} (e : fs[j]? = some gs) : candM x nb (fs.take (j + 1)) = candM x nb (fs.take j) ++ candA x nb j gs := by
  unfold candM
  rw [zipIdx_take e, List.flatMap_append]
  simp only [List.flatMap_cons, List.flatMap_nil, List.append_nil]
theorem ownsD_snoc {x : Str} {nb : Nat} {gs : List PyData} {j : Nat} {d : PyData} (e : gs[j]? = some d) : ownsD x nb (gs.take (j + 1)) = ownsD x nb (gs.take j) ++ (match growD x nb j d with | none => [] | some ss => if (strayR x nb j d).isNone = true then [.tuple [.int (j : Int), .list ss]] else []) := by
  unfold ownsD
  rw [zipIdx_take e, List.flatMap_append]
  simp only [List.flatMap_cons, List.flatMap_nil, List.append_nil]
theorem split_at {α : Type} {xs : List α} {j : Nat} {x : α} (e : xs[j]? = some x) : xs = xs.take (j + 1) ++ xs.drop (j + 1) := (List.take_append_drop _ _).symm
theorem candA_head {x : Str} {nb m : Nat} {gs : List PyData} {j : Nat} {d : PyData} {r : Row3} (e : gs[j]? = some d) (h0 : candA x nb m (gs.take j) = []) (hr : strayR x nb j d = some r) : ∃ cs, candA x nb m gs = .tuple [.int (m : Int), .int (j : Int), spotT r.1] :: cs := by
  have h1 := candA_snoc (x := x) (nb := nb) (m := m) e
  rw [h0, hr] at h1
  have : candA x nb m gs = candA x nb m (gs.take (j + 1)) ++ ((gs.drop (j + 1)).zipIdx (gs.take (j + 1)).length).flatMap fun p => match strayR x nb p.2 p.1 with
      | none => []
      | some r => [.tuple [.int (m : Int), .int (p.2 : Int), spotT r.1]] := by
    conv => lhs; rw [split_at e]
    unfold candA
    rw [List.zipIdx_append, List.flatMap_append, Nat.zero_add]
  rw [this, h1]
  exact ⟨_, rfl⟩
theorem candM_head {x : Str} {nb : Nat} {fs : List (List PyData)} {j : Nat} {gs cs : List PyData} {c : PyData} (e : fs[j]? = some gs) (h0 : candM x nb (fs.take j) = []) (hc : candA x nb j gs = c :: cs) : headD (candM x nb fs) = c := by
  have h1 := candM_snoc (x := x) (nb := nb) e
  rw [h0, hc] at h1
  have : candM x nb fs = candM x nb (fs.take (j + 1)) ++ ((fs.drop (j + 1)).zipIdx (fs.take (j + 1)).length).flatMap fun p => candA x nb p.2 p.1 := by
    conv => lhs; rw [split_at e]
    unfold candM
    rw [List.zipIdx_append, List.flatMap_append, Nat.zero_add]
  rw [this, h1]
  rfl
def tGrow : List Sl → (Rv → Prop) → Prop := fun as Kr => ∃ x h es fs i d, as = [.d (rwT x h es fs), .d (.int ((i : Nat) : Int)), .d d] ∧ RwOk x h es fs ∧ SyOk d ∧ i ≤ 100 ∧ Kr (.d (optL (growD x es.length i d)))
def tStray : List Sl → (Rv → Prop) → Prop := fun as Kr => ∃ x h es fs i d, as = [.d (rwT x h es fs), .d (.int ((i : Nat) : Int)), .d d] ∧ RwOk x h es fs ∧ SyOk d ∧ i ≤ 100 ∧ Kr (.d (optS (strayR x es.length i d)))
def tOwnArgs : List Sl → (Rv → Prop) → Prop := fun as Kr => ∃ x h es fs m gs, as = [.d (rwT x h es fs), .d (.int ((m : Nat) : Int))] ∧ RwOk x h es fs ∧ fs[m]? = some gs ∧ Kr (.l (ownsD x es.length gs))
def tUngrown : List Sl → (Rv → Prop) → Prop := fun as Kr => ∃ x h es fs, as = [.d (rwT x h es fs)] ∧ RwOk x h es fs ∧ Kr (.d (headD (candM x es.length fs)))
theorem noneD_optL {o : Option (List PyData)} : noneD (optL o) = o.isNone := by cases o <;> rfl
theorem noneD_optS {o : Option Row3} : noneD (optS o) = o.isNone := by cases o <;> rfl
section
variable {P : Program} {w : World} {K : PySem.W.Frag} {mg : Str → Option Value} {base : Heap}
theorem ok_grow {f : Addr} {fd : FuncData} (F : Fun K "_sayings_if_grown" "_sayings_if_grown" sSayingsIfGrown f fd) (T : Txt K w mg) (C_sayings_and_end : C8.Cal P w K mg base 1 "sayings_and_end" (spD 1 tUntie) []) (C_bounded : C8.Cal P w K mg base 2 "bounded" (spD 3 tBounded) []) : FnOk P w K mg base CX0 3 f fd ["row", "argument", "saying"] (spD 3 tGrow) := by
  refine fn_d F scSayingsIfGrown (body := fun cdv A outer s H E hr => ⟨_, by
    have hu : (A.deeper (envOfC "_sayings_if_grown" (defScope sSayingsIfGrown) s.heap.objs.size f cdv)).units + 64 < cLine := by have := hr.un; omega
    exact (pss_cons (ps_asg (C8.pe_c C_sayings_and_end hr (by omega) rfl (pa_cons (pv 2) pa_nil)) (pg_tup rfl (pgs_cons (pg_name (i := 3) scSayingsIfGrown.nd rfl (Or.inl rfl)) (pgs_cons (pg_name (i := 4) scSayingsIfGrown.nd rfl (Or.inl rfl)) pgs_nil))))
      (pss_cons (ps_if (pt_cmpR (KA.op_eqD hu) (pv 4) (C8.pe_c C_bounded hr (by omega) rfl (pa_cons (pv 0) (pa_cons (pe_tup (pa_cons pe_str (pa_cons (pe_ix ix_tup (pv 0) pe_int (fun _ _ => rfl)) pa_nil))) (pa_cons (pe_op op_add (pv 1) (pe_callB call_len_seq (by rfl) T.len PySem.boot_len (pa_cons (pv 3) pa_nil))) pa_nil)))) (nomark _)) (pss_one (ps_ret (pv 3))) pss_nil) (pss_one (ps_ret pe_non)))), ?_⟩)
  rintro as Kr _ ⟨x, h, es, fs, i, d, rfl, r, sy, hi, k⟩
  obtain ⟨hx, le, _⟩ := r.parts
  obtain ⟨s1, s2⟩ := SyOk.untie 60 sy.dp sy
  have sh := endP_shaped hx le (i := (i : Int) + ((untie d).1.length : Int)) (by omega) (by omega)
  refine (sm_seq (sm_asg (ev_call (es_cons (ev_var rfl) es_nil) ar_nil rfl ⟨_, rfl, sy, rfl⟩) (tg_tup (xs := [.list (untie d).1, (untie d).2]) (tgs_cons tg_name (tgs_cons tg_name tgs_nil))) (sm_seq (sm_if (et_test (ev_op (ev_var rfl) (ev_call (x := endP x es.length ((i : Int) + ((untie d).1.length : Int))) (es_cons (ev_var rfl) (es_cons (ev_tup (eds_cons ev_str (eds_cons (ev_op (ev_var rfl) ev_int (fv_ixT at1)) eds_nil))) (es_cons (ev_op (ev_var rfl) (ev_fn (es_cons (ev_var rfl) es_nil) fv_lenL) fv_int) es_nil))) ar_nil rfl ⟨_, _, _, _, _, _, rfl, r, rfl⟩) (fv_eqD s1.shaped sh))) (fun h => (sm_ret (ev_var rfl) ?_)) (fun h => (sm_next (sm_ret ev_non ?_)))))))
  · have h : PyData.eqv (untie d).2 (endP x es.length ((i : Int) + ((untie d).1.length : Int))) = true := h
    unfold growD at k
    rw [if_pos h] at k
    exact k
  · have h : PyData.eqv (untie d).2 (endP x es.length ((i : Int) + ((untie d).1.length : Int))) = false := h
    unfold growD at k
    rw [if_neg (by rw [h]; decide)] at k
    exact k
end
end KP
set_option Elab.async false
set_option linter.unusedVariables false
set_option linter.unusedSectionVars false
set_option maxRecDepth 100000
set_option maxHeartbeats 4000000
/-! ### a tuple, numbered -/
namespace OWT
open PySem
open PySem.Sem (wp)
open AutoSeq1 (wpAny_loadPart')
theorem enum_new_tup (t : Addr) (items : Array Value) (n : Nat) (dct : Option Addr) (sl : Array (Option Value)) :
    Meets (Builtin.«enumerate.__new__» ⟨[.type "enumerate", .ref t], []⟩) (fun _ R s => s.heap.get? t = some { cls := .type "tuple", dict := dct, data := .seq items n, slots := sl } ∧
      R (.ok (.ret (.ref (s.heap.push { cls := .type "tuple_iterator", data := .fields #[.ref t, .int 0 0] }).objs.size)))
        { s with heap := (s.heap.push { cls := .type "tuple_iterator", data := .fields #[.ref t, .int 0 0] }).push { cls := .type "enumerate", data := .fields #[.none, .bool false, .ref s.heap.objs.size, rawInt 0, .none, .none] } }) :=
  .of_wp fun prog w A R s h => by
    obtain ⟨hp, g, d, tk, os⟩ := s
    obtain ⟨ht, h⟩ := h
    have sub := sub_enumerate
    have isT : Heap.IsTuple (Shared.heap ⟨hp, g, d, tk, os⟩) t items := ⟨_, ht, rfl, n, rfl⟩
    wp_walk using wpAny_loadPart' ht
    refine wpAny_stack_any fun st => wpAny_pure ?_
    split
    · rename_i c _ _ _ _ _
      cases (c == Value.type "enumerate") <;> (wp_walk using wpAny_loadPart' ht, wpAny_pyIter_tuple isT; exact ⟨_, rfl, h⟩)
    · wp_walk using wpAny_loadPart' ht, wpAny_pyIter_tuple isT
      exact ⟨_, rfl, h⟩
section
variable {prog : Program} {w : World} {A : Around} {E : Value → Shared → Prop} {s : Shared}
theorem call_enum_tup {t : Addr} {items : Array Value} {Q : Value → Shared → Prop} (isT : s.heap.IsTuple t items)
    (h : ∀ h', IsEnum h' (s.heap.objs.size + 1) s.heap.objs.size 0 .none → h'.IsTupleIter s.heap.objs.size t 0 → h'.objs.size = s.heap.objs.size + 2 →
      (∀ b o, s.heap.get? b = some o → h'.get? b = some o) → Q (.ref (s.heap.objs.size + 1)) { s with heap := h' }) :
    wpAny (model prog w) A (call (.type "enumerate") [.ref t]) Q E s := by
  obtain ⟨⟨c, dct, dt, sl⟩, ht, hc, n, hd⟩ := isT
  obtain rfl : c = .type "tuple" := hc
  obtain rfl : dt = .seq items n := hd
  refine callType_new F.called_enumerate (by decide) (F.typeCall_enumerate_1 _) (F.newCall_enumerate_1 _) (fun obj => F.args_object_init_2 obj _) F.entry_enumerate_new (enum_new_tup t items n dct sl) ⟨ht, ?_⟩
  have hz : (s.heap.push { cls := .type "tuple_iterator", data := .fields #[.ref t, .int 0 0] }).objs.size = s.heap.objs.size + 1 := Heap.size_push ..
  show _ ∧ _
  rw [hz]
  have he : IsEnum ((s.heap.push { cls := .type "tuple_iterator", data := .fields #[.ref t, .int 0 0] }).push { cls := .type "enumerate", data := .fields #[.none, .bool false, .ref s.heap.objs.size, rawInt 0, .none, .none] }) (s.heap.objs.size + 1) s.heap.objs.size 0 .none := by
    have q := Heap.get?_push_size (s.heap.push { cls := .type "tuple_iterator", data := .fields #[.ref t, .int 0 0] }) (o := { cls := .type "enumerate", data := .fields #[.none, .bool false, .ref s.heap.objs.size, rawInt 0, .none, .none] }) rfl
    rw [hz] at q
    exact q
  exact ⟨⟨_, he, rfl⟩, h _ he ⟨_, Heap.get?_push_of_some _ (Heap.get?_push_size _ rfl), rfl, rfl⟩ (by rw [Heap.size_push, hz]) fun b o x => Heap.get?_push_of_some _ (Heap.get?_push_of_some _ x)⟩
theorem enum_tup_end {e it t : Addr} {i : Nat} {items : Array Value} {old : Value} {Q : Option Value → Shared → Prop} (hh : A.handled = none) (he : IsEnum s.heap e it i old) (hit : s.heap.IsTupleIter it t i) (isT : s.heap.IsTuple t items) (hx : items[i]? = none)
    (hQ : ∀ h', Heap.ExtBut it s.heap h' → Q none { s with heap := h' }) : wpAny (model prog w) A (pyNext (.ref e)) Q E s := by
  have isE : s.TypeIs (.ref e) "enumerate" := ⟨_, he, rfl⟩
  unfold pyNext
  refine wpAny_bind (wpAny_attempt (wpAny_callSpecial?_slot (name := Str.ofString "__next__") isE F.slot_enumerate_next (wpAny_call_entry F.slot_enumerate_next isE F.entry_enumerate_next ?_ (F.args_enumerate_next_1 _))))
  show wpAny _ _ (field (.ref e) 2 >>= _) _ _ s
  refine wpAny_bind (wpAny_field he rfl (x := .ref it) rfl (wpAny_bind (RZ.nextOf_tuple_end hh hit isT hx fun h' x he' hx' => ?_)))
  obtain ⟨o, ho, hc⟩ := hx'
  exact wpAny_bind (wpAny_isInstance (T := "StopIteration") (b := true) ⟨o, ho, hc⟩ isSubtype_stop (wpAny_pure (hQ _ he')))
end
end OWT
namespace OW
open PySem PySem.Spec PyProof.Rows L2 KA
variable [Tbs]
/-- the tuple at a, each item in a new pair -/
def Nut (K : PySem.W.Frag) (a : Addr) : It :=
  ⟨fun i H => ∃ (xs : List V) (x : V), SqT K H a xs ∧ xs[i]? = some x, fun i H v H' => ∃ T x, v = .ref T ∧ H T = none ∧ H' = upd H T (.tup [.int (i : Nat), x]) ∧ ∀ xs, SqT K H a xs → xs[i]? = some x, fun i H => ∃ xs : List V, SqT K H a xs ∧ xs.length ≤ i⟩
theorem turn_nut {P : Program} {w : World} {K : PySem.W.Frag} {elts : List Expr} {kk : Nat} {tpos : Pos} (a e it : Addr) :
    L2.Turn P w K (PySem.Expr.Tuple elts kk tpos) (Nut K a) [e, it] e (fun i h => (∃ old, IsEnum h e it ((i : Nat) : Int) old) ∧ h.IsTupleIter it a i ∧ e ≠ it) where
  mem := List.mem_cons_self
  obj := fun i h st b hb => by
    obtain ⟨⟨old, he⟩, ⟨o, ho, hc, hd⟩, _⟩ := st
    rcases List.mem_cons.mp hb with z | hb
    · exact z ▸ ⟨_, he, fun v q => nomatch q⟩
    · rw [List.mem_singleton.mp hb]
      exact ⟨o, ho, fun v q => by rw [hd] at q; cases q⟩
  keep := fun i h h' st k => ⟨st.1.imp fun old he => k e List.mem_cons_self _ he, st.2.1.at fun o q => k it (List.mem_cons_of_mem _ List.mem_cons_self) o q, st.2.2⟩
  item := by
    intro X hP hw hK hc i pins s σ H E I hf st hg
    subst hP hw hK
    obtain ⟨⟨old, he⟩, hit, hne⟩ := st
    obtain ⟨xs, x, hq, hx⟩ := hg
    obtain ⟨its, rv, p, hz⟩ := I.tuple hq
    obtain ⟨u, hu, ru⟩ := rv.get hx
    have pT : s.heap.IsTuple a its.toArray := p
    have hel : e < s.heap.objs.size := Heap.lt_size he
    have hil : it < s.heap.objs.size := Heap.lt_size hit.choose_spec.1
    have hea : e ≠ a := fun q => by
      obtain ⟨o, ho, hcl, _⟩ := pT
      rw [← q, he] at ho
      obtain rfl := Option.some.inj ho
      exact absurd (Value.type.inj hcl) (by decide)
    have hia : a ≠ it := fun q => by
      obtain ⟨o, ho, hcl, _⟩ := pT
      obtain ⟨o2, ho2, hcl2, _⟩ := hit
      rw [q, ho2] at ho
      obtain rfl := Option.some.inj ho
      exact absurd (Value.type.inj (hcl2.symm.trans hcl)) (by decide)
    have li : i < its.toArray.size := by rw [List.size_toArray]; exact (List.getElem?_eq_some_iff.mp hu).1
    refine wpAny_pyNext_enum_itemD (Draws.tuple (A := X.A.in1) (I.ok.hd hc) it a hia its.toArray) he ⟨hit, pT⟩ li hne (fun q => by
      rcases List.mem_cons.mp q with q | q
      · exact hne q
      · exact hea (List.mem_singleton.mp q)) fun x2 h' tk hx2 ho hit' hT hsz hk => ?_
    have ex2 : x2 = u := by
      have h2 : its.toArray[i]? = some x2 := hx2
      rw [List.getElem?_toArray, hu] at h2
      exact (Option.some.inj h2).symm
    subst ex2
    refine ⟨_, rfl, wpAny_letOwnedTupleGo_enum (s := { s with heap := h', toks := tk + 1 }) ho fun h'' he' sb => ?_⟩
    have hT2 : h''.get? s.heap.objs.size = some { cls := .type "tuple", data := .seq #[.int i tk, x2] } := (sb.2 _ (Nat.ne_of_gt hel)).trans hT
    have new : ObjOk X.prog X.w (upd H s.heap.objs.size (.tup [.int (i : Nat), x])) h'' s.heap.objs.size (.tup [.int (i : Nat), x]) :=
      ⟨by show 2 ≤ sizeLine; decide, [.int i tk, x2], .cons ⟨_, rfl⟩ (.cons ru .nil), ⟨_, hT2, rfl, _, rfl⟩⟩
    have keepE : ∀ b, b ∉ [e, it] → b ≠ e ∧ b ≠ it := fun b hb => ⟨fun z => hb (by simp [z]), fun z => hb (by simp [z])⟩
    have I1 : Inv X pins σ (upd H s.heap.objs.size (.tup [.int (i : Nat), x])) { s with heap := h'', toks := tk + 1 } :=
      I.turnedNew (ch := [e, it]) (fun b ob hb q => (sb.2 b (keepE b hb).1).trans (hk b ob (keepE b hb).1 (keepE b hb).2 q)) hf (Nat.le_refl _) new
    refine ⟨.ref s.heap.objs.size, _, I1, rfl, ⟨_, x, rfl, I.hok.fresh (Nat.le_refl _), rfl, fun ys hy => by rw [I.tuple_inj hy hq]; exact hx⟩, ⟨⟨x2, ?_⟩, hit'.1.at fun o q => (sb.2 it (Ne.symm hne)).trans q, hne⟩, fun b hb => ?_⟩
    · rw [show ((i + 1 : Nat) : Int) = (i : Int) + 1 by omega]
      exact he'
    · have hb' : b < s.heap.objs.size := by
        rcases List.mem_cons.mp hb with z | hb
        · exact z ▸ hel
        · rw [List.mem_singleton.mp hb]
          exact hil
      rw [upd_ne (Nat.ne_of_lt hb')]
      exact (hf b hb).1
  done := by
    intro X hP hw hK hc i pins s σ H E I hf st hg
    subst hP hw hK
    obtain ⟨⟨old, he⟩, hit, hne⟩ := st
    obtain ⟨xs, hq, hx⟩ := hg
    obtain ⟨its, rv, p, hz⟩ := I.tuple hq
    have pT : s.heap.IsTuple a its.toArray := p
    obtain ⟨f0, f1, f2, f3, f4, f5⟩ := hf it (by simp)
    have hl := rv.length
    exact OWT.enum_tup_end (I.ok.hd hc) he hit pT (by rw [List.getElem?_toArray]; exact List.getElem?_eq_none (by omega)) fun h' eb => ⟨rfl, I.turned (t' := s.toks) (fun b o hb q => eb b o hb q) f0 f1 f3 f4 f5⟩
  self := fun A i s Q E st h => st.1.elim fun _ he => wpAny_pyIter_enum he h
def iNut (K : PySem.W.Frag) (ta : TA) : TI := fun σ H R => ta σ H fun vs H1 => ∃ a xs, vs = [.ref a] ∧ SqT K H1 a xs ∧ R (Nut K a) H1
theorem pi_nut {X : Cx} {e : Expr} {ta : TA} {p pos tpos : Pos} {elts : List Expr} {kk : Nat} (hg : Gl X "enumerate") (hm : X.mg "enumerate" = none) (ha : PA X [e] ta) (hs : starEach [e] X.env = [(false, eval e X.env)] := by rfl) :
    PI X (.Tuple elts kk tpos) (.Call (.Name "enumerate" p) [e] [] pos) (iNut X.K ta) := by
  refine ⟨fun pins s σ H R I h => Call_ (ld_blt I hg hm boot_enumerate (PyProof.Rows.callWith_type1 (thn (ha.run pos pins s σ H _ I h) fun us s1 ⟨vs, H1, I1, r1, q1⟩ => ?_) hs rfl))⟩
  obtain ⟨a, xs, rfl, hq, q⟩ := q1
  cases r1 with
  | cons r rr =>
    cases rr
    cases r
    obtain ⟨its, rv, pt, hz⟩ := I1.tuple hq
    refine OWT.call_enum_tup (show s1.heap.IsTuple a its.toArray from pt) fun h' he hit hsz hk => wpAny_pyIter_enum he ?_
    have I2 : Inv X pins σ H1 { s1 with heap := h' } := I1.kept (t' := s1.toks) hk
    refine ⟨s1.heap.objs.size + 1, [s1.heap.objs.size + 1, s1.heap.objs.size], _, _, H1, rfl, I2, turn_nut a (s1.heap.objs.size + 1) s1.heap.objs.size, ⟨⟨.none, he⟩, hit, Nat.succ_ne_self _⟩, fun b hb => ?_, q⟩
    have hle : s1.heap.objs.size ≤ b := by
      rcases List.mem_cons.mp hb with z | hb
      · rw [z]
        exact Nat.le_succ _
      · rw [List.mem_singleton.mp hb]
        exact Nat.le_refl _
    exact I1.fpOk hle (I1.hok.fresh hle)
section
variable {ρ ρ1 : List Sl} {tr : TA} {xs : List PyData} {KF : PySem.W.Frag}
theorem fi_enumT (h : Eds tr ρ [.tuple xs] ρ1) : Fi (iNut KF tr) ρ (enumD 0 xs) ρ1 := fun c A σ H R R0 f k => h c A σ H _ R0 f fun vs A1 H1 R1 f1 S1 o1 => by
  obtain ⟨v, rfl, o⟩ := dn_one o1
  obtain ⟨a, vs, rfl, e, dx⟩ := tup_v o
  refine ⟨a, vs, rfl, SqT.of (vw_sub _ _ e), k _ _ _ R1 f1 S1 ⟨fun i x H2 ex S => ?_, fun H2 S => ?_⟩⟩
  · have lt : i < vs.length := by rw [dx.length, ← enumD_len 0 xs]; exact (List.getElem?_eq_some_iff.mp ex).1
    refine ⟨⟨vs, vs[i], SqT.of (S _ _ e), List.getElem?_eq_getElem lt⟩, fun v H3 ⟨T, y, q1, q2, q3, q4⟩ => ?_⟩
    subst q1 q3
    refine ⟨Same.new q2, fun W' S' nw => ?_⟩
    obtain ⟨x', e', dn⟩ := dn_at dx (q4 vs (SqT.of (S _ _ e)))
    obtain ⟨x2, e2, rfl⟩ := enumD_at ex
    obtain rfl : x2 = x' := Option.some.inj (e2.symm.trans e')
    rw [Nat.zero_add]
    exact .tup (nw _ _ q2 upd_same) (.cons (.int _) (.one (Dn.mono S' dn)))
  · exact ⟨vs, SqT.of (S _ _ e), by rw [dx.length, enumD_len]; exact Nat.le_refl _⟩
end
end OW
set_option Elab.async false
set_option linter.unusedVariables false
set_option maxRecDepth 100000
set_option maxHeartbeats 2000000
namespace KP
open PySem PySem.Spec PyProof.Rows L2 KA OW
/-! ### where a thing grows: the program's answers -/
section
variable {P : Program} {w : World} {K : PySem.W.Frag} {mg : Str → Option Value} {base : Heap}
theorem rep_spot (a b : Nat) : PyData.tuple ((List.replicate ((a : Int)).toNat [PyData.int 1]).flatten ++ (List.replicate ((b : Int)).toNat [PyData.int 0]).flatten) = spotT (List.replicate a 1 ++ List.replicate b 0) := by
  unfold spotT
  rw [Int.toNat_natCast, Int.toNat_natCast, rep_flat, rep_flat, List.map_append, List.map_replicate, List.map_replicate]
  rfl
theorem ok_stray {f : Addr} {fd : FuncData} (F : Fun K "_stray_spot" "_stray_spot" sStraySpot f fd) (T : Txt K w mg) (C_sayings_if_grown : C8.Cal P w K mg base 3 "_sayings_if_grown" (spD 3 tGrow) []) (C_all_spots : C8.Cal P w K mg base 2 "all_spots" (spD 1 tAllSpots) []) (C_inner_terms : C8.Cal P w K mg base 2 "inner_terms" (spD 1 tInner) []) : FnOk P w K mg base CX0 4 f fd ["row", "argument", "saying"] (spD 3 tStray) := by
  refine fn_d F scStraySpot (body := fun cdv A outer s H E hr => ⟨_, by
    have hu : (A.deeper (envOfC "_stray_spot" (defScope sStraySpot) s.heap.objs.size f cdv)).units + 64 < cLine := by have := hr.un; omega
    exact (pss_cons (ps_set (i := 3) scStraySpot.nd rfl (Or.inl rfl) (C8.pe_c C_sayings_if_grown hr (by omega) rfl (pa_cons (pv 0) (pa_cons (pv 1) (pa_cons (pv 2) pa_nil)))))
      (pss_cons (ps_set (i := 4) scStraySpot.nd rfl (Or.inl rfl) (pe_ifExp (pt_cmpR op_isN (pv 3) pe_non (nomark _)) pe_non (pe_op op_catA (pe_op op_repA (pe_tup (pa_cons pe_int pa_nil)) (pe_callB call_len_seq (by rfl) T.len PySem.boot_len (pa_cons (pv 3) pa_nil))) (pe_op op_repA (pe_tup (pa_cons pe_int pa_nil)) (pe_callB call_len_seq (by rfl) T.len PySem.boot_len (pa_cons (pe_ix ix_tup (pv 0) pe_int (fun _ _ => rfl)) pa_nil))))))
      (pss_cons (ps_for PassesOwn.never rfl (pi_zip (by rfl) T.zip (pa_cons (C8.pe_c C_all_spots hr (by omega) rfl (pa_cons (pv 2) pa_nil)) (pa_cons (C8.pe_c C_inner_terms hr (by omega) rfl (pa_cons (pv 2) pa_nil)) pa_nil))) (pg_tup rfl (pgs_cons (pg_name (i := 5) scStraySpot.nd rfl (Or.inl rfl)) (pgs_cons (pg_tup rfl (pgs_cons (pg_name (i := 6) scStraySpot.nd rfl (Or.inl rfl)) (pgs_cons (pg_name (i := 7) scStraySpot.nd rfl (Or.inl rfl)) pgs_nil))) pgs_nil))) (pss_one (ps_if (PW.pt (pw_and (pt_cmpR op_in_seq (pe_ix ix_tup (pv 6) pe_int (fun _ _ => rfl)) (pe_tup (pa_cons pe_str (pa_cons pe_str (pa_cons pe_str pa_nil)))) rfl) (pw_and (pt_cmpR op_eq (pe_ix ix_tup (pv 6) pe_int (fun _ _ => rfl)) (pe_ix ix_tup (pv 0) pe_int (fun _ _ => rfl)) (nomark _)) (pw_and1 (pt_cmpR (KA.op_neD hu) (pv 5) (pv 4) (nomark _)))))) (pss_one (ps_ret (pv 5))) pss_nil)))
      (pss_one (ps_ret pe_non))))), ?_⟩)
  rintro as Kr _ ⟨x, h, es, fs, i, d, rfl, r, sy, hi, k⟩
  obtain ⟨hx, le, _⟩ := r.parts
  obtain ⟨s1, s2⟩ := SyOk.untie 60 sy.dp sy
  refine (sm_seq (sm_set (ev_call (x := optL (growD x es.length i d)) (es_cons (ev_var rfl) (es_cons (ev_var rfl) (es_cons (ev_var rfl) es_nil))) ar_nil rfl ⟨_, _, _, _, _, _, rfl, r, sy, hi, rfl⟩) ?_))
  show Sm _ [.d (rwT x h es fs), .d (.int (i : Int)), .d d, .d (optL (growD x es.length i d)), .un, .un, .un, .un] _
  unfold strayR strayP at k
  have lg : ∀ ss, growD x es.length i d = some ss → ss.length ≤ 60 := fun ss e => by
    unfold growD at e
    split at e
    · obtain rfl := Option.some.inj e
      exact s2
    · cases e
  generalize growD x es.length i d = g at *
  refine (sm_seq (sm_set (s := .d (goodD es.length g)) (ev_if (ρ2 := [.d (rwT x h es fs), .d (.int (i : Int)), .d d, .d (optL g), .un, .un, .un, .un]) (et_test (ev_op (ev_var rfl) ev_non fv_isN)) (fun h => ?_) (fun h => ?_)) ?_))
  · cases g with
    | none => exact ev_non
    | some ss => cases h
  · cases g with
    | none => cases h
    | some ss =>
      have l6 := lg ss rfl
      refine Ev.is (ev_op (ev_op (ev_tup (eds_cons ev_int eds_nil)) (ev_fn (es_cons (ev_var rfl) es_nil) fv_lenL) (fv_repA ⟨by simp, by omega, by omega, by show 1 ≤ 1000; decide⟩)) (ev_op (ev_tup (eds_cons ev_int eds_nil)) (ev_fn (es_cons (ev_op (ev_var rfl) ev_int (fv_ixT at3)) es_nil) fv_lenT) (fv_repA ⟨by simp, by omega, by omega, by show 1 ≤ 1000; decide⟩)) (fv_catA ?_)) (rep_spot _ _)
      rw [Int.toNat_natCast, Int.toNat_natCast, rep_flat, rep_flat, List.length_replicate, List.length_replicate, sizeLine_eq]
      omega
  show Sm _ [.d (rwT x h es fs), .d (.int (i : Int)), .d d, .d (optL g), .d (goodD es.length g), .un, .un, .un] _
  refine (sm_seq (sm_for (fi_zip (eds_cons (Ev.of_el (el_call (es_cons (ev_var rfl) es_nil) ar_nil rfl ⟨_, rfl, sy.t, sy.ok.2, rfl⟩)) (eds_cons (Ev.of_el (el_call (es_cons (ev_var rfl) es_nil) ar_nil rfl ⟨_, rfl, sy.t, sy.ok.2, rfl⟩)) eds_nil)))
    (fun j ρ => ∃ s5 s6 s7, ρ = [.d (rwT x h es fs), .d (.int (i : Int)), .d d, .d (optL g), .d (goodD es.length g), s5, s6, s7] ∧ ∀ y ∈ (wk d [] 0).take j, (ownP x y.2.1 && !PyData.eqv (spotT y.1) (goodD es.length g)) = false) ⟨_, _, _, rfl, fun y m => by simp at m⟩ (fun j z ρ ez q => ?_) (fun ρ q => ?_)))
  · obtain ⟨s5, s6, s7, rfl, none⟩ := q
    obtain ⟨a, b, ea, eb, rfl⟩ := zipD_at ez
    rw [List.getElem?_map] at ea eb
    cases e : (wk d [] 0)[j]? with
    | none => rw [e] at ea; cases ea
    | some y =>
    rw [e] at ea eb
    cases ea
    cases eb
    obtain ⟨ty, sp⟩ := sy.wk (List.mem_of_getElem? e)
    obtain ⟨p, t, u⟩ := y
    have ty : tm t = true := ty
    have sp : SeqAt.shaped (spotT p) = true := sp
    obtain ⟨wd, ds, rfl⟩ := tm_shape ty
    refine ⟨_, (tg_tup (xs := [spotT p, .tuple [.tuple (.str wd :: ds), .int u]]) (tgs_cons tg_name (tgs_cons (tg_tup (xs := [.tuple (.str wd :: ds), .int u]) (tgs_cons tg_name (tgs_cons tg_name tgs_nil))) tgs_nil))), ?_⟩
    show Sm _ [.d (rwT x h es fs), .d (.int (i : Int)), .d d, .d (optL g), .d (goodD es.length g), .d (spotT p), .d (.tuple (.str wd :: ds)), .d (.int u)] _
    have fail : (ownP x (.tuple (.str wd :: ds)) && !PyData.eqv (spotT p) (goodD es.length g)) = false → ∃ s5 s6 s7, [.d (rwT x h es fs), .d (.int (i : Int)), .d d, .d (optL g), .d (goodD es.length g), .d (spotT p), .d (.tuple (.str wd :: ds)), .d (.int u)] = [Sl.d (rwT x h es fs), .d (.int (i : Int)), .d d, .d (optL g), .d (goodD es.length g), s5, s6, s7] ∧ ∀ y ∈ (wk d [] 0).take (j + 1), (ownP x y.2.1 && !PyData.eqv (spotT y.1) (goodD es.length g)) = false := fun z => ⟨_, _, _, rfl, take_more none e z⟩
    cases hw : (([("thing" : Str), "maker", "eater"]).any fun b => b == wd) with
    | false =>
      have np : ownP x (.tuple (.str wd :: ds)) = false := by
        unfold ownP
        split
        · rename_i a b c eq
          cases eq
          rw [hw]
          rfl
        · rfl
      exact (sm_if (b := false) (et_and (b := false) (Et.is (et_test (ev_op (ev_op (ev_var rfl) ev_int (fv_ixT at0)) (ev_tup (eds_cons ev_str (eds_cons ev_str (eds_cons ev_str eds_nil)))) (fv_inT (bs := ["thing", "maker", "eater"])))) hw) (fun z => by cases z)) (fun z => by cases z) (fun _ => (sm_next (fail (by rw [np]; rfl)))))
    | true =>
      obtain ⟨y, rest, rfl⟩ := own_shape ty hw
      have ow : ownP x (.tuple (.str wd :: .str y :: rest)) = decide (y = x) := by
        show ((([("thing" : Str), "maker", "eater"]).any fun b => b == wd) && decide (y = x)) = _
        rw [hw, Bool.true_and]
      rw [ow] at fail
      refine (sm_if (b := decide (y = x) && !PyData.eqv (spotT p) (goodD es.length g)) (Et.is (et_and (a := true) (b := decide (y = x) && !PyData.eqv (spotT p) (goodD es.length g)) (Et.is (et_test (ev_op (ev_op (ev_var rfl) ev_int (fv_ixT at0)) (ev_tup (eds_cons ev_str (eds_cons ev_str (eds_cons ev_str eds_nil)))) (fv_inT (bs := ["thing", "maker", "eater"])))) hw) (fun _ => (et_and (et_test (ev_op (ev_op (ev_var rfl) ev_int (fv_ixT at1)) (ev_op (ev_var rfl) ev_int (fv_ixT at1)) fv_eqS)) fun _ => (et_test (ev_op (ev_var rfl) (ev_var rfl) (fv_neD sp good_shaped)))))) (Bool.true_and _)) (fun z => (sm_ret (ev_var rfl) ?_)) (fun z => (sm_next (fail z))))
      rw [find_at none e (by show (ownP x (.tuple (.str wd :: .str y :: rest)) && _) = true; rw [ow]; exact z)] at k
      exact k
  · obtain ⟨s5, s6, s7, rfl, none⟩ := q
    refine (sm_ret ev_non ?_)
    have len : (zipD ((wk d [] 0).map rowS) ((wk d [] 0).map rowI)).length = (wk d [] 0).length := by
      unfold zipD
      rw [List.length_map, List.length_zip, List.length_map, List.length_map, Nat.min_self]
    rw [len, List.take_length] at none
    rw [find_no none] at k
    exact k
theorem ok_ownargs {f : Addr} {fd : FuncData} (F : Fun K "own_arguments" "own_arguments" sOwnArguments f fd) (T : Txt K w mg) (Tenum : mg "enumerate" = none) (C_sayings_if_grown : C8.Cal P w K mg base 3 "_sayings_if_grown" (spD 3 tGrow) []) (C_stray_spot : C8.Cal P w K mg base 4 "_stray_spot" (spD 3 tStray) []) : FnOk P w K mg base CX0 5 f fd ["row", "maker"] (spD 2 tOwnArgs) := by
  refine fn_d F scOwnArguments (body := fun cdv A outer s H E hr => ⟨_, (pss_cons (ps_set (i := 2) scOwnArguments.nd rfl (Or.inl rfl) (pe_lst pa_nil))
      (pss_cons (ps_for PassesOwn.never rfl (pi_nut (by rfl) Tenum (pa_cons (pe_ix ix_tup (pe_ix ix_tup (pv 0) pe_int (fun _ _ => rfl)) (pv 1) (fun _ _ => rfl)) pa_nil)) (pg_tup rfl (pgs_cons (pg_name (i := 3) scOwnArguments.nd rfl (Or.inl rfl)) (pgs_cons (pg_name (i := 4) scOwnArguments.nd rfl (Or.inl rfl)) pgs_nil))) (pss_cons (ps_set (i := 5) scOwnArguments.nd rfl (Or.inl rfl) (C8.pe_c C_sayings_if_grown hr (by omega) rfl (pa_cons (pv 0) (pa_cons (pv 3) (pa_cons (pv 4) pa_nil)))))
      (pss_one (ps_if (PW.pt (pw_and (pt_cmpR op_notN (pv 5) pe_non (nomark _)) (pw_and1 (pt_cmpR op_isN (C8.pe_c C_stray_spot hr (by omega) rfl (pa_cons (pv 0) (pa_cons (pv 3) (pa_cons (pv 4) pa_nil)))) pe_non (nomark _))))) (pss_one (ps_expr (pe_bm PySem.F.plainAttrs_list PySem.F.slot_list_append PySem.F.type_list_append mt_append (pv 2) (pa_cons (pe_tup (pa_cons (pv 3) (pa_cons (pv 5) pa_nil))) pa_nil)))) pss_nil))))
      (pss_one (ps_ret (pv 2))))), ?_⟩)
  rintro as Kr _ ⟨x, h, es, fs, m, gs, rfl, r, hg, k⟩
  have gm := List.mem_of_getElem? hg
  obtain ⟨l4, tg⟩ := r.parts.2.2.2.2 gs gm
  have ig : atI (fs.map PyData.tuple) ((m : Nat) : Int) = some (.tuple gs) := at_nat (by rw [List.getElem?_map, hg]; rfl)
  refine (sm_seq (sm_setL (el_lst eds_nil) (sm_seq (sm_for (fi_enumT (xs := gs) (eds_cons (ev_op (ev_op (ev_var rfl) ev_int (fv_ixT (at_nat (j := 4) rfl))) (ev_var rfl) (fv_ixT ig)) eds_nil))
    (fun j ρ => ∃ s3 s4 s5, ρ = [.d (rwT x h es fs), .d (.int (m : Int)), .l (ownsD x es.length (gs.take j)), s3, s4, s5] ∧ (ownsD x es.length (gs.take j)).length ≤ j) ⟨_, _, _, rfl, Nat.le_refl _⟩ (fun j z ρ ez q => ?_) (fun ρ q => ?_)))))
  · obtain ⟨s3, s4, s5, rfl, lj⟩ := q
    obtain ⟨d, hd, rfl⟩ := enumD_at ez
    have lt := (List.getElem?_eq_some_iff.mp hd).1
    have sy := r.saying gm (List.mem_of_getElem? hd)
    rw [Nat.zero_add]
    refine ⟨_, (tg_tup (xs := [.int (j : Int), d]) (tgs_cons tg_name (tgs_cons tg_name tgs_nil))), (sm_seq (sm_set (ev_call (x := optL (growD x es.length j d)) (es_cons (ev_var rfl) (es_cons (ev_var rfl) (es_cons (ev_var rfl) es_nil))) ar_nil rfl ⟨_, _, _, _, _, _, rfl, r, sy, by omega, rfl⟩) ?_))⟩
    have sn := ownsD_snoc (x := x) (nb := es.length) hd
    show Sm _ [.d (rwT x h es fs), .d (.int (m : Int)), .l (ownsD x es.length (gs.take j)), .d (.int (j : Int)), .d d, .d (optL (growD x es.length j d))] _
    refine (sm_if (b := (growD x es.length j d).isSome && (strayR x es.length j d).isNone) (Et.is (et_and (et_test (ev_op (ev_var rfl) ev_non fv_notN)) fun _ => (et_test (ev_op (ev_call (x := optS (strayR x es.length j d)) (es_cons (ev_var rfl) (es_cons (ev_var rfl) (es_cons (ev_var rfl) es_nil))) ar_nil rfl ⟨_, _, _, _, _, _, rfl, r, sy, by omega, rfl⟩) ev_non fv_isN))) ?_) (fun z => ?_) (fun z => (sm_next ?_)))
    · rw [noneD_optL, noneD_optS]
      cases growD x es.length j d <;> rfl
    · cases eg : growD x es.length j d with
      | none => rw [eg] at z; cases z
      | some ss =>
        rw [eg] at z sn
        have z : (strayR x es.length j d).isNone = true := z
        have sn : ownsD x es.length (gs.take (j + 1)) = ownsD x es.length (gs.take j) ++ (if (strayR x es.length j d).isNone = true then [.tuple [.int (j : Int), .list ss]] else []) := sn
        rw [if_pos z] at sn
        refine (sm_app rfl (ev_tup (eds_cons (ev_var rfl) (eds_cons (ev_var rfl) eds_nil))) rfl (small (by omega)) ⟨.d (.int (j : Int)), .d d, .d (.list ss), ?_, ?_⟩)
        · rw [sn]
          rfl
        · rw [sn, List.length_append, List.length_singleton]
          omega
    · have sn : ownsD x es.length (gs.take (j + 1)) = ownsD x es.length (gs.take j) := by
        rw [sn]
        cases eg : growD x es.length j d with
        | none => rw [List.append_nil]
        | some ss =>
          rw [eg] at z
          have z : (strayR x es.length j d).isNone = false := z
          show _ ++ (if (strayR x es.length j d).isNone = true then _ else _) = _
          rw [if_neg (by rw [z]; decide), List.append_nil]
      rw [sn]
      exact ⟨_, _, _, rfl, by omega⟩
  · obtain ⟨s3, s4, s5, rfl, lj⟩ := q
    rw [enumD_len, List.take_length]
    exact (sm_retL (el_var rfl) k)
theorem ok_ungrown {f : Addr} {fd : FuncData} (F : Fun K "ungrown" "ungrown" sUngrown f fd) (T : Txt K w mg) (Tenum : mg "enumerate" = none) (C_want_row_of_thing : C8.Cal P w K mg base 8 "_want_row_of_thing" (spD 1 tWantR) []) (C_stray_spot : C8.Cal P w K mg base 4 "_stray_spot" (spD 3 tStray) []) : FnOk P w K mg base CX0 9 f fd ["row"] (spD 1 tUngrown) := by
  refine fn_d F scUngrown (body := fun cdv A outer s H E hr => ⟨_, (pss_cons (ps_expr (C8.pe_c C_want_row_of_thing hr (by omega) rfl (pa_cons (pv 0) pa_nil)))
      (pss_cons (ps_for PassesOwn.never rfl (pi_nut (by rfl) Tenum (pa_cons (pe_ix ix_tup (pv 0) pe_int (fun _ _ => rfl)) pa_nil)) (pg_tup rfl (pgs_cons (pg_name (i := 1) scUngrown.nd rfl (Or.inl rfl)) (pgs_cons (pg_name (i := 2) scUngrown.nd rfl (Or.inl rfl)) pgs_nil))) (pss_one (ps_for PassesOwn.never rfl (pi_nut (by rfl) Tenum (pa_cons (pv 2) pa_nil)) (pg_tup rfl (pgs_cons (pg_name (i := 3) scUngrown.nd rfl (Or.inl rfl)) (pgs_cons (pg_name (i := 4) scUngrown.nd rfl (Or.inl rfl)) pgs_nil))) (pss_cons (ps_set (i := 5) scUngrown.nd rfl (Or.inl rfl) (C8.pe_c C_stray_spot hr (by omega) rfl (pa_cons (pv 0) (pa_cons (pv 3) (pa_cons (pv 4) pa_nil)))))
      (pss_one (ps_if (pt_cmpR op_notN (pv 5) pe_non (nomark _)) (pss_one (ps_ret (pe_tup (pa_cons (pv 1) (pa_cons (pv 3) (pa_cons (pv 5) pa_nil)))))) pss_nil))))))
      (pss_one (ps_ret pe_non)))), ?_⟩)
  rintro as Kr _ ⟨x, h, es, fs, rfl, r, k⟩
  refine (sm_seq (sm_drop (ev_call (x := .none) (es_cons (ev_var rfl) es_nil) ar_nil rfl ⟨_, _, _, _, rfl, r, rfl⟩) (sm_seq (sm_for (fi_enumT (xs := fs.map .tuple) (eds_cons (ev_op (ev_var rfl) ev_int (fv_ixT (at_nat (j := 4) rfl))) eds_nil))
    (fun j ρ => ∃ s1 s2 s3 s4 s5, ρ = [.d (rwT x h es fs), s1, s2, s3, s4, s5] ∧ candM x es.length (fs.take j) = []) ⟨_, _, _, _, _, rfl, rfl⟩ (fun m z ρ ez q => ?_) (fun ρ q => ?_)))))
  · obtain ⟨s1, s2, s3, s4, s5, rfl, nil⟩ := q
    obtain ⟨g0, hg0, rfl⟩ := enumD_at ez
    rw [List.getElem?_map] at hg0
    cases hg : fs[m]? with
    | none => rw [hg] at hg0; cases hg0
    | some gs =>
    rw [hg] at hg0
    cases hg0
    have gm := List.mem_of_getElem? hg
    obtain ⟨l4, tg⟩ := r.parts.2.2.2.2 gs gm
    rw [Nat.zero_add]
    refine ⟨_, (tg_tup (xs := [.int (m : Int), .tuple gs]) (tgs_cons tg_name (tgs_cons tg_name tgs_nil))), (sm_for (fi_enumT (xs := gs) (eds_cons (ev_var rfl) eds_nil)) (fun j ρ => ∃ s3 s4 s5, ρ = [.d (rwT x h es fs), .d (.int (m : Int)), .d (.tuple gs), s3, s4, s5] ∧ candA x es.length m (gs.take j) = []) ⟨_, _, _, rfl, rfl⟩ (fun j z ρ ez q => ?_) (fun ρ q => ?_))⟩
    · obtain ⟨s3, s4, s5, rfl, nil2⟩ := q
      obtain ⟨d, hd, rfl⟩ := enumD_at ez
      have lt := (List.getElem?_eq_some_iff.mp hd).1
      have sy := r.saying gm (List.mem_of_getElem? hd)
      rw [Nat.zero_add]
      refine ⟨_, (tg_tup (xs := [.int (j : Int), d]) (tgs_cons tg_name (tgs_cons tg_name tgs_nil))), (sm_seq (sm_set (ev_call (x := optS (strayR x es.length j d)) (es_cons (ev_var rfl) (es_cons (ev_var rfl) (es_cons (ev_var rfl) es_nil))) ar_nil rfl ⟨_, _, _, _, _, _, rfl, r, sy, by omega, rfl⟩) ?_))⟩
      show Sm _ [.d (rwT x h es fs), .d (.int (m : Int)), .d (.tuple gs), .d (.int (j : Int)), .d d, .d (optS (strayR x es.length j d))] _
      have sn := candA_snoc (x := x) (nb := es.length) (m := m) hd
      cases es' : strayR x es.length j d with
      | none =>
        rw [es', nil2] at sn
        exact (sm_if (b := false) (et_test (ev_op (ev_var rfl) ev_non fv_notN)) (fun z => by cases z) (fun z => (sm_next ⟨_, _, _, rfl, sn⟩)))
      | some y =>
        obtain ⟨cs, hc⟩ := candA_head (m := m) hd nil2 es'
        rw [candM_head hg nil hc] at k
        exact (sm_if (b := true) (et_test (ev_op (ev_var rfl) ev_non fv_notN)) (fun z => (sm_ret (ev_tup (eds_cons (ev_var rfl) (eds_cons (ev_var rfl) (eds_cons (ev_var rfl) eds_nil)))) k)) (fun z => by cases z))
    · obtain ⟨s3, s4, s5, rfl, nil2⟩ := q
      rw [enumD_len, List.take_length] at nil2
      exact ⟨_, _, _, _, _, rfl, by rw [candM_snoc hg, nil, nil2]; rfl⟩
  · obtain ⟨s1, s2, s3, s4, s5, rfl, nil⟩ := q
    rw [enumD_len, List.length_map, List.take_length] at nil
    refine (sm_ret ev_non ?_)
    rw [nil] at k
    exact k
theorem ok_owns {f : Addr} {fd : FuncData} (F : Fun K "owns" "owns" sOwns f fd) (T : Txt K w mg) (C_want_maker : C8.Cal P w K mg base 9 "_want_maker" (spD 2 tWantM) []) (C_own_arguments : C8.Cal P w K mg base 5 "own_arguments" (spD 2 tOwnArgs) []) : FnOk P w K mg base CX0 10 f fd ["row", "maker"] (spD 2 tOwnArgs) := by
  refine fn_d F scOwns (body := fun cdv A outer s H E hr => ⟨_, (pss_cons (ps_expr (C8.pe_c C_want_maker hr (by omega) rfl (pa_cons (pv 0) (pa_cons (pv 1) pa_nil))))
      (pss_one (ps_ret (C8.pe_c C_own_arguments hr (by omega) rfl (pa_cons (pv 0) (pa_cons (pv 1) pa_nil)))))), ?_⟩)
  rintro as Kr _ ⟨x, h, es, fs, m, gs, rfl, r, hg, k⟩
  have lt := (List.getElem?_eq_some_iff.mp hg).1
  exact (sm_seq (sm_drop (ev_call (x := .none) (es_cons (ev_var rfl) (es_cons (ev_var rfl) es_nil)) ar_nil rfl ⟨_, _, _, _, _, rfl, r, by omega, by omega, rfl⟩) (sm_retL (el_call (es_cons (ev_var rfl) (es_cons (ev_var rfl) es_nil)) ar_nil rfl ⟨_, _, _, _, _, _, rfl, r, hg, rfl⟩) k)))
end
end KP
set_option Elab.async false
set_option linter.unusedVariables false
set_option linter.unusedSectionVars false
set_option maxRecDepth 100000
set_option maxHeartbeats 2000000
namespace OW
open PySem PySem.Spec PyProof.Rows L2 KA NdefX LamX
variable [Tbs]
/-! ### a def that is handed a def made in another def's body -/
abbrev SpS := List Env → Shared → Sp
structure FnOkS (P : Program) (w : World) (K : PySem.W.Frag) (mg : Str → Option Value) (base : Heap) (k : Nat) (f : Addr) (fd : FuncData) (ps : List Str) (sp : SpS) : Prop where
  len : ∀ o s vs H Q E, sp o s vs H Q E → vs.length = ps.length
  run : ∀ (A : Around) (outer : List Env) (s : Shared) (H : Hp) (args : Args) (us : List Value) (vs : List V) (Q : VK) (E : XK), Room k A → Env0 P w K mg base A outer s H → BindsTo s fd args (ps.zip us) → Vals vs us → sp outer s vs H Q E →
    codeAny (model P w) A (.call (.ref f) args) (CR CX0 outer P w H s Q E) s
section
variable {P : Program} {w : World} {K : PySem.W.Frag} {mg : Str → Option Value} {base : Heap} {k : Nat}
theorem fnS {x qual : Str} {st : Stmt} {f : Addr} {fd : FuncData} {N ps : List Str} {sp : SpS} (F : Fun K x qual st f fd) (S : FnScope N ps (defScope st)) (len : ∀ o s vs H Q E, sp o s vs H Q E → vs.length = ps.length)
    (body : ∀ (cdv : Value) (A : Around) (outer : List Env) (s : Shared) (H : Hp) (vs : List V) (Q : VK) (E : XK), Room k (A.deeper (envOfC qual (defScope st) s.heap.objs.size f cdv)) → sp outer s vs H Q E →
      ∃ t, PSs (cxOf CX0 P w K mg base N qual (defScope st) f cdv A outer s H E).nox (defBody st) t ∧ t { nx := fun _ H' => Q .non H', rt := Q } (start N vs) H) : FnOkS P w K mg base (k + 1) f fd ps sp :=
  ⟨len, fun A outer s H args us vs Q E hr e0 bt rv h => enter F S hr e0 bt rv (len _ _ _ _ _ _ h) fun cdv => let ⟨t, h1, h2⟩ := body cdv A outer s H vs Q E (hr.deeper _) h; ⟨t, h1.nox, h2⟩⟩
/-- of data and such a def -/
def spDS (n : Nat) (T : List Env → Shared → Hp → List Sl → (Rv → Prop) → Prop) : SpS := fun o s vs H Q E => spD n (T o s H) vs H Q E
theorem fn_dS {x qual : Str} {st : Stmt} {f : Addr} {fd : FuncData} {N ps : List Str} {n : Nat} {T : List Env → Shared → Hp → List Sl → (Rv → Prop) → Prop} (F : Fun K x qual st f fd) (S : FnScope N ps (defScope st)) (hn : ps.length = n := by rfl) (hN : n + N.length < fl := by decide)
    (body : ∀ (cdv : Value) (A : Around) (outer : List Env) (s : Shared) (H : Hp) (E : XK) (as : List Sl) (Kr : Rv → Prop), Room k (A.deeper (envOfC qual (defScope st) s.heap.objs.size f cdv)) → as.length = n → T outer s H as Kr →
      ∃ t, PSs (cxOf CX0 P w K mg base N qual (defScope st) f cdv A outer s H E).nox (defBody st) t ∧ Sm t (as ++ uns (N.length - n)) { nx := fun _ => Kr (.d .none), rt := fun r _ => Kr r }) :
    FnOkS P w K mg base (k + 1) f fd ps (spDS n T) := by
  refine fnS F S (fun o s vs H Q E h => ?_) (fun cdv A outer s H vs Q E hr h => ?_)
  · obtain ⟨Z, as, Kr, hZ, ha, hl, _⟩ := h
    rw [ha.length, hl, hn]
  · obtain ⟨Z, as, Kr, hZ, ha, hl, hT, go⟩ := h
    obtain ⟨t, ht, hb⟩ := body cdv A outer s H E as Kr hr hl hT
    refine ⟨t, ht, hb ⟨Z, none, H, hz Z H⟩ _ _ H _ (rp_start hN hZ ha hl) rfl ?_⟩
    have same : ∀ {A' : Am} {ρ' : List Sl} {σ' : L2.St} {H' : Hp}, Rp ⟨Z, none, H, hz Z H⟩ A' ρ' σ' H' → Aft Z H H' := rp_aft
    refine ⟨fun ρ' A' σ' H' hk R f => go _ _ _ hk (same R) .non, fun r ρ' v A' σ' H' hk R o => go r v H' hk (same R) ?_, fun _ _ _ _ h => h.elim, fun _ _ _ _ h => h.elim⟩
    exact rv_out (fun b o e nz _ => R.old _ _ (hz_mk nz e)) (fun b z => Or.inl z) R.inj R.off R.bor o
end
/-- the i-th slot holds the made def f, whose cells hold ws -/
def tHeld (f : Addr) (F : NF) (i : Nat) (sp : Sp) (t : TA) : TE := fun σ H Q => σ[i]? = some (some (.ref f)) ∧ H f = some (FnO f F) ∧ t σ H fun vs H1 => H1 f = some (FnO f F) ∧ H1 F.c = some (CodeO F.c F.qual) ∧ sp vs H1 Q E0
section
variable {X : Cx} {k i : Nat} {f : Addr} {F : NF} {ps fr : List Str} {ws : List (Option V)} {sp : List (Option V) → Sp} {x : Str} {e : Expr} {es : List Expr} {t : TA} {p pos : Pos}
theorem pe_held (Fn : NOk X.prog X.w X.K X.mg X.base CX0 k f F ps fr sp) (C : CellsAt F.cl fr ws X.s_0.heap X.H_0) (nf : ∀ y c, F.cl.lookup y = some c → c ∉ X.fs) (hx : X.ex = []) (hr : Room k X.A) (hN : X.N[i]? = some x) (hv : Vis X.env.scope x) (ha : PA X (e :: es) t)
    (hd : (x == ("__debug__" : Str)) = false := by decide) (hcd : (x == ("__classdict__" : Str)) = false := by decide)
    (he : starEach (e :: es) X.env = (false, eval e X.env) :: starEach es X.env := by rfl) (hpl : (backTo pos (starEach es X.env)).any (·.1) = false := by rfl) :
    PE X (.Call (.Name x p) (e :: es) [] pos) (tHeld f F i (sp ws) t) := by
  refine ⟨fun pins s σ H Q I h => ?_⟩
  obtain ⟨hs, hf, ht⟩ := h
  refine wpAny_Call_Name_kw (thn ((pe_var (pos := p) hN hv hd hcd).run pins s σ H (fun v H1 => v = .ref f ∧ H1 = H) I ⟨.ref f, hs, rfl, rfl⟩) fun u s1 ⟨v, H1, I1, r1, q1⟩ => ?_)
  obtain ⟨rfl, rfl⟩ := q1
  obtain rfl : u = Value.ref f := r1
  refine PySem.W.callWith_F (first := []) (fnAt_of I1 hf) (thn (ha.run pos pins s1 σ _ _ I1 ht) fun us s2 ⟨vs, H2, I2, r, h1, hc, q⟩ => ⟨fnAt_of I2 h1, ?_⟩) he hpl
  show wpAny _ _ (call (.ref f) us) _ _ _
  have C2 := C.later nf (fun y c _ z => by rw [hx] at z; cases z) I2
  refine wpAny_call (codeAny_mono (Fn.run X.A X.stack s2 H2 us vs _ Q E0 hr I2.env0 h1 hc C2 r q) fun r s' hq => ?_)
  cases r with
  | error e => exact hq.elim
  | ok fl =>
    cases fl with
    | ret u => exact I2.after hq
    | next => exact False.elim hq
    | brk => exact False.elim hq
    | cont => exact False.elim hq
end
end OW
set_option Elab.async false
set_option linter.unusedVariables false
set_option linter.unusedSectionVars false
set_option maxRecDepth 100000
set_option maxHeartbeats 2000000
namespace OW
open PySem PySem.Spec PyProof.Rows L2 KA NdefX LamX
variable [Tbs]
/-! ### the made def: its promise, how it is made, and the call that hands it on -/
/-- of data, in a frame whose cells hold ws0, which stand for cs -/
def spN (n : Nat) (ws0 : List V) (cs : List Sl) (T : List Sl → (Rv → Prop) → Prop) : List (Option V) → Sp := fun ws vs H Q _ => ws = ws0.map some ∧ ∃ (Z : Addr → Prop) (as : List Sl) (K : Rv → Prop), ZOk Z H ∧ ArAll (hz Z H) vs as ∧ ArAll (hz Z H) ws0 cs ∧ as.length = n ∧ T as K ∧
  ∀ r v H', K r → Aft Z H H' → RvOk Z H H' v r → Q v H'
/-- the slot of such a def -/
def madeMo (f : Addr) (F : NF) (ws0 : List V) (cs : List Sl) : Mo := ⟨fun v W => v = .ref f ∧ W f = some (FnO f F) ∧ W F.c = some (CodeO F.c F.qual) ∧ ArAll W ws0 cs, fun S ⟨a, b, g, d⟩ => ⟨a, S _ _ b, S _ _ g, d.mono S⟩⟩
section
variable {ρ ρ' : List Sl} {tr : TA} {ss cs : List Sl} {x : PyData} {f : Addr} {F : NF} {i n : Nat} {ws0 : List V}
theorem ev_made {T : List Sl → (Rv → Prop) → Prop} (h0 : ρ[i]? = some (.p (madeMo f F ws0 cs))) (h : Es tr ρ ss ρ') (h1 : ρ'[i]? = some (.p (madeMo f F ws0 cs))) (hn : ss.length = n) (g : T ss fun r => r = .d x) : Ev (tHeld f F i (spN n ws0 cs T (ws0.map some)) tr) ρ (.d x) ρ' := fun c A σ H Q R fA q => by
  obtain ⟨_, v, e1, rfl, e2, _⟩ := R.sl i _ h0
  refine ⟨e1, vw_sub _ _ e2, h c A σ H _ R fA fun vs A1 H1 R1 f1 S1 o1 => ?_⟩
  obtain ⟨_, v', e3, e4, e5, ec, e6⟩ := R1.sl i _ h1
  refine ⟨vw_sub _ _ e5, vw_sub _ _ ec, rfl, zz c.Z A1, ss, _, zz_ok R1, by rw [hz_eq]; exact o1, by rw [hz_eq]; exact e6, hn, g, fun r v H' hr S o => ?_⟩
  · subst hr
    have o : Dn (hz (zz c.Z A1) H') v x := o
    rw [hz_eq] at o
    exact q v A1 H' (R1.upA S) f1 (S1.trans (vw_upA R1 S)) o
end
section
variable {P : Program} {w : World} {K : PySem.W.Frag} {mg : Str → Option Value} {base : Heap} {k : Nat}
theorem fn_n {F : NF} {f : Addr} {N ps fr : List Str} {n m : Nat} {ws0 : List V} {cs : List Sl} {T : List Sl → (Rv → Prop) → Prop} (S : NScope N ps fr F.scope) (hb : ∀ (doc pm ctv : Value) (us : List Value), us.length = ps.length → bindArgs (F.fd doc pm ctv) ⟨us, []⟩ = pure (ps.zip us))
    (hn : ps.length = n) (hm : cs.length = m) (hN : n + m + N.length < fl)
    (body : ∀ (A : Around) (outer : List Env) (s : Shared) (H : Hp) (E : XK), Room k (A.deeper (envF F f s.heap.objs.size)) → ∃ t, PSs (ncx CX0 P w K mg base N F f A outer s H E).nox F.body t ∧ ∀ as Kr, as.length = n → T as Kr → Sm t ((as ++ cs) ++ uns (N.length - (n + m))) { nx := fun _ => Kr (.d .none), rt := fun r _ => Kr r }) :
    NOk P w K mg base CX0 (k + 1) f F ps fr (spN n ws0 cs T) := by
  refine nok_of S hb (fun ws vs H Q E h => ?_) (fun A outer s H vs ws Q E hr hf hcd hl h => ?_)
  · obtain ⟨_, Z, as, Kr, hZ, ha, hc, hl, _⟩ := h
    rw [ha.length, hl, hn]
  · obtain ⟨rfl, Z, as, Kr, hZ, ha, hc, hl, hT, go⟩ := h
    obtain ⟨t, ht, hbd⟩ := body A outer s H E hr
    refine ⟨t, ht.nox, ?_⟩
    have e0 : startF N vs (ws0.map some) = L2.start N (vs ++ ws0) := by
      unfold startF L2.start
      rw [List.map_append, List.append_assoc, List.length_append, List.length_map, Nat.sub_sub]
    rw [e0]
    refine hbd as Kr hl hT ⟨Z, none, H, hz Z H⟩ _ _ H _ (rp_start hN hZ (ha.append hc) (by rw [List.length_append, hl, hm])) rfl ?_
    have same : ∀ {A' : Am} {ρ' : List Sl} {σ' : L2.St} {H' : Hp}, Rp ⟨Z, none, H, hz Z H⟩ A' ρ' σ' H' → Aft Z H H' := rp_aft
    refine ⟨fun ρ' A' σ' H' hk R f => go _ _ _ hk (same R) .non, fun r ρ' v A' σ' H' hk R o => go r v H' hk (same R) ?_, fun _ _ _ _ h => h.elim, fun _ _ _ _ h => h.elim⟩
    exact rv_out (fun b o e nz _ => R.old _ _ (hz_mk nz e)) (fun b z => Or.inl z) R.inj R.off R.bor o
end
/-- just this value, which stands for x -/
def exactMo (v0 : V) (x : PyData) : Mo := ⟨fun v W => v = v0 ∧ Dn W v x, fun S ⟨a, b⟩ => ⟨a, Dn.mono S b⟩⟩
section
variable {c : Fr} {A : Am} {ρ : List Sl} {σ : L2.St} {H : Hp}
theorem Rp.exact {j : Nat} {x : PyData} (R : Rp c A ρ σ H) (h : ρ[j]? = some (.d x)) : ∃ v, σ[j]? = some (some v) ∧ Dn (vw c.Z A H) v x ∧ Rp c A (ρ.set j (.p (exactMo v x))) σ H := by
  obtain ⟨e0, v, e1, d1⟩ := R.sl j _ h
  refine ⟨v, e1, d1, by rw [List.length_set]; exact R.len, by rw [List.length_set]; exact R.sz, R.inj, R.off, R.live, R.keep, R.old, R.bor, fun i s hi => ?_, R.tz, R.tb⟩
  by_cases q : i = j
  · subst q
    rw [List.getElem?_set_self (List.getElem?_eq_some_iff.mp h).1] at hi
    obtain rfl := Option.some.inj hi
    exact ⟨e0, v, e1, rfl, d1⟩
  · rw [List.getElem?_set_ne (Ne.symm q)] at hi
    exact R.sl i s hi
end
/-! a def statement within a def: its table may grow -/
/-- the slot i holds the new function; Z: what is hidden -/
def tNdefT (i : Nat) (mk : Addr → NF) : TS := fun D σ H => ∃ Z, ZOk Z H ∧ ∀ (f cc : Addr) (H1 : Hp), Aft Z H H1 → H f = none → H1 f = some (FnO f (mk cc)) → hz Z H1 cc = some (CodeO cc (mk cc).qual) → D.nx (σ.set i (some (.ref f))) H1
section
variable {X : Cx}
theorem made_new {Z : Addr → Prop} {H : Hp} {f cc : Addr} {F : NF} {q : Str} (zo : ZOk Z H) (nf : H f = none) (hc : hz Z H cc = some (CodeO cc q)) : Aft Z H (upd H f (FnO f F)) ∧ hz Z (upd H f (FnO f F)) cc = some (CodeO cc q) := by
  refine ⟨Aft.of (Same.new nf) zo.tb, ?_⟩
  obtain ⟨z1, z2⟩ := hz_some hc
  exact hz_mk z1 (by rw [upd_ne (ne_of_none z2 nf)]; exact z2)
theorem code_no {cc : Addr} {q : Str} {ps : Array Value} (h : HO.tbl ps = CodeO cc q) : False := by
  unfold CodeO at h
  cases h
/-- the table tells a code object more -/
theorem made_code {Z : Addr → Prop} {H : Hp} {P cc : Addr} {ps : Array Value} {nm : Nat → Nat → Str} {pos : Pos} (zo : ZOk Z H) (hm : (P, nm) ∈ Tbs.T) (hu : ∀ p ∈ Tbs.T, p.1 = P → p.2 = nm) (eP : H P = some (.tbl ps)) (tr : TriplesOk ps.toList)
    (al : ∀ (pos : Pos) (cv : Value), codeAmong pos ps.toList = some cv → ∃ c, cv = .ref c ∧ hz Z H c = some (CodeO c (nm pos.line pos.col))) (nc : H cc = none) :
    ZOk Z (upd (upd H P (.tbl (ps ++ #[rawInt pos.line, rawInt pos.col, .ref cc]))) cc (CodeO cc (nm pos.line pos.col))) ∧ Aft Z H (upd (upd H P (.tbl (ps ++ #[rawInt pos.line, rawInt pos.col, .ref cc]))) cc (CodeO cc (nm pos.line pos.col))) ∧
      hz Z (upd (upd H P (.tbl (ps ++ #[rawInt pos.line, rawInt pos.col, .ref cc]))) cc (CodeO cc (nm pos.line pos.col))) cc = some (CodeO cc (nm pos.line pos.col)) := by
  have tP : tabA P := ⟨_, hm, rfl⟩
  have nPc : P ≠ cc := ne_of_none eP nc
  have nZ : ¬ Z cc := fun z => zo.there _ z nc
  have kp : ∀ b o, H b = some o → b ≠ P → upd (upd H P (.tbl (ps ++ #[rawInt pos.line, rawInt pos.col, .ref cc]))) cc (CodeO cc (nm pos.line pos.col)) b = some o := fun b o e n => by
    rw [upd_ne (ne_of_none e nc), upd_ne n]
    exact e
  have kc : ∀ c q, hz Z H c = some (CodeO c q) → hz Z (upd (upd H P (.tbl (ps ++ #[rawInt pos.line, rawInt pos.col, .ref cc]))) cc (CodeO cc (nm pos.line pos.col))) c = some (CodeO c q) := fun c q e => by
    obtain ⟨z1, z2⟩ := hz_some e
    refine hz_mk z1 (kp _ _ z2 fun z => ?_)
    rw [z, eP] at z2
    exact code_no (Option.some.inj z2)
  have at_ : hz Z (upd (upd H P (.tbl (ps ++ #[rawInt pos.line, rawInt pos.col, .ref cc]))) cc (CodeO cc (nm pos.line pos.col))) cc = some (CodeO cc (nm pos.line pos.col)) := hz_mk nZ upd_same
  have tb : Tb (hz Z (upd (upd H P (.tbl (ps ++ #[rawInt pos.line, rawInt pos.col, .ref cc]))) cc (CodeO cc (nm pos.line pos.col)))) (upd (upd H P (.tbl (ps ++ #[rawInt pos.line, rawInt pos.col, .ref cc]))) cc (CodeO cc (nm pos.line pos.col))) := fun p hp => by
    by_cases q : p.1 = P
    · have e2 : (ps ++ #[rawInt pos.line, rawInt pos.col, Value.ref cc]).toList = ps.toList ++ [rawInt pos.line, rawInt pos.col, .ref cc] := by simp
      rw [hu p hp q, q]
      refine ⟨_, by rw [upd_ne nPc, upd_same], by rw [e2]; exact PySem.TriplesOk_snoc _ _ _ _ tr, fun pp cv h => ?_⟩
      rw [e2] at h
      rcases among_app2 _ tr h with z | ⟨z, z1, z2⟩
      · obtain ⟨c, g1, g2⟩ := al pp cv z
        exact ⟨c, g1, kc _ _ g2⟩
      · rw [← z1, ← z2]
        exact ⟨cc, z, at_⟩
    · obtain ⟨qs, g1, g2, g3⟩ := zo.tb p hp
      refine ⟨qs, kp _ _ g1 q, g2, fun pp cv h => ?_⟩
      obtain ⟨c, k1, k2⟩ := g3 pp cv h
      exact ⟨c, k1, kc _ _ k2⟩
  refine ⟨⟨fun b z => ?_, zo.tz, tb⟩, ⟨fun b o e t => kp b o e fun z => t (z ▸ tP), tb⟩, at_⟩
  by_cases q : b = P
  · rw [q, upd_ne nPc, upd_same]
    simp
  · obtain ⟨o, e⟩ := Option.ne_none_iff_exists'.mp (zo.there b z)
    rw [kp b o e q]
    simp
theorem Aft.trans {Z : Addr → Prop} {H H1 H2 : Hp} (a : Aft Z H H1) (b : Aft Z H1 H2) : Aft Z H H2 := ⟨fun c o e t => b.same c o (a.same c o e t) t, b.tb⟩
theorem ps_ndefT {st : Stmt} {nm : Nat → Nat → Str} {c P : Addr} {name : Str} {pos : Pos} {i : Nat} (hst : st = .FunctionDef name (C8.fnArgs st) (C8.fnBody st) [] none [] (C8.fnScope st) none name pos) (B : TabB X.base X.mg c P) (hc : X.env.code = .ref c) (hm : (P, nm) ∈ Tbs.T) (hu : ∀ p ∈ Tbs.T, p.1 = P → p.2 = nm) (hn : nm pos.line pos.col = X.env.qual ++ name)
    (hcap : ∀ y ∈ (C8.fnScope st).names, y.2 = .free → X.env.scope.names.lookup y.1 = some .cell ∨ X.env.scope.names.lookup y.1 = some .free) (hd0 : (C8.fnArgs st).defaults = []) (hk0 : (C8.fnArgs st).kw_defaults = []) (han : annTrees (C8.fnArgs st) none X.env = [])
    (nd : X.N.Nodup) (hi : X.N[i]? = some name) (lo : Loc X.env.scope name) (hf : X.fn name = true ∨ X.env.scope.names.lookup name = some .local) :
    PS X st (tNdefT i (NF.of st name (X.env.qual ++ name) (cloFrom X.env.cells (C8.fnScope st).names []))) := by
  refine ⟨fun pins s σ H D I ⟨Z, zo, go⟩ => ?_⟩
  have hq : qualnameIn X.env name name = X.env.qual ++ name := by
    have kk : X.env.kindOf name = some .local ∨ X.env.kindOf name = some .cell := lo
    unfold qualnameIn
    rcases kk with kk | kk <;> rw [kk] <;> first | rfl | exact if_neg (by decide)
  have cap : ∀ y ∈ (C8.fnScope st).names, y.2 = .free → ∃ a, X.env.cells.lookup y.1 = some a := fun y hy e => (hcap y hy e).elim (fun z => I.ok.has y.1 (.inl z)) fun z => I.ok.has y.1 (.inr z)
  have bP : s.heap.BuiltinsAt X.mg P := B.bm.keeps I.bk
  obtain ⟨ps, eP, tr, al⟩ := zo.tb _ hm
  have gP : s.heap.get? P = some { cls := .none, data := .fields ps } := I.hok P _ eP
  have fin : ∀ (f cc : Addr) (H1 : Hp) (s1 : Shared), Inv X pins σ H1 s1 → Aft Z H H1 → H f = none → H1 f = some (FnO f (NF.of st name (X.env.qual ++ name) (cloFrom X.env.cells (C8.fnScope st).names []) cc)) → hz Z H1 cc = some (CodeO cc (X.env.qual ++ name)) →
      wpAny (model X.prog X.w) X.A (storeName X.env name (.ref f)) (fun _ s2 => SP X pins D .next s2) X.xe s1 := fun f cc H1 s1 I1 af f0 f1 c1 =>
    store_ok I1 nd hi lo (v := .ref f) rfl (fun s2 J => ⟨_, H1, J, go f cc H1 af f0 f1 c1⟩) hf
  rw [hst]
  refine PySem.W.nestDef_K hd0 hk0 han ?_
  rw [hq]
  cases hh : codeAmong pos ps.toList with
  | some cv =>
    obtain ⟨cc, rfl, hcc⟩ := al pos cv hh
    have hcc : hz Z H cc = some (CodeO cc (nm pos.line pos.col)) := hcc
    rw [hn] at hcc
    refine PySem.W.makeFunction_hit (mg := X.mg) (c := c) (P := P) (ps := ps) (closure_ok cap) I.ok.glob (I.mod.glob.keeps I.bk) hc (B.code.keeps I.bk) gP tr hh bP fun ctv doc h' tk hx _ => ?_
    have I1 : Inv X pins σ H { s with heap := h', toks := tk } := I.kept hx
    have f0 : H h'.objs.size = none := I1.hok.fresh (Nat.le_refl _)
    obtain ⟨a1, a2⟩ := made_new (F := NF.of st name (X.env.qual ++ name) (cloFrom X.env.cells (C8.fnScope st).names []) cc) zo f0 hcc
    exact fin _ cc _ _ (inv_fn (F := NF.of st name (X.env.qual ++ name) (cloFrom X.env.cells (C8.fnScope st).names []) cc) (t' := tk) (doc := doc) (pm := (X.mg "__name__").getD .none) (ctv := ctv) I1 rfl) a1 f0 upd_same a2
  | none =>
    refine PySem.W.makeFunction_K (mg := X.mg) (c := c) (P := P) (ps := ps) (closure_ok cap) I.ok.glob (I.mod.glob.keeps I.bk) hc (B.code.keeps I.bk) gP tr hh B.gP bP fun cc ctv doc h' tk hx hge hlt hrec htb => ?_
    obtain ⟨c2, oc, vs, t, e2, hoc, hd, hv⟩ := hrec
    cases e2
    have nC : H cc = none := I.hok.fresh hge
    obtain ⟨z1, z2, z3⟩ := made_code (pos := pos) zo hm hu eP tr al nC
    rw [hn] at z1 z2 z3
    have I1 := inv_table (t' := tk) (more := #[rawInt pos.line, rawInt pos.col, .ref cc]) (h' := h') I eP (fun b o hb e => hx b o hb e) htb hge ⟨oc, vs, t, hoc, hd, hv⟩
    have f0 := I1.hok.fresh (Nat.le_refl _)
    obtain ⟨a1, a2⟩ := made_new (F := NF.of st name (X.env.qual ++ name) (cloFrom X.env.cells (C8.fnScope st).names []) cc) z1 f0 z3
    exact fin _ cc _ _ (inv_fn (F := NF.of st name (X.env.qual ++ name) (cloFrom X.env.cells (C8.fnScope st).names []) cc) (t' := tk) (doc := doc) (pm := (X.mg "__name__").getD .none) (ctv := ctv) I1 rfl) (z2.trans a1) (I.hok.fresh (Nat.le_trans hge (Nat.le_of_lt hlt))) upd_same a2
end
section
variable {ρ : List Sl} {K : KK}
/-- def f(..): ..: two slots are captured -/
theorem sm_ndef {mk : Addr → NF} {i j1 j2 : Nat} {x1 x2 : PyData} (h1 : ρ[j1]? = some (.d x1)) (h2 : ρ[j2]? = some (.d x2)) (hq : ∀ c, (mk c).c = c) (q : ∀ f cc v1 v2, K.nx (((ρ.set j1 (.p (exactMo v1 x1))).set j2 (.p (exactMo v2 x2))).set i (.p (madeMo f (mk cc) [v1, v2] [.d x1, .d x2])))) (i0 : i ≠ 0 := by decide) (hf : fl ≠ i := by decide) (jj : j1 ≠ j2 := by decide) : Sm (tNdefT i mk) ρ K := fun c A σ H D R fA dk => by
  obtain ⟨v1, e1, d1, R1⟩ := R.exact h1
  obtain ⟨v2, e2, d2, R2⟩ := R1.exact (j := j2) (x := x2) (by rw [List.getElem?_set_ne jj]; exact h2)
  refine ⟨zz c.Z A, zz_ok R2, fun f cc H1 af f0 f1 c1 => ?_⟩
  have R3 := R2.upA af
  have W1 := vw_upA R af
  rw [hz_eq] at c1
  exact dk.nx _ _ _ _ (q f cc v1 v2) (R3.set i0 (s := .p (madeMo f (mk cc) [v1, v2] [.d x1, .d x2])) ⟨rfl, _, rfl, rfl, new_view R f0 f1, by rw [hq cc]; exact c1, Dn.mono W1 d1, Dn.mono W1 d2, trivial⟩) (by rw [aset_ne hf]; exact fA)
end
/-! the call that hands it on -/
/-- what is known of the handed def where it is called -/
structure Handed (s : Shared) (H : Hp) (outer : List Env) (F : NF) (fr : List Str) (ws0 : List V) : Prop where
  cells : CellsAt F.cl fr (ws0.map some) s.heap H
  off : ∀ y c, F.cl.lookup y = some c → c ∉ frs outer
/-- T tells of the arguments, the made def among them; L: that it is handed -/
def spHand (n : Nat) (T : NF → List Str → List V → List Sl → (Rv → Prop) → Prop) : SpS := spDS n fun o s H as Kr => ∃ F fr ws0, Handed s H o F fr ws0 ∧ T F fr ws0 as Kr
def tHand (n : Nat) (cl : List (Str × Addr)) (fr : List Str) (js : List Nat) (T : NF → List Str → List V → List Sl → (Rv → Prop) → Prop) (t : TA) : TE := fun σ H Q => t σ H fun vs H1 => ∃ F ws0, F.cl = cl ∧ js.map (slotAt σ) = ws0.map some ∧ spD n (fun as Kr => T F fr ws0 as Kr) vs H1 Q E0
theorem frs_off {X : Cx} {pins : List (Addr × Obj)} {σ : L2.St} {H : Hp} {s : Shared} (I : Inv X pins σ H s) (hfn : ∀ y, X.fn y = true) {y : Str} {c : Addr} (h : X.env.cells.lookup y = some c) : c ∉ frs X.stack := by
  have nfs : c ∉ X.fs := fun hb => by
    obtain ⟨_, o, ho, _⟩ := I.ok.funs.mem hb
    exact absurd (Nat.lt_of_lt_of_le (Heap.lt_size ho) (I.ok.cab y c (hfn y) h)) (Nat.lt_irrefl _)
  rcases I.ok.stk with e | ⟨e, hfr⟩
  · rw [e]
    exact nfs
  · rw [e]
    unfold frs
    rw [List.filterMap_cons, hfr]
    intro m
    rcases List.mem_cons.mp m with m | m
    · exact I.cne y c h m
    · exact nfs m
section
variable {X : Cx} {k j n : Nat} {f : Addr} {fd : FuncData} {ps fr : List Str} {js : List Nat} {cl : List (Str × Addr)} {T : NF → List Str → List V → List Sl → (Rv → Prop) → Prop} {x : Str} {e : Expr} {es : List Expr} {t : TA} {p pos : Pos}
theorem pe_hand (Fn : FnOkS X.prog X.w X.K X.mg X.base k f fd ps (spHand n T)) (cp : X.Ok → Caps X cl fr js) (hfn : ∀ y, X.fn y = true) (hr : Room j X.A) (hkj : k ≤ j) (hg : Gl X x) (hm : X.mg x = some (.ref f)) (hk : PySem.W.keepIn X.K (.ref f) = true) (hb : Binds X.K fd ps [])
    (ha : PA X (e :: es) t) (hdb : (x == ("__debug__" : Str)) = false := by decide) (he : starEach (e :: es) X.env = (false, eval e X.env) :: starEach es X.env := by rfl) (hpl : (backTo pos (starEach es X.env)).any (·.1) = false := by rfl) :
    PE X (.Call (.Name x p) (e :: es) [] pos) (tHand n cl fr js T t) := by
  refine ⟨fun pins s σ H Q I h => ?_⟩
  refine wpAny_Call_Name_kw (ld_glob I hg hm ?_ hdb)
  refine PySem.W.callWith_K (h₀ := X.base) I.ok.mod.kin hk (thn (ha.run pos pins s σ H _ I h) fun us s1 ⟨vs, H1, I1, r, F, ws0, hcl, hws, q⟩ => ⟨I1.kIn, ?_⟩) he hpl
  obtain ⟨Z, as, Kr, hZ, har, hl, hT, go⟩ := q
  have cap := cp I1.ok
  have C := cells_of I1 cap
  rw [hws] at C
  have q2 : spHand n T X.stack s1 vs H1 Q E0 := ⟨Z, as, Kr, hZ, har, hl, ⟨F, fr, ws0, ⟨by rw [hcl]; exact C, fun y c h => frs_off I1 hfn (cap.sub y c (by rw [← hcl]; exact h))⟩, hT⟩, go⟩
  have lv := Fn.len _ _ _ _ _ _ q2
  have lu : us.length = ps.length := by rw [← r.length]; exact lv
  have bt := hb s1 us I1.kIn (by rw [List.length_append]; exact lu)
  rw [List.append_nil] at bt
  show wpAny _ _ (call (.ref f) us) _ _ _
  refine wpAny_call (codeAny_mono (Fn.run X.A X.stack s1 H1 ⟨us, []⟩ us vs Q E0 (hr.mono hkj) I1.env0 bt r q2) fun r s' hq => ?_)
  cases r with
  | error e => exact hq.elim
  | ok fl =>
    cases fl with
    | ret u => exact I1.after hq
    | next => exact False.elim hq
    | brk => exact False.elim hq
    | cont => exact False.elim hq
end
section
variable {ρ ρ' : List Sl} {tr : TA} {ss : List Sl} {x : PyData} {f : Addr} {F : NF} {n j1 j2 : Nat} {fr : List Str} {x1 x2 : PyData} {v1 v2 : V}
theorem ev_hand {T : NF → List Str → List V → List Sl → (Rv → Prop) → Prop} (h : Es tr ρ ss ρ) (h1 : ρ[j1]? = some (.p (exactMo v1 x1))) (h2 : ρ[j2]? = some (.p (exactMo v2 x2))) (hn : ss.length = n) (g : T F fr [v1, v2] ss fun r => r = .d x) {cl : List (Str × Addr)} (hcl : F.cl = cl := by rfl) : Ev (tHand n cl fr [j1, j2] T tr) ρ (.d x) ρ := fun c A σ H Q R fA q =>
  h c A σ H _ R fA fun vs A1 H1 R1 f1 S1 o1 => by
    obtain ⟨_, u1, e1, rfl, _⟩ := R.sl j1 _ h1
    obtain ⟨_, u2, e2, rfl, _⟩ := R.sl j2 _ h2
    refine ⟨F, [u1, u2], hcl, ?_, zz c.Z A1, ss, _, zz_ok R1, by rw [hz_eq]; exact o1, hn, g, fun r v H' hr S o => ?_⟩
    · show [NdefX.slotAt σ j1, NdefX.slotAt σ j2] = [some u1, some u2]
      unfold NdefX.slotAt
      rw [e1, e2]
    · subst hr
      have o : Dn (hz (zz c.Z A1) H') v x := o
      rw [hz_eq] at o
      exact q v A1 H' (R1.upA S) f1 (S1.trans (vw_upA R1 S)) o
end
end OW
set_option Elab.async false
set_option linter.unusedVariables false
set_option linter.unusedSectionVars false
set_option maxRecDepth 100000
set_option maxHeartbeats 2000000
namespace KP
open PySem PySem.Spec PyProof.Rows L2 KA OW
def mergeD : List PyData → List PyData → List PyData
  | o :: os, n :: ns => (if noneD n = true then o else n) :: mergeD os ns
  | _, _ => []
def rebD (w : Str) (ds news : List PyData) : PyData := if (news.map noneD).all id = true then .none else .tuple (.str w :: mergeD ds news)
theorem merge_zip (os ns : List PyData) : (os.zip ns).map (fun p => if noneD p.2 = true then p.1 else p.2) = mergeD os ns := by
  induction os generalizing ns with
  | nil => rfl
  | cons o os ih =>
    cases ns with
    | nil => rfl
    | cons n ns =>
      exact congrArg (_ :: ·) (ih ns)
def pickM : PyData → PyData | .tuple [o, n] => if noneD n = true then o else n | _ => .none
end KP
set_option Elab.async false
set_option linter.unusedVariables false
set_option linter.unusedSectionVars false
set_option maxRecDepth 100000
set_option maxHeartbeats 4000000
/-! ### a tuple and a list, walked together -/
namespace OWZ
open PySem
open PySem.Sem (wp)
def Z1 (h : Heap) (a : Addr) : Heap := h.push { cls := .type "tuple_iterator", data := .fields #[.ref a, .int 0 0] }
def Z2 (h : Heap) (a b : Addr) : Heap := (Z1 h a).push { cls := .type "list_iterator", data := .fields #[.ref b, .int 0 0] }
def Z3 (h : Heap) (a b : Addr) : Heap := (Z2 h a b).push { cls := .type "tuple", data := .seq #[.ref h.objs.size, .ref (Z1 h a).objs.size] }
def Z4 (h : Heap) (a b : Addr) : Heap := (Z3 h a b).push { cls := .type "tuple", data := .seq #[.none, .none] }
def Z5 (h : Heap) (a b : Addr) : Heap := (Z4 h a b).push { cls := .type "zip", data := .fields #[.none, .bool false, .bool false, .ref (Z2 h a b).objs.size, .ref (Z3 h a b).objs.size] }
theorem zip_new_mixed (a b : Addr) (xs ys : Array Value) :
    Meets (Builtin.«zip.__new__» ⟨[.type "zip", .ref a, .ref b], []⟩) (fun _ R s => s.heap.IsTuple a xs ∧ s.heap.IsList b ys ∧ R (.ok (.ret (.ref (Z4 s.heap a b).objs.size))) { s with heap := Z5 s.heap a b }) :=
  .of_wp fun prog w A R s h => by
    obtain ⟨hp, g, d, tk, os⟩ := s
    obtain ⟨ha, hb, h⟩ := h
    have sub := sub_zip
    have ta : Heap.IsTuple (Shared.heap ⟨hp, g, d, tk, os⟩) a xs := ha
    have lb : Heap.IsList (Shared.heap ⟨hp.push { cls := .type "tuple_iterator", data := .fields #[.ref a, .int 0 0] }, g, d, tk, os⟩) b ys := Heap.IsList.push hb _
    wp_walk using wpAny_pyIter_tuple ta, wpAny_pyIter_list lb
    exact ⟨_, rfl, h⟩
section
variable {prog : Program} {w : World} {A : Around} {E : Value → Shared → Prop} {s : Shared}
theorem call_zip_mixed {a b : Addr} {xs ys : Array Value} {Q : Value → Shared → Prop} (ha : s.heap.IsTuple a xs) (hb : s.heap.IsList b ys)
    (h : ∀ h', IsZip h' (s.heap.objs.size + 4) (s.heap.objs.size + 2) (s.heap.objs.size + 3) .none → IsTupOf2 h' (s.heap.objs.size + 2) (.ref s.heap.objs.size) (.ref (s.heap.objs.size + 1)) → IsTupOf2 h' (s.heap.objs.size + 3) .none .none →
      h'.IsTupleIter s.heap.objs.size a 0 → h'.IsListIter (s.heap.objs.size + 1) b 0 → (∀ c o, s.heap.get? c = some o → h'.get? c = some o) → Q (.ref (s.heap.objs.size + 4)) { s with heap := h' }) :
    wpAny (model prog w) A (call (.type "zip") [.ref a, .ref b]) Q E s := by
  refine callType_new F.called_zip (by decide) (F.typeCall_zip_2 _ _) (F.newCall_zip_2 _ _) (fun obj => F.args_object_init_3 obj _ _) F.entry_zip_new (zip_new_mixed a b xs ys) ⟨ha, hb, ?_⟩
  have n1 : (Z1 s.heap a).objs.size = s.heap.objs.size + 1 := Heap.size_push ..
  have n2 : (Z2 s.heap a b).objs.size = s.heap.objs.size + 2 := (Heap.size_push ..).trans (by rw [n1])
  have n3 : (Z3 s.heap a b).objs.size = s.heap.objs.size + 3 := (Heap.size_push ..).trans (by rw [n2])
  have n4 : (Z4 s.heap a b).objs.size = s.heap.objs.size + 4 := (Heap.size_push ..).trans (by rw [n3])
  have g5 : (Z5 s.heap a b).get? (Z4 s.heap a b).objs.size = some { cls := .type "zip", data := .fields #[.none, .bool false, .bool false, .ref (Z2 s.heap a b).objs.size, .ref (Z3 s.heap a b).objs.size] } := Heap.get?_push_size _ rfl
  have g4 : (Z5 s.heap a b).get? (Z3 s.heap a b).objs.size = some { cls := .type "tuple", data := .seq #[.none, .none] } := Heap.get?_push_of_some _ (Heap.get?_push_size _ rfl)
  have g3 : (Z5 s.heap a b).get? (Z2 s.heap a b).objs.size = some { cls := .type "tuple", data := .seq #[.ref s.heap.objs.size, .ref (Z1 s.heap a).objs.size] } := Heap.get?_push_of_some _ (Heap.get?_push_of_some _ (Heap.get?_push_size _ rfl))
  have g2 : (Z5 s.heap a b).get? (Z1 s.heap a).objs.size = some { cls := .type "list_iterator", data := .fields #[.ref b, .int 0 0] } := Heap.get?_push_of_some _ (Heap.get?_push_of_some _ (Heap.get?_push_of_some _ (Heap.get?_push_size _ rfl)))
  have g1 : (Z5 s.heap a b).get? s.heap.objs.size = some { cls := .type "tuple_iterator", data := .fields #[.ref a, .int 0 0] } := Heap.get?_push_of_some _ (Heap.get?_push_of_some _ (Heap.get?_push_of_some _ (Heap.get?_push_of_some _ (Heap.get?_push_size _ rfl))))
  rw [n2, n3, n4] at g5
  rw [n3] at g4
  rw [n1, n2] at g3
  rw [n1] at g2
  rw [n4]
  exact ⟨⟨_, g5, rfl⟩, h _ g5 g3 g4 ⟨_, g1, rfl, rfl⟩ ⟨_, g2, rfl, rfl⟩ fun c o x => Heap.get?_push_of_some _ (Heap.get?_push_of_some _ (Heap.get?_push_of_some _ (Heap.get?_push_of_some _ (Heap.get?_push_of_some _ x))))⟩
end
end OWZ
namespace OW
open PySem PySem.Spec PyProof.Rows L2 KA
variable [Tbs]
/-- the tuple at a and the list at b, the items in new pairs -/
def Pam (K : PySem.W.Frag) (a b : Addr) : It :=
  ⟨fun i H => ∃ (xs ys : List V) (x y : V), SqT K H a xs ∧ SqL K H b ys ∧ xs[i]? = some x ∧ ys[i]? = some y,
    fun i H v H' => ∃ T x y, v = .ref T ∧ H T = none ∧ H' = upd H T (.tup [x, y]) ∧ (∀ xs, SqT K H a xs → xs[i]? = some x) ∧ ∀ ys, SqL K H b ys → ys[i]? = some y,
    fun i H => ∃ xs ys : List V, SqT K H a xs ∧ SqL K H b ys ∧ i = min xs.length ys.length⟩
theorem turn_pam {P : Program} {w : World} {K : PySem.W.Frag} {elts : List PySem.Expr} {kk : Nat} {tpos : Pos} {a b z TI TO i1 i2 : Addr} (S : ZipSep2 z TI TO i1 i2 [i1, a] [i2, b]) (ha : a ≠ i1) (hb : b ≠ i2) :
    L2.Turn P w K (.Tuple elts kk tpos) (Pam K a b) [z, TI, TO, i1, i2] z (fun i h => IsZip h z TI TO .none ∧ IsTupOf2 h TI (.ref i1) (.ref i2) ∧ (∃ x y, IsTupOf2 h TO x y) ∧ h.IsTupleIter i1 a i ∧ h.IsListIter i2 b i) where
  mem := List.mem_cons_self
  obj := fun i h st c hc => by
    obtain ⟨hz, hTI, ⟨x, y, hTO⟩, ⟨o1, e1, _, d1⟩, ⟨o2, e2, _, d2⟩⟩ := st
    simp only [List.mem_cons, List.not_mem_nil, or_false] at hc
    rcases hc with rfl | rfl | rfl | rfl | rfl
    · exact ⟨_, hz, fun v q => nomatch q⟩
    · exact ⟨_, hTI, fun v q => nomatch q⟩
    · exact ⟨_, hTO, fun v q => nomatch q⟩
    · exact ⟨o1, e1, fun v q => by rw [d1] at q; cases q⟩
    · exact ⟨o2, e2, fun v q => by rw [d2] at q; cases q⟩
  keep := fun i h h' st k => ⟨k z (by simp) _ st.1, k TI (by simp) _ st.2.1, st.2.2.1.imp fun x y => y.imp fun _ e => k TO (by simp) _ e, st.2.2.2.1.at fun o q => k i1 (by simp) o q, st.2.2.2.2.at fun o q => k i2 (by simp) o q⟩
  item := by
    intro X hP hw hK hc i pins s σ H E I hf st hg
    subst hP hw hK
    obtain ⟨hz, hTI, ⟨x0, y0, hTO⟩, h1, h2⟩ := st
    obtain ⟨xs, ys, x, y, hqx, hqy, hx, hy⟩ := hg
    obtain ⟨its, rv, p, _⟩ := I.tuple hqx
    obtain ⟨its2, rv2, p2, _⟩ := I.list hqy
    obtain ⟨u, hu, ru⟩ := rv.get hx
    obtain ⟨u2, hu2, ru2⟩ := rv2.get hy
    have zl : z < s.heap.objs.size := Heap.lt_size hz
    have hh := I.ok.hd hc
    refine wpAny_pyNext_zipD2_item S (Draws.tuple (A := X.A.in1) hh i1 a ha its.toArray) (Draws.list (A := X.A.in1) hh i2 b hb its2.toArray) hz hTI hTO ⟨h1, p⟩ ⟨h2, p2.isList⟩ (by rw [List.size_toArray]; exact (List.getElem?_eq_some_iff.mp hu).1) (by rw [List.size_toArray]; exact (List.getElem?_eq_some_iff.mp hu2).1) fun w1 w2 h' tk q1 q2 z' TO' s1 s2 hT hsz hk => ?_
    have e1 : w1 = u := by
      have q1 : its.toArray[i]? = some w1 := q1
      rw [List.getElem?_toArray, hu] at q1
      exact (Option.some.inj q1).symm
    have e2 : w2 = u2 := by
      have q2 : its2.toArray[i]? = some w2 := q2
      rw [List.getElem?_toArray, hu2] at q2
      exact (Option.some.inj q2).symm
    subst e1 e2
    refine ⟨_, rfl, wpAny_letOwnedTupleGo_zip (s := { s with heap := h', toks := tk }) z' fun h'' z'' sb => ?_⟩
    have hT2 : h''.get? s.heap.objs.size = some { cls := .type "tuple", data := .seq #[w1, w2] } := (sb.2 _ (Nat.ne_of_gt zl)).trans hT
    have new : ObjOk X.prog X.w (upd H s.heap.objs.size (.tup [x, y])) h'' s.heap.objs.size (.tup [x, y]) := ⟨by show 2 ≤ sizeLine; decide, [w1, w2], .cons ru (.cons ru2 .nil), ⟨_, hT2, rfl, _, rfl⟩⟩
    have out : ∀ c, c ∉ [z, TI, TO, i1, i2] → c ≠ z ∧ c ≠ TO ∧ c ≠ i1 ∧ c ≠ i2 := fun c hc => ⟨fun q => hc (by simp [q]), fun q => hc (by simp [q]), fun q => hc (by simp [q]), fun q => hc (by simp [q])⟩
    have I1 : Inv X pins σ (upd H s.heap.objs.size (.tup [x, y])) { s with heap := h'', toks := tk } :=
      I.turnedNew (ch := [z, TI, TO, i1, i2]) (fun c o hb q => (sb.2 c (out c hb).1).trans (hk c o (out c hb).1 (out c hb).2.1 (out c hb).2.2.1 (out c hb).2.2.2 q)) hf (Nat.le_refl _) new
    have i1z : i1 ≠ z := fun q => S.zf1 (by rw [← q]; exact List.mem_cons_self)
    have i2z : i2 ≠ z := fun q => S.zf2 (by rw [← q]; exact List.mem_cons_self)
    refine ⟨.ref s.heap.objs.size, _, I1, rfl, ⟨_, x, y, rfl, I.hok.fresh (Nat.le_refl _), rfl, fun l hl => by rw [I.tuple_inj hl hqx]; exact hx, fun l hl => by rw [I.list_inj hl hqy]; exact hy⟩, ⟨z'', ?_, ⟨w1, w2, ?_⟩, ?_, ?_⟩, fun c hcm => ?_⟩
    · exact (sb.2 _ S.TIz).trans (hk _ _ S.TIz S.TITO S.TIi1 S.TIi2 hTI)
    · exact (sb.2 _ S.TOz).trans TO'
    · exact s1.1.at fun o q => (sb.2 _ i1z).trans q
    · exact s2.1.at fun o q => (sb.2 _ i2z).trans q
    · have hlt : c < s.heap.objs.size := by
        simp only [List.mem_cons, List.not_mem_nil, or_false] at hcm
        rcases hcm with rfl | rfl | rfl | rfl | rfl
        · exact zl
        · exact Heap.lt_size hTI
        · exact Heap.lt_size hTO
        · exact Heap.lt_size h1.choose_spec.1
        · exact Heap.lt_size h2.choose_spec.1
      rw [upd_ne (Nat.ne_of_lt hlt)]
      exact (hf c hcm).1
  done := by
    intro X hP hw hK hc i pins s σ H E I hf st hg
    subst hP hw hK
    obtain ⟨hz, hTI, ⟨x0, y0, hTO⟩, h1, h2⟩ := st
    obtain ⟨xs, ys, hqx, hqy, hend⟩ := hg
    obtain ⟨its, rv, p, _⟩ := I.tuple hqx
    obtain ⟨its2, rv2, p2, _⟩ := I.list hqy
    have l1 := rv.length
    have l2 := rv2.length
    have hh := I.ok.hd hc
    refine wpAny_pyNext_zipD2_end S (Draws.tuple (A := X.A.in1) hh i1 a ha its.toArray) (Draws.list (A := X.A.in1) hh i2 b hb its2.toArray) hz hTI hTO ⟨h1, p⟩ ⟨h2, p2.isList⟩ (by rw [List.size_toArray]; omega) (by rw [List.size_toArray]; omega) (by rw [List.size_toArray, List.size_toArray]; omega) fun h' tk hk => ⟨rfl, ?_⟩
    exact I.turnedL (t' := tk) (ch := [z, TI, TO, i1, i2]) (fun c o hb q => hk c o (fun q' => hb (by simp [q'])) (fun q' => hb (by simp [q'])) (fun q' => hb (by simp [q'])) (fun q' => hb (by simp [q'])) q) hf
  self := fun A i s Q E st h => wpAny_pyIter_zip st.1 h
theorem sep_at (n a b : Nat) (la : a < n) (lb : b < n) : ZipSep2 (n + 4) (n + 2) (n + 3) n (n + 1) [n, a] [n + 1, b] := by
  have no : ∀ {x y z : Nat}, y < x → z < x → x ∉ [y, z] := fun {x y z} h1 h2 h => by
    rcases List.mem_cons.mp h with h | h
    · exact absurd h (Nat.ne_of_gt h1)
    · exact absurd (List.mem_singleton.mp h) (Nat.ne_of_gt h2)
  refine ⟨Nat.ne_of_lt (by omega), Nat.ne_of_lt (by omega), Nat.ne_of_lt (by omega), Nat.ne_of_gt (by omega), List.mem_cons_self, no (by omega) (by omega), no (by omega) (by omega), Nat.ne_of_gt (by omega), List.mem_cons_self, no (by omega) (by omega), no (by omega) (by omega), fun h => ?_, no (by omega) (by omega)⟩
  rcases List.mem_cons.mp h with h | h
  · exact absurd h (Nat.ne_of_lt (by omega))
  · exact absurd (List.mem_singleton.mp h) (Nat.ne_of_gt (by omega))
def iPam (K : PySem.W.Frag) (ta : TA) : TI := fun σ H R => ta σ H fun vs H1 => ∃ a b xs ys, vs = [.ref a, .ref b] ∧ SqT K H1 a xs ∧ SqL K H1 b ys ∧ R (Pam K a b) H1
theorem pi_pam {X : Cx} {e e2 : PySem.Expr} {ta : TA} {p pos tpos : Pos} {elts : List PySem.Expr} {kk : Nat} (hg : Gl X "zip") (hm : X.mg "zip" = none) (ha : PA X [e, e2] ta)
    (hs : starEach [e, e2] X.env = (false, eval e X.env) :: starEach [e2] X.env := by rfl) (hpl : (backTo pos (starEach [e2] X.env)).any (·.1) = false := by rfl) :
    PI X (.Tuple elts kk tpos) (.Call (.Name "zip" p) [e, e2] [] pos) (iPam X.K ta) := by
  refine ⟨fun pins s σ H R I h => ?_⟩
  refine Call_ (ld_blt I hg hm PyProof.Rows.boot_zip (PyProof.Rows.callWith_type1 (thn (ha.run pos pins s σ H _ I h) fun us s1 ⟨vs, H1, I1, r1, q1⟩ => ?_) hs hpl))
  obtain ⟨a, b, xs, ys, rfl, hqx, hqy, q⟩ := q1
  cases r1 with
  | cons r rr =>
    cases rr with
    | cons r' rr =>
      cases rr
      cases r
      cases r'
      obtain ⟨its, rv, p1, _⟩ := I1.tuple hqx
      obtain ⟨its2, rv2, p2, _⟩ := I1.list hqy
      have la : a < s1.heap.objs.size := Heap.lt_size (show s1.heap.IsTuple a its.toArray from p1).choose_spec.1
      have lb : b < s1.heap.objs.size := p2.lt
      refine OWZ.call_zip_mixed (show s1.heap.IsTuple a its.toArray from p1) p2.isList fun h' hz hTI hTO h1 h2 hk => wpAny_pyIter_zip hz ?_
      have I2 : Inv X pins σ H1 { s1 with heap := h' } := I1.kept (t' := s1.toks) hk
      have S := sep_at s1.heap.objs.size a b la lb
      refine ⟨s1.heap.objs.size + 4, [s1.heap.objs.size + 4, s1.heap.objs.size + 2, s1.heap.objs.size + 3, s1.heap.objs.size, s1.heap.objs.size + 1], _, _, H1, rfl, I2, turn_pam S (Nat.ne_of_lt la) (Nat.ne_of_lt (Nat.lt_succ_of_lt lb)), ⟨hz, hTI, ⟨_, _, hTO⟩, h1, h2⟩, fun c hcm => ?_, q⟩
      have hle : s1.heap.objs.size ≤ c := by
        simp only [List.mem_cons, List.not_mem_nil, or_false] at hcm
        rcases hcm with z | z | z | z | z <;> rw [z] <;> first | exact Nat.le_add_right _ _ | exact Nat.le_refl _
      exact I1.fpOk hle (I1.hok.fresh hle)
section
variable {ρ ρ1 : List Sl} {tr : TA} {xs ys : List PyData} {KF : PySem.W.Frag}
theorem fi_pam (h : Eds tr ρ [.tuple xs, .list ys] ρ1) : Fi (iPam KF tr) ρ (zipD xs ys) ρ1 := fun c A σ H R R0 f k => h c A σ H _ R0 f fun vs A1 H1 R1 f1 S1 o1 => by
  obtain ⟨v, u, rfl, o, o'⟩ := dn_two o1
  obtain ⟨a, vs, rfl, e, dx⟩ := tup_v o
  obtain ⟨b, us, rfl, e', dy⟩ := lst_v o'
  refine ⟨a, b, vs, us, rfl, SqT.of (vw_sub _ _ e), SqL.of (vw_sub _ _ e'), k _ _ _ R1 f1 S1 ⟨fun i x H2 ex S => ?_, fun H2 S => ?_⟩⟩
  · obtain ⟨x1, y1, ex1, ey1, rfl⟩ := zipD_at ex
    have lt : i < vs.length := by rw [dx.length]; exact (List.getElem?_eq_some_iff.mp ex1).1
    have lt' : i < us.length := by rw [dy.length]; exact (List.getElem?_eq_some_iff.mp ey1).1
    refine ⟨⟨vs, us, vs[i], us[i], SqT.of (S _ _ e), SqL.of (S _ _ e'), List.getElem?_eq_getElem lt, List.getElem?_eq_getElem lt'⟩, fun v H3 ⟨T, x, y, q1, q2, q3, q4, q5⟩ => ?_⟩
    subst q1 q3
    refine ⟨Same.new q2, fun W' S' nw => ?_⟩
    obtain ⟨x', g1, d1⟩ := dn_at dx (q4 vs (SqT.of (S _ _ e)))
    obtain ⟨y', g2, d2⟩ := dn_at dy (q5 us (SqL.of (S _ _ e')))
    obtain rfl : x1 = x' := Option.some.inj (ex1.symm.trans g1)
    obtain rfl : y1 = y' := Option.some.inj (ey1.symm.trans g2)
    exact .tup (nw _ _ q2 upd_same) (.cons (Dn.mono S' d1) (.one (Dn.mono S' d2)))
  · exact ⟨vs, us, SqT.of (S _ _ e), SqL.of (S _ _ e'), by rw [dx.length, dy.length, zipD_len]⟩
end
end OW
set_option Elab.async false
set_option linter.unusedVariables false
set_option linter.unusedSectionVars false
set_option maxRecDepth 100000
set_option maxHeartbeats 2000000
namespace KP
open PySem PySem.Spec PyProof.Rows L2 KA OW
/-! ### a term rebuilt of its parts -/
abbrev sRebuilt : Stmt := top 12
abbrev nRebuilt : List Str := ["part", "news", "olds", "new", "old"]
theorem scRebuilt : FnScope nRebuilt ["part", "news"] (defScope sRebuilt) := ⟨rfl, rfl, rfl, by decide +kernel, rfl, by decide +kernel, by decide +kernel⟩
def tRebuilt : List Sl → (Rv → Prop) → Prop := fun as Kr => ∃ w ds news, as = [.d (.tuple (.str w :: ds)), .d (.list news)] ∧ news.length ≤ 1000 ∧ ds.length ≤ 1000 ∧ Kr (.d (rebD w ds news))
section
variable {P : Program} {w : World} {K : PySem.W.Frag} {mg : Str → Option Value} {base : Heap}
theorem ok_rebuilt {f : Addr} {fd : FuncData} (F : Fun K "rebuilt" "rebuilt" sRebuilt f fd) (T : Txt K w mg) : FnOk P w K mg base CX0 1 f fd ["part", "news"] (spD 2 tRebuilt) := by
  refine fn_d F scRebuilt (body := fun cdv A outer s H E hr => ⟨_, (pss_cons (ps_if (pt_val (pe_callB (cr_all rfl) (by rfl) T.all (by decide +kernel) (pa_cons (pe_lc (own := [("new", 3)]) (g := gName 3) (tt := tYes) rfl scRebuilt.nd (pi_list (pv 1)) (blkOk_by (N := nRebuilt) (sc := defScope sRebuilt) (by decide +kernel)) (fun _ _ _ _ _ => (pg_name (i := 3) scRebuilt.nd rfl (Or.inl rfl))) (fun _ _ _ _ _ => pts_nil) (fun _ _ _ _ _ => (pe_cmpR op_isN (pv 3) pe_non (nomark _)))) pa_nil))) (pss_one (ps_ret pe_non)) pss_nil) (pss_cons (ps_set (i := 2) scRebuilt.nd rfl (Or.inl rfl) (pe_slice sl_tupA (pv 0) (po_some pe_int) po_none))
      (pss_one (ps_ret (pe_tup (pa_cons (pe_ix ix_tup (pv 0) pe_int (fun _ _ => rfl)) (StX.pa_star (pe_lc (own := [("old", 4), ("new", 3)]) (g := gTup K 2 (gCons (gName 4) (gCons (gName 3) gNil))) (tt := tYes) rfl scRebuilt.nd (pi_pam (by rfl) T.zip (pa_cons (pv 2) (pa_cons (pv 1) pa_nil))) (blkOk_by (N := nRebuilt) (sc := defScope sRebuilt) (by decide +kernel)) (fun _ _ _ _ _ => (pg_tupK (K := K) rfl rfl (pgs_cons (pg_name (i := 4) scRebuilt.nd rfl (Or.inl rfl)) (pgs_cons (pg_name (i := 3) scRebuilt.nd rfl (Or.inl rfl)) pgs_nil)))) (fun _ _ _ _ _ => pts_nil) (fun _ _ _ _ _ => (pe_ifExp (pt_cmpR op_isN (pv 3) pe_non (nomark _)) (pv 4) (pv 3)))) pa_nil))))))), ?_⟩)
  rintro as Kr _ ⟨wd, ds, news, rfl, l1, l2, k⟩
  have e1 : PyData.list (news.map fun x => PyData.bool (noneD x)) = .list ((news.map noneD).map .bool) := by rw [List.map_map]; rfl
  have cut1 : PyData.tuple (cutD (.str wd :: ds) (some (1 : Int)) none) = .tuple ds := by
    rw [show (1 : Int) = ((1 : Nat) : Int) from rfl, cutD_from']
    rfl
  have ez : (zipD ds news).map pickM = mergeD ds news := by
    unfold zipD
    rw [List.map_map, ← merge_zip]
    rfl
  refine (sm_seq (sm_if (b := (news.map noneD).all id) (ρ1 := [.d (.tuple (.str wd :: ds)), .d (.list news), .un, .any, .un]) (et_B (ev_fn (es_cons (Ev.is (Ev.of_el (el_lcM (f := fun x => .bool (noneD x)) (fi_list (ev_var rfl)) ⟨⟨.un, rfl, trivial⟩, trivial⟩ ?_ (fun x hx => ⟨_, tgw_name, (ev_op (ev_var rfl) ev_non fv_isN), rfl, ⟨⟨_, rfl, trivial⟩, trivial⟩⟩))) e1) es_nil) fv_all)) (fun h => (sm_ret ev_non ?_)) (fun h => (sm_next ?_))))
  · exact Nat.le_of_lt (small (by omega))
  · unfold rebD at k
    rw [if_pos h] at k
    exact k
  · unfold rebD at k
    rw [if_neg (by rw [h]; decide)] at k
    have lm : (mergeD ds news).length ≤ 1000 := by
      rw [← ez, List.length_map, zipD_len]
      omega
    have fin : PyData.tuple (.str wd :: (mergeD ds news ++ [])) = .tuple (.str wd :: mergeD ds news) := by rw [List.append_nil]
    refine (sm_seq (sm_set (Ev.is (ev_slA (ev_var rfl) (eo_some ev_int) eo_none) cut1) ?_))
    show Sm _ [.d (.tuple (.str wd :: ds)), .d (.list news), .d (.tuple ds), .any, .un] _
    refine (sm_ret (Ev.is (ev_tup (eds_cons (ev_op (ev_var rfl) ev_int (fv_ixT at0)) (eds_starL (xs := mergeD ds news) (ρ1 := [.d (.tuple (.str wd :: ds)), .d (.list news), .d (.tuple ds), .any, .any]) (Ev.is (Ev.of_el (el_lcM (f := pickM) (ρ0 := [.d (.tuple (.str wd :: ds)), .d (.list news), .d (.tuple ds), .any, .un]) (fi_pam (eds_cons (ev_var rfl) (eds_cons (ev_var rfl) eds_nil))) ⟨⟨.un, rfl, trivial⟩, ⟨.any, rfl, trivial⟩, trivial⟩ ?_ (fun x hx => ?_))) (by rw [ez])) eds_nil)) ?_) fin) k)
    · rw [zipD_len]
      exact Nat.le_of_lt (small (by omega))
    · obtain ⟨j, hj⟩ := List.getElem?_of_mem hx
      obtain ⟨o, n, _, _, rfl⟩ := zipD_at hj
      refine ⟨_, (tgw_tup (xs := [o, n]) (tgsw_cons tgw_name (tgsw_cons tgw_name tgsw_nil))), ?_, rfl, ⟨⟨_, rfl, trivial⟩, ⟨_, rfl, trivial⟩, trivial⟩⟩
      refine (ev_if (b := noneD n) (et_test (ev_op (ev_var rfl) ev_non fv_isN)) (fun h => ?_) (fun h => ?_))
      · show Ev _ _ (.d (if noneD n = true then o else n)) _
        rw [if_pos h]
        exact (ev_var rfl)
      · show Ev _ _ (.d (if noneD n = true then o else n)) _
        rw [if_neg (by rw [h]; decide)]
        exact (ev_var rfl)
    · rw [List.append_nil]
      exact Nat.le_of_lt (small (by rw [List.length_cons]; omega))
end
end KP
set_option Elab.async false
set_option linter.unusedVariables false
set_option maxRecDepth 100000
set_option maxHeartbeats 1000000
namespace KA
open PySem PySem.Spec PyProof.Rows L2
open Sem (wp)
/-! ### del xs[-m:] -/
theorem drop_back (p : Nat → Bool) (a : Nat) : ∀ (xs : List Value) (j : Nat), (∀ k, j ≤ k → k < j + xs.length → p k = decide (a ≤ k)) → (xs.zipIdx j).filterMap (fun (x, k) => if p k then none else some x) = xs.take (a - j)
  | [], j, h => by simp
  | x :: xs, j, h => by
    have ih := drop_back p a xs (j + 1) fun k h1 h2 => h k (by omega) (by rw [List.length_cons]; omega)
    rw [List.zipIdx_cons, List.filterMap_cons]
    have hj := h j (Nat.le_refl _) (by rw [List.length_cons]; omega)
    by_cases c : a ≤ j
    · have e : p j = true := by rw [hj]; exact decide_eq_true c
      have e0 : a - j = 0 := by omega
      have e1 : a - (j + 1) = 0 := by omega
      rw [e1, List.take_zero] at ih
      simp only [e, if_true, e0, List.take_zero]
      exact ih
    · have e : p j = false := by rw [hj]; exact decide_eq_false c
      obtain ⟨m, hm⟩ : ∃ m, a - j = m + 1 := ⟨a - j - 1, by omega⟩
      have e1 : a - (j + 1) = m := by omega
      rw [e1] at ih
      simp only [e, Bool.false_eq_true, if_false, hm, List.take_succ_cons]
      rw [ih]
section
variable {prog : Program} {w : World} {A : Around} {E : Value → Shared → Prop} {s : Shared}
set_option maxRecDepth 100000 in
theorem delItem_back {l sl : Addr} {items : Array Value} {n m : Nat} {vl vu : Value} {Q : Unit → Shared → Prop}
    (e : s.heap.get? l = some { cls := .type "list", data := .seq items n })
    (hs : s.heap.IsSliceOf sl vl vu .none) (pl : IsPart vl (some (-(m : Int)))) (pu : IsPart vu none) (m0 : 0 < m) (hm : m ≤ items.size)
    (hsz : items.size ≤ sizeLine) (h : ∀ f : Array Value → Array Value, f items = (items.toList.take (items.size - m)).toArray → Q () { s with heap := s.heap.update l (Obj.mapSeq f) }) :
    wpAny (model prog w) A (delItem (.ref l) (.ref sl)) Q E s := by
  have hl : s.heap.IsList l items := PySem.IsL.isList e
  obtain ⟨os, hos, hcs, hds⟩ := id hs
  have hTs : s.TypeIs (.ref sl) "slice" := ⟨os, hos, hcs⟩
  have hstep : ¬ ((rawPart none == rawInt 0) = true) := Bool.false_ne_true
  refine PySem.wpAny_delItem_slot hl.typeIs (by decide) F.slot_list_delitem ?_
  refine PySem.wpAny_call_entry F.slot_list_delitem hl.typeIs F.entry_list_delitem ?_ (F.args_list_delitem_2 _ _)
  show wpAny _ _ (Builtin.List.listSubscript? (.ref sl) >>= _) _ _ s
  refine wpAny_bind ?_
  unfold Builtin.List.listSubscript?
  refine wpAny_bind (wpAny_specialOf hTs slice_no_index ?_)
  simp only [Option.isNone_none, if_true]
  refine wpAny_pure ?_
  show wpAny _ _ (typeOf (.ref sl) >>= _) _ _ s
  refine wpAny_bind (wpAny_typeOf hTs ?_)
  first
    | rw [if_neg (by decide)]
    | refine PySem.W.KFB.if_not (by decide) ?_
  rw [listSliceParts_eq]
  refine wpAny_bind (wpAny_bind (wpAny_field hos hds (x := .none) rfl (wpAny_bind (wpAny_listPart .none ?_))))
  rw [if_neg hstep]
  refine wpAny_bind (wpAny_field hos hds (x := vl) rfl (wpAny_bind (wpAny_listPart pl ?_)))
  refine wpAny_bind (wpAny_field hos hds (x := vu) rfl (wpAny_bind (wpAny_listPart pu (wpAny_pure ?_))))
  refine wpAny_bind (m := Builtin.List.listItems (.ref l)) ?_
  unfold Builtin.List.listItems
  refine wpAny_bind (wpAny_seqItems e rfl (wpAny_pure ?_))
  have hb : sliceBounds (some (-(m : Int))) none none items.size = (((items.size - m : Nat) : Int), (items.size : Int), 1) := by
    simp only [sliceBounds, Option.getD_none]
    have h1 : (-(m : Int)) < 0 := by omega
    simp only [h1, if_true, show (1 : Int) > 0 by decide]
    congr 1
    omega
  refine wpAny_bind (wpAny_of_eq ((sliceIndices_raw (some (-(m : Int))) none none items.size (by simp)).trans (congrArg (pure : Int × Int × Int → Sem (Int × Int × Int)) hb)) ?_)
  refine wpAny_bind (wpAny_rule ?_)
  show wpAny _ _ (updateSeq l _ >>= _) _ _ s
  refine wpAny_bind (wpAny_updateSeq (hz := hsz) (_hz' := ?hz) e rfl ?_)
  case hz =>
    rw [List.size_toArray]
    refine Nat.le_trans (List.length_filterMap_le _ _) ?_
    rw [List.length_zipIdx, Array.length_toList]
    exact Nat.le_succ_of_le hsz
  refine wpAny_bind (wpAny_letGo ?_)
  refine wpAny_pure ⟨.none, rfl, ?_⟩
  refine h _ ?_
  refine congrArg List.toArray ?_
  refine (drop_back _ (items.size - m) items.toList 0 fun k _ hk => ?_).trans (by rw [Nat.sub_zero])
  show (decide (((items.size - m : Nat) : Int) ≤ (k : Int)) && decide ((k : Int) < (items.size : Int)) && ((((k : Int) - ((items.size - m : Nat) : Int)) % 1) == 0)) = decide (items.size - m ≤ k)
  have e1 : (((k : Int) - ((items.size - m : Nat) : Int)) % 1 == 0) = true := by rw [Int.emod_one]; rfl
  have e2 : decide ((k : Int) < (items.size : Int)) = true := decide_eq_true (by rw [Nat.zero_add, Array.length_toList] at hk; omega)
  rw [e1, e2, Bool.and_true, Bool.and_true]
  by_cases c : items.size - m ≤ k
  · rw [decide_eq_true c, decide_eq_true (by omega)]
  · rw [decide_eq_false c, decide_eq_false (by omega)]

end
section
variable {X : Cx} {o : Expr} {lo' : Option Expr} {to : TE} {tl : TO} {p2 tpos pos : Pos}
theorem del_back {pins : List (Addr × Obj)} {s : Shared} {σ : L2.St} {H : Hp} {l sl : Addr} {xs : List V} {m : Nat} {vl vu : Value} {Q : Unit → Shared → Prop} (I : Inv X pins σ H s) (hH : H l = some (.lst xs)) (hs : s.heap.IsSliceOf sl vl vu .none) (pl : IsPart vl (some (-(m : Int)))) (pu : IsPart vu none)
    (m0 : 0 < m) (hm : m ≤ xs.length) (h : ∀ s', Inv X pins σ (upd H l (.lst (xs.take (xs.length - m)))) s' → Q () s') : wpAny (model X.prog X.w) X.A (delItem (.ref l) (.ref sl)) Q X.xe s := by
  obtain ⟨z, its, n, r, hl, e⟩ := I.lstM hH
  refine delItem_back (m := m) e hs pl pu m0 (by rw [List.size_toArray, ← hl]; exact hm) (by rw [List.size_toArray]; omega) fun f ef => h _ ?_
  refine I.lset (its' := its.take (its.length - m)) (t' := s.toks) hH e ?_ ?_ ?_
  · rw [ef, List.size_toArray]
  · rw [hl]
    exact r.take _
  · rw [List.length_take]
    omega
/-- del xs[lo:], lo behind from the end -/
def tDelBack (to : TE) (tl : TO) : TS := fun D σ H => to σ H fun x H1 => tl σ H1 fun lo H2 => ∃ (l : Addr) (xs : List V) (m : Nat), x = .ref l ∧ lo = some (-(m : Int)) ∧ H2 l = some (.lst xs) ∧ 0 < m ∧ m ≤ xs.length ∧ D.nx σ (upd H2 l (.lst (xs.take (xs.length - m))))
theorem ps_delBack (ho : PE X o to) (hl : PO X lo' tl) : PS X (.Delete [.Subscript o (.Slice lo' none none p2) tpos] pos) (tDelBack to tl) := by
  refine ⟨fun pins s σ H D I h => ?_⟩
  refine wpAny_Delete (wpAny_deleteEach_cons (wpAny_delete_Subscript (thn (ho.run pins s σ H _ I h) fun u s1 ⟨x, H1, I1, rx, q1⟩ => ?_)))
  refine wpAny_Slice (thn (hl.run pins s1 σ H1 _ I1 q1) fun vl s2 ⟨lo, H2, I2, pl, q2⟩ => thn ((po_none (X := X)).run pins s2 σ H2 (fun o H3 => o = none ∧ H3 = H2) I2 ⟨rfl, rfl⟩) fun vu s3 ⟨u', H3, I3, pu, e1, e2⟩ => ?_)
  subst e1
  subst e2
  rw [evalPart_none]
  refine wpAny_pure ?_
  obtain ⟨l, xs, m, rfl, rfl, hH, m0, hm, q3⟩ := q2
  cases (show u = Value.ref l from rx)
  have I4 : Inv X pins σ H3 { s3 with heap := s3.heap.push { cls := .type "slice", data := .fields #[vl, vu, .none] } } := I3.kept (t' := s3.toks) fun b ob q => Heap.get?_push_of_some _ q
  exact del_back I4 hH (Heap.IsSliceOf.new ..) pl pu m0 hm fun s4 I5 => wpAny_deleteEach_nil ⟨σ, _, I5, q3⟩
end
end KA
set_option Elab.async false
set_option linter.unusedVariables false
set_option linter.unusedSectionVars false
set_option maxRecDepth 100000
set_option maxHeartbeats 1000000
namespace OW
open PySem PySem.Spec PyProof.Rows L2 KA
variable [Tbs]
section
variable {ρ ρ1 : List Sl} {xs ys : List PyData} {k : Nat} {K : KK} {tl : TO}
/-- del xs[-m:] of an owned list -/
theorem sm_delBack {m : Nat} (h0 : ρ[k]? = some (.l ys)) (hl : Eo tl ρ (some (-(m : Int))) ρ1) (h1 : ρ1[k]? = some (.l xs)) (m0 : 0 < m) (hm : m ≤ xs.length) (q : K.nx (ρ1.set k (.l (xs.take (xs.length - m))))) : Sm (tDelBack (tVar k) tl) ρ K := fun c A σ H D R f dk => by
  obtain ⟨a, vs0, _, e1, _, _⟩ := R.sl k _ h0
  refine ⟨_, e1, hl c A σ H _ R f fun A1 H1 R1 f1 S1 => ?_⟩
  obtain ⟨b, vs, ea, e3, e4, dx⟩ := R1.sl k _ h1
  rw [e1] at e3
  cases e3
  have ln := dx.length
  refine ⟨a, vs, m, rfl, rfl, e4, m0, by omega, dk.nx _ _ _ _ q (R1.mut h1 ea ?_) f1⟩
  rw [ln]
  have e0 : cutV vs none (some ((xs.length - m : Nat) : Int)) = vs.take (xs.length - m) := by
    unfold cutV
    rw [HT.sIx_none, HT.sIx_nat, List.drop_zero, Nat.sub_zero, Nat.min_eq_left (by omega)]
  have e2 := OW.cutD_to (xs := xs) (n := xs.length - m) (by omega)
  rw [← e0, ← e2]
  exact dn_cut dx
end
end OW
set_option Elab.async false
set_option linter.unusedVariables false
set_option linter.unusedSectionVars false
set_option maxRecDepth 100000
set_option maxHeartbeats 2000000
namespace KP
open PySem PySem.Spec PyProof.Rows L2 KA OW
/-! ### a term turned at its places: the stack -/
mutual
def tnD (g : Int → Int → PyData) : PyData → Int → PyData
  | .tuple (.str w :: ds), u => if w = "at" then (match ds with | .int n :: _ => g n u | _ => .none) else if (parts w).isSome = true then rebD w ds (tnL g w u 0 ds) else .none
  | _, _ => .none
def tnL (g : Int → Int → PyData) : Str → Int → Nat → List PyData → List PyData
  | _, _, _, [] => []
  | w, u, i, d :: ds => tnD g d (u + passD w (i : Int)) :: tnL g w u (i + 1) ds
end
abbrev It3 := PyData × Int × Bool
def itT (q : It3) : PyData := .tuple [q.1, .int q.2.1, .bool q.2.2]
def dsD : PyData → List PyData | .tuple (_ :: ds) => ds | _ => []
/-- what is made in the end: the top of the stack ahead -/
def finT (g : Int → Int → PyData) : List It3 → List PyData → List PyData
  | [], M => M
  | (e, u, false) :: S, M => finT g S (M ++ [tnD g e u])
  | (e, _, true) :: S, M => finT g S (M.take (M.length - (dsD e).length) ++ [rebD (wdD e) (dsD e) (M.drop (M.length - (dsD e).length))])
/-- it never lacks what it takes back -/
def okS : List It3 → Nat → Prop
  | [], _ => True
  | (_, _, false) :: S, n => okS S (n + 1)
  | (e, _, true) :: S, n => (dsD e).length ≤ n ∧ okS S (n - (dsD e).length + 1)
def pushT : Str → Int → Nat → List PyData → List It3
  | _, _, _, [] => []
  | w, u, i, d :: ds => (d, u + passD w (i : Int), false) :: pushT w u (i + 1) ds
def loadT (S : List It3) : Nat := (S.map fun q => if q.2.2 = true then 1 else nodes q.1).sum
def weighT (S : List It3) : Nat := (S.map fun q => if q.2.2 = true then 1 else 2 * nodes q.1).sum
theorem tnL_len (g : Int → Int → PyData) : ∀ (w : Str) (u : Int) (i : Nat) (ds : List PyData), (tnL g w u i ds).length = ds.length
  | _, _, _, [] => rfl
  | w, u, i, _ :: ds => congrArg (· + 1) (tnL_len g w u (i + 1) ds)
theorem pushT_len : ∀ (w : Str) (u : Int) (i : Nat) (ds : List PyData), (pushT w u i ds).length = ds.length
  | _, _, _, [] => rfl
  | w, u, i, _ :: ds => congrArg (· + 1) (pushT_len w u (i + 1) ds)
theorem fin_push (g : Int → Int → PyData) : ∀ (w : Str) (u : Int) (i : Nat) (ds : List PyData) (S : List It3) (M : List PyData), finT g (pushT w u i ds ++ S) M = finT g S (M ++ tnL g w u i ds)
  | w, u, i, [], S, M => by
    show finT g S M = finT g S (M ++ [])
    rw [List.append_nil]
  | w, u, i, d :: ds, S, M => by
    show finT g (pushT w u (i + 1) ds ++ S) (M ++ [tnD g d (u + passD w (i : Int))]) = _
    rw [fin_push g w u (i + 1) ds S, List.append_assoc]
    rfl
theorem okS_push : ∀ (w : Str) (u : Int) (i : Nat) (ds : List PyData) (S : List It3) (n : Nat), okS (pushT w u i ds ++ S) n ↔ okS S (n + ds.length)
  | w, u, i, [], S, n => Iff.rfl
  | w, u, i, d :: ds, S, n => by
    show okS (pushT w u (i + 1) ds ++ S) (n + 1) ↔ _
    rw [okS_push w u (i + 1) ds S (n + 1), List.length_cons, show n + 1 + ds.length = n + (ds.length + 1) by omega]
/-- a parted one is put back, its parts ahead of it -/
theorem fin_open {g : Int → Int → PyData} {w : Str} {ds : List PyData} {u : Int} {S : List It3} {M : List PyData} (hw : w ≠ "at") (hp : (parts w).isSome = true) : finT g (pushT w u 0 ds ++ (.tuple (.str w :: ds), u, true) :: S) M = finT g ((.tuple (.str w :: ds), u, false) :: S) M := by
  rw [fin_push]
  show finT g S ((M ++ tnL g w u 0 ds).take ((M ++ tnL g w u 0 ds).length - ds.length) ++ [rebD w ds ((M ++ tnL g w u 0 ds).drop ((M ++ tnL g w u 0 ds).length - ds.length))]) = finT g S (M ++ [if w = "at" then _ else if (parts w).isSome = true then rebD w ds (tnL g w u 0 ds) else .none])
  rw [if_neg hw, if_pos hp, List.length_append, tnL_len, Nat.add_sub_cancel, List.take_left, List.drop_left]
theorem okS_open {w : Str} {ds : List PyData} {u : Int} {S : List It3} {n : Nat} (h : okS ((.tuple (.str w :: ds), u, false) :: S) n) : okS (pushT w u 0 ds ++ (.tuple (.str w :: ds), u, true) :: S) n := by
  rw [okS_push]
  have h : okS S (n + 1) := h
  refine ⟨?_, ?_⟩
  · show ds.length ≤ n + ds.length
    omega
  · show okS S (n + ds.length - ds.length + 1)
    rw [Nat.add_sub_cancel]
    exact h
theorem loadT_append (a b : List It3) : loadT (a ++ b) = loadT a + loadT b := by unfold loadT; rw [List.map_append, List.sum_append]
theorem weighT_append (a b : List It3) : weighT (a ++ b) = weighT a + weighT b := by unfold weighT; rw [List.map_append, List.sum_append]
theorem loadT_push : ∀ (w : Str) (u : Int) (i : Nat) (ds : List PyData), loadT (pushT w u i ds) = nodesAll ds ∧ weighT (pushT w u i ds) = 2 * nodesAll ds
  | _, _, _, [] => ⟨rfl, rfl⟩
  | w, u, i, d :: ds => by
    obtain ⟨h1, h2⟩ := loadT_push w u (i + 1) ds
    refine ⟨?_, ?_⟩
    · show nodes d + loadT (pushT w u (i + 1) ds) = nodes d + nodesAll ds
      rw [h1]
    · show 2 * nodes d + weighT (pushT w u (i + 1) ds) = 2 * (nodes d + nodesAll ds)
      rw [h2]
      omega
theorem loadT_rev (a : List It3) : loadT a.reverse = loadT a ∧ weighT a.reverse = weighT a := by
  unfold loadT weighT
  rw [List.map_reverse, List.sum_reverse, List.map_reverse, List.sum_reverse]
  exact ⟨rfl, rfl⟩
theorem loadT_len (S : List It3) : S.length ≤ loadT S := by
  induction S with
  | nil => exact Nat.le_refl _
  | cons q S ih =>
    have := nodes_pos q.1
    show S.length + 1 ≤ (if q.2.2 = true then 1 else nodes q.1) + loadT S
    split <;> omega
end KP
set_option Elab.async false
set_option linter.unusedVariables false
set_option linter.unusedSectionVars false
set_option maxRecDepth 100000
set_option maxHeartbeats 9000000
namespace KP
open PySem PySem.Spec PyProof.Rows L2 KA OW NdefX
/-! ### a term turned at its places: the def -/
abbrev sTurned : Stmt := top 13
abbrev nTurned : List Str := ["term", "turn", "made", "waiting", "part", "above", "parts_made", "word", "news", "at"]
theorem scTurned : FnScope nTurned ["term", "turn"] (defScope sTurned) := ⟨rfl, rfl, rfl, by decide +kernel, rfl, by decide +kernel, by decide +kernel⟩
def tTurn (g : Int → Int → PyData) : List Sl → (Rv → Prop) → Prop := fun as Kr => ∃ n u, as = [.d (.int n), .d (.int u)] ∧ Kr (.d (g n u))
def turnD (g : Int → Int → PyData) (d : PyData) : PyData := if noneD (tnD g d 0) = true then d else tnD g d 0
theorem cut_back {M : List PyData} {n : Nat} (h : n ≤ M.length) (n0 : 0 < n) : cutD M (some (-(n : Int))) none = M.drop (M.length - n) := by
  unfold OW.cutD
  have e : HT.sIx M.length 0 (some (-(n : Int))) = M.length - n := by
    show (if (-(n : Int)) < 0 then ((-(n : Int)) + (M.length : Int)).toNat else min (-(n : Int)).toNat M.length) = _
    rw [if_pos (by omega)]
    omega
  rw [HT.sIx_none, e, List.take_of_length_le]
  rw [List.length_drop]
  exact Nat.le_refl _
section
variable {P : Program} {w : World} {K : PySem.W.Frag} {mg : Str → Option Value} {base : Heap}
theorem fv_partedN {a : Addr} {z : Str} (pn : ∀ z, ∃ r, PySem.W.nsIn K a z = some r ∧ RelO ((parts z).map fun n => V.int (n : Int)) r) :
    FV2 (fun x y H Q => ∃ (z : Str) (r : Option Value), x = .str z ∧ y = .ref a ∧ PySem.W.nsIn K a z = some r ∧ Q (.bl (!r.isSome)) H) (.d (.str z)) (.p (isV (.ref a))) (.d (.bool (!(parts z).isSome))) := by
  obtain ⟨r, h1, h2⟩ := pn z
  have e : r.isSome = (parts z).isSome := by
    cases hp : parts z with
    | none =>
      rw [hp] at h2
      cases r with
      | none => rfl
      | some u => exact h2.elim
    | some n =>
      rw [hp] at h2
      cases r with
      | none => exact h2.elim
      | some u => rfl
  exact fv2_s (dB (!(parts z).isSome)) fun W H v u Q S o o' q => ⟨z, r, str_v o, isv_v o', h1, by rw [e]; exact q⟩
theorem fv_pix {a : Addr} {es : Array DictEntry} {en : Nat} {z : Str} {n : Nat} (PD : KDict K w a es en) (pn : ∀ z, ∃ r, PySem.W.nsIn K a z = some r ∧ RelO ((parts z).map fun n => V.int (n : Int)) r) (h : parts z = some n) : FV2 (rIxD K w) (.p (isV (.ref a))) (.d (.str z)) (.d (.int (n : Int))) := by
  obtain ⟨r, h1, h2⟩ := pn z
  rw [h] at h2
  cases r with
  | none => exact h2.elim
  | some u => exact fv2_s (dI (n : Int)) fun W H v v' Q S o o' q => ⟨a, z, .int (n : Int), isv_v o, str_v o', ⟨es, en, u, PD.at_, PD.lit, h1, h2⟩, q⟩
def tTurned (P : Program) (w : World) (K : PySem.W.Frag) (mg : Str → Option Value) (base : Heap) (lim : Nat) : NF → List Str → List V → List Sl → (Rv → Prop) → Prop := fun F fr ws0 as Kr => ∃ d f cs g ps kF, as = [.d d, .p (madeMo f F ws0 cs)] ∧ NOk P w K mg base CX0 kF f F ps fr (spN 2 ws0 cs (tTurn g)) ∧ kF ≤ lim ∧ tm d = true ∧ nodes d ≤ 900000 ∧ Kr (.d (turnD g d))
end
end KP
set_option Elab.async false
set_option linter.unusedVariables false
set_option linter.unusedSectionVars false
set_option maxRecDepth 100000
set_option maxHeartbeats 9000000
namespace KP
open PySem PySem.Spec PyProof.Rows L2 KA OW NdefX
section
variable {P : Program} {w : World} {K : PySem.W.Frag} {mg : Str → Option Value} {base : Heap}
/-- what stands of the turning while it goes -/
structure Tng (g : Int → Int → PyData) (d : PyData) (W : List It3) (M : List PyData) : Prop where
  eq : finT g W.reverse M = [tnD g d 0]
  ok : okS W.reverse M.length
  t : ∀ q ∈ W, tm q.1 = true ∧ (q.2.2 = true → wdD q.1 ≠ "at" ∧ (parts (wdD q.1)).isSome = true)
  ln : M.length + loadT W ≤ nodes d
theorem pushT_at : ∀ {ds : List PyData} {w : Str} {u : Int} {i k : Nat} {e : PyData}, ds[k]? = some e → (pushT w u i ds)[k]? = some (e, u + passD w ((i + k : Nat) : Int), false)
  | d :: ds, w, u, i, 0, e, h => by
    cases h
    rfl
  | d :: ds, w, u, i, k + 1, e, h => by
    have := pushT_at (w := w) (u := u) (i := i + 1) (k := k) (ds := ds) h
    show (pushT w u (i + 1) ds)[k]? = _
    rw [this, show i + 1 + k = i + (k + 1) by omega]
theorem pushT_mem : ∀ {ds : List PyData} {w : Str} {u : Int} {i : Nat} {q : It3}, q ∈ pushT w u i ds → q.1 ∈ ds ∧ q.2.2 = false
  | d :: ds, w, u, i, q, h => by
    rcases List.mem_cons.mp h with rfl | h
    · exact ⟨List.mem_cons_self, rfl⟩
    · obtain ⟨h1, h2⟩ := pushT_mem h
      exact ⟨List.mem_cons_of_mem _ h1, h2⟩
theorem parts_small {z : Str} {n : Nat} (h : parts z = some n) : 0 < n ∧ n ≤ 3 := by
  unfold parts at h
  repeat (split at h; · (cases h; decide))
  cases h
theorem ok_turned {f : Addr} {fd : FuncData} (F : Fun K "turned" "turned" sTurned f fd) (T : Txt K w mg) (Trev : mg "reversed" = none) (C_rebuilt : C8.Cal P w K mg base 1 "rebuilt" (spD 2 tRebuilt) []) (C_passed : C8.Cal P w K mg base 1 "passed" (spD 2 tPassed) []) (lim : Nat) : FnOkS P w K mg base (1 + lim + 1) f fd ["term", "turn"] (spHand 2 (tTurned P w K mg base lim)) := by
  obtain ⟨pa, es, en, pm, PD, pn⟩ := T.parted
  unfold spHand
  refine fn_dS (n := 2) (k := 1 + lim) F scTurned (body := fun cdv A outer s H E as Kr hr hl h => ?_)
  obtain ⟨F', fr, ws0, hh, d, fa, cs, g, ps, kF, rfl, Fn, hkF, td, nd, k⟩ := h
  have HC := hh.cells
  have HF := hh.off
  have hrH := hr.mono (show kF ≤ 1 + lim by omega)
  refine ⟨_, by
    have HN := Fn
    exact (pss_cons (ps_set (i := 2) scTurned.nd rfl (Or.inl rfl) (pe_lst pa_nil))
      (pss_cons (ps_set (i := 3) scTurned.nd rfl (Or.inl rfl) (pe_lst (pa_cons (pe_tup (pa_cons (pv 0) (pa_cons pe_int (pa_cons pe_bl pa_nil)))) pa_nil)))
      (pss_cons (ps_while PassesOwn.never (pt_truth (pv 3) (by intro _; rfl)) (pss_cons (ps_asg (pe_bm0 PySem.F.plainAttrs_list PySem.F.slot_list_pop PySem.F.type_list_pop mt_pop (pv 3)) (pg_tup rfl (pgs_cons (pg_name (i := 4) scTurned.nd rfl (Or.inl rfl)) (pgs_cons (pg_name (i := 5) scTurned.nd rfl (Or.inl rfl)) (pgs_cons (pg_name (i := 6) scTurned.nd rfl (Or.inl rfl)) pgs_nil)))))
      (pss_cons (ps_set (i := 7) scTurned.nd rfl (Or.inl rfl) (pe_ix ix_tup (pv 4) pe_int (fun _ _ => rfl)))
      (pss_one (ps_if (pt_cmpR op_eq (pv 7) pe_str (nomark _)) (pss_one (ps_expr (pe_bm PySem.F.plainAttrs_list PySem.F.slot_list_append PySem.F.type_list_append mt_append (pv 2) (pa_cons (pe_held (i := 1) HN HC HF rfl hrH rfl (.inl rfl) (pa_cons (pe_ix ix_tup (pv 4) pe_int (fun _ _ => rfl)) (pa_cons (pv 5) pa_nil))) pa_nil)))) (pss_one (ps_if (pt_cmpR (op_notIn_kd PD) (pv 7) (pe_glob (v := .ref pa) rfl pm rfl) rfl) (pss_one (ps_expr (pe_bm PySem.F.plainAttrs_list PySem.F.slot_list_append PySem.F.type_list_append mt_append (pv 2) (pa_cons pe_non pa_nil)))) (pss_one (ps_if (pt_val (pv 6)) (pss_cons (ps_set (i := 8) scTurned.nd rfl (Or.inl rfl) (pe_slice sl_list (pv 2) (po_some (pe_un un_neg (pe_ix ix_kdict (pe_glob (v := .ref pa) rfl pm rfl) (pv 7) (fun _ _ => rfl)))) po_none))
      (pss_cons (ps_delBack (pv 2) (po_some (pe_un un_neg (pe_ix ix_kdict (pe_glob (v := .ref pa) rfl pm rfl) (pv 7) (fun _ _ => rfl)))))
      (pss_one (ps_expr (pe_bm PySem.F.plainAttrs_list PySem.F.slot_list_append PySem.F.type_list_append mt_append (pv 2) (pa_cons (C8.pe_c C_rebuilt hr (by omega) rfl (pa_cons (pv 4) (pa_cons (pv 8) pa_nil))) pa_nil)))))) (pss_cons (ps_expr (pe_bm PySem.F.plainAttrs_list PySem.F.slot_list_append PySem.F.type_list_append mt_append (pv 3) (pa_cons (pe_tup (pa_cons (pv 4) (pa_cons (pv 5) (pa_cons pe_bl pa_nil)))) pa_nil)))
      (pss_one (ps_for PassesOwn.never rfl (pi_revR (by rfl) Trev (prg_1 (by rfl) T.range (pe_ix ix_kdict (pe_glob (v := .ref pa) rfl pm rfl) (pv 7) (fun _ _ => rfl)))) (pg_name (i := 9) scTurned.nd rfl (Or.inl rfl)) (pss_one (ps_expr (pe_bm PySem.F.plainAttrs_list PySem.F.slot_list_append PySem.F.type_list_append mt_append (pv 3) (pa_cons (pe_tup (pa_cons (pe_ix ix_tup (pv 4) (pe_op op_add (pv 9) pe_int) (fun _ _ => rfl)) (pa_cons (pe_op op_add (pv 5) (C8.pe_c C_passed hr (by omega) rfl (pa_cons (pv 7) (pa_cons (pv 9) pa_nil)))) (pa_cons pe_bl pa_nil)))) pa_nil))))))))))))))))
      (pss_one (ps_ret (pe_ifExp (pt_cmpR op_isN (pe_ix ix_list (pv 2) pe_int (fun _ _ => rfl)) pe_non (nomark _)) (pv 0) (pe_ix ix_list (pv 2) pe_int (fun _ _ => rfl)))))))), ?_⟩
  refine (sm_seq (sm_setL (el_lst eds_nil) (sm_seq (sm_setL (el_lst (eds_cons (ev_tup (eds_cons (ev_var rfl) (eds_cons ev_int (eds_cons ev_bl eds_nil)))) eds_nil)) (sm_seq (sm_while (fun m ρ => ∃ (W : List It3) (M : List PyData) (s4 s5 s6 s7 s8 s9 : Sl), ρ = [.d d, .p (madeMo fa F' ws0 cs), .l M, .l (W.map itT), s4, s5, s6, s7, s8, s9] ∧ Tng g d W M ∧ m = weighT W) ⟨_, [(d, 0, false)], [], _, _, _, _, _, _, rfl, ⟨rfl, trivial, fun q hq => ?_, ?_⟩, rfl⟩ ?_))))))
  · rw [List.mem_singleton.mp hq]
    exact ⟨td, fun z => by cases z⟩
  · show 0 + (nodes d + 0) ≤ nodes d
    omega
  rintro m ρ ⟨W, M, s4, s5, s6, s7, s8, s9, rfl, tg, rfl⟩
  obtain ⟨eq, okk, tt, ln⟩ := tg
  refine ⟨_, _, et_truO rfl, fun h => ?_, fun h => ?_⟩
  · obtain ⟨W', q, rfl⟩ : ∃ W' q, W = W' ++ [q] := by
      rcases List.eq_nil_or_concat W with rfl | ⟨W', q, z⟩
      · cases h
      · exact ⟨W', q, by simpa using z⟩
    obtain ⟨e, u, b⟩ := q
    obtain ⟨te, tb⟩ := tt _ (List.mem_append_right _ List.mem_cons_self)
    have te : tm e = true := te
    rw [List.reverse_append] at eq okk
    have eq : finT g ((e, u, b) :: W'.reverse) M = [tnD g d 0] := eq
    have okk : okS ((e, u, b) :: W'.reverse) M.length := okk
    rw [loadT_append] at ln
    have lw := loadT_len W'
    rw [List.map_append]
    obtain ⟨wd, ds, rfl⟩ := tm_shape te
    have ew : weighT (W' ++ [(PyData.tuple (.str wd :: ds), u, b)]) = weighT W' + ((if b = true then 1 else 2 * nodes (.tuple (.str wd :: ds))) + 0) := weighT_append _ _
    have el : loadT [(PyData.tuple (.str wd :: ds), u, b)] = (if b = true then 1 else nodes (.tuple (.str wd :: ds))) + 0 := rfl
    have np := nodes_pos (.tuple (.str wd :: ds))
    rw [el] at ln
    have lM : M.length ≤ 900000 := by omega
    have tW : ∀ q ∈ W', tm q.1 = true ∧ (q.2.2 = true → wdD q.1 ≠ "at" ∧ (parts (wdD q.1)).isSome = true) := fun q hq => tt q (List.mem_append_left _ hq)
    refine (sm_seq (sm_asg (ev_pop (xs := W'.map itT) (x := itT (.tuple (.str wd :: ds), u, b)) rfl) (tg_tup (xs := [.tuple (.str wd :: ds), .int u, .bool b]) (tgs_cons tg_name (tgs_cons tg_name (tgs_cons tg_name tgs_nil)))) (sm_seq (sm_set (ev_op (ev_var rfl) ev_int (fv_ixT at0)) ?_))))
    show Sm _ [.d d, .p (madeMo fa F' ws0 cs), .l M, .l (W'.map itT), .d (.tuple (.str wd :: ds)), .d (.int u), .d (.bool b), .d (.str wd), s8, s9] _
    refine (sm_if (et_test (ev_op (ev_var rfl) ev_str fv_eqS)) (fun hw => ?_) (fun hw => ?_))
    · obtain rfl := of_decide_eq_true hw
      have bf : b = false := by
        cases b with
        | false => rfl
        | true => exact absurd rfl (tb rfl).1
      subst bf
      obtain ⟨n, rfl⟩ : ∃ n, ds = [.int n] := by
        rw [tm_leaf (by decide +kernel)] at te
        match ds, te with
        | [x], te =>
          have te : cntB 0 x = true := te
          cases x <;> first | exact ⟨_, rfl⟩ | cases te
        | [], te => cases te
        | [x, y], te =>
          have te : (nameB x && (if ("at" : Str) = "maker" then cntB 0 y else decide (("at" : Str) = "eater") && wholeB 0 5 y)) = true := te
          rw [if_neg (by decide), decide_eq_false (by decide), Bool.false_and, Bool.and_false] at te
          cases te
        | _ :: _ :: _ :: _, te => cases te
      have tn1 : tnD g (.tuple [.str "at", .int n]) u = g n u := by
        rw [tnD]
        exact if_pos rfl
      refine (sm_app rfl (ev_made rfl (es_cons (ev_op (ev_var rfl) ev_int (fv_ixT at1)) (es_cons (ev_var rfl) es_nil)) rfl rfl ⟨_, _, rfl, rfl⟩) rfl (small (by omega)) ?_)
      refine ⟨weighT W', ?_, W', M ++ [g n u], _, _, _, _, _, _, rfl, ⟨?_, ?_, tW, ?_⟩, rfl⟩
      · rw [ew, if_neg (by decide)]
        omega
      · have eq : finT g W'.reverse (M ++ [tnD g (.tuple [.str "at", .int n]) u]) = [tnD g d 0] := eq
        rw [tn1] at eq
        exact eq
      · rw [List.length_append, List.length_singleton]
        exact okk
      · rw [List.length_append, List.length_singleton]
        rw [if_neg (by decide)] at ln
        omega
    · have hw : wd ≠ "at" := of_decide_eq_false hw
      refine (sm_if (et_test (ev_op (ev_var rfl) ev_cv (fv_partedN pn))) (fun hp => ?_) (fun hp => ?_))
      · have hp : parts wd = none := by
          cases e : parts wd with
          | none => rfl
          | some n => rw [e] at hp; cases hp
        have bf : b = false := by
          cases b with
          | false => rfl
          | true =>
            have := (tb rfl).2
            have : (parts wd).isSome = true := this
            rw [hp] at this
            cases this
        subst bf
        have tn1 : tnD g (.tuple (.str wd :: ds)) u = .none := by
          show (if wd = "at" then _ else if (parts wd).isSome = true then rebD wd ds (tnL g wd u 0 ds) else PyData.none) = PyData.none
          rw [if_neg hw, if_neg (by rw [hp]; decide)]
        refine (sm_app rfl ev_non rfl (small (by omega)) ?_)
        refine ⟨weighT W', ?_, W', M ++ [.none], _, _, _, _, _, _, rfl, ⟨?_, ?_, tW, ?_⟩, rfl⟩
        · rw [ew, if_neg (by decide)]
          omega
        · have eq : finT g W'.reverse (M ++ [tnD g (.tuple (.str wd :: ds)) u]) = [tnD g d 0] := eq
          rw [tn1] at eq
          exact eq
        · rw [List.length_append, List.length_singleton]
          exact okk
        · rw [List.length_append, List.length_singleton]
          rw [if_neg (by decide)] at ln
          omega
      · obtain ⟨n, hpw⟩ : ∃ n, parts wd = some n := by
          cases e : parts wd with
          | none => rw [e] at hp; cases hp
          | some n => exact ⟨n, rfl⟩
        obtain ⟨n0, n3⟩ := parts_small hpw
        have ld : ds.length = n := by
          rw [tm_parts hpw] at te
          exact of_decide_eq_true (Bool.and_eq_true_iff.mp te).1
        have es : (parts wd).isSome = true := by rw [hpw]; rfl
        cases b with
        | true =>
          have okk : ds.length ≤ M.length ∧ okS W'.reverse (M.length - ds.length + 1) := okk
          have eq : finT g W'.reverse (M.take (M.length - ds.length) ++ [rebD wd ds (M.drop (M.length - ds.length))]) = [tnD g d 0] := eq
          rw [ld] at okk eq
          have cb : PyData.list (cutD M (some (-(n : Int))) none) = .list (M.drop (M.length - n)) := by rw [cut_back okk.1 n0]
          refine (sm_if (b := true) (et_B (ev_var rfl)) (fun h => ?_) (fun h => by cases h))
          refine (sm_seq (sm_set (Ev.is (Ev.of_el (el_slO rfl (eo_some (ev_negI (ev_op ev_cv (ev_var rfl) (fv_pix PD pn hpw)))) eo_none rfl)) cb) (sm_seq (sm_delBack rfl (eo_some (ev_negI (ev_op ev_cv (ev_var rfl) (fv_pix PD pn hpw)))) rfl n0 okk.1 (sm_app rfl (ev_call (x := rebD wd ds (M.drop (M.length - n))) (es_cons (ev_var rfl) (es_cons (ev_var rfl) es_nil)) ar_nil rfl ⟨_, _, _, rfl, ?_, by omega, rfl⟩) rfl (small ?_) ?_)))))
          · rw [List.length_drop]
            omega
          · rw [List.length_take]
            omega
          · refine ⟨weighT W', ?_, W', M.take (M.length - n) ++ [rebD wd ds (M.drop (M.length - n))], _, _, _, _, _, _, rfl, ⟨eq, ?_, tW, ?_⟩, rfl⟩
            · rw [ew, if_pos rfl]
              omega
            · rw [List.length_append, List.length_singleton, List.length_take, Nat.min_eq_left (by omega)]
              exact okk.2
            · rw [List.length_append, List.length_singleton, List.length_take]
              rw [if_pos rfl] at ln
              omega
        | false =>
          have okk : okS ((.tuple (.str wd :: ds), u, false) :: W'.reverse) M.length := okk
          have ndn : ds.length ≤ nodesAll ds := len_nodes ds
          have nde : nodes (.tuple (.str wd :: ds)) = 1 + nodesAll ds + 1 := rfl
          rw [if_neg (by decide)] at ln
          obtain ⟨lp, wp⟩ := loadT_push wd u 0 ds
          refine (sm_if (b := false) (et_B (ev_var rfl)) (fun h => by cases h) (fun h => ?_))
          refine (sm_seq (sm_app rfl (ev_tup (eds_cons (ev_var rfl) (eds_cons (ev_var rfl) (eds_cons ev_bl eds_nil)))) rfl (small (by rw [List.length_map]; omega)) (sm_for (fi_revR (ev_op ev_cv (ev_var rfl) (fv_pix PD pn hpw)) (by constructor <;> omega)) (fun j ρ => ∃ s9, ρ = [.d d, .p (madeMo fa F' ws0 cs), .l M, .l ((W' ++ [(PyData.tuple (.str wd :: ds), u, true)] ++ (pushT wd u 0 ds).reverse.take j).map itT), .d (.tuple (.str wd :: ds)), .d (.int u), .d (.bool false), .d (.str wd), s8, s9]) ⟨s9, ?_⟩ (fun j x ρ ex r => ?_) (fun ρ r => ?_))))
          · rw [List.take_zero, List.append_nil, List.map_append]
            rfl
          · obtain ⟨s9, rfl⟩ := r
            have lt : j < ds.length := by
              have := (List.getElem?_eq_some_iff.mp ex).1
              rw [List.length_reverse, rngD_len, Int.toNat_natCast] at this
              omega
            rw [List.getElem?_reverse (by rw [rngD_len, Int.toNat_natCast]; omega), rngD_len, Int.toNat_natCast] at ex
            obtain ⟨_, rfl⟩ := rngD_at ex
            rw [← ld]
            have hk := List.getElem?_eq_getElem (show ds.length - 1 - j < ds.length by omega)
            have i1 : (((ds.length - 1 - j : Nat) : Int) + 1) = ((ds.length - 1 - j + 1 : Nat) : Int) := by omega
            have ix : atI (.str wd :: ds) (((ds.length - 1 - j : Nat) : Int) + 1) = some ds[ds.length - 1 - j] := by rw [i1]; exact at_nat hk
            have hp' : (pushT wd u 0 ds).reverse[j]? = some (ds[ds.length - 1 - j], u + passD wd ((0 + (ds.length - 1 - j) : Nat) : Int), false) := by
              rw [List.getElem?_reverse (by rw [pushT_len]; exact lt), pushT_len]
              exact pushT_at hk
            refine ⟨_, tg_name, (sm_app rfl (ev_tup (eds_cons (ev_op (ev_var rfl) (ev_op (ev_var rfl) ev_int fv_int) (fv_ixT ix)) (eds_cons (ev_op (ev_var rfl) (ev_call (es_cons (ev_var rfl) (es_cons (ev_var rfl) es_nil)) ar_nil rfl ⟨_, _, rfl, rfl⟩) fv_int) (eds_cons ev_bl eds_nil)))) rfl (small ?_) ⟨.d (.int ((ds.length - 1 - j : Nat) : Int)), ?_⟩)⟩
            · have : ((pushT wd u 0 ds).reverse.take j).length ≤ ds.length := by
                rw [List.length_take, List.length_reverse, pushT_len]
                omega
              simp only [List.length_map, List.length_append, List.length_singleton]
              omega
            · rw [take_snoc hp', ← List.append_assoc, List.map_append (l₁ := W' ++ _ ++ _), Nat.zero_add]
              rfl
          · obtain ⟨s9, rfl⟩ := r
            have full : (rngD ((n : Int)).toNat).reverse.length = (pushT wd u 0 ds).reverse.length := by rw [List.length_reverse, rngD_len, Int.toNat_natCast, List.length_reverse, pushT_len, ld]
            rw [full, List.take_length]
            have rv : (W' ++ [(PyData.tuple (.str wd :: ds), u, true)] ++ (pushT wd u 0 ds).reverse).reverse = pushT wd u 0 ds ++ (.tuple (.str wd :: ds), u, true) :: W'.reverse := by
              rw [List.reverse_append, List.reverse_reverse, List.reverse_append]
              rfl
            have w1 : weighT (W' ++ [(PyData.tuple (.str wd :: ds), u, true)] ++ (pushT wd u 0 ds).reverse) = weighT W' + 1 + 2 * nodesAll ds := by
              rw [weighT_append, weighT_append, (loadT_rev _).2, wp]
              rfl
            have l1 : loadT (W' ++ [(PyData.tuple (.str wd :: ds), u, true)] ++ (pushT wd u 0 ds).reverse) = loadT W' + 1 + nodesAll ds := by
              rw [loadT_append, loadT_append, (loadT_rev _).1, lp]
              rfl
            refine ⟨_, ?_, _, M, _, _, _, _, _, _, rfl, ⟨?_, ?_, fun q hq => ?_, ?_⟩, rfl⟩
            · rw [w1, ew, if_neg (by decide)]
              omega
            · rw [rv, fin_open hw es]
              exact eq
            · rw [rv]
              exact okS_open okk
            · rcases List.mem_append.mp hq with hq | hq
              · rcases List.mem_append.mp hq with hq | hq
                · exact tW q hq
                · rw [List.mem_singleton.mp hq]
                  exact ⟨te, fun _ => ⟨hw, es⟩⟩
              · obtain ⟨h1, h2⟩ := pushT_mem (List.mem_reverse.mp hq)
                have tp := parts_tm te
                rw [show partsD (.tuple (.str wd :: ds)) = ds from if_pos es] at tp
                exact ⟨tmAll_mem tp h1, fun z => by rw [h2] at z; cases z⟩
            · rw [l1]
              omega
  · have e0 : W = [] := by cases W with | nil => rfl | cons _ _ => cases h
    subst e0
    have eq : M = [tnD g d 0] := eq
    subst eq
    unfold turnD at k
    refine (sm_ret (ev_if (b := noneD (tnD g d 0)) (ρ2 := [.d d, .p (madeMo fa F' ws0 cs), .l [tnD g d 0], .l [], s4, s5, s6, s7, s8, s9]) (et_test (ev_op (ev_ixO rfl ev_int rfl at0) ev_non fv_isN)) (fun h => ?_) (fun h => ?_)) k)
    · rw [if_pos h]
      exact (ev_var rfl)
    · rw [if_neg (by rw [h]; decide)]
      exact (ev_ixO rfl ev_int rfl at0)
end
end KP
set_option Elab.async false
set_option linter.unusedVariables false
set_option linter.unusedSectionVars false
set_option maxRecDepth 100000
set_option maxHeartbeats 2000000
namespace OW
open PySem PySem.Spec PyProof.Rows L2 KA NdefX LamX
variable [Tbs]
/-! ### a def that makes a def: its code object is known -/
structure FunC (K : PySem.W.Frag) (x qual : Str) (st : Stmt) (f : Addr) (fd : FuncData) (c : Addr) : Prop where
  ex : ∃ (oc : Value) (od : Option Addr) (kV doc pm : Value) (an : Option Addr) (ct : Value) (osl : Array (Option Value)),
    fd = PySem.W.fnOf x qual (defArgs st) (defBody st) (defScope st) .none kV doc pm an (.ref c) ct ∧ K.lookup f = some ⟨oc, od, .func fd, osl⟩ ∧ PySem.W.codeIn K (.ref c) qual = true
  kp : PySem.W.keepIn K (.ref f) = true
theorem FunC.fn {K : PySem.W.Frag} {x qual : Str} {st : Stmt} {f : Addr} {fd : FuncData} {c : Addr} (F : FunC K x qual st f fd c) : Fun K x qual st f fd := by
  obtain ⟨oc, od, kV, doc, pm, an, ct, osl, e, l, q⟩ := F.ex
  exact ⟨⟨oc, od, kV, doc, pm, an, _, ct, osl, e, l, q⟩, F.kp⟩
/-- its table -/
structure Tabd (base : Heap) (mg : Str → Option Value) (c P : Addr) (q : Str) : Prop where
  tb : TabB base mg c P
  mem : (P, fun _ _ => q) ∈ Tbs.T
  one : ∀ p ∈ Tbs.T, p.1 = P → p.2 = fun _ _ => q
section
variable {P : Program} {w : World} {K : PySem.W.Frag} {mg : Str → Option Value} {base : Heap}
theorem fn_dC {x qual : Str} {st : Stmt} {f c : Addr} {fd : FuncData} {N ps : List Str} {k n : Nat} {T : List Sl → (Rv → Prop) → Prop} (F : FunC K x qual st f fd c) (S : FnScope N ps (defScope st)) (hn : ps.length = n := by rfl) (hN : n + N.length < fl := by decide)
    (body : ∀ (A : Around) (outer : List Env) (s : Shared) (H : Hp) (E : XK), Room k (A.deeper (envOfC qual (defScope st) s.heap.objs.size f (.ref c))) →
      ∃ t, PSs (cxOf CX0 P w K mg base N qual (defScope st) f (.ref c) A outer s H E).nox (defBody st) t ∧ ∀ as Kr, as.length = n → T as Kr → Sm t (as ++ uns (N.length - n)) { nx := fun _ => Kr (.d .none), rt := fun r _ => Kr r }) :
    FnOk P w K mg base CX0 (k + 1) f fd ps (spD n T) := by
  obtain ⟨oc, od, kV, doc, pm, an, ct, osl, rfl, lk, hcd⟩ := F.ex
  refine fn_of lk hcd S (fun vs H Q E h => ?_) fun A outer s H vs Q E hr h => ?_
  · obtain ⟨Z, as, Kr, hZ, ha, hl, _⟩ := h
    rw [ha.length, hl, hn]
  · obtain ⟨Z, as, Kr, hZ, ha, hl, hT, go⟩ := h
    obtain ⟨t, ht, hb⟩ := body A outer s H E hr
    refine ⟨t, ht.nox, hb as Kr hl hT ⟨Z, none, H, hz Z H⟩ _ _ H _ (rp_start hN hZ ha hl) rfl ?_⟩
    refine ⟨fun ρ' A' σ' H' hk R f => go _ _ _ hk (rp_aft R) .non, fun r ρ' v A' σ' H' hk R o => go r v H' hk (rp_aft R) ?_, fun _ _ _ _ h => h.elim, fun _ _ _ _ h => h.elim⟩
    exact rv_out (fun b o e nz _ => R.old _ _ (hz_mk nz e)) (fun b z => Or.inl z) R.inj R.off R.bor o
structure CalS (P : Program) (w : World) (K : PySem.W.Frag) (mg : Str → Option Value) (base : Heap) (k : Nat) (x : Str) (n : Nat) (T : NF → List Str → List V → List Sl → (Rv → Prop) → Prop) : Prop where
  ex : ∃ (f : Addr) (fd : FuncData) (ps : List Str), FnOkS P w K mg base k f fd ps (spHand n T) ∧ mg x = some (.ref f) ∧ PySem.W.keepIn K (.ref f) = true ∧ Binds K fd ps []
end
section
variable {X : Cx}
theorem ps_nd {st : Stmt} {q : Str} {c P : Addr} {name : Str} {pos : Pos} {i : Nat} (D : Tabd X.base X.mg c P q) (hst : st = .FunctionDef name (C8.fnArgs st) (C8.fnBody st) [] none [] (C8.fnScope st) none name pos) (hc : X.env.code = .ref c) (hn : q = X.env.qual ++ name)
    (hcap : ∀ y ∈ (C8.fnScope st).names, y.2 = .free → X.env.scope.names.lookup y.1 = some .cell ∨ X.env.scope.names.lookup y.1 = some .free) (hd0 : (C8.fnArgs st).defaults = []) (hk0 : (C8.fnArgs st).kw_defaults = []) (han : annTrees (C8.fnArgs st) none X.env = [])
    (nd : X.N.Nodup) (hi : X.N[i]? = some name) (lo : Loc X.env.scope name) (hf : X.fn name = true ∨ X.env.scope.names.lookup name = some .local) :
    PS X st (tNdefT i (NF.of st name (X.env.qual ++ name) (cloFrom X.env.cells (C8.fnScope st).names []))) := ps_ndefT hst D.tb hc D.mem D.one hn hcap hd0 hk0 han nd hi lo hf
theorem pe_hs {k j n : Nat} {fr : List Str} {js : List Nat} {cl : List (Str × Addr)} {T : NF → List Str → List V → List Sl → (Rv → Prop) → Prop} {x : Str} {e : Expr} {es : List Expr} {t : TA} {p pos : Pos} (c : CalS X.prog X.w X.K X.mg X.base k x n T) (cp : X.Ok → Caps X cl fr js) (hfn : ∀ y, X.fn y = true) (hr : Room j X.A) (hkj : k ≤ j) (hg : Gl X x)
    (ha : PA X (e :: es) t) (hdb : (x == ("__debug__" : Str)) = false := by decide) (he : starEach (e :: es) X.env = (false, eval e X.env) :: starEach es X.env := by rfl) (hpl : (backTo pos (starEach es X.env)).any (·.1) = false := by rfl) :
    PE X (.Call (.Name x p) (e :: es) [] pos) (tHand n cl fr js T t) := by
  obtain ⟨f, fd, ps, Fn, hm, hk, hb⟩ := c.ex
  exact pe_hand Fn cp hfn hr hkj hg hm hk hb ha hdb he hpl
end
end OW
set_option Elab.async false
set_option linter.unusedVariables false
set_option linter.unusedSectionVars false
set_option maxRecDepth 100000
set_option maxHeartbeats 9000000
namespace KP
open PySem PySem.Spec PyProof.Rows L2 KA OW NdefX
/-! ### a term raised, given another one: the defs that make a def -/
abbrev sRaisedBy : Stmt := top 14
abbrev nRaisedBy : List Str := ["term", "by", "start", "turn"]
theorem scRaisedBy : FnScope nRaisedBy ["term", "by", "start"] (defScope sRaisedBy) := ⟨rfl, rfl, rfl, by decide +kernel, rfl, by decide +kernel, by decide +kernel⟩
abbrev sRaisedByTurn : Stmt := (defBody sRaisedBy).getD 1 (.Pass ⟨0, 0, 0, 0⟩)
abbrev nRaisedByTurn : List Str := ["number", "above", "by", "start"]
theorem scRaisedByTurn : NdefX.NScope nRaisedByTurn ["number", "above"] ["by", "start"] (C8.fnScope sRaisedByTurn) := NdefX.nscope_by (by decide +kernel)
theorem ndR : ndefB (defScope sRaisedBy) (C8.fnScope sRaisedByTurn) ["by", "start"] = true := by decide +kernel
theorem quR : ("raised_by.<locals>.turn" : Str) = "raised_by" ++ ".<locals>." ++ "turn" := by decide +kernel
def stepR (b s n u : Int) : PyData := if s ≤ n - u then .tuple [.str "at", .int (n + b)] else .none
def raiseD (b s : Int) (d : PyData) : PyData := if b = 0 then d else turnD (stepR b s) d
def tRaised : List Sl → (Rv → Prop) → Prop := fun as Kr => ∃ d b s, as = [.d d, .d (.int b), .d (.int s)] ∧ tm d = true ∧ nodes d ≤ 900000 ∧ Kr (.d (raiseD b s d))
section
variable {P : Program} {w : World} {K : PySem.W.Frag} {mg : Str → Option Value} {base : Heap}
theorem ok_raised_turn {F : NF} {f : Addr} {v1 v2 : V} {b s : Int} (hp : F.params = C8.fnArgs sRaisedByTurn) (hb : F.body = C8.fnBody sRaisedByTurn) (hs : F.scope = C8.fnScope sRaisedByTurn) :
    NOk P w K mg base CX0 1 f F ["number", "above"] ["by", "start"] (spN 2 [v1, v2] [.d (.int b), .d (.int s)] (tTurn (stepR b s))) := by
  obtain ⟨nm, ql, ps, bd, sc, cl, cc⟩ := F
  obtain rfl : ps = _ := hp
  obtain rfl : bd = _ := hb
  obtain rfl : sc = _ := hs
  refine fn_n (n := 2) (m := 2) (k := 0) scRaisedByTurn (fun doc pm ctv us hl => ?_) rfl rfl (by decide) (fun A outer s0 H E hr => ⟨_, (pss_cons (ps_if (pt_cmpR op_ge (pe_op op_sub (pv 0) (pv 1)) (pv 3) (nomark _)) (pss_one (ps_ret (pe_tup (pa_cons pe_str (pa_cons (pe_op op_add (pv 0) (pv 2)) pa_nil))))) pss_nil) (pss_one (ps_ret pe_non))), ?_⟩)
  · match us, hl with
    | [_, _], _ => rfl
  · rintro as Kr _ ⟨n, u, rfl, k⟩
    unfold stepR at k
    refine (sm_seq (sm_if (et_test (ev_op (ev_op (ev_var rfl) (ev_var rfl) fv_int) (ev_var rfl) fv_cmpI)) (fun h => (sm_ret (ev_tup (eds_cons ev_str (eds_cons (ev_op (ev_var rfl) (ev_var rfl) fv_int) eds_nil))) ?_)) (fun h => (sm_next (sm_ret ev_non ?_)))))
    · rw [if_pos (by simpa using h)] at k
      exact k
    · rw [if_neg (by simpa using h)] at k
      exact k
theorem ok_raisedby {f c Pt : Addr} {fd : FuncData} (F : FunC K "raised_by" "raised_by" sRaisedBy f fd c) (TD : Tabd base mg c Pt "raised_by.<locals>.turn") (C_turned : CalS P w K mg base 3 "turned" 2 (tTurned P w K mg base 1)) : FnOk P w K mg base CX0 4 f fd ["term", "by", "start"] (spD 3 tRaised) := by
  refine fn_dC F scRaisedBy (body := fun A outer s H E hr => ⟨_, (pss_cons (ps_if (pt_cmpR op_eq (pv 1) pe_int (nomark _)) (pss_one (ps_ret (pv 0))) pss_nil) (pss_cons (ps_nd (i := 3) (name := "turn") TD rfl rfl quR (ndef_free ndR) rfl rfl rfl scRaisedBy.nd rfl (Or.inl rfl) (.inl rfl)) (pss_one (ps_ret (pe_hs (fr := ["by", "start"]) (js := [1, 2]) C_turned (fun ok => Caps.made ok (ndef_free ndR) (ndef_fr ndR) rfl) (fun _ => rfl) hr (by omega) rfl (pa_cons (pv 0) (pa_cons (pv 3) pa_nil))))))), ?_⟩)
  rintro as Kr _ ⟨d, b, s0, rfl, td, nd, k⟩
  unfold raiseD at k
  refine (sm_seq (sm_if (et_test (ev_op (ev_var rfl) ev_int fv_eqI)) (fun h => (sm_ret (ev_var rfl) ?_)) (fun h => (sm_next (sm_seq (sm_ndef (j1 := 1) (j2 := 2) rfl rfl (fun _ => rfl) (fun f cc v1 v2 => (sm_ret (ev_hand (T := tTurned P w K mg base 1) (j1 := 1) (j2 := 2) (es_cons (ev_var rfl) (es_cons (ev_varp rfl) es_nil)) rfl rfl rfl ⟨d, f, _, stepR b s0, _, 1, rfl, ok_raised_turn rfl rfl rfl, Nat.le_refl _, td, nd, rfl⟩) ?_))))))))
  · rw [if_pos (by simpa using h)] at k
    exact k
  · rw [if_neg (by simpa using h)] at k
    exact k
end
end KP
set_option Elab.async false
set_option linter.unusedVariables false
set_option linter.unusedSectionVars false
set_option maxRecDepth 100000
set_option maxHeartbeats 2000000
namespace KP
open PySem PySem.Spec PyProof.Rows L2 KA OW
/-! ### sayings of things and of makers, beside what they own -/
abbrev sAllOf : Stmt := top 16
abbrev nAllOf : List Str := ["sayings", "term"]
theorem scAllOf : FnScope nAllOf ["sayings", "term"] (defScope sAllOf) := ⟨rfl, rfl, rfl, by decide +kernel, rfl, by decide +kernel, by decide +kernel⟩
abbrev sBound : Stmt := top 17
abbrev nBound : List Str := ["word", "sayings", "term", "made", "saying"]
theorem scBound : FnScope nBound ["word", "sayings", "term"] (defScope sBound) := ⟨rfl, rfl, rfl, by decide +kernel, rfl, by decide +kernel, by decide +kernel⟩
abbrev sThingSaying : Stmt := top 42
abbrev nThingSaying : List Str := ["row"]
theorem scThingSaying : FnScope nThingSaying ["row"] (defScope sThingSaying) := ⟨rfl, rfl, rfl, by decide +kernel, rfl, by decide +kernel, by decide +kernel⟩
abbrev sMakerSaying : Stmt := top 43
abbrev nMakerSaying : List Str := ["row", "maker", "sayings"]
theorem scMakerSaying : FnScope nMakerSaying ["row", "maker"] (defScope sMakerSaying) := ⟨rfl, rfl, rfl, by decide +kernel, rfl, by decide +kernel, by decide +kernel⟩
def kindD (h : Int) : PyData := .tuple [.str "kind", .int h]
def bndD (w : Str) (ss : List PyData) (t : PyData) : PyData := ss.reverse.foldl (fun acc s => .tuple [.str w, s, acc]) t
theorem bnd_all (ss : List PyData) (t : PyData) : bndD "all" ss t = allP ss t := rfl
def tBound : List Sl → (Rv → Prop) → Prop := fun as Kr => ∃ w ss t, as = [.d (.str w), .d (.tuple ss), .d t] ∧ Kr (.d (bndD w ss t))
def tAllOfP : List Sl → (Rv → Prop) → Prop := fun as Kr => ∃ ss t, as = [.d (.tuple ss), .d t] ∧ Kr (.d (allP ss t))
def thSay (h : Int) (es : List PyData) : PyData := allP es (kindD h)
def mkSay (x : Str) (es gs : List PyData) : PyData := allP (es ++ gs) (givenD (thingD x) (plcs es.length gs.length))
def tThSay : List Sl → (Rv → Prop) → Prop := fun as Kr => ∃ x h es fs, as = [.d (rwT x h es fs)] ∧ RwOk x h es fs ∧ Kr (.d (thSay h es))
def tMkSay : List Sl → (Rv → Prop) → Prop := fun as Kr => ∃ x h es fs m gs, as = [.d (rwT x h es fs), .d (.int ((m : Nat) : Int))] ∧ RwOk x h es fs ∧ fs[m]? = some gs ∧ Kr (.d (mkSay x es gs))
section
variable {P : Program} {w : World} {K : PySem.W.Frag} {mg : Str → Option Value} {base : Heap}
theorem ok_bound {f : Addr} {fd : FuncData} (F : Fun K "_bound" "_bound" sBound f fd) (T : Txt K w mg) (Trev : mg "reversed" = none) : FnOk P w K mg base CX0 1 f fd ["word", "sayings", "term"] (spD 3 tBound) := by
  refine fn_d F scBound (body := fun cdv A outer s H E hr => ⟨_, (pss_cons (ps_set (i := 3) scBound.nd rfl (Or.inl rfl) (pv 2))
      (pss_cons (ps_for PassesOwn.never rfl (RT.pi_revA (by rfl) Trev (pv 1)) (pg_name (i := 4) scBound.nd rfl (Or.inl rfl)) (pss_one (ps_set (i := 3) scBound.nd rfl (Or.inl rfl) (pe_tup (pa_cons (pv 0) (pa_cons (pv 4) (pa_cons (pv 3) pa_nil)))))))
      (pss_one (ps_ret (pv 3))))), ?_⟩)
  rintro as Kr _ ⟨wd, ss, t, rfl, k⟩
  refine (sm_seq (sm_set (ev_var rfl) (sm_seq (sm_for (fi_revA_t (ev_var rfl)) (fun j ρ => ∃ s4, ρ = [.d (.str wd), .d (.tuple ss), .d t, .d ((ss.reverse.take j).foldl (fun acc s => .tuple [.str wd, s, acc]) t), s4]) ⟨_, rfl⟩ (fun j x ρ e r => ?_) (fun ρ r => ?_)))))
  · obtain ⟨s4, rfl⟩ := r
    refine ⟨_, tg_name, (sm_set (ev_tup (eds_cons (ev_var rfl) (eds_cons (ev_var rfl) (eds_cons (ev_var rfl) eds_nil)))) ?_)⟩
    refine ⟨.d x, ?_⟩
    rw [take_snoc e, List.foldl_append]
    rfl
  · obtain ⟨s4, rfl⟩ := r
    rw [List.take_length]
    exact sm_ret (ev_var rfl) k
theorem ok_allofP {f : Addr} {fd : FuncData} (F : Fun K "all_of" "all_of" sAllOf f fd) (T : Txt K w mg) (C_bound : C8.Cal P w K mg base 1 "_bound" (spD 3 tBound) []) : FnOk P w K mg base CX0 2 f fd ["sayings", "term"] (spD 2 tAllOfP) := by
  refine fn_d F scAllOf (body := fun cdv A outer s H E hr => ⟨_, (pss_one (ps_ret (C8.pe_c C_bound hr (by omega) rfl (pa_cons pe_str (pa_cons (pv 0) (pa_cons (pv 1) pa_nil)))))), ?_⟩)
  rintro as Kr _ ⟨ss, t, rfl, k⟩
  exact (sm_ret (ev_call (es_cons ev_str (es_cons (ev_var rfl) (es_cons (ev_var rfl) es_nil))) ar_nil rfl ⟨_, _, _, rfl, rfl⟩) k)
theorem ok_thsay {f : Addr} {fd : FuncData} (F : Fun K "thing_saying" "thing_saying" sThingSaying f fd) (T : Txt K w mg) (C_want_row_of_thing : C8.Cal P w K mg base 8 "_want_row_of_thing" (spD 1 tWantR) []) (C_all_of : C8.Cal P w K mg base 2 "all_of" (spD 2 tAllOfP) []) : FnOk P w K mg base CX0 9 f fd ["row"] (spD 1 tThSay) := by
  refine fn_d F scThingSaying (body := fun cdv A outer s H E hr => ⟨_, (pss_cons (ps_expr (C8.pe_c C_want_row_of_thing hr (by omega) rfl (pa_cons (pv 0) pa_nil)))
      (pss_one (ps_ret (C8.pe_c C_all_of hr (by omega) rfl (pa_cons (pe_ix ix_tup (pv 0) pe_int (fun _ _ => rfl)) (pa_cons (pe_tup (pa_cons pe_str (pa_cons (pe_ix ix_tup (pv 0) pe_int (fun _ _ => rfl)) pa_nil))) pa_nil)))))), ?_⟩)
  rintro as Kr _ ⟨x, h, es, fs, rfl, r, k⟩
  exact (sm_seq (sm_drop (ev_call (x := .none) (es_cons (ev_var rfl) es_nil) ar_nil rfl ⟨_, _, _, _, rfl, r, rfl⟩) (sm_ret (ev_call (es_cons (ev_op (ev_var rfl) ev_int (fv_ixT at3)) (es_cons (ev_tup (eds_cons ev_str (eds_cons (ev_op (ev_var rfl) ev_int (fv_ixT at2)) eds_nil))) es_nil)) ar_nil rfl ⟨_, _, rfl, rfl⟩) k)))
theorem ok_mksay {f : Addr} {fd : FuncData} (F : Fun K "maker_saying" "maker_saying" sMakerSaying f fd) (T : Txt K w mg) (C_want_maker : C8.Cal P w K mg base 9 "_want_maker" (spD 2 tWantM) []) (C_all_of : C8.Cal P w K mg base 2 "all_of" (spD 2 tAllOfP) []) (C_bounded : C8.Cal P w K mg base 2 "bounded" (spD 3 tBounded) []) : FnOk P w K mg base CX0 10 f fd ["row", "maker"] (spD 2 tMkSay) := by
  refine fn_d F scMakerSaying (body := fun cdv A outer s H E hr => ⟨_, (pss_cons (ps_expr (C8.pe_c C_want_maker hr (by omega) rfl (pa_cons (pv 0) (pa_cons (pv 1) pa_nil))))
      (pss_cons (ps_set (i := 2) scMakerSaying.nd rfl (Or.inl rfl) (pe_ix ix_tup (pe_ix ix_tup (pv 0) pe_int (fun _ _ => rfl)) (pv 1) (fun _ _ => rfl)))
      (pss_one (ps_ret (C8.pe_c C_all_of hr (by omega) rfl (pa_cons (pe_op op_catA (pe_ix ix_tup (pv 0) pe_int (fun _ _ => rfl)) (pv 2)) (pa_cons (C8.pe_c C_bounded hr (by omega) rfl (pa_cons (pv 0) (pa_cons (pe_tup (pa_cons pe_str (pa_cons (pe_ix ix_tup (pv 0) pe_int (fun _ _ => rfl)) pa_nil))) (pa_cons (pe_callB call_len_seq (by rfl) T.len PySem.boot_len (pa_cons (pv 2) pa_nil)) pa_nil)))) pa_nil))))))), ?_⟩)
  rintro as Kr _ ⟨x, h, es, fs, m, gs, rfl, r, hg, k⟩
  have lt := (List.getElem?_eq_some_iff.mp hg).1
  have ig : atI (fs.map PyData.tuple) ((m : Nat) : Int) = some (.tuple gs) := at_nat (by rw [List.getElem?_map, hg]; rfl)
  have lg : gs.length ≤ 1000000 := okT_len (okT_mem (okT_mem r.ok (x := .tuple (fs.map .tuple)) (by simp)) (x := .tuple gs) (List.mem_map.mpr ⟨gs, List.mem_of_getElem? hg, rfl⟩))
  refine (sm_seq (sm_drop (ev_call (x := .none) (es_cons (ev_var rfl) (es_cons (ev_var rfl) es_nil)) ar_nil rfl ⟨_, _, _, _, _, rfl, r, by omega, by omega, rfl⟩) (sm_seq (sm_set (ev_op (ev_op (ev_var rfl) ev_int (fv_ixT (at_nat (j := 4) rfl))) (ev_var rfl) (fv_ixT ig)) (sm_ret (ev_call (es_cons (ev_op (ev_op (ev_var rfl) ev_int (fv_ixT at3)) (ev_var rfl) (fv_catA ?_)) (es_cons (ev_call (es_cons (ev_var rfl) (es_cons (ev_tup (eds_cons ev_str (eds_cons (ev_op (ev_var rfl) ev_int (fv_ixT at1)) eds_nil))) (es_cons (ev_fn (es_cons (ev_var rfl) es_nil) fv_lenT) es_nil))) ar_nil rfl ⟨_, _, _, _, _, _, rfl, r, rfl⟩) es_nil)) ar_nil rfl ⟨_, _, rfl, rfl⟩) k)))))
  have := r.len.1
  rw [sizeLine_eq]
  omega
end
end KP
set_option Elab.async false
set_option linter.unusedVariables false
set_option linter.unusedSectionVars false
set_option maxRecDepth 100000
set_option maxHeartbeats 4000000
namespace KP
open PySem PySem.Spec PyProof.Rows L2 KA OW
/-! ### a term turned, as a whole -/
mutual
def fuD (g : Int → Int → PyData) : PyData → Int → PyData
  | .tuple (.str w :: ds), u => if w = "at" then (match ds with | .int n :: _ => if noneD (g n u) = true then .tuple (.str w :: ds) else g n u | _ => .tuple (.str w :: ds)) else if (parts w).isSome = true then .tuple (.str w :: fuL g w u 0 ds) else .tuple (.str w :: ds)
  | d, _ => d
def fuL (g : Int → Int → PyData) : Str → Int → Nat → List PyData → List PyData
  | _, _, _, [] => []
  | w, u, i, d :: ds => fuD g d (u + passD w (i : Int)) :: fuL g w u (i + 1) ds
end
theorem fuL_len (g : Int → Int → PyData) : ∀ (w : Str) (u : Int) (i : Nat) (ds : List PyData), (fuL g w u i ds).length = ds.length
  | _, _, _, [] => rfl
  | w, u, i, _ :: ds => congrArg (· + 1) (fuL_len g w u (i + 1) ds)
theorem merge_none : ∀ {ds news : List PyData}, news.length = ds.length → (news.map noneD).all id = true → mergeD ds news = ds
  | [], [], _, _ => rfl
  | d :: ds, n :: news, hl, h => by
    rw [List.map_cons, List.all_cons, Bool.and_eq_true] at h
    have h1 : noneD n = true := h.1
    show (if noneD n = true then d else n) :: mergeD ds news = d :: ds
    rw [if_pos h1, merge_none (Nat.succ.inj hl) h.2]
  | [], _ :: _, hl, _ => by cases hl
  | _ :: _, [], hl, _ => by cases hl
theorem at_shape {ds : List PyData} (h : tm (.tuple (.str "at" :: ds)) = true) : ∃ n, ds = [.int n] ∧ 0 ≤ n := by
  rw [tm_leaf (by decide +kernel)] at h
  match ds, h with
  | [x], te =>
    have te : cntB 0 x = true := te
    cases x <;> first | exact ⟨_, rfl, of_decide_eq_true te⟩ | cases te
  | [], te => cases te
  | [x, y], te =>
    have te : (nameB x && (if ("at" : Str) = "maker" then cntB 0 y else decide (("at" : Str) = "eater") && wholeB 0 5 y)) = true := te
    rw [if_neg (by decide), decide_eq_false (by decide), Bool.false_and, Bool.and_false] at te
    cases te
  | _ :: _ :: _ :: _, te => cases te
theorem tm_none {d : PyData} (h : tm d = true) : noneD d = false := by
  obtain ⟨w, ds, rfl⟩ := tm_shape h
  rfl
theorem tm_dsAll {w : Str} {ds : List PyData} (h : tm (.tuple (.str w :: ds)) = true) (hp : (parts w).isSome = true) : tmAll ds = true := by
  have := parts_tm h
  rw [show partsD (.tuple (.str w :: ds)) = ds from if_pos hp] at this
  exact this
mutual
theorem fu_turn (g : Int → Int → PyData) : ∀ (d : PyData) (u : Int), tm d = true → (if noneD (tnD g d u) = true then d else tnD g d u) = fuD g d u
  | .tuple (x :: ds), u, h => by
    obtain ⟨w, ds', e⟩ := tm_shape h
    injection e with e
    injection e with e1 e2
    subst e1 e2
    by_cases hw : w = "at"
    · subst hw
      obtain ⟨n, rfl, _⟩ := at_shape h
      have e1 : tnD g (.tuple [.str "at", .int n]) u = g n u := by
        rw [tnD]
        exact if_pos rfl
      have e2 : fuD g (.tuple [.str "at", .int n]) u = if noneD (g n u) = true then .tuple [.str "at", .int n] else g n u := by
        rw [fuD]
        exact if_pos rfl
      rw [e1, e2]
    · have e1 : tnD g (.tuple (.str w :: ds)) u = if (parts w).isSome = true then rebD w ds (tnL g w u 0 ds) else .none := by
        show (if w = "at" then _ else if (parts w).isSome = true then rebD w ds (tnL g w u 0 ds) else PyData.none) = _
        exact if_neg hw
      have e2 : fuD g (.tuple (.str w :: ds)) u = if (parts w).isSome = true then .tuple (.str w :: fuL g w u 0 ds) else .tuple (.str w :: ds) := by
        show (if w = "at" then _ else if (parts w).isSome = true then PyData.tuple (.str w :: fuL g w u 0 ds) else PyData.tuple (.str w :: ds)) = _
        exact if_neg hw
      rw [e1, e2]
      by_cases hp : (parts w).isSome = true
      · rw [if_pos hp, if_pos hp]
        have ih := fu_turnL g ds w u 0 (tm_dsAll h hp)
        unfold rebD
        by_cases hn : ((tnL g w u 0 ds).map noneD).all id = true
        · rw [if_pos hn]
          show PyData.tuple (.str w :: ds) = _
          rw [merge_none (tnL_len g w u 0 ds) hn] at ih
          rw [← ih]
        · rw [if_neg hn]
          show PyData.tuple (.str w :: mergeD ds (tnL g w u 0 ds)) = _
          rw [ih]
      · rw [if_neg hp, if_neg hp]
        rfl
  | .tuple [], _, h | .none, _, h | .bool _, _, h | .int _, _, h | .str _, _, h | .list _, _, h | .dict _, _, h => by cases h
theorem fu_turnL (g : Int → Int → PyData) : ∀ (ds : List PyData) (w : Str) (u : Int) (i : Nat), tmAll ds = true → mergeD ds (tnL g w u i ds) = fuL g w u i ds
  | [], _, _, _, _ => rfl
  | d :: ds, w, u, i, h => by
    have h' : tm d = true ∧ tmAll ds = true := by simpa only [tmAll, Bool.and_eq_true] using h
    show (if noneD (tnD g d (u + passD w (i : Int))) = true then d else tnD g d (u + passD w (i : Int))) :: mergeD ds (tnL g w u (i + 1) ds) = _
    rw [fu_turn g d _ h'.1, fu_turnL g ds w u (i + 1) h'.2]
    rfl
end
theorem turn_fu {g : Int → Int → PyData} {d : PyData} (h : tm d = true) : turnD g d = fuD g d 0 := fu_turn g d 0 h
mutual
/-- two ways of turning that agree at the places, one shifted -/
theorem fu_eq {g g' : Int → Int → PyData} {k : Int} (e : ∀ n u, 0 ≤ n → (if noneD (g n u) = true then PyData.tuple [.str "at", .int n] else g n u) = if noneD (g' n (u + k)) = true then PyData.tuple [.str "at", .int n] else g' n (u + k)) : ∀ (d : PyData) (u : Int), tm d = true → fuD g d u = fuD g' d (u + k)
  | .tuple (x :: ds), u, h => by
    obtain ⟨w, ds', e0⟩ := tm_shape h
    injection e0 with e0
    injection e0 with e1 e2
    subst e1 e2
    by_cases hw : w = "at"
    · subst hw
      obtain ⟨n, rfl, n0⟩ := at_shape h
      have e1 : ∀ (g : Int → Int → PyData) u, fuD g (.tuple [.str "at", .int n]) u = if noneD (g n u) = true then .tuple [.str "at", .int n] else g n u := fun g u => by
        rw [fuD]
        exact if_pos rfl
      rw [e1, e1]
      exact e n u n0
    · have e2 : ∀ (g : Int → Int → PyData) u, fuD g (.tuple (.str w :: ds)) u = if (parts w).isSome = true then .tuple (.str w :: fuL g w u 0 ds) else .tuple (.str w :: ds) := fun g u => by
        show (if w = "at" then _ else if (parts w).isSome = true then PyData.tuple (.str w :: fuL g w u 0 ds) else PyData.tuple (.str w :: ds)) = _
        exact if_neg hw
      rw [e2, e2]
      by_cases hp : (parts w).isSome = true
      · rw [if_pos hp, if_pos hp, fu_eqL e ds w u 0 (tm_dsAll h hp)]
      · rw [if_neg hp, if_neg hp]
  | .tuple [], _, h | .none, _, h | .bool _, _, h | .int _, _, h | .str _, _, h | .list _, _, h | .dict _, _, h => by cases h
theorem fu_eqL {g g' : Int → Int → PyData} {k : Int} (e : ∀ n u, 0 ≤ n → (if noneD (g n u) = true then PyData.tuple [.str "at", .int n] else g n u) = if noneD (g' n (u + k)) = true then PyData.tuple [.str "at", .int n] else g' n (u + k)) : ∀ (ds : List PyData) (w : Str) (u : Int) (i : Nat), tmAll ds = true → fuL g w u i ds = fuL g' w (u + k) i ds
  | [], _, _, _, _ => rfl
  | d :: ds, w, u, i, h => by
    have h' : tm d = true ∧ tmAll ds = true := by simpa only [tmAll, Bool.and_eq_true] using h
    show fuD g d (u + passD w (i : Int)) :: fuL g w u (i + 1) ds = fuD g' d (u + k + passD w (i : Int)) :: fuL g' w (u + k) (i + 1) ds
    rw [fu_eq e d _ h'.1, fu_eqL e ds w u (i + 1) h'.2, show u + passD w (i : Int) + k = u + k + passD w (i : Int) by omega]
end
mutual
theorem fu_id {g : Int → Int → PyData} (e : ∀ n u, 0 ≤ n → (if noneD (g n u) = true then PyData.tuple [.str "at", .int n] else g n u) = PyData.tuple [.str "at", .int n]) : ∀ (d : PyData) (u : Int), tm d = true → fuD g d u = d
  | .tuple (x :: ds), u, h => by
    obtain ⟨w, ds', e0⟩ := tm_shape h
    injection e0 with e0
    injection e0 with e1 e2
    subst e1 e2
    by_cases hw : w = "at"
    · subst hw
      obtain ⟨n, rfl, n0⟩ := at_shape h
      have e1 : fuD g (.tuple [.str "at", .int n]) u = if noneD (g n u) = true then .tuple [.str "at", .int n] else g n u := by
        rw [fuD]
        exact if_pos rfl
      rw [e1]
      exact e n u n0
    · have e2 : fuD g (.tuple (.str w :: ds)) u = if (parts w).isSome = true then .tuple (.str w :: fuL g w u 0 ds) else .tuple (.str w :: ds) := by
        show (if w = "at" then _ else if (parts w).isSome = true then PyData.tuple (.str w :: fuL g w u 0 ds) else PyData.tuple (.str w :: ds)) = _
        exact if_neg hw
      rw [e2]
      by_cases hp : (parts w).isSome = true
      · rw [if_pos hp, fu_idL e ds w u 0 (tm_dsAll h hp)]
      · rw [if_neg hp]
  | .tuple [], _, h | .none, _, h | .bool _, _, h | .int _, _, h | .str _, _, h | .list _, _, h | .dict _, _, h => by cases h
theorem fu_idL {g : Int → Int → PyData} (e : ∀ n u, 0 ≤ n → (if noneD (g n u) = true then PyData.tuple [.str "at", .int n] else g n u) = PyData.tuple [.str "at", .int n]) : ∀ (ds : List PyData) (w : Str) (u : Int) (i : Nat), tmAll ds = true → fuL g w u i ds = ds
  | [], _, _, _, _ => rfl
  | d :: ds, w, u, i, h => by
    have h' : tm d = true ∧ tmAll ds = true := by simpa only [tmAll, Bool.and_eq_true] using h
    show fuD g d (u + passD w (i : Int)) :: fuL g w u (i + 1) ds = d :: ds
    rw [fu_id e d _ h'.1, fu_idL e ds w u (i + 1) h'.2]
end
/-! ### as the law has it -/
def lawR (b : Int) (n u : Int) : PyData := .tuple [.str "at", .int (n + b * (if decide (u ≤ n) = true then 1 else 0))]
def lawG (o : PyData) (m n u : Int) : PyData := if n = m + u then fuD (lawR u) o 0 else .tuple [.str "at", .int (n - (if decide (m + u < n) = true then 1 else 0))]
theorem ifT {l : List PyData} {x y : PyData} : (if noneD (PyData.tuple l) = true then x else y) = y := rfl
theorem ifN {x y : PyData} : (if noneD PyData.none = true then x else y) = x := rfl
theorem raise_at {b s n u : Int} : (if noneD (stepR b s n u) = true then PyData.tuple [.str "at", .int n] else stepR b s n u) = if noneD (lawR b n (u + s)) = true then PyData.tuple [.str "at", .int n] else lawR b n (u + s) := by
  unfold lawR
  rw [ifT]
  by_cases c : s ≤ n - u
  · have e : stepR b s n u = .tuple [.str "at", .int (n + b)] := if_pos c
    rw [e, ifT, if_pos (decide_eq_true (by omega)), Int.mul_one]
  · have e : stepR b s n u = .none := if_neg c
    have e2 : decide (u + s ≤ n) = false := decide_eq_false (by omega)
    rw [e, ifN, e2, if_neg (by decide), Int.mul_zero, Int.add_zero]
theorem raise_law {b s : Int} {d : PyData} (h : tm d = true) : raiseD b s d = fuD (lawR b) d s := by
  unfold raiseD
  by_cases h0 : b = 0
  · rw [if_pos h0]
    subst h0
    refine (fu_id (fun n u _ => ?_) d s h).symm
    unfold lawR
    rw [ifT, Int.zero_mul, Int.add_zero]
  · rw [if_neg h0, turn_fu h, fu_eq (fun n u _ => raise_at) d 0 h, Int.zero_add]
theorem noneR {b n u : Int} : noneD (lawR b n u) = false := rfl
theorem fu_tup {g : Int → Int → PyData} {d : PyData} {u : Int} (h : tm d = true) (ng : ∀ n u, noneD (g n u) = false) : noneD (fuD g d u) = false := by
  obtain ⟨w, ds, rfl⟩ := tm_shape h
  by_cases hw : w = "at"
  · subst hw
    obtain ⟨n, rfl, n0⟩ := at_shape h
    have e1 : fuD g (.tuple [.str "at", .int n]) u = if noneD (g n u) = true then .tuple [.str "at", .int n] else g n u := by
      rw [fuD]
      exact if_pos rfl
    rw [e1, ng, if_neg (by decide)]
    exact ng n u
  · have e2 : fuD g (.tuple (.str w :: ds)) u = if (parts w).isSome = true then .tuple (.str w :: fuL g w u 0 ds) else .tuple (.str w :: ds) := by
      show (if w = "at" then _ else if (parts w).isSome = true then PyData.tuple (.str w :: fuL g w u 0 ds) else PyData.tuple (.str w :: ds)) = _
      exact if_neg hw
    rw [e2]
    split <;> rfl
theorem noneG {o : PyData} {m n u : Int} (h : tm o = true) : noneD (lawG o m n u) = false := by
  unfold lawG
  split
  · exact fu_tup h fun _ _ => rfl
  · rfl
theorem if_b {x y : PyData} {c : Bool} (h : c = false) : (if c = true then x else y) = y := by rw [h]; rfl
/-! what is raised is a term, of the same size -/
mutual
theorem raise_tm {b : Int} (b0 : 0 ≤ b) : ∀ (d : PyData) (u : Int), tm d = true → tm (fuD (lawR b) d u) = true ∧ nodes (fuD (lawR b) d u) = nodes d ∧ (fuD (lawR b) d u).depth = d.depth
  | .tuple (x :: ds), u, t => by
    obtain ⟨w, ds', e⟩ := tm_shape t
    injection e with e
    injection e with e1 e2
    subst e1 e2
    by_cases hw : w = "at"
    · subst hw
      obtain ⟨n, rfl, n0⟩ := at_shape t
      have e1 : fuD (lawR b) (.tuple [.str "at", .int n]) u = lawR b n u := by
        rw [fuD]
        exact if_pos rfl
      rw [e1]
      unfold lawR
      refine ⟨?_, rfl, rfl⟩
      rw [tm_leaf (by decide +kernel)]
      refine decide_eq_true ?_
      split
      · rw [Int.mul_one]; omega
      · rw [Int.mul_zero]; omega
    · have e2 : fuD (lawR b) (.tuple (.str w :: ds)) u = if (parts w).isSome = true then .tuple (.str w :: fuL (lawR b) w u 0 ds) else .tuple (.str w :: ds) := by
        show (if w = "at" then _ else if (parts w).isSome = true then PyData.tuple (.str w :: fuL (lawR b) w u 0 ds) else PyData.tuple (.str w :: ds)) = _
        exact if_neg hw
      rw [e2]
      by_cases hp : (parts w).isSome = true
      · rw [if_pos hp]
        obtain ⟨a, c, e⟩ := raise_tmL b0 ds w u 0 (tm_dsAll t hp)
        obtain ⟨k, hk⟩ := Option.isSome_iff_exists.mp hp
        refine ⟨?_, ?_, ?_⟩
        · rw [tm_parts hk] at t ⊢
          simp only [Bool.and_eq_true, decide_eq_true_eq] at t ⊢
          exact ⟨by rw [fuL_len]; exact t.1, a⟩
        · show 1 + nodesAll (fuL (lawR b) w u 0 ds) + 1 = 1 + nodesAll ds + 1
          rw [c]
        · show max 0 (PyData.depthAll (fuL (lawR b) w u 0 ds)) + 1 = max 0 (PyData.depthAll ds) + 1
          rw [e]
      · rw [if_neg hp]
        exact ⟨t, rfl, rfl⟩
  | .tuple [], _, h | .none, _, h | .bool _, _, h | .int _, _, h | .str _, _, h | .list _, _, h | .dict _, _, h => by cases h
theorem raise_tmL {b : Int} (b0 : 0 ≤ b) : ∀ (ds : List PyData) (w : Str) (u : Int) (i : Nat), tmAll ds = true → tmAll (fuL (lawR b) w u i ds) = true ∧ nodesAll (fuL (lawR b) w u i ds) = nodesAll ds ∧ PyData.depthAll (fuL (lawR b) w u i ds) = PyData.depthAll ds
  | [], _, _, _, _ => ⟨rfl, rfl, rfl⟩
  | d :: ds, w, u, i, t => by
    have t : tm d = true ∧ tmAll ds = true := by simpa only [tmAll, Bool.and_eq_true] using t
    obtain ⟨a, b, c⟩ := raise_tm b0 d (u + passD w (i : Int)) t.1
    obtain ⟨a', b', c'⟩ := raise_tmL b0 ds w u (i + 1) t.2
    refine ⟨?_, ?_, ?_⟩
    · show (tm (fuD (lawR _) d _) && tmAll (fuL (lawR _) w u (i + 1) ds)) = true
      rw [a, a']
      rfl
    · show nodes (fuD (lawR _) d _) + nodesAll (fuL (lawR _) w u (i + 1) ds) = nodes d + nodesAll ds
      rw [b, b']
    · show max (fuD (lawR _) d _).depth (PyData.depthAll (fuL (lawR _) w u (i + 1) ds)) = max d.depth (PyData.depthAll ds)
      rw [c, c']
end
end KP
set_option Elab.async false
set_option linter.unusedVariables false
set_option linter.unusedSectionVars false
set_option maxRecDepth 100000
set_option maxHeartbeats 4000000
namespace KP
open PySem PySem.Spec PyProof.Rows L2 KA OW
/-! ### sayings in a list or a tuple; what holds of an own argument -/
def SeqP (x : PyData) (ss : List PyData) : Prop := x = .list ss ∨ x = .tuple ss
theorem fi_revS {KF : PySem.W.Frag} {te : TE} {ρ ρ1 : List Sl} {x : PyData} {ss : List PyData} (h : Ev te ρ (.d x) ρ1) (hx : SeqP x ss) : Fi (RT.iRevA KF te) ρ ss.reverse ρ1 := by
  rcases hx with rfl | rfl
  · exact fi_revA_l h
  · exact fi_revA_t h
def tBoundS : List Sl → (Rv → Prop) → Prop := fun as Kr => ∃ w x ss t, as = [.d (.str w), .d x, .d t] ∧ SeqP x ss ∧ Kr (.d (bndD w ss t))
def tAllOfS : List Sl → (Rv → Prop) → Prop := fun as Kr => ∃ x ss t, as = [.d x, .d t] ∧ SeqP x ss ∧ Kr (.d (allP ss t))
abbrev sOwnSaying : Stmt := top 50
abbrev nOwnSaying : List Str := ["many", "argument", "between", "ahead", "beyond", "moved", "at", "saying", "past_told", "inward", "own"]
theorem scOwnSaying : FnScope nOwnSaying ["many", "argument", "between", "ahead", "beyond"] (defScope sOwnSaying) := ⟨rfl, rfl, rfl, by decide +kernel, rfl, by decide +kernel, by decide +kernel⟩
/-- a saying between, moved inward -/
def movF (many arg ahead beyond : Int) : PyData → PyData
  | .tuple [.int i, s] => raiseD (many - arg + ahead) i (raiseD (beyond + 1) (i + arg) s)
  | _ => .none
def ownSayD (many arg : Int) (btw : List PyData) (ahead beyond : Int) : PyData :=
  allP ((enumD 0 btw).map (movF many arg ahead beyond)) (.tuple [.str "app", .tuple [.str "at", .int ((btw.length : Int) + ahead + many + beyond)], givenD (.tuple [.str "at", .int ((btw.length : Int) + ahead + many - 1 - arg)]) (plcs btw.length 0)])
def tOwnSay : List Sl → (Rv → Prop) → Prop := fun as Kr => ∃ many arg btw ahead beyond, as = [.d (.int many), .d (.int arg), .d (.list btw), .d (.int ahead), .d (.int beyond)] ∧ (∀ s ∈ btw, tm s = true ∧ nodes s ≤ 900000) ∧ btw.length ≤ 100000 ∧ 0 ≤ beyond ∧ Kr (.d (ownSayD many arg btw ahead beyond))
section
variable {P : Program} {w : World} {K : PySem.W.Frag} {mg : Str → Option Value} {base : Heap}
theorem ok_boundS {f : Addr} {fd : FuncData} (F : Fun K "_bound" "_bound" sBound f fd) (T : Txt K w mg) (Trev : mg "reversed" = none) : FnOk P w K mg base CX0 1 f fd ["word", "sayings", "term"] (spD 3 tBoundS) := by
  refine fn_d F scBound (body := fun cdv A outer s H E hr => ⟨_, (pss_cons (ps_set (i := 3) scBound.nd rfl (Or.inl rfl) (pv 2))
      (pss_cons (ps_for PassesOwn.never rfl (RT.pi_revA (by rfl) Trev (pv 1)) (pg_name (i := 4) scBound.nd rfl (Or.inl rfl)) (pss_one (ps_set (i := 3) scBound.nd rfl (Or.inl rfl) (pe_tup (pa_cons (pv 0) (pa_cons (pv 4) (pa_cons (pv 3) pa_nil)))))))
      (pss_one (ps_ret (pv 3))))), ?_⟩)
  rintro as Kr _ ⟨wd, y, ss, t, rfl, sq, k⟩
  refine (sm_seq (sm_set (ev_var rfl) (sm_seq (sm_for (fi_revS (ev_var rfl) sq) (fun j ρ => ∃ s4, ρ = [.d (.str wd), .d y, .d t, .d ((ss.reverse.take j).foldl (fun acc s => .tuple [.str wd, s, acc]) t), s4]) ⟨_, rfl⟩ (fun j x ρ e r => ?_) (fun ρ r => ?_)))))
  · obtain ⟨s4, rfl⟩ := r
    refine ⟨_, tg_name, (sm_set (ev_tup (eds_cons (ev_var rfl) (eds_cons (ev_var rfl) (eds_cons (ev_var rfl) eds_nil)))) ?_)⟩
    refine ⟨.d x, ?_⟩
    rw [take_snoc e, List.foldl_append]
    rfl
  · obtain ⟨s4, rfl⟩ := r
    rw [List.take_length]
    exact sm_ret (ev_var rfl) k
theorem ok_allofS {f : Addr} {fd : FuncData} (F : Fun K "all_of" "all_of" sAllOf f fd) (T : Txt K w mg) (C_bound : C8.Cal P w K mg base 1 "_bound" (spD 3 tBoundS) []) : FnOk P w K mg base CX0 2 f fd ["sayings", "term"] (spD 2 tAllOfS) := by
  refine fn_d F scAllOf (body := fun cdv A outer s H E hr => ⟨_, (pss_one (ps_ret (C8.pe_c C_bound hr (by omega) rfl (pa_cons pe_str (pa_cons (pv 0) (pa_cons (pv 1) pa_nil)))))), ?_⟩)
  rintro as Kr _ ⟨x, ss, t, rfl, sq, k⟩
  exact (sm_ret (ev_call (es_cons ev_str (es_cons (ev_var rfl) (es_cons (ev_var rfl) es_nil))) ar_nil rfl ⟨_, _, _, _, rfl, sq, rfl⟩) k)
theorem ok_ownsay {f : Addr} {fd : FuncData} (F : Fun K "_own_saying" "_own_saying" sOwnSaying f fd) (T : Txt K w mg) (Tenum : mg "enumerate" = none) (C_raised_by : C8.Cal P w K mg base 4 "raised_by" (spD 3 tRaised) []) (C_given_all : C8.Cal P w K mg base 1 "given_all" (spD 2 tGivenAll) []) (C_places : C8.Cal P w K mg base 1 "places" (spD 2 tPlaces) []) (C_all_of : C8.Cal P w K mg base 2 "all_of" (spD 2 tAllOfS) []) :
    FnOk P w K mg base CX0 5 f fd ["many", "argument", "between", "ahead", "beyond"] (spD 5 tOwnSay) := by
  refine fn_d F scOwnSaying (body := fun cdv A outer s H E hr => ⟨_, (pss_cons (ps_set (i := 5) scOwnSaying.nd rfl (Or.inl rfl) (pe_lst pa_nil))
      (pss_cons (ps_for PassesOwn.never rfl (pi_enum (by rfl) Tenum (pa_cons (pv 2) pa_nil)) (pg_tup rfl (pgs_cons (pg_name (i := 6) scOwnSaying.nd rfl (Or.inl rfl)) (pgs_cons (pg_name (i := 7) scOwnSaying.nd rfl (Or.inl rfl)) pgs_nil))) (pss_cons (ps_set (i := 8) scOwnSaying.nd rfl (Or.inl rfl) (C8.pe_c C_raised_by hr (by omega) rfl (pa_cons (pv 7) (pa_cons (pe_op op_add (pv 4) pe_int) (pa_cons (pe_op op_add (pv 6) (pv 1)) pa_nil)))))
      (pss_one (ps_expr (pe_bm PySem.F.plainAttrs_list PySem.F.slot_list_append PySem.F.type_list_append mt_append (pv 5) (pa_cons (C8.pe_c C_raised_by hr (by omega) rfl (pa_cons (pv 8) (pa_cons (pe_op op_add (pe_op op_sub (pv 0) (pv 1)) (pv 3)) (pa_cons (pv 6) pa_nil)))) pa_nil))))))
      (pss_cons (ps_set (i := 9) scOwnSaying.nd rfl (Or.inl rfl) (pe_op op_add (pe_callB call_len_seq (by rfl) T.len PySem.boot_len (pa_cons (pv 2) pa_nil)) (pv 3)))
      (pss_cons (ps_set (i := 10) scOwnSaying.nd rfl (Or.inl rfl) (C8.pe_c C_given_all hr (by omega) rfl (pa_cons (pe_tup (pa_cons pe_str (pa_cons (pe_op op_sub (pe_op op_sub (pe_op op_add (pv 9) (pv 0)) pe_int) (pv 1)) pa_nil))) (pa_cons (C8.pe_c C_places hr (by omega) rfl (pa_cons (pe_callB call_len_seq (by rfl) T.len PySem.boot_len (pa_cons (pv 2) pa_nil)) (pa_cons pe_int pa_nil))) pa_nil))))
      (pss_one (ps_ret (C8.pe_c C_all_of hr (by omega) rfl (pa_cons (pv 5) (pa_cons (pe_tup (pa_cons pe_str (pa_cons (pe_tup (pa_cons pe_str (pa_cons (pe_op op_add (pe_op op_add (pv 9) (pv 0)) (pv 4)) pa_nil))) (pa_cons (pv 10) pa_nil)))) pa_nil))))))))), ?_⟩)
  rintro as Kr _ ⟨many, arg, btw, ahead, beyond, rfl, hb, bl, b0, k⟩
  have el := enumD_len 0 btw
  refine (sm_seq (sm_setL (el_lst eds_nil) (sm_seq (sm_for (fi_enum (eds_cons (ev_var rfl) eds_nil)) (fun j ρ => ∃ s6 s7 s8, ρ = [.d (.int many), .d (.int arg), .d (.list btw), .d (.int ahead), .d (.int beyond), .l (((enumD 0 btw).take j).map (movF many arg ahead beyond)), s6, s7, s8, .un, .un]) ⟨_, _, _, rfl⟩ (fun j x ρ e r => ?_) (fun ρ r => ?_)))))
  · obtain ⟨s6, s7, s8, rfl⟩ := r
    have e' := e
    obtain ⟨g, hg, rfl⟩ := enumD_at e
    obtain ⟨tg, ng⟩ := hb g (List.mem_of_getElem? hg)
    obtain ⟨t1, n1, _⟩ := raise_tm (b := beyond + 1) (by omega) g (((0 + j : Nat) : Int) + arg) tg
    rw [← raise_law tg] at t1 n1
    have hj := (List.getElem?_eq_some_iff.mp hg).1
    refine ⟨_, (tg_tup (xs := [.int ((0 + j : Nat) : Int), g]) (tgs_cons tg_name (tgs_cons tg_name tgs_nil))), ?_⟩
    refine (sm_seq (sm_set (ev_call (es_cons (ev_var rfl) (es_cons (ev_op (ev_var rfl) ev_int fv_int) (es_cons (ev_op (ev_var rfl) (ev_var rfl) fv_int) es_nil))) ar_nil rfl ⟨_, _, _, rfl, tg, ng, rfl⟩) (sm_app (k := 5) rfl (ev_call (es_cons (ev_var rfl) (es_cons (ev_op (ev_op (ev_var rfl) (ev_var rfl) fv_int) (ev_var rfl) fv_int) (es_cons (ev_var rfl) es_nil))) ar_nil rfl ⟨_, _, _, rfl, t1, by omega, rfl⟩) rfl ?_ ?_)))
    · rw [List.length_map, List.length_take, el, sizeLine_eq]
      omega
    · refine ⟨.d (.int ((0 + j : Nat) : Int)), .d g, .d (raiseD (beyond + 1) (((0 + j : Nat) : Int) + arg) g), ?_⟩
      rw [take_snoc e', List.map_append]
      rfl
  · obtain ⟨s6, s7, s8, rfl⟩ := r
    rw [List.take_length]
    exact (sm_seq (sm_set (ev_op (ev_fn (es_cons (ev_var rfl) es_nil) fv_lenL) (ev_var rfl) fv_int) (sm_seq (sm_set (ev_call (es_cons (ev_tup (eds_cons ev_str (eds_cons (ev_op (ev_op (ev_op (ev_var rfl) (ev_var rfl) fv_int) ev_int fv_int) (ev_var rfl) fv_int) eds_nil))) (es_cons (ev_call (es_cons (ev_fn (es_cons (ev_var rfl) es_nil) fv_lenL) (es_cons ev_int es_nil)) ar_nil rfl ⟨btw.length, 0, rfl, by omega, rfl⟩) es_nil)) ar_nil rfl ⟨_, _, rfl, rfl⟩) (sm_ret (ev_call (es_cons (ev_varF rfl) (es_cons (ev_tup (eds_cons ev_str (eds_cons (ev_tup (eds_cons ev_str (eds_cons (ev_op (ev_op (ev_var rfl) (ev_var rfl) fv_int) (ev_var rfl) fv_int) eds_nil))) (eds_cons (ev_var rfl) eds_nil)))) es_nil)) ar_nil rfl ⟨_, _, _, rfl, Or.inl rfl, rfl⟩) k)))))
end
end KP
set_option Elab.async false
set_option linter.unusedVariables false
set_option linter.unusedSectionVars false
set_option maxRecDepth 100000
set_option maxHeartbeats 4000000
namespace KP
open PySem PySem.Spec PyProof.Rows L2 KA OW
/-! ### what is told of a maker -/
abbrev sStepSaying : Stmt := top 49
abbrev nStepSaying : List Str := ["row", "maker", "beyond", "many", "owned", "sayings", "ahead", "argument", "between", "inward", "head", "made", "at", "saying"]
theorem scStepSaying : FnScope nStepSaying ["row", "maker", "beyond"] (defScope sStepSaying) := ⟨rfl, rfl, rfl, by decide +kernel, rfl, by decide +kernel, by decide +kernel⟩
theorem untie_mem : ∀ (d : PyData), tm d = true → ∀ s ∈ (untie d).1, tm s = true ∧ nodes s ≤ nodes d
  | .tuple [.str w, a, b], t, s, hs => by
    by_cases hw : w = "all"
    · subst hw
      have t' := t
      rw [tm_parts (show parts "all" = some 2 by decide +kernel), Bool.and_eq_true] at t'
      have tab : tm a = true ∧ (tm b && true) = true := by
        have := t'.2
        simpa only [tmAll, Bool.and_eq_true] using this
      have tb : tm b = true := by simpa using tab.2
      rw [untie_all] at hs
      have n : nodes (.tuple [.str "all", a, b]) = 1 + (nodes a + (nodes b + 0)) + 1 := rfl
      rcases List.mem_cons.mp hs with rfl | hs
      · exact ⟨tab.1, by omega⟩
      · have := untie_mem b tb s hs
        exact ⟨this.1, by omega⟩
    · rw [untie_else hw] at hs
      cases hs
  | .tuple [], t, _, _ | .none, t, _, _ | .bool _, t, _, _ | .int _, t, _, _ | .str _, t, _, _ | .list _, t, _, _ | .dict _, t, _, _ => by cases t
  | .tuple [.str w], t, s, hs | .tuple [.str w, _], t, s, hs | .tuple (.str w :: _ :: _ :: _ :: _), t, s, hs => by cases hs
  | .tuple (.none :: _), t, _, _ | .tuple (.bool _ :: _), t, _, _ | .tuple (.int _ :: _), t, _, _ | .tuple (.list _ :: _), t, _, _ | .tuple (.tuple _ :: _), t, _, _ | .tuple (.dict _ :: _), t, _, _ => by
    obtain ⟨_, _, e⟩ := tm_shape t
    injection e with e
    injection e with e
    cases e
def stepF1 (beyond : Int) : PyData → PyData
  | .tuple [.int i, s] => raiseD (beyond + 1) i s
  | _ => .none
def stepF2 (many beyond : Int) : PyData → PyData
  | .tuple [.int k, .tuple [.int arg, .list btw]] => ownSayD many arg btw k beyond
  | _ => .none
def stepSayD (x : Str) (es gs : List PyData) (m : Nat) (beyond : Int) : PyData :=
  allP ((enumD 0 gs).map (stepF1 beyond) ++ (enumD 0 (ownsD x es.length gs)).map (stepF2 gs.length beyond))
    (.tuple [.str "app", .tuple [.str "at", .int ((gs.length : Int) + ((ownsD x es.length gs).length : Int) + beyond)],
      givenD (givenD (.tuple [.str "maker", .str x, .int (m : Int)]) (plcs es.length ((gs.length : Int) + ((ownsD x es.length gs).length : Int) + beyond + 1))) (plcs gs.length ((ownsD x es.length gs).length : Int))])
theorem owns_mem {x : Str} {nb : Nat} {gs : List PyData} {y : PyData} (h : y ∈ ownsD x nb gs) : ∃ (i : Nat) (d : PyData), d ∈ gs ∧ y = .tuple [.int (i : Int), .list (untie d).1] := by
  unfold ownsD at h
  obtain ⟨p, hp, hy⟩ := List.mem_flatMap.mp h
  have hd : p.1 ∈ gs := by
    have := List.mem_zipIdx hp
    exact this.2.2 ▸ List.getElem_mem _
  cases hg : growD x nb p.2 p.1 with
  | none => rw [hg] at hy; cases hy
  | some ss =>
    rw [hg] at hy
    have hy : y ∈ (if (strayR x nb p.2 p.1).isNone = true then [PyData.tuple [.int (p.2 : Int), .list ss]] else []) := hy
    split at hy
    · obtain rfl := List.mem_singleton.mp hy
      unfold growD at hg
      split at hg
      · cases hg
        exact ⟨_, _, hd, rfl⟩
      · cases hg
    · cases hy
end KP
set_option Elab.async false
set_option linter.unusedVariables false
set_option linter.unusedSectionVars false
set_option maxRecDepth 100000
set_option maxHeartbeats 4000000
namespace KP
open PySem PySem.Spec PyProof.Rows L2 KA OW
def tStep : List Sl → (Rv → Prop) → Prop := fun as Kr => ∃ x h es fs m gs beyond, as = [.d (rwT x h es fs), .d (.int ((m : Nat) : Int)), .d (.int beyond)] ∧ RwOk x h es fs ∧ fs[m]? = some gs ∧ nodes (rwT x h es fs) ≤ 900000 ∧ 0 ≤ beyond ∧ Kr (.d (stepSayD x es gs m beyond))
theorem row_nodes {x : Str} {h : Int} {es gs : List PyData} {fs : List (List PyData)} {d : PyData} (hg : gs ∈ fs) (hd : d ∈ gs) : nodes d ≤ nodes (rwT x h es fs) := by
  have h1 := mem_nodes hd
  have h2 := mem_nodes (d := .tuple gs) (ds := fs.map .tuple) (List.mem_map.mpr ⟨gs, hg, rfl⟩)
  have h3 : nodes (.tuple gs) = nodesAll gs + 1 := rfl
  have h4 : nodes (rwT x h es fs) = 1 + (1 + (1 + (nodes (.tuple es) + ((nodesAll (fs.map .tuple) + 1) + 0)))) + 1 := rfl
  omega
theorem untie_len : ∀ (d : PyData), tm d = true → (untie d).1.length ≤ d.depth
  | .tuple [.str w, a, b], t => by
    by_cases hw : w = "all"
    · subst hw
      obtain ⟨a', b', e, _, tb⟩ := all_shape t
      cases e
      have := untie_len b tb
      rw [untie_all, List.length_cons]
      have dp : (PyData.tuple [.str "all", a, b]).depth = max 0 (max a.depth (max b.depth 0)) + 1 := rfl
      omega
    · rw [untie_else hw]
      exact Nat.zero_le _
  | .tuple [], t | .none, t | .bool _, t | .int _, t | .str _, t | .list _, t | .dict _, t => by cases t
  | .tuple [.str w], t | .tuple [.str w, _], t | .tuple (.str w :: _ :: _ :: _ :: _), t => Nat.zero_le _
  | .tuple (.none :: _), t | .tuple (.bool _ :: _), t | .tuple (.int _ :: _), t | .tuple (.list _ :: _), t | .tuple (.tuple _ :: _), t | .tuple (.dict _ :: _), t => by
    obtain ⟨_, _, e⟩ := tm_shape t
    injection e with e
    injection e with e
    cases e
theorem owns_len {x : Str} {nb : Nat} {gs : List PyData} : (ownsD x nb gs).length ≤ gs.length := by
  unfold ownsD
  have aux : ∀ (ps : List (PyData × Nat)), (ps.flatMap fun p => match growD x nb p.2 p.1 with
      | none => []
      | some ss => if (strayR x nb p.2 p.1).isNone = true then [PyData.tuple [.int (p.2 : Int), .list ss]] else []).length ≤ ps.length := fun ps => by
    induction ps with
    | nil => exact Nat.le_refl _
    | cons p ps ih =>
      rw [List.flatMap_cons, List.length_append, List.length_cons]
      have : (match growD x nb p.2 p.1 with
        | none => ([] : List PyData)
        | some ss => if (strayR x nb p.2 p.1).isNone = true then [PyData.tuple [.int (p.2 : Int), .list ss]] else []).length ≤ 1 := by
        split
        · exact Nat.zero_le _
        · split
          · exact Nat.le_refl _
          · exact Nat.zero_le _
      omega
  have := aux gs.zipIdx
  rw [List.length_zipIdx] at this
  exact this
section
variable {P : Program} {w : World} {K : PySem.W.Frag} {mg : Str → Option Value} {base : Heap}
theorem ok_step {f : Addr} {fd : FuncData} (F : Fun K "step_saying" "step_saying" sStepSaying f fd) (T : Txt K w mg) (Tenum : mg "enumerate" = none) (C_raised_by : C8.Cal P w K mg base 4 "raised_by" (spD 3 tRaised) []) (C_given_all : C8.Cal P w K mg base 1 "given_all" (spD 2 tGivenAll) []) (C_places : C8.Cal P w K mg base 1 "places" (spD 2 tPlaces) []) (C_all_of : C8.Cal P w K mg base 2 "all_of" (spD 2 tAllOfS) [])
    (C_own_arguments : C8.Cal P w K mg base 5 "own_arguments" (spD 2 tOwnArgs) []) (C_own_saying : C8.Cal P w K mg base 5 "_own_saying" (spD 5 tOwnSay) []) (C_bounded : C8.Cal P w K mg base 2 "bounded" (spD 3 tBounded) []) : FnOk P w K mg base CX0 6 f fd ["row", "maker", "beyond"] (spD 3 tStep) := by
  refine fn_d F scStepSaying (body := fun cdv A outer s H E hr => ⟨_, (pss_cons (ps_set (i := 3) scStepSaying.nd rfl (Or.inl rfl) (pe_callB call_len_seq (by rfl) T.len PySem.boot_len (pa_cons (pe_ix ix_tup (pe_ix ix_tup (pv 0) pe_int (fun _ _ => rfl)) (pv 1) (fun _ _ => rfl)) pa_nil)))
      (pss_cons (ps_set (i := 4) scStepSaying.nd rfl (Or.inl rfl) (C8.pe_c C_own_arguments hr (by omega) rfl (pa_cons (pv 0) (pa_cons (pv 1) pa_nil))))
      (pss_cons (ps_setLc (i := 5) (own := [("at", 12), ("saying", 13)]) (g := gTup K 2 (gCons (gName 12) (gCons (gName 13) gNil))) (tt := tYes) rfl scStepSaying.nd rfl rfl (sw_true rfl rfl rfl (by decide +kernel)) (pi_nut (by rfl) Tenum (pa_cons (pe_ix ix_tup (pe_ix ix_tup (pv 0) pe_int (fun _ _ => rfl)) (pv 1) (fun _ _ => rfl)) pa_nil)) (blkOk_by (N := nStepSaying) (sc := defScope sStepSaying) (by decide +kernel)) (fun _ _ _ _ _ => (pg_tupK (K := K) rfl rfl (pgs_cons (pg_name (i := 12) scStepSaying.nd rfl (Or.inl rfl)) (pgs_cons (pg_name (i := 13) scStepSaying.nd rfl (Or.inl rfl)) pgs_nil)))) (fun _ _ _ _ _ => pts_nil) (fun _ _ _ _ _ => (C8.pe_c C_raised_by hr (by omega) rfl (pa_cons (pv 13) (pa_cons (pe_op op_add (pv 2) pe_int) (pa_cons (pv 12) pa_nil))))))
      (pss_cons (ps_for PassesOwn.never rfl (pi_enum (by rfl) Tenum (pa_cons (pv 4) pa_nil)) (pg_tup rfl (pgs_cons (pg_name (i := 6) scStepSaying.nd rfl (Or.inl rfl)) (pgs_cons (pg_tup rfl (pgs_cons (pg_name (i := 7) scStepSaying.nd rfl (Or.inl rfl)) (pgs_cons (pg_name (i := 8) scStepSaying.nd rfl (Or.inl rfl)) pgs_nil))) pgs_nil))) (pss_one (ps_expr (pe_bm PySem.F.plainAttrs_list PySem.F.slot_list_append PySem.F.type_list_append mt_append (pv 5) (pa_cons (C8.pe_c C_own_saying hr (by omega) rfl (pa_cons (pv 3) (pa_cons (pv 7) (pa_cons (pv 8) (pa_cons (pv 6) (pa_cons (pv 2) pa_nil)))))) pa_nil)))))
      (pss_cons (ps_set (i := 9) scStepSaying.nd rfl (Or.inl rfl) (pe_op op_add (pv 3) (pe_callB call_len_seq (by rfl) T.len PySem.boot_len (pa_cons (pv 4) pa_nil))))
      (pss_cons (ps_set (i := 10) scStepSaying.nd rfl (Or.inl rfl) (C8.pe_c C_bounded hr (by omega) rfl (pa_cons (pv 0) (pa_cons (pe_tup (pa_cons pe_str (pa_cons (pe_ix ix_tup (pv 0) pe_int (fun _ _ => rfl)) (pa_cons (pv 1) pa_nil)))) (pa_cons (pe_op op_add (pe_op op_add (pv 9) (pv 2)) pe_int) pa_nil)))))
      (pss_cons (ps_set (i := 11) scStepSaying.nd rfl (Or.inl rfl) (C8.pe_c C_given_all hr (by omega) rfl (pa_cons (pv 10) (pa_cons (C8.pe_c C_places hr (by omega) rfl (pa_cons (pv 3) (pa_cons (pe_callB call_len_seq (by rfl) T.len PySem.boot_len (pa_cons (pv 4) pa_nil)) pa_nil))) pa_nil))))
      (pss_one (ps_ret (C8.pe_c C_all_of hr (by omega) rfl (pa_cons (pv 5) (pa_cons (pe_tup (pa_cons pe_str (pa_cons (pe_tup (pa_cons pe_str (pa_cons (pe_op op_add (pv 9) (pv 2)) pa_nil))) (pa_cons (pv 11) pa_nil)))) pa_nil)))))))))))), ?_⟩)
  rintro as Kr _ ⟨x, h, es, fs, m, gs, beyond, rfl, rw_, hm, hn, b0, k⟩
  have hg := List.mem_of_getElem? hm
  obtain ⟨_, es3, _, _, hgs⟩ := rw_.parts
  have gs4 := (hgs gs hg).1
  have tgs := (hgs gs hg).2
  have ol := owns_len (x := x) (nb := es.length) (gs := gs)
  have atm : atI (fs.map PyData.tuple) (m : Int) = some (.tuple gs) := at_nat (by rw [List.getElem?_map, hm]; rfl)
  refine (sm_seq (sm_set (ev_fn (es_cons (ev_op (ev_op (ev_var rfl) ev_int (fv_ixT (at_nat (j := 4) rfl))) (ev_var rfl) (fv_ixT atm)) es_nil) fv_lenT) ?_))
  refine (sm_seq (sm_set (Ev.of_el (el_call (xs := ownsD x es.length gs) (es_cons (ev_var rfl) (es_cons (ev_var rfl) es_nil)) ar_nil rfl ⟨x, h, es, fs, m, gs, rfl, rw_, hm, rfl⟩)) ?_))
  refine (sm_seq (sm_setL (el_lcM (f := stepF1 beyond) (fi_enumT (xs := gs) (eds_cons (ev_op (ev_op (ev_var rfl) ev_int (fv_ixT (at_nat (j := 4) rfl))) (ev_var rfl) (fv_ixT atm)) eds_nil)) (by exact ⟨⟨.un, rfl, trivial⟩, ⟨.un, rfl, trivial⟩, trivial⟩) ?len (fun y hy => ?el)) ?_ (by decide) (by show 5 < 14; decide)))
  case len =>
    rw [enumD_len, sizeLine_eq]
    omega
  case el =>
    obtain ⟨j, hj⟩ := List.getElem?_of_mem hy
    obtain ⟨e, he, rfl⟩ := enumD_at hj
    have em := List.mem_of_getElem? he
    exact ⟨_, (tgw_tup (xs := [.int ((0 + j : Nat) : Int), e]) (tgsw_cons tgw_name (tgsw_cons tgw_name tgsw_nil))), (ev_call (x := raiseD (beyond + 1) ((0 + j : Nat) : Int) e) (es_cons (ev_var rfl) (es_cons (ev_op (ev_var rfl) ev_int fv_int) (es_cons (ev_var rfl) es_nil))) ar_nil rfl ⟨_, _, _, rfl, tmAll_mem tgs em, Nat.le_trans (row_nodes (x := x) (h := h) (es := es) hg em) hn, rfl⟩), rfl, ⟨⟨_, rfl, trivial⟩, ⟨_, rfl, trivial⟩, trivial⟩⟩
  refine (sm_seq (sm_for (fi_enum (eds_cons (ev_var rfl) eds_nil)) (fun j ρ => ∃ s6 s7 s8, ρ = [.d (rwT x h es fs), .d (.int (m : Int)), .d (.int beyond), .d (.int (gs.length : Int)), .d (.list (ownsD x es.length gs)), .l ((enumD 0 gs).map (stepF1 beyond) ++ ((enumD 0 (ownsD x es.length gs)).take j).map (stepF2 gs.length beyond)), s6, s7, s8, .un, .un, .un, .any, .any]) ⟨_, _, _, by rw [List.take_zero, List.map_nil, List.append_nil]; rfl⟩ (fun j y ρ e r => ?_) (fun ρ r => ?_)))
  · obtain ⟨s6, s7, s8, rfl⟩ := r
    have e' := e
    obtain ⟨g, hgo, rfl⟩ := enumD_at e
    obtain ⟨i, d, hd, rfl⟩ := owns_mem (List.mem_of_getElem? hgo)
    have hj := (List.getElem?_eq_some_iff.mp hgo).1
    have td := tmAll_mem tgs hd
    have nd := row_nodes (x := x) (h := h) (es := es) hg hd
    have bt : ∀ s ∈ (untie d).1, tm s = true ∧ nodes s ≤ 900000 := fun s hs => by
      have := untie_mem d td s hs
      exact ⟨this.1, by omega⟩
    have bl : (untie d).1.length ≤ 100000 := by
      have := untie_len d td
      have := (rw_.saying hg hd).dp
      omega
    refine ⟨_, (tg_tup (xs := [.int ((0 + j : Nat) : Int), .tuple [.int (i : Int), .list (untie d).1]]) (tgs_cons tg_name (tgs_cons (tg_tup (xs := [.int (i : Int), .list (untie d).1]) (tgs_cons tg_name (tgs_cons tg_name tgs_nil))) tgs_nil))), (sm_app (k := 5) rfl (ev_call (es_cons (ev_var rfl) (es_cons (ev_var rfl) (es_cons (ev_var rfl) (es_cons (ev_var rfl) (es_cons (ev_var rfl) es_nil))))) ar_nil rfl ⟨_, _, _, _, _, rfl, bt, bl, b0, rfl⟩) rfl ?_ ?_)⟩
    · rw [List.length_append, List.length_map, List.length_map, List.length_take, enumD_len, enumD_len, sizeLine_eq]
      omega
    · refine ⟨.d (.int ((0 + j : Nat) : Int)), .d (.int (i : Int)), .d (.list (untie d).1), ?_⟩
      rw [take_snoc e', List.map_append, ← List.append_assoc]
      rfl
  · obtain ⟨s6, s7, s8, rfl⟩ := r
    rw [List.take_length]
    exact (sm_seq (sm_set (ev_op (ev_var rfl) (ev_fn (es_cons (ev_var rfl) es_nil) fv_lenL) fv_int) (sm_seq (sm_set (ev_call (es_cons (ev_var rfl) (es_cons (ev_tup (eds_cons ev_str (eds_cons (ev_op (ev_var rfl) ev_int (fv_ixT at1)) (eds_cons (ev_var rfl) eds_nil)))) (es_cons (ev_op (ev_op (ev_var rfl) (ev_var rfl) fv_int) ev_int fv_int) es_nil))) ar_nil rfl ⟨x, h, es, fs, _, _, rfl, rw_, rfl⟩) (sm_seq (sm_set (ev_call (es_cons (ev_var rfl) (es_cons (ev_call (es_cons (ev_var rfl) (es_cons (ev_fn (es_cons (ev_var rfl) es_nil) fv_lenL) es_nil)) ar_nil rfl ⟨gs.length, _, rfl, by omega, rfl⟩) es_nil)) ar_nil rfl ⟨_, _, rfl, rfl⟩) (sm_ret (ev_call (es_cons (ev_varF rfl) (es_cons (ev_tup (eds_cons ev_str (eds_cons (ev_tup (eds_cons ev_str (eds_cons (ev_op (ev_var rfl) (ev_var rfl) fv_int) eds_nil))) (eds_cons (ev_var rfl) eds_nil)))) es_nil)) ar_nil rfl ⟨_, _, _, rfl, Or.inl rfl, rfl⟩) k)))))))
end
end KP
set_option Elab.async false
set_option linter.unusedVariables false
set_option linter.unusedSectionVars false
set_option maxRecDepth 100000
set_option maxHeartbeats 4000000
namespace KP
open PySem PySem.Spec PyProof.Rows L2 KA OW
/-! ### what an eater says -/
abbrev sEaterSaying : Stmt := top 44
abbrev nEaterSaying : List Str := ["row", "height", "thing", "many", "told", "steps", "one", "maker"]
theorem scEaterSaying : FnScope nEaterSaying ["row", "height"] (defScope sEaterSaying) := ⟨rfl, rfl, rfl, by decide +kernel, rfl, by decide +kernel, by decide +kernel⟩
def eatF (x : Str) (es : List PyData) (fs : List (List PyData)) : PyData → PyData
  | .int m => stepSayD x es ((fs[m.toNat]?).getD []) m.toNat m
  | d => d
def eatD (x : Str) (es : List PyData) (fs : List (List PyData)) (ht : Int) : PyData :=
  allP (es ++ (.tuple [.str "all", givenD (.tuple [.str "thing", .str x]) (plcs es.length 0), .tuple [.str "kind", .int ht]] :: ((rngD fs.length).map (eatF x es fs) ++ [givenD (.tuple [.str "thing", .str x]) (plcs es.length ((fs.length : Int) + 1))])))
    (.tuple [.str "app", .tuple [.str "at", .int ((fs.length : Int) + 1)], .tuple [.str "at", .int 0]])
def tEat : List Sl → (Rv → Prop) → Prop := fun as Kr => ∃ x h es fs ht, as = [.d (rwT x h es fs), .d (.int ht)] ∧ RwOk x h es fs ∧ nodes (rwT x h es fs) ≤ 900000 ∧ 0 ≤ ht ∧ ht ≤ 5 ∧ Kr (.d (eatD x es fs ht))
section
variable {P : Program} {w : World} {K : PySem.W.Frag} {mg : Str → Option Value} {base : Heap}
theorem ok_eater {f : Addr} {fd : FuncData} (F : Fun K "eater_saying" "eater_saying" sEaterSaying f fd) (T : Txt K w mg) (C_want_row_of_thing : C8.Cal P w K mg base 8 "_want_row_of_thing" (spD 1 tWantR) []) (C_want_whole : C8.Cal P w K mg base 3 "want_whole" (spD 3 tWantW) []) (C_bounded : C8.Cal P w K mg base 2 "bounded" (spD 3 tBounded) []) (C_step_saying : C8.Cal P w K mg base 6 "step_saying" (spD 3 tStep) []) (C_all_of : C8.Cal P w K mg base 2 "all_of" (spD 2 tAllOfS) []) :
    FnOk P w K mg base CX0 9 f fd ["row", "height"] (spD 2 tEat) := by
  refine fn_d F scEaterSaying (body := fun cdv A outer s H E hr => ⟨_, (pss_cons (ps_expr (C8.pe_c C_want_row_of_thing hr (by omega) rfl (pa_cons (pv 0) pa_nil)))
      (pss_cons (ps_expr (C8.pe_c C_want_whole hr (by omega) rfl (pa_cons (pv 1) (pa_cons pe_int (pa_cons (C8.pe_gc rfl T.highest) pa_nil)))))
      (pss_cons (ps_set (i := 2) scEaterSaying.nd rfl (Or.inl rfl) (pe_tup (pa_cons pe_str (pa_cons (pe_ix ix_tup (pv 0) pe_int (fun _ _ => rfl)) pa_nil))))
      (pss_cons (ps_set (i := 3) scEaterSaying.nd rfl (Or.inl rfl) (pe_callB call_len_seq (by rfl) T.len PySem.boot_len (pa_cons (pe_ix ix_tup (pv 0) pe_int (fun _ _ => rfl)) pa_nil)))
      (pss_cons (ps_set (i := 4) scEaterSaying.nd rfl (Or.inl rfl) (pe_tup (pa_cons pe_str (pa_cons (C8.pe_c C_bounded hr (by omega) rfl (pa_cons (pv 0) (pa_cons (pv 2) (pa_cons pe_int pa_nil)))) (pa_cons (pe_tup (pa_cons pe_str (pa_cons (pv 1) pa_nil))) pa_nil)))))
      (pss_cons (ps_setLc (i := 5) (own := [("maker", 7)]) (g := gName 7) (tt := tYes) rfl scEaterSaying.nd rfl rfl (sw_true rfl rfl rfl (by decide +kernel)) (pi_range1 (by rfl) T.range (pa_cons (pv 3) pa_nil)) (blkOk_by (N := nEaterSaying) (sc := defScope sEaterSaying) (by decide +kernel)) (fun _ _ _ _ _ => (pg_name (i := 7) scEaterSaying.nd rfl (Or.inl rfl))) (fun _ _ _ _ _ => pts_nil) (fun _ _ _ _ _ => (C8.pe_c C_step_saying hr (by omega) rfl (pa_cons (pv 0) (pa_cons (pv 7) (pa_cons (pv 7) pa_nil))))))
      (pss_cons (ps_set (i := 6) scEaterSaying.nd rfl (Or.inl rfl) (C8.pe_c C_bounded hr (by omega) rfl (pa_cons (pv 0) (pa_cons (pv 2) (pa_cons (pe_op op_add (pv 3) pe_int) pa_nil)))))
      (pss_one (ps_ret (C8.pe_c C_all_of hr (by omega) rfl (pa_cons (pe_lst (StX.pa_star (pe_ix ix_tup (pv 0) pe_int (fun _ _ => rfl)) (pa_cons (pv 4) (StX.pa_star (pv 5) (pa_cons (pv 6) pa_nil))))) (pa_cons (pe_tup (pa_cons pe_str (pa_cons (pe_tup (pa_cons pe_str (pa_cons (pe_op op_add (pv 3) pe_int) pa_nil))) (pa_cons (pe_tup (pa_cons pe_str (pa_cons pe_int pa_nil))) pa_nil)))) pa_nil)))))))))))), ?_⟩)
  rintro as Kr _ ⟨x, h, es, fs, ht, rfl, rw_, hn, h0, h5, k⟩
  obtain ⟨_, es3, _, fs5, _⟩ := rw_.parts
  refine (sm_seq (sm_drop (ev_call (x := .none) (es_cons (ev_var rfl) es_nil) ar_nil rfl ⟨x, h, es, fs, rfl, rw_, rfl⟩) (sm_seq (sm_drop (ev_call (x := .none) (es_cons (ev_var rfl) (es_cons ev_int (es_cons ev_int es_nil))) ar_nil rfl ⟨ht, 0, 5, rfl, h0, h5, rfl⟩) ?_))))
  refine (sm_seq (sm_set (ev_tup (eds_cons ev_str (eds_cons (ev_op (ev_var rfl) ev_int (fv_ixT at1)) eds_nil))) ?_))
  refine (sm_seq (sm_set ((ev_fn (es_cons (ev_op (ev_var rfl) ev_int (fv_ixT (at_nat (j := 4) rfl))) es_nil) fv_lenT).is (y := .int (fs.length : Int)) (by rw [List.length_map])) ?_))
  refine (sm_seq (sm_set (ev_tup (eds_cons ev_str (eds_cons (ev_call (es_cons (ev_var rfl) (es_cons (ev_var rfl) (es_cons ev_int es_nil))) ar_nil rfl ⟨x, h, es, fs, _, 0, rfl, rw_, rfl⟩) (eds_cons (ev_tup (eds_cons ev_str (eds_cons (ev_var rfl) eds_nil))) eds_nil)))) ?_))
  refine (sm_seq (sm_setL (el_lcM (f := eatF x es fs) (fi_rng1 (eds_cons (ev_var rfl) eds_nil) (by constructor <;> omega)) (by exact ⟨⟨.un, rfl, trivial⟩, trivial⟩) ?len (fun y hy => ?el)) ?_ (by decide) (by show 5 < 8; decide)))
  case len =>
    rw [sizeLine_eq]
    have := rngD_len ((fs.length : Int).toNat)
    omega
  case el =>
    obtain ⟨j, hj⟩ := List.getElem?_of_mem hy
    obtain ⟨lt, rfl⟩ := rngD_at hj
    have lt : j < fs.length := by simpa using lt
    have e := List.getElem?_eq_getElem lt
    refine ⟨_, tgw_name, (ev_call (x := eatF x es fs (.int (j : Int))) (es_cons (ev_var rfl) (es_cons (ev_var rfl) (es_cons (ev_var rfl) es_nil))) ar_nil rfl ⟨x, h, es, fs, j, fs[j], (j : Int), rfl, rw_, e, hn, by omega, ?_⟩), rfl, ⟨⟨_, rfl, trivial⟩, trivial⟩⟩
    show Rv.d (stepSayD x es fs[j] j (j : Int)) = Rv.d (stepSayD x es ((fs[(j : Int).toNat]?).getD []) (j : Int).toNat (j : Int))
    rw [Int.toNat_natCast, e]
    rfl
  refine (sm_seq (sm_set (ev_call (es_cons (ev_var rfl) (es_cons (ev_var rfl) (es_cons (ev_op (ev_var rfl) ev_int fv_int) es_nil))) ar_nil rfl ⟨x, h, es, fs, _, _, rfl, rw_, rfl⟩) ?_))
  refine (sm_ret (ev_call (es_cons (Ev.of_el (el_lst (eds_star (ev_op (ev_var rfl) ev_int (fv_ixT (at_nat (j := 3) rfl))) (eds_cons (ev_var rfl) (eds_starL (ev_varF rfl) (eds_cons (ev_var rfl) eds_nil)))) ?len2)) (es_cons (ev_tup (eds_cons ev_str (eds_cons (ev_tup (eds_cons ev_str (eds_cons (ev_op (ev_var rfl) ev_int fv_int) eds_nil))) (eds_cons (ev_tup (eds_cons ev_str (eds_cons ev_int eds_nil))) eds_nil)))) es_nil)) ar_nil rfl ⟨_, _, _, rfl, Or.inl rfl, rfl⟩) ?fin)
  case len2 =>
    rw [sizeLine_eq, List.length_append, List.length_cons, List.length_append, List.length_map, List.length_singleton, rngD_len]
    omega
  case fin =>
    have : (rngD ((fs.length : Int).toNat)) = rngD fs.length := by rw [Int.toNat_natCast]
    rw [this]
    exact k
end
end KP
set_option Elab.async false
set_option linter.unusedVariables false
set_option maxRecDepth 100000
set_option maxHeartbeats 1000000
/-! A try with several handlers of which the first one, with a name, takes whatever comes. -/
namespace KA
open PySem PySem.Spec PyProof.Rows L2
/-- the wish of the body: what comes is of the first handler's class -/
def wFirst (K : PySem.W.Frag) (c : Value) (i : Nat) (ts : Addr → Value → Option Addr → TS) (D : Ends) : WX := fun cls d σ H =>
  PySem.W.exmOne K cls c = some true ∧ ∀ a, H a = none → ts a cls d { nx := fun ρ G => D.nx (ρ.set i none) G, rt := D.rt, bk := fun ρ G => D.bk (ρ.set i none) G, ct := fun ρ G => D.ct (ρ.set i none) G } (σ.set i (some (.ref a))) H
section
variable {X : Cx} {x n : Str} {c : Value} {i : Nat} {body su : List Stmt} {b1 : Stmt} {np pos p3 : Pos} {more : List ExceptHandler} {tb : WX → TS} {ts : Addr → Value → Option Addr → TS}
theorem ps_try_first (stk : X.stack = X.env :: X.outer) (frm : X.env.frame = some X.env.locals) (nd : X.N.Nodup) (at_ : X.N[i]? = some n) (loc : X.env.kindOf n = some .local) (nm : Names X x c)
    (hb : ∀ (W : WX) (pn : List (Addr × Obj)) (xe : Value → Shared → Prop), Takes (X.tr pn xe) W → PassesOwn (model X.prog X.w) X.A X.env xe → PSs (X.tr pn xe) body (tb W))
    (hs : ∀ (a : Addr) (oe : Obj) (cls : Value) (d : Option Addr) (pn : List (Addr × Obj)), Zc cls d oe → (∃ vs, oe.data = .fields vs) → PSs (X.suite a ((a, oe) :: pn)) (b1 :: su) (ts a cls d)) :
    PS X (.Try body (.ExceptHandler (some (.Name x np)) (some n) (b1 :: su) p3 :: more) [] [] pos) (fun D σ H => tb (wFirst X.K c i ts D) D σ H) := by
  refine ⟨fun pins s0 σ0 H0 D I0 want => ?_⟩
  have okX := I0.ok
  have frames : X.A.frames = some (X.env :: X.outer) := by rw [okX.frames, stk]
  have here : Loc X.env.scope n := .inl loc
  refine wpAny_Try_except ?_
  refine wpAny_mono ((hb (wFirst X.K c i ts D) (X.pn ++ pins) (fun u t1 => wpAny (model X.prog X.w) X.A (noteFrame u X.env) (fun _ t2 => wpAny (model X.prog X.w) X.A (setFlight u none) (fun _ t3 =>
    wpAny (model X.prog X.w) X.A (handleBy u X.env (.ExceptHandler (some (.Name x np)) (some n) (b1 :: su) p3 :: more)) (SP X pins D) X.xe t3) X.xe t2) X.xe t1) (fun u t0 inAir => ?_) PassesOwn.looking).run [] s0 σ0 H0 D (I0.toTry _) want) (fun fl t1 ends => ?_) (fun u t1 z => z)
  · obtain ⟨a, B, sB, pinsB, σ1, H1, cls, d, rfl, JB, newB, up0, air, freeA, osE, bareG, isC, suite⟩ := inAir
    have J0 : Inv X pins σ1 H1 sB := JB.ofTry okX
    have air' : Sky B (X.env :: X.outer) a (Zc cls d) X.env.locals t0.heap := by rw [← stk]; exact air
    show wpAny (model X.prog X.w) X.A (noteFrame (.ref a) X.env) _ _ _
    refine Sky.land Zc.steady frames frm air' fun hA flA upA => ?_
    have JA : Inv X pins σ1 H1 { t0 with heap := hA } := J0.landed newB flA.1 (up0.trans upA) osE bareG
    obtain ⟨oA, vA, getA, zcA, datA⟩ := flA.there
    have offF : a ∉ frs (X.env :: X.outer) := fun mem => by
      obtain ⟨_, o1, get1, notF⟩ := flA.2.2.1.mem mem
      rw [getA] at get1
      cases get1
      exact notF _ datA
    have offL : a ≠ X.env.locals := fun z => offF (List.mem_filterMap.mpr ⟨X.env, List.mem_cons_self, by rw [frm, z]⟩)
    have offS : a ∉ X.fs := fun mem => by
      obtain ⟨en, hen, q⟩ := List.mem_filterMap.mp mem
      exact offF (List.mem_filterMap.mpr ⟨en, List.mem_cons_of_mem _ hen, q⟩)
    have SA := JA.suite getA datA freeA offL offS
    refine wpAny_handleBy_cons (codeAny_handlers_test ?_) (by intro q; cases q)
    have lookT : PySem.W.Looks (model X.prog X.w) hA (typeOf (.ref a)) cls := fun _ _ _ t keep q => wpAny_typeOf_ref (keep _ _ getA) (by rw [zcA.1]; exact q)
    have lookM := PySem.W.exm_one (M := model X.prog X.w) JA.kIn lookT isC
    have name : ∀ {Q E : Value → Shared → Prop}, Q c { t0 with heap := hA } → wpAny (model X.prog X.w) (X.A.mark (some (.ref a))) (eval (.Name x np) X.env) Q E { t0 with heap := hA } := fun {Q E} q => by
      obtain ⟨gl, dbg, own | ⟨none_, blt, nn⟩⟩ := nm
      · exact ld_glob (X := X.suite a ((a, oA) :: (X.pn ++ pins))) SA gl own q dbg
      · exact ld_blt (X := X.suite a ((a, oA) :: (X.pn ++ pins))) SA gl none_ blt q nn dbg
    refine name (lookM.here ?_)
    refine codeAny_handlers_suite_as ?_
    refine HandSPX.lands_againZ flA fun hC flC upC => ?_
    have JC : Inv X pins σ1 H1 { t0 with heap := hC } := J0.landed newB flC.1 ((up0.trans upA).trans upC) osE bareG
    obtain ⟨oC, vC, getC, zcC, datC⟩ := flC.there
    have SC := JC.suite getC datC freeA offL offS
    refine store_ok (X := X.suite a ((a, oC) :: (X.pn ++ pins))) (v := .ref a) SC nd at_ here rfl (fun t5 S5 => ?_) (.inr loc)
    refine wpAny_mono ((hs a oC cls d (X.pn ++ pins) zcC ⟨_, datC⟩).run [] t5 _ H1 _ S5 (suite a freeA)) (fun fl t6 ends => ?_) (fun _ _ z => False.elim z)
    have gone : ∀ {ρ : L2.St} {G : Hp} {Q : Shared → Prop}, Inv (X.suite a ((a, oC) :: (X.pn ++ pins))) [] ρ G t6 → (∀ t7, Inv X pins (ρ.set i none) G t7 → Q t7) →
        wpAny (model X.prog X.w) X.A (do bindName X.env n .none; unbindBehindTheSuite X.env n p3) (fun _ t7 => Q t7) X.xe t6 := fun {ρ G Q} S6 q => gone_ok (S6.unsuite okX) nd at_ loc q
    cases fl with
    | next =>
      obtain ⟨ρ, G, S6, q⟩ := ends
      exact gone S6 fun t7 J7 => ⟨_, _, J7, q⟩
    | brk =>
      obtain ⟨ρ, G, S6, q⟩ := ends
      exact gone S6 fun t7 J7 => ⟨_, _, J7, q⟩
    | cont =>
      obtain ⟨ρ, G, S6, q⟩ := ends
      exact gone S6 fun t7 J7 => ⟨_, _, J7, q⟩
    | ret u =>
      obtain ⟨v, ρ, G, S6, rv, q⟩ := ends
      exact gone S6 fun t7 J7 => ⟨_, _, _, J7, rv, q⟩
  · cases fl with
    | next =>
      obtain ⟨ρ, G, J, q⟩ := ends
      exact wpAny_execs_nil ⟨ρ, G, J.ofTry okX, q⟩
    | brk =>
      obtain ⟨ρ, G, J, q⟩ := ends
      exact ⟨ρ, G, J.ofTry okX, q⟩
    | cont =>
      obtain ⟨ρ, G, J, q⟩ := ends
      exact ⟨ρ, G, J.ofTry okX, q⟩
    | ret u =>
      obtain ⟨v, ρ, G, J, rv, q⟩ := ends
      exact ⟨v, ρ, G, J.ofTry okX, rv, q⟩
end
end KA
set_option Elab.async false
set_option linter.unusedVariables false
set_option maxRecDepth 100000
set_option maxHeartbeats 1000000
/-! A try with several handlers that have names; of those behind them nothing is said. -/
namespace KA
open PySem PySem.Spec PyProof.Rows L2
def asEnds (i : Nat) (D : Ends) : Ends := { nx := fun ρ G => D.nx (ρ.set i none) G, rt := D.rt, bk := fun ρ G => D.bk (ρ.set i none) G, ct := fun ρ G => D.ct (ρ.set i none) G }
def wAs (K : PySem.W.Frag) (D : Ends) : List (Value × Nat × (Addr → Value → Option Addr → TS)) → WX
  | [] => fun _ _ _ _ => False
  | (c, i, ts) :: r => fun cls d σ H => ∃ b, PySem.W.exmOne K cls c = some b ∧ (b = true → ∀ a, H a = none → ts a cls d (asEnds i D) (σ.set i (some (.ref a))) H) ∧ (b = false → wAs K D r cls d σ H)
def tTryAs (K : PySem.W.Frag) (l : List (Value × Nat × (Addr → Value → Option Addr → TS))) (tb : WX → TS) : TS := fun D σ H => tb (wAs K D l) D σ H
inductive HdsA (X : Cx) : List ExceptHandler → List (Value × Nat × (Addr → Value → Option Addr → TS)) → Prop
  | rest {hds : List ExceptHandler} : HdsA X hds []
  | cons {x n : Str} {c : Value} {i : Nat} {ts : Addr → Value → Option Addr → TS} {b1 : Stmt} {su : List Stmt} {np p3 : Pos} {hds : List ExceptHandler} {l : List (Value × Nat × (Addr → Value → Option Addr → TS))}
      (nm : Names X x c) (at_ : X.N[i]? = some n) (loc : X.env.kindOf n = some .local)
      (hs : ∀ (a : Addr) (oe : Obj) (cls : Value) (d : Option Addr) (pn : List (Addr × Obj)), Zc cls d oe → (∃ vs, oe.data = .fields vs) → PSs (X.suite a ((a, oe) :: pn)) (b1 :: su) (ts a cls d)) (r : HdsA X hds l) :
      HdsA X (.ExceptHandler (some (.Name x np)) (some n) (b1 :: su) p3 :: hds) ((c, i, ts) :: l)
section
variable {X : Cx} {body : List Stmt} {h0 : ExceptHandler} {hds : List ExceptHandler} {l : List (Value × Nat × (Addr → Value → Option Addr → TS))} {pos : Pos} {tb : WX → TS}
theorem ps_try_as (stk : X.stack = X.env :: X.outer) (frm : X.env.frame = some X.env.locals) (nd : X.N.Nodup)
    (hb : ∀ (W : WX) (pn : List (Addr × Obj)) (xe : Value → Shared → Prop), Takes (X.tr pn xe) W → PassesOwn (model X.prog X.w) X.A X.env xe → PSs (X.tr pn xe) body (tb W))
    (hh : HdsA X (h0 :: hds) l) : PS X (.Try body (h0 :: hds) [] [] pos) (tTryAs X.K l tb) := by
  refine ⟨fun pins s0 σ0 H0 D I0 want => ?_⟩
  have okX := I0.ok
  have frames : X.A.frames = some (X.env :: X.outer) := by rw [okX.frames, stk]
  refine wpAny_Try_except ?_
  refine wpAny_mono ((hb (wAs X.K D l) (X.pn ++ pins) (fun u t1 => wpAny (model X.prog X.w) X.A (noteFrame u X.env) (fun _ t2 => wpAny (model X.prog X.w) X.A (setFlight u none) (fun _ t3 =>
    wpAny (model X.prog X.w) X.A (handleBy u X.env (h0 :: hds)) (SP X pins D) X.xe t3) X.xe t2) X.xe t1) (fun u t0 inAir => ?_) PassesOwn.looking).run [] s0 σ0 H0 D (I0.toTry _) want) (fun fl t1 ends => ?_) (fun u t1 z => z)
  · obtain ⟨a, B, sB, pinsB, σ1, H1, cls, d, rfl, JB, newB, up0, air, freeA, osE, bareG, w⟩ := inAir
    have J0 : Inv X pins σ1 H1 sB := JB.ofTry okX
    have air' : Sky B (X.env :: X.outer) a (Zc cls d) X.env.locals t0.heap := by rw [← stk]; exact air
    show wpAny (model X.prog X.w) X.A (noteFrame (.ref a) X.env) _ _ _
    refine Sky.land Zc.steady frames frm air' fun hA flA upA => ?_
    have JA : Inv X pins σ1 H1 { t0 with heap := hA } := J0.landed newB flA.1 (up0.trans upA) osE bareG
    obtain ⟨oA, vA, getA, zcA, datA⟩ := flA.there
    have offF : a ∉ frs (X.env :: X.outer) := fun mem => by
      obtain ⟨_, o1, get1, notF⟩ := flA.2.2.1.mem mem
      rw [getA] at get1
      cases get1
      exact notF _ datA
    have offL : a ≠ X.env.locals := fun z => offF (List.mem_filterMap.mpr ⟨X.env, List.mem_cons_self, by rw [frm, z]⟩)
    have offS : a ∉ X.fs := fun mem => by
      obtain ⟨en, hen, q⟩ := List.mem_filterMap.mp mem
      exact offF (List.mem_filterMap.mpr ⟨en, List.mem_cons_of_mem _ hen, q⟩)
    have SA := JA.suite getA datA freeA offL offS
    have go : ∀ {hds' : List ExceptHandler} {l' : List (Value × Nat × (Addr → Value → Option Addr → TS))}, HdsA X hds' l' → wAs X.K D l' cls d σ1 H1 →
        wpAny (model X.prog X.w) X.A (handleBy (.ref a) X.env hds') (SP X pins D) X.xe { t0 with heap := hA } := by
      intro hds' l' hk
      induction hk with
      | rest =>
        intro w
        exact False.elim w
      | @cons x n c i ts b1 su np p3 hds2 l2 nm at_ loc hs r ih =>
        intro w
        obtain ⟨b, hb1, hyes, hno⟩ := w
        have here : Loc X.env.scope n := .inl loc
        refine wpAny_handleBy_cons (codeAny_handlers_test ?_) (by intro q; cases q)
        have lookT : PySem.W.Looks (model X.prog X.w) hA (typeOf (.ref a)) cls := fun _ _ _ t keep q => wpAny_typeOf_ref (keep _ _ getA) (by rw [zcA.1]; exact q)
        have lookM := PySem.W.exm_one (M := model X.prog X.w) JA.kIn lookT hb1
        have name : ∀ {Q E : Value → Shared → Prop}, Q c { t0 with heap := hA } → wpAny (model X.prog X.w) (X.A.mark (some (.ref a))) (eval (.Name x np) X.env) Q E { t0 with heap := hA } := fun {Q E} q => by
          obtain ⟨gl, dbg, own | ⟨none_, blt, nn⟩⟩ := nm
          · exact ld_glob (X := X.suite a ((a, oA) :: (X.pn ++ pins))) SA gl own q dbg
          · exact ld_blt (X := X.suite a ((a, oA) :: (X.pn ++ pins))) SA gl none_ blt q nn dbg
        refine name (lookM.here ?_)
        cases b with
        | false =>
          show wpAny _ X.A (handleBy (.ref a) X.env hds2) _ _ _
          exact ih (hno rfl)
        | true =>
          refine codeAny_handlers_suite_as ?_
          refine HandSPX.lands_againZ flA fun hC flC upC => ?_
          have JC : Inv X pins σ1 H1 { t0 with heap := hC } := J0.landed newB flC.1 ((up0.trans upA).trans upC) osE bareG
          obtain ⟨oC, vC, getC, zcC, datC⟩ := flC.there
          have SC := JC.suite getC datC freeA offL offS
          refine store_ok (X := X.suite a ((a, oC) :: (X.pn ++ pins))) (v := .ref a) SC nd at_ here rfl (fun t5 S5 => ?_) (.inr loc)
          refine wpAny_mono ((hs a oC cls d (X.pn ++ pins) zcC ⟨_, datC⟩).run [] t5 _ H1 _ S5 (hyes rfl a freeA)) (fun fl t6 ends => ?_) (fun _ _ z => False.elim z)
          have gone : ∀ {ρ : L2.St} {G : Hp} {Q : Shared → Prop}, Inv (X.suite a ((a, oC) :: (X.pn ++ pins))) [] ρ G t6 → (∀ t7, Inv X pins (ρ.set i none) G t7 → Q t7) →
              wpAny (model X.prog X.w) X.A (do bindName X.env n .none; unbindBehindTheSuite X.env n p3) (fun _ t7 => Q t7) X.xe t6 := fun {ρ G Q} S6 q => gone_ok (S6.unsuite okX) nd at_ loc q
          cases fl with
          | next =>
            obtain ⟨ρ, G, S6, q⟩ := ends
            exact gone S6 fun t7 J7 => ⟨_, _, J7, q⟩
          | brk =>
            obtain ⟨ρ, G, S6, q⟩ := ends
            exact gone S6 fun t7 J7 => ⟨_, _, J7, q⟩
          | cont =>
            obtain ⟨ρ, G, S6, q⟩ := ends
            exact gone S6 fun t7 J7 => ⟨_, _, J7, q⟩
          | ret u =>
            obtain ⟨v, ρ, G, S6, rv, q⟩ := ends
            exact gone S6 fun t7 J7 => ⟨_, _, _, J7, rv, q⟩
    exact go hh w
  · cases fl with
    | next =>
      obtain ⟨ρ, G, J, q⟩ := ends
      exact wpAny_execs_nil ⟨ρ, G, J.ofTry okX, q⟩
    | brk =>
      obtain ⟨ρ, G, J, q⟩ := ends
      exact ⟨ρ, G, J.ofTry okX, q⟩
    | cont =>
      obtain ⟨ρ, G, J, q⟩ := ends
      exact ⟨ρ, G, J.ofTry okX, q⟩
    | ret u =>
      obtain ⟨v, ρ, G, J, rv, q⟩ := ends
      exact ⟨v, ρ, G, J.ofTry okX, rv, q⟩
end
end KA
set_option Elab.async false
set_option linter.unusedVariables false
set_option linter.unusedSectionVars false
set_option maxRecDepth 100000
set_option maxHeartbeats 1000000
namespace OW
open PySem PySem.Spec PyProof.Rows L2 KA
variable [Tbs]
/-! ### refusals -/
def Re (W : WX) (te : TE) (ρ : List Sl) (C : Addr) (s : Sl) (ρ' : List Sl) : Prop := ∀ (c : Fr) (A : Am) (σ : L2.St) (H : Hp) (Q : VK), Rp c A ρ σ H → A fl = none →
  (∀ d v A' H', Rp c A' ρ' σ H' → A' fl = none → vw c.Z A' H' d = some (.xd [("found", v)]) → ArOk (vw c.Z A' H') v s → W (.ref C) (some d) σ H') → te σ H Q
def Rs (W : WX) (t : TS) (ρ : List Sl) (C : Addr) (s : Sl) (ρ' : List Sl) : Prop := ∀ (c : Fr) (A : Am) (σ : L2.St) (H : Hp) (D : Ends), Rp c A ρ σ H → A fl = none →
  (∀ d v A' σ' H', Rp c A' ρ' σ' H' → A' fl = none → vw c.Z A' H' d = some (.xd [("found", v)]) → ArOk (vw c.Z A' H') v s → W (.ref C) (some d) σ' H') → t D σ H
def spX (n : Nat) (T : List Sl → (Rv → Prop) → (Addr → Sl → Prop) → Prop) : Sp := fun vs H Q E => ∃ (Z : Addr → Prop) (as : List Sl) (K : Rv → Prop) (X : Addr → Sl → Prop), ZOk Z H ∧ ArAll (hz Z H) vs as ∧ as.length = n ∧ T as K X ∧
  (∀ r v H', K r → Aft Z H H' → RvOk Z H H' v r → Q v H') ∧ ∀ C s d v H', X C s → Aft Z H H' → hz Z H' d = some (.xd [("found", v)]) → ArOk (hz Z H') v s → E (.ref C) (some d) H'
section
variable {ρ ρ' ρ1 ρ2 : List Sl} {te ta tb : TE} {s s' : Sl} {x y : PyData} {i : Nat} {tr : TA} {xs : List PyData} {ss : List Sl} {t u : TS} {K : KK} {g : TG} {W : WX} {C : Addr} {E : L2.St → XK} {n : Nat} {T : List Sl → (Rv → Prop) → (Addr → Sl → Prop) → Prop} {KF : PySem.W.Frag}
theorem ev_callX (h : Es tr ρ ss ρ') (hn : ss.length = n) (g : T ss (fun r => r = .d x) fun _ _ => False) : Ev (tCallS (spX n T) E tr) ρ (.d x) ρ' := fun c A σ H Q R f q =>
  h c A σ H _ R f fun vs A1 H1 R1 f1 S1 o1 => by
    refine ⟨zz c.Z A1, ss, _, _, zz_ok R1, by rw [hz_eq]; exact o1, hn, g, fun r v H' hr S o => ?_, fun _ _ _ _ _ z => z.elim⟩
    subst hr
    have o : Dn (hz (zz c.Z A1) H') v x := o
    rw [hz_eq] at o
    exact q v A1 H' (R1.upA S) f1 (S1.trans (vw_upA R1 S)) o
theorem el_callX (h : Es tr ρ ss ρ') (hn : ss.length = n) (g : T ss (fun r => r = .l xs) fun _ _ => False) : El (tCallS (spX n T) E tr) ρ xs ρ' := fun c A σ H Q R f q =>
  h c A σ H _ R f fun vs A1 H1 R1 f1 S1 o1 => by
    refine ⟨zz c.Z A1, ss, _, _, zz_ok R1, by rw [hz_eq]; exact o1, hn, g, fun r v H' hr S o => ?_, fun _ _ _ _ _ z => z.elim⟩
    subst hr
    obtain ⟨a, us, rfl, n, e, dx⟩ := o
    rw [hz_eq] at dx
    refine q a us _ H' (R1.adopt S n e) aset_at (S1.trans ?_) e (DnAll.mono vw_adopt dx)
    exact fun b o z => vw_adopt (A := A1) b o (by rw [hid_ne (ne_of_none (vw_some z).2.2 n)]; exact vw_upA R1 S _ _ z)
theorem re_call (h : Es tr ρ ss ρ') (hn : ss.length = n) (g : T ss (fun _ => False) fun C' s' => C' = C ∧ s' = s) : Re W (tCallS (spX n T) (fun σ => WE W σ) tr) ρ C s ρ' := fun c A σ H Q R f q =>
  h c A σ H _ R f fun vs A1 H1 R1 f1 S1 o1 => by
    refine ⟨zz c.Z A1, ss, _, _, zz_ok R1, by rw [hz_eq]; exact o1, hn, g, fun _ _ _ z => z.elim, fun C' s' d v H' z S e o => ?_⟩
    obtain ⟨rfl, rfl⟩ := z
    rw [hz_eq] at e o
    exact q d v A1 H' (R1.upA S) f1 e o
theorem rs_seq (h : Sm t ρ { nx := fun ρ1 => Rs W u ρ1 C s ρ', rt := fun _ _ => False }) : Rs W (tSeq t u) ρ C s ρ' := fun c A σ H D R f q =>
  h c A σ H { D with nx := u D } R f ⟨fun ρ1 A1 σ1 H1 hk R1 f1 => hk c A1 σ1 H1 D R1 f1 q, fun _ _ _ _ _ _ z => z.elim, fun _ _ _ _ z => z.elim, fun _ _ _ _ z => z.elim⟩
theorem rs_seq1 (h : Rs W t ρ C s ρ') : Rs W (tSeq t u) ρ C s ρ' := fun c A σ H D R f q => h c A σ H { D with nx := u D } R f q
theorem rs_drop (h : Re W te ρ C s ρ') : Rs W (tDrop te) ρ C s ρ' := fun c A σ H D R f q => h c A σ H _ R f fun d v A1 H1 R1 f1 e o => q d v A1 σ H1 R1 f1 e o
theorem rs_ret (h : Re W te ρ C s ρ') : Rs W (tRet te) ρ C s ρ' := fun c A σ H D R f q => h c A σ H _ R f fun d v A1 H1 R1 f1 e o => q d v A1 σ H1 R1 f1 e o
theorem rs_asg (h : Re W te ρ C s ρ') : Rs W (tAsg te g) ρ C s ρ' := fun c A σ H D R f q => h c A σ H _ R f fun d v A1 H1 R1 f1 e o => q d v A1 σ H1 R1 f1 e o
theorem rs_if {tt : TT} {b : Bool} (h : Et tt ρ b ρ1) (h1 : b = true → Rs W t ρ1 C s ρ') (h2 : b = false → Rs W u ρ1 C s ρ') : Rs W (tIfS tt t u) ρ C s ρ' := fun c A σ H D R f q =>
  h c A σ H _ R f fun A1 H1 R1 f1 S1 => by
    cases b with
    | true => exact h1 rfl c A1 σ H1 D R1 f1 q
    | false => exact h2 rfl c A1 σ H1 D R1 f1 q
theorem re_op1 {r : R2} (h : Re W ta ρ C s ρ') : Re W (tOp r ta tb) ρ C s ρ' := fun c A σ H Q R f q => h c A σ H _ R f q
theorem re_tup {ta : TA} (h : ∀ (c : Fr) (A : Am) (σ : L2.St) (H : Hp) (Q : List V → Hp → Prop), Rp c A ρ σ H → A fl = none → (∀ d v A' H', Rp c A' ρ' σ H' → A' fl = none → vw c.Z A' H' d = some (.xd [("found", v)]) → ArOk (vw c.Z A' H') v s → W (.ref C) (some d) σ H') → ta σ H Q) : Re W (tTup ta) ρ C s ρ' :=
  fun c A σ H Q R f q => h c A σ H _ R f q
/-- a display's second thing is refused -/
theorem re_tup2 {v : V} (h : Re W te ρ C s ρ') : Re W (tTup (tCons (tC v) (tCons te tNil))) ρ C s ρ' := fun c A σ H Q R f q => h c A σ H _ R f q
/-- raise C(e), C a refusal of the program -/
def spErr (C : Addr) : Sp := fun vs H Q _ => ∃ a v, vs = [.ref a, v] ∧ H a = some (exo a C none) ∧ ∀ dx, H dx = none → dx ≠ a → Q .non (upd (upd H dx (exd dx [("found", v)])) a (exo a C (some dx)))
theorem gone_same {H : Hp} {a d : Addr} {u e u' x : HO} (ha : H a = none) (hd : H d = none) : Same H (upd (del (upd (upd (upd H a u) d e) a u') a) d x) := fun b o z => by
  have na : b ≠ a := ne_of_none z ha
  have nd : b ≠ d := ne_of_none z hd
  rw [upd_ne nd, del_ne na, upd_ne na, upd_ne nd, upd_ne na]
  exact z
theorem rs_raise (h : Ev te ρ s ρ') : Rs W (fun _ σ H => tMkO C (spErr C) [] (tCons te tNil) σ H fun cls d H' => W cls d σ H') ρ C s ρ' := fun c A σ H D R f q =>
  h c A σ H _ R f fun v A1 H1 R1 f1 S1 o1 => by
    refine ⟨(by show 1 ≤ 1000; decide), fun a ha => ⟨a, v, rfl, upd_same, fun dx hdx ne => ⟨rfl, dx, [("found", v)], upd_same, ?_, ?_, ?_⟩⟩⟩
    · rw [upd_ne ne, upd_same]
    · rw [upd_ne ne] at hdx
      exact hdx
    · rw [upd_ne ne] at hdx
      have S := gone_same (u := exo a C none) (e := exd dx [("found", v)]) (u' := exo a C (some dx)) (x := .xd [("found", v)]) ha hdx
      exact q dx v A1 σ _ (R1.up S) f1 (new_view R1 hdx upd_same) (o1.mono (vw_up S))
/-! a try -/
def excMo (a d : Addr) (s : Sl) : Mo := ⟨fun u W => u = .ref a ∧ ∃ v, W d = some (.xd [("found", v)]) ∧ ArOk W v s, fun S ⟨e, v, h, o⟩ => ⟨e, v, S _ _ h, o.mono S⟩⟩
theorem ev_found {a d : Addr} (h : ρ[i]? = some (.p (excMo a d s))) : Ev (tXf a (.ref C) (some d) C "found" (tVar i)) ρ s ρ := fun c A σ H Q R f q => by
  obtain ⟨_, u, e, eu, v, ed, o⟩ := R.sl i _ h
  subst eu
  exact ⟨_, e, rfl, rfl, d, _, v, rfl, vw_sub _ _ ed, rfl, q v A H R f (Same.refl _) o⟩
theorem sm_try {l : List (Value × Nat × (Addr → Value → Option Addr → TS))} {tb : WX → TS} (h : ∀ W, Sm (tb W) ρ K) : Sm (tTryAs KF l tb) ρ K := fun c A σ H D R f dk => h _ c A σ H D R f dk
/-- which handler takes it -/
inductive Takes1 (KF : PySem.W.Frag) (C : Addr) : List (Value × Nat × (Addr → Value → Option Addr → TS)) → Nat → (Addr → Value → Option Addr → TS) → Prop
  | here {c : Value} {i : Nat} {ts : Addr → Value → Option Addr → TS} {r : List (Value × Nat × (Addr → Value → Option Addr → TS))} : PySem.W.exmOne KF (.ref C) c = some true → Takes1 KF C ((c, i, ts) :: r) i ts
  | next {c : Value} {i j : Nat} {ts ts' : Addr → Value → Option Addr → TS} {r : List (Value × Nat × (Addr → Value → Option Addr → TS))} : PySem.W.exmOne KF (.ref C) c = some false → Takes1 KF C r j ts' → Takes1 KF C ((c, i, ts) :: r) j ts'
theorem sm_tryX {l : List (Value × Nat × (Addr → Value → Option Addr → TS))} {tb : WX → TS} {ts : Addr → Value → Option Addr → TS} (h : ∀ W, Rs W (tb W) ρ C s ρ') (ht : Takes1 KF C l i ts) (i0 : i ≠ 0 := by decide) (i1 : i ≠ fl := by decide)
    (hs : ∀ a d, Sm (ts a (.ref C) (some d)) (ρ'.set i (.p (excMo a d s))) { nx := fun _ => False, rt := K.rt }) : Sm (tTryAs KF l tb) ρ K := fun c A σ H D R f dk => by
  refine h (wAs KF D l) c A σ H D R f fun d v A' σ' H' R' f' e o => ?_
  induction ht with
  | @here c0 i0' ts0 r0 hx =>
    refine ⟨true, hx, (fun _ a ha => ?_), (fun z => by cases z)⟩
    refine hs a d c _ _ H' _ (R'.set (s := .p (excMo a d s)) (v := .ref a) i0 ⟨rfl, _, rfl, rfl, v, e, o⟩) (by rw [aset_ne i1.symm]; exact f') ⟨fun _ _ _ _ z => z.elim, fun r ρ v A σ H k => dk.rt r ρ v A σ H k, fun _ _ _ _ z => z.elim, fun _ _ _ _ z => z.elim⟩
  | @next c0 i0' j0 ts0 ts1 r0 hx _ ih => exact ⟨false, hx, (fun z => by cases z), fun _ => ih i0 i1 hs⟩
end
section
variable {P : Program} {w : World} {K : PySem.W.Frag} {mg : Str → Option Value} {base : Heap}
theorem fn_x {x qual : Str} {st : Stmt} {f : Addr} {fd : FuncData} {N ps : List Str} {k n : Nat} {T : List Sl → (Rv → Prop) → (Addr → Sl → Prop) → Prop} (F : Fun K x qual st f fd) (S : FnScope N ps (defScope st)) (hn : ps.length = n := by rfl) (hN : n + N.length < fl := by decide)
    (body : ∀ (cdv : Value) (A : Around) (outer : List Env) (s : Shared) (H : Hp) (E : XK), Room k (A.deeper (envOfC qual (defScope st) s.heap.objs.size f cdv)) →
      ∃ t, PSs (cxOf (L2.CX P w) P w K mg base N qual (defScope st) f cdv A outer s H E) (defBody st) t ∧ ∀ as Kr X, as.length = n → T as Kr X →
        Sm t (as ++ uns (N.length - n)) { nx := fun _ => Kr (.d .none), rt := fun r _ => Kr r } ∨ ∃ C s ρ', X C s ∧ Rs (fun cls d _ H => E cls d H) t (as ++ uns (N.length - n)) C s ρ') :
    FnOk P w K mg base (L2.CX P w) (k + 1) f fd ps (spX n T) := by
  refine F.okX S (fun vs H Q E h => ?_) (fun cdv A outer s H vs Q E hr h => ?_)
  · obtain ⟨Z, as, Kr, X, hZ, ha, hl, _⟩ := h
    rw [ha.length, hl, hn]
  · obtain ⟨Z, as, Kr, X, hZ, ha, hl, hT, go, bad⟩ := h
    obtain ⟨t, ht, hb⟩ := body cdv A outer s H E hr
    have same : ∀ {A' : Am} {ρ' : List Sl} {σ' : L2.St} {H' : Hp}, Rp ⟨Z, none, H, hz Z H⟩ A' ρ' σ' H' → Aft Z H H' := rp_aft
    have start := rp_start (N := N) (vs := vs) hN hZ ha hl
    rcases hb as Kr X hl hT with hb | ⟨C, s, ρ', hX, hb⟩
    · refine ⟨t, ht, hb ⟨Z, none, H, hz Z H⟩ _ _ H _ start rfl ?_⟩
      refine ⟨fun ρ' A' σ' H' hk R f => go _ _ _ hk (same R) .non, fun r ρ' v A' σ' H' hk R o => go r v H' hk (same R) ?_, fun _ _ _ _ h => h.elim, fun _ _ _ _ h => h.elim⟩
      exact rv_out (fun b o e nz _ => R.old _ _ (hz_mk nz e)) (fun b z => Or.inl z) R.inj R.off R.bor o
    · refine ⟨t, ht, hb ⟨Z, none, H, hz Z H⟩ _ _ H _ start rfl fun d v A' σ' H' R' f' e o => bad C s d v H' hX (same R') (vw_hz _ _ e) (o.mono vw_hz)⟩
end
end OW
set_option Elab.async false
set_option linter.unusedVariables false
set_option linter.unusedSectionVars false
set_option maxRecDepth 100000
set_option maxHeartbeats 2000000
namespace OW
open PySem PySem.Spec PyProof.Rows L2 KA
variable [Tbs]
/-- a thing that is this data, whatever else is known of it -/
inductive Isd : Sl → PyData → Prop
  | d (x : PyData) : Isd (.d x) x
  | p (P : Mo) (x : PyData) (h : ∀ W v, P.P v W → Dn W v x) : Isd (.p P) x
section
variable {ρ ρ' ρ1 ρ2 : List Sl} {te : TE} {s : Sl} {x : PyData} {i : Nat} {ta tr : TA} {ss : List Sl}
theorem Isd.dn {W : Hp} {v : V} (h : Isd s x) (o : ArOk W v s) : Dn W v x := by
  cases h with
  | d => exact o
  | p P _ k => exact k W v o
theorem ev_varI (h : ρ[i]? = some s) (is : Isd s x) : Ev (tVar i) ρ s ρ := by
  cases is with
  | d => exact ev_var h
  | p P => exact ev_varp h
theorem Ev.as (h : Ev te ρ s ρ') (is : Isd s x) : Ev te ρ (.d x) ρ' := fun c A σ H Q R f q => h c A σ H Q R f fun v A1 H1 R1 f1 S1 o1 => q v A1 H1 R1 f1 S1 (is.dn o1)
theorem ev_varD (h : ρ[i]? = some s) (is : Isd s x) : Ev (tVar i) ρ (.d x) ρ := (ev_varI h is).as is
end
section
variable {ρ ρ' ρ1 ρ2 : List Sl} {te ta tb : TE} {s s' : Sl} {x y : PyData} {i : Nat} {tr : TA} {ss : List Sl} {K' : KK}
theorem sm_augI {f : Int → Int → Int} {m n : Int} (h0 : ρ[i]? = some (.d (.int m))) (h : Ev te ρ (.d (.int n)) ρ1) (k : K'.nx (ρ1.set i (.d (.int (f m n))))) (i0 : i ≠ 0 := by decide) (i1 : i ≠ fl := by decide) : Sm (tAug i te (ipI f)) ρ K' := fun c A σ H D R f' dk => by
  obtain ⟨_, v, e, dn⟩ := R.sl i _ h0
  obtain rfl := int_v dn
  refine ⟨_, e, h c A σ H _ R f' fun w A1 H1 R1 f1 S1 o1 => ?_⟩
  obtain rfl := int_v o1
  exact ⟨m, n, rfl, rfl, dk.nx _ _ _ _ k (R1.set (s := .d (.int (f m n))) (v := .int (f m n)) i0 ⟨rfl, _, rfl, .int _⟩) (by rw [aset_ne i1.symm]; exact f1)⟩
end
structure NoX (K : PySem.W.Frag) (mg : Str → Option Value) (nm qual : Str) (st : Stmt) (C U fI : Addr) (fdI : FuncData) : Prop where
  oex : OexC K C
  up : UpC K U
  gU : mg "PaperError" = some (.ref U)
  gC : mg nm = some (.ref C)
  iC : PySem.W.findIn K (.ref C) "__init__" = some (some (.ref fI))
  tI : PySem.W.typeIn K (.ref fI) = some (.type "function")
  noF : PySem.W.findIn K (.ref C) "found" = some none
  fn : Fun K "__init__" qual st fI fdI
  b : Binds K fdI ["self", "found"] []
  xf : XfC K C
  te : PySem.W.exmOne K (.ref C) (.ref C) = some true
/-- a def that refuses, by its name -/
structure CalX (P : Program) (w : World) (K : PySem.W.Frag) (mg : Str → Option Value) (base : Heap) (k : Nat) (x : Str) (ps : List Str) (sp : Sp) : Prop where
  ex : ∃ (f : Addr) (fd : FuncData), FnOk P w K mg base (L2.CX P w) k f fd ps sp ∧ mg x = some (.ref f) ∧ PySem.W.keepIn K (.ref f) = true ∧ Binds K fd ps []
theorem pe_x {X : Cx} {j k : Nat} {x : Str} {ps : List Str} {sp : Sp} {W : WX} {e : Expr} {es : List Expr} {t : TA} {p pos : Pos} (c : CalX X.prog X.w X.K X.mg X.base k x ps sp) (tk : Takes X W) (hr : Room j X.A) (hk : k ≤ j) (hg : Gl X x) (ha : PA X (e :: es) t)
    (hdb : (x == ("__debug__" : Str)) = false := by decide) (he : starEach (e :: es) X.env = (false, eval e X.env) :: starEach es X.env := by rfl) (hpl : (backTo pos (starEach es X.env)).any (·.1) = false := by rfl) : PE X (.Call (.Name x p) (e :: es) [] pos) (tCallS sp (fun σ => WE W σ) t) := by
  obtain ⟨f, fd, F, m, kp, b⟩ := c.ex
  exact pe_callS F (hr.mono hk) hg m kp b (fun σ => passAt tk σ) ha hdb he hpl
/-! ### a call of what an expression gives, a def that may refuse -/
structure HeldX (P : Program) (w : World) (K : PySem.W.Frag) (mg : Str → Option Value) (base : Heap) (k : Nat) (f : Addr) (sp : Sp) : Prop where
  ex : ∃ (fd : FuncData) (ps : List Str), FnOk P w K mg base (L2.CX P w) k f fd ps sp ∧ PySem.W.keepIn K (.ref f) = true ∧ Binds K fd ps []
def tCallV (P : Program) (w : World) (K : PySem.W.Frag) (mg : Str → Option Value) (base : Heap) (k : Nat) (W : WX) (to : TE) (t : TA) : TE := fun σ H Q => to σ H fun x H1 => ∃ f sp, x = .ref f ∧ HeldX P w K mg base k f sp ∧ t σ H1 fun vs H2 => sp vs H2 Q (WE W σ)
theorem pe_callV {X : Cx} {P : Program} {w : World} {K : PySem.W.Frag} {mg : Str → Option Value} {base : Heap} (e1 : X.prog = P) (e2 : X.w = w) (e3 : X.K = K) (e4 : X.mg = mg) (e5 : X.base = base) {j k : Nat} {W : WX} {o e : Expr} {es : List Expr} {to : TE} {t : TA} {pos : Pos} (ho : PE X o to) (tk : Takes X W) (hr : Room j X.A) (hk : k ≤ j) (ha : PA X (e :: es) t)
    (he : eval (.Call o (e :: es) [] pos) X.env = (do callWith pos (← eval o X.env) [] (backTo pos (starEach (e :: es) X.env)) (backToKw pos (keywordEach [] X.env))) := by rfl)
    (hst : starEach (e :: es) X.env = (false, eval e X.env) :: starEach es X.env := by rfl) (hpl : (backTo pos (starEach es X.env)).any (·.1) = false := by rfl) : PE X (.Call o (e :: es) [] pos) (tCallV P w K mg base k W to t) := by
  subst e1 e2 e3 e4 e5
  refine ⟨fun pins s σ H Q I h => ?_⟩
  refine Call_ (thn (ho.run pins s σ H _ I h) fun u s1 ⟨x, H1, I1, rx, f, sp, ex, hf, q⟩ => ?_) he
  subst ex
  cases rx
  obtain ⟨fd, ps, F, kp, b⟩ := hf.ex
  refine PySem.W.callWith_K (h₀ := X.base) I1.ok.mod.kin kp (thn (ha.run pos pins s1 σ H1 _ I1 q) fun us s2 ⟨vs, H2, I2, r, q2⟩ => ⟨I2.kIn, ?_⟩) hst hpl
  exact run_fnS F (hr.mono hk) b (passAt tk σ) I2 r q2
theorem pe_ixK {X : Cx} {K : PySem.W.Frag} (e3 : X.K = K) {a b : Expr} {ta tb : TE} {pos : Pos} (ha : PE X a ta) (hb : PE X b tb) (hs : PlainIx b) : PE X (.Subscript a b pos) (tOp (rIxL K) ta tb) := by
  subst e3
  exact pe_ix ix_list ha hb hs
section
variable {ρ ρ' ρ1 ρ2 : List Sl} {te ta tb ti : TE} {s s' : Sl} {x y : PyData} {i : Nat} {tr : TA} {xs : List PyData} {ss : List Sl} {W : WX} {C : Addr} {n k : Nat} {T : List Sl → (Rv → Prop) → (Addr → Sl → Prop) → Prop} {KF : PySem.W.Frag}
  {P : Program} {w : World} {K : PySem.W.Frag} {mg : Str → Option Value} {base : Heap} {f : Addr}
theorem re_callV (h0 : Ev ta ρ (.p (isV (.ref f))) ρ1) (hf : HeldX P w K mg base k f (spX n T)) (h : Es tr ρ1 ss ρ') (hn : ss.length = n) (g : T ss (fun _ => False) fun C' s' => C' = C ∧ s' = s) : Re W (tCallV P w K mg base k W ta tr) ρ C s ρ' := fun c A σ H Q R f' q =>
  h0 c A σ H _ R f' fun v A1 H1 R1 f1 S1 o1 => by
    obtain rfl := isv_v o1
    exact ⟨f, _, rfl, hf, re_call (W := W) h hn g c A1 σ H1 Q R1 f1 fun d v A2 H2 R2 f2 e o => q d v A2 H2 R2 f2 e o⟩
/-- one of two written values -/
theorem ev_pick2 {a b : V} {z : Int} {v : V} (hi : Ev ti ρ (.d (.int z)) ρ') (e : atI [a, b] z = some v) : Ev (tOp (rIxL KF) (tLst (tCons (tC a) (tCons (tC b) tNil))) ti) ρ (.p (isV v)) ρ' := fun c A σ H Q R f q => by
  refine ⟨(by show 2 ≤ sizeLine; rw [sizeLine_eq]; decide), fun l hl => ?_⟩
  have R1 := R.up (Same.new (o := .lst [a, b]) hl)
  refine hi c A σ _ _ R1 f fun u A2 H2 R2 f2 S2 o2 => ?_
  obtain rfl := int_v o2
  have el : H2 l = some (.lst [a, b]) := vw_sub _ _ (S2 _ _ (new_view R hl upd_same))
  exact ⟨l, _, z, v, rfl, rfl, SqL.of el, e, q v A2 H2 R2 f2 ((vw_up (Same.new hl)).trans S2) rfl⟩
theorem fv_eqE : FV2 rEqE (.d (.tuple xs)) (.d (.tuple [])) (.d (.bool xs.isEmpty)) := fv2_s (dB xs.isEmpty) fun W H v w Q S o o' q => by
  obtain ⟨a, vs, rfl, e, dx⟩ := tup_v o
  obtain ⟨b, ws, rfl, e', dy⟩ := tup_v o'
  cases dy
  refine ⟨a, b, vs, rfl, rfl, Or.inl ⟨S _ _ e, S _ _ e'⟩, ?_⟩
  have : vs.isEmpty = xs.isEmpty := by cases dx <;> rfl
  rw [this]
  exact q
/-- a pair of a word and a thing -/
def pairMo (x : Str) (s : Sl) : Mo := ⟨fun u W => ∃ t v, u = .ref t ∧ W t = some (.tup [.str x, v]) ∧ ArOk W v s, fun S ⟨t, v, e, h, o⟩ => ⟨t, v, e, S _ _ h, o.mono S⟩⟩
theorem pair_isd {z : Str} (h : Isd s x) : Isd (.p (pairMo z s)) (.tuple [.str z, x]) := .p _ _ fun W v ⟨t, u, e, h1, o⟩ => by
  subst e
  exact .tup h1 (.cons (.str _) (.one (h.dn o)))
theorem ev_pair {z : Str} (h : Ev te ρ s ρ') : Ev (tTup (tCons (tC (.str z)) (tCons te tNil))) ρ (.p (pairMo z s)) ρ' := fun c A σ H Q R f q =>
  h c A σ H _ R f fun v A1 H1 R1 f1 S1 o1 => ⟨(by show 2 ≤ sizeLine; rw [sizeLine_eq]; decide), fun a ha =>
    q _ A1 _ (R1.up (Same.new ha)) f1 (S1.trans (vw_up (Same.new ha))) ⟨a, v, rfl, new_view R1 ha upd_same, o1.mono (vw_up (Same.new ha))⟩⟩
end
/-! ### a list whose address is known: it is handed in, told back, and changed -/
def idMo (v : V) (x : PyData) : Mo := ⟨fun u W => u = v ∧ Dn W u x, fun S ⟨e, h⟩ => ⟨e, Dn.mono S h⟩⟩
theorem idMo_isd {v : V} {x : PyData} : Isd (.p (idMo v x)) x := .p _ _ fun W u h => h.2
section
variable {c : Fr} {A : Am} {ρ ρ' ρ1 ρ2 : List Sl} {σ : L2.St} {H H' : Hp} {te ta tb ti : TE} {s s' : Sl} {x y : PyData} {i j k m : Nat} {tr : TA} {xs ys : List PyData} {ss : List Sl} {K : KK} {a : Addr} {KF : PySem.W.Frag}
/-- the list is data for as long as it is lent -/
theorem Rp.lent (R : Rp c A ρ σ H) (h : ρ[i]? = some (.la a xs)) : ∃ Z : Addr → Prop, ZOk Z H ∧ Same (vw c.Z A H) (hz Z H) ∧ Dn (hz Z H) (.ref a) (.list xs) ∧ ¬ Z a ∧
    (∀ (H' : Hp) b o, b ≠ a → hz Z H' b = some o → vw c.Z A H' b = some o) := by
  obtain ⟨vs, e, e1, e2, dx⟩ := R.sl i _ h
  have na : ¬ zz c.Z (aset A i none) a := by
    rintro (z | ⟨j, z⟩)
    · exact R.off _ _ e z
    · by_cases q : j = i
      · rw [q, aset_at] at z
        cases z
      · rw [aset_ne q] at z
        exact q (R.inj _ _ _ z e)
  have S : Same (vw c.Z A H) (hz (zz c.Z (aset A i none)) H) := by
    rw [hz_eq]
    exact vw_land
  refine ⟨zz c.Z (aset A i none), ⟨?_, fun b t => Or.inl (R.tz b t), ?_⟩, S, .lst (hz_mk na e2) (DnAll.mono S dx), na, fun H' b o nb z => ?_⟩
  · rintro b (z | ⟨j, z⟩)
    · exact R.there z
    · by_cases q : j = i
      · rw [q, aset_at] at z
        cases z
      · rw [aset_ne q] at z
        exact R.live _ _ z
  · rw [hz_eq] at S ⊢
    exact R.tb.mono S fun _ _ => rfl
  · rw [hz_eq] at z
    obtain ⟨h1, h2, h3⟩ := vw_some z
    refine vw_mk h1 (fun j w => ?_) h3
    by_cases q : j = i
    · rw [q, e] at w
      exact nb (Option.some.inj w).symm
    · exact h2 j (by rw [aset_ne q]; exact w)
theorem Rp.vwLent (R : Rp c A ρ σ H) {Z : Addr → Prop} (SS : Aft Z H H') : Same (vw c.Z A H) (vw c.Z A H') := fun b o e => by
  obtain ⟨h1, h2, h3⟩ := vw_some e
  exact vw_mk h1 h2 (SS.same b o h3 fun t => h1 (R.tz b t))
theorem Rp.upLent (R : Rp c A ρ σ H) {Z : Addr → Prop} {vs : List V} (e : A i = some a) (eH : H a = some (.lst vs)) (back : ∀ (H' : Hp) b o, b ≠ a → hz Z H' b = some o → vw c.Z A H' b = some o) (SS : Aft Z H H') : Rp c A ρ σ H' := by
  refine R.upA ⟨SS.same, ?_⟩
  rw [hz_eq]
  intro p hp
  obtain ⟨ps, g1, g2, g3⟩ := SS.tb p hp
  refine ⟨ps, g1, g2, fun pos cv h => ?_⟩
  obtain ⟨cc, k1, k2⟩ := g3 pos cv h
  refine ⟨cc, k1, back H' cc _ (fun q => ?_) k2⟩
  have k3 := (hz_some k2).2
  rw [q, SS.same _ _ eH (R.nt e)] at k3
  have k4 := Option.some.inj k3
  unfold LamX.CodeO at k4
  cases k4
theorem evp_lend4 {T : List Sl → (Rv → Prop) → Prop} {E : XK} {i1 i2 i3 i4 : Nat} {x1 x2 x4 : PyData} {P : Mo} (h1 : ρ[i1]? = some (.d x1)) (h2 : ρ[i2]? = some (.d x2)) (h3 : ρ[i3]? = some (.la a xs)) (h4 : ρ[i4]? = some (.d x4))
    (g : ∀ v2 v4, ∃ S : Mo, T [.d x1, .p (idMo v2 x2), .p (idMo (.ref a) (.list xs)), .p (idMo v4 x4)] (fun r => r = .p S) ∧ ∀ u (W W1 : Hp), (∀ b o, b ≠ a → W1 b = some o → W b = some o) → (∃ vs, W1 a = some (.lst vs)) → Dn W v2 x2 → Dn W v4 x4 → S.P u W1 → P.P u W) :
    Ev (tCall (spD 4 T) [] E (tCons (tVar i1) (tCons (tVar i2) (tCons (tVar i3) (tCons (tVar i4) tNil))))) ρ (.p P) ρ := fun c A σ H Q R f q => by
  obtain ⟨_, v1, e1, d1⟩ := R.sl _ _ h1
  obtain ⟨_, v2, e2, d2⟩ := R.sl _ _ h2
  obtain ⟨vs3, e3', e3, eH, d3⟩ := R.sl _ _ h3
  obtain ⟨_, v4, e4, d4⟩ := R.sl _ _ h4
  obtain ⟨Z, hZ, S0, da, na, back⟩ := R.lent h3
  obtain ⟨S, hT, conv⟩ := g v2 v4
  refine ⟨v1, e1, v2, e2, .ref a, e3, v4, e4, Z, _, _, hZ, ?_, rfl, hT, fun r v H' hr SS o => ?_⟩
  · exact ⟨Dn.mono S0 d1, ⟨rfl, Dn.mono S0 d2⟩, ⟨rfl, da⟩, ⟨rfl, Dn.mono S0 d4⟩, trivial⟩
  · subst hr
    have o : S.P v (hz Z H') := o
    have R' := R.upLent e3' eH back SS
    have up := R.vwLent SS
    exact q v A H' R' f up (conv v _ _ (back H') ⟨vs3, hz_mk na (SS.same _ _ eH (R.nt e3'))⟩ (Dn.mono up d2) (Dn.mono up d4) o)
/-- such a list changes -/
theorem Rp.mutA (R : Rp c A ρ σ H) {vs : List V} (h : ρ[i]? = some (.la a ys)) (dx : DnAll (vw c.Z A H) vs xs) : Rp c A (ρ.set i (.la a xs)) σ (upd H a (.lst vs)) := by
  obtain ⟨vs', e, e2, e3, _⟩ := R.sl i _ h
  have hv : vw c.Z A (upd H a (.lst vs)) = vw c.Z A H := vw_mut e
  refine ⟨by rw [List.length_set, R.len], by rw [List.length_set]; exact R.sz, R.inj, R.off, ?_, ?_, ?_, R.bor, ?_, R.tz, by rw [hv]; exact R.tb.mono (Same.refl _) (R.tb.upd_ (R.nt e))⟩
  · intro j b z
    by_cases q : b = a
    · rw [q, upd_same]
      simp
    · rw [upd_ne q]
      exact R.live _ _ z
  · intro b z t
    have nb : b ≠ a := fun q => R.off _ _ e (q ▸ z)
    rw [upd_ne nb]
    exact R.keep b z t
  · rw [hv]
    exact R.old
  · intro j t z
    rw [hv]
    by_cases q : j = i
    · subst q
      have lt := (List.getElem?_eq_some_iff.mp h).1
      rw [List.getElem?_set_self lt] at z
      cases z
      exact ⟨vs, e, e2, upd_same, dx⟩
    · rw [List.getElem?_set_ne (Ne.symm q)] at z
      refine (R.sl j t z).mono (Same.refl _) fun b ws e' hb => ?_
      have nb : b ≠ a := fun eb => q (R.inj _ _ _ e' (eb ▸ e))
      rw [upd_ne nb]
      exact hb
theorem sm_appA {n : Int} (h0 : ρ[k]? = some (.la a xs)) (len : xs.length < sizeLine) (q : K.nx (ρ.set k (.la a (xs ++ [.int n])))) : Sm (tDrop (tBM KF "list" rAppend (tVar k) (tCons (tC (.int n)) tNil))) ρ K := fun c A σ H D R f dk => by
  obtain ⟨vs, e, e1, e2, dx⟩ := R.sl k _ h0
  exact ⟨_, e1, Or.inl ⟨rfl, vs, SqL.of e2⟩, a, vs, .int n, rfl, rfl, e2, by rw [dx.length]; exact len, dk.nx _ _ _ _ q (R.mutA h0 (dx.snoc (.int n))) f⟩
/-- a slot that is kept for a new list -/
theorem Rp.keepA (R : Rp c A ρ σ H) {vs : List V} (i0 : i ≠ 0) (hi : i < ρ.length) (e : A fl = some a) (ha : H a = some (.lst vs)) (dx : DnAll (vw c.Z A H) vs xs) : Rp c (aset (aset A i (some a)) fl none) (ρ.set i (.wa a xs)) σ H := by
  have B := R.setL i0 hi e ha dx
  have ne : i ≠ fl := by have := R.sz; omega
  refine ⟨by have := B.len; rw [List.length_set, List.length_set] at this; rw [List.length_set]; exact this, by have := B.sz; rw [List.length_set] at this ⊢; exact this, B.inj, B.off, B.live, B.keep, B.old, B.bor, (fun j t z => ?_), B.tz, B.tb⟩
  by_cases q : j = i
  · subst q
    rw [List.getElem?_set_self hi] at z
    cases z
    obtain ⟨a', vs', e1, e2, e3, d⟩ := B.sl j (.l xs) (List.getElem?_set_self hi)
    rw [aset_ne ne, aset_at] at e1
    cases e1
    rw [ha] at e3
    cases e3
    exact ⟨vs, by rw [aset_ne ne, aset_at], ha, d⟩
  · rw [List.getElem?_set_ne (Ne.symm q)] at z
    have := B.sl j t (by rw [List.getElem?_set_ne (Ne.symm q)]; exact z)
    rw [List.getElem?_set_ne (Ne.symm q)] at this
    exact this
/-- it gets it -/
theorem Rp.fillA (R : Rp c A ρ σ H) (h : ρ[i]? = some (.wa a xs)) : Rp c A (ρ.set i (.la a xs)) (σ.set i (some (.ref a))) H := by
  obtain ⟨vs, e, e2, dx⟩ := R.sl i _ h
  have lt := (List.getElem?_eq_some_iff.mp h).1
  refine ⟨by rw [List.length_set, List.length_set, R.len], by rw [List.length_set]; exact R.sz, R.inj, R.off, R.live, R.keep, R.old, R.bor, (fun j t z => ?_), R.tz, R.tb⟩
  by_cases q : j = i
  · subst q
    rw [List.getElem?_set_self lt] at z
    cases z
    rw [List.getElem?_set_self (by rw [R.len]; exact lt)]
    exact ⟨vs, e, rfl, e2, dx⟩
  · rw [List.getElem?_set_ne (Ne.symm q)] at z ⊢
    exact R.sl j t z
/-- a display with a new list at place k, for which slot i is kept -/
def Ew (ta : TA) (ρ : List Sl) (i k m : Nat) (xs : List PyData) : Prop := ∀ (c : Fr) (A : Am) (σ : L2.St) (H : Hp) (Q : List V → Hp → Prop), Rp c A ρ σ H → A fl = none →
  (∀ a vs A' H', Rp c A' (ρ.set i (.wa a xs)) σ H' → A' fl = none → vs.length = m → vs[k]? = some (.ref a) → Q vs H') → ta σ H Q
theorem ew_skip (h : Ev te ρ (.d x) ρ) (g : Ew tr ρ i k m xs) : Ew (tCons te tr) ρ i (k + 1) (m + 1) xs := fun c A σ H Q R f q =>
  h c A σ H _ R f fun v A1 H1 R1 f1 _ _ => g c A1 σ H1 _ R1 f1 fun a vs A2 H2 R2 f2 l e => q a (v :: vs) A2 H2 R2 f2 (by rw [List.length_cons, l]) e
theorem ew_here (h : El te ρ xs ρ) (g : ∀ a, Eds tr (ρ.set i (.wa a xs)) ys (ρ.set i (.wa a xs))) (i0 : i ≠ 0 := by decide) (hi : i < ρ.length := by simp [uns]) : Ew (tCons te tr) ρ i 0 (ys.length + 1) xs := fun c A σ H Q R f q =>
  h c A σ H _ R f fun a vs A1 H1 R1 f1 _ e dx => g a c _ σ H1 _ (R1.keepA i0 hi f1 e dx) aset_at fun us A2 H2 R2 f2 _ du => q a _ A2 H2 R2 f2 (by rw [List.length_cons, du.length]) rfl
def lstMo (m k : Nat) (a : Addr) : Mo := ⟨fun u W => ∃ b vs, u = .ref b ∧ W b = some (.lst vs) ∧ vs.length = m ∧ vs[k]? = some (.ref a), fun S ⟨b, vs, e, h, r⟩ => ⟨b, vs, e, S _ _ h, r⟩⟩
theorem sm_lstA (h : Ew tr ρ i k m xs) (len : m ≤ sizeLine) (q : ∀ a, K.nx ((ρ.set i (.wa a xs)).set j (.p (lstMo m k a)))) (j0 : j ≠ 0 := by decide) (j1 : j ≠ fl := by decide) : Sm (tAsg (tLst tr) (gName j)) ρ K := fun c A σ H D R f dk =>
  h c A σ H _ R f fun a vs A1 H1 R1 f1 l e => ⟨by rw [l]; exact len, fun b hb => by
    have R2 := R1.up (Same.new (o := .lst vs) hb)
    exact dk.nx _ _ _ _ (q a) (R2.set (v := .ref b) j0 ⟨rfl, _, rfl, b, vs, rfl, new_view R1 hb upd_same, l, e⟩) (by rw [aset_ne j1.symm]; exact f1)⟩
/-- it is picked of that display and one more -/
theorem sm_pickA {z : Int} (h5 : ρ[j]? = some (.p (lstMo m k a))) (he : El te ρ ys ρ) (hi : Ev ti ρ (.d (.int z)) ρ1) (h6 : ρ1[i]? = some (.wa a xs)) (ez : z = (k : Int)) (len : m + ys.length ≤ sizeLine) (q : K.nx (ρ1.set i (.la a xs))) :
    Sm (tAsg (tOp (rIxL KF) (tOp rCat (tVar j) te) ti) (gName i)) ρ K := fun c A σ H D R f dk => by
  obtain ⟨_, u, e, b, vs, eu, eb, l, ek⟩ := R.sl j _ h5
  subst eu
  refine ⟨_, e, he c A σ H _ R f fun b2 us A1 H1 R1 f1 S1 e1 du => ?_⟩
  refine ⟨b, b2, vs, us, rfl, rfl, vw_sub _ _ (S1 _ _ eb), e1, by rw [l, du.length]; exact len, fun p hp => ?_⟩
  have R2 := R1.land.up (Same.new (o := .lst (vs ++ us)) hp)
  refine hi c _ σ _ _ R2 aset_at fun w A3 H3 R3 f3 S3 o3 => ?_
  obtain rfl := int_v o3
  have ep : H3 p = some (.lst (vs ++ us)) := vw_sub _ _ (S3 _ _ (new_view R1.land hp upd_same))
  have lt : k < vs.length := (List.getElem?_eq_some_iff.mp ek).1
  have at' : (vs ++ us)[k]? = some (.ref a) := by rw [List.getElem?_append_left lt]; exact ek
  refine ⟨p, _, z, .ref a, rfl, rfl, SqL.of ep, ?_, dk.nx _ _ _ _ q (R3.fillA h6) f3⟩
  subst ez
  exact at_of rfl at'
/-! what is only looked at -/
def Pr (te : TE) (σ : L2.St) (H : Hp) (s : Sl) : Prop := ∀ H1, Same H H1 → ∀ Q : VK, (∀ v H2, Same H1 H2 → ArOk H2 v s → Q v H2) → te σ H1 Q
def Prs (ta : TA) (σ : L2.St) (H : Hp) (ss : List Sl) : Prop := ∀ H1, Same H H1 → ∀ Q : List V → Hp → Prop, (∀ vs H2, Same H1 H2 → ArAll H2 vs ss → Q vs H2) → ta σ H1 Q
theorem pr_var {v : V} (e : σ[i]? = some (some v)) (h : ArOk H v s) : Pr (tVar i) σ H s := fun H1 S Q q => ⟨v, e, q v H1 (Same.refl _) (h.mono S)⟩
theorem pr_c {v : V} (h : ∀ W, ArOk W v s) : Pr (tC v) σ H s := fun H1 S Q q => q v H1 (Same.refl _) (h _)
theorem prs_nil : Prs tNil σ H [] := fun H1 S Q q => q [] H1 (Same.refl _) trivial
theorem prs_cons (h : Pr te σ H s) (g : Prs tr σ H ss) : Prs (tCons te tr) σ H (s :: ss) := fun H1 S Q q => h H1 S _ fun v H2 S2 o => g H2 (S.trans S2) _ fun vs H3 S3 os => q _ H3 (S2.trans S3) ⟨o.mono S3, os⟩
theorem pr_fn {r : List V → Hp → VK → Prop} (h : Prs tr σ H ss) (g : FV r ss s) : Pr (tCB r tr) σ H s := fun H1 S Q q => h H1 S _ fun vs H2 S2 os => g H2 H2 vs Q (Same.refl _) os fun u H3 S3 o => q u H3 (S2.trans S3) (o H3 S3 fun _ _ _ e => e)
theorem pr_op {r : R2} {t : Sl} (h : Pr ta σ H s) (h' : Pr tb σ H s') (g : FV2 r s s' t) : Pr (tOp r ta tb) σ H t := fun H1 S Q q => h H1 S _ fun v H2 S2 o => h' H2 (S.trans S2) _ fun w H3 S3 o' => g H3 H3 v w Q (Same.refl _) (o.mono S3) o' fun u H4 S4 o2 => q u H4 ((S2.trans S3).trans S4) (o2 H4 S4 fun _ _ _ e => e)
theorem pr_pair {z : Str} (h : Pr te σ H (.d x)) : Pr (tTup (tCons (tC (.str z)) (tCons te tNil))) σ H (.d (.tuple [.str z, x])) := fun H1 S Q q => h H1 S _ fun v H2 S2 o => ⟨(by show 2 ≤ sizeLine; rw [sizeLine_eq]; decide), fun b hb => q _ _ (S2.trans (Same.new hb)) (.tup upd_same (.cons (.str _) (.one (Dn.mono (Same.new hb) o))))⟩
theorem et_pr {b : Bool} (h : ∀ (c : Fr) (A : Am) (σ : L2.St) (H : Hp), Rp c A ρ σ H → Pr te σ H (.d (.bool b))) : Et (tTest te) ρ b ρ := fun c A σ H Q R f q =>
  h c A σ H R H (Same.refl _) _ fun v H2 S o => ⟨b, bool_v o, q A H2 (R.up S) f (vw_up S)⟩
theorem et_prB {b : Bool} (h : ∀ (c : Fr) (A : Am) (σ : L2.St) (H : Hp), Rp c A ρ σ H → Pr te σ H (.d (.bool b))) : Et (tB te) ρ b ρ := fun c A σ H Q R f q =>
  h c A σ H R H (Same.refl _) _ fun v H2 S o => ⟨b, bool_v o, q A H2 (R.up S) f (vw_up S)⟩
/-- how such a list stands in the whole heap -/
theorem Rp.fullA (R : Rp c A ρ σ H) (h : ρ[i]? = some (.la a xs)) : σ[i]? = some (some (.ref a)) ∧ Dn H (.ref a) (.list xs) := by
  obtain ⟨vs, e, e1, e2, dx⟩ := R.sl i _ h
  exact ⟨e1, .lst e2 (DnAll.mono vw_sub dx)⟩
end
end OW
namespace KA
open PySem PySem.Spec PyProof.Rows L2
/-- a call of a def that is promised where nothing is being shown -/
theorem pe_callG {X : Cx} {k : Nat} {f : Addr} {fd : FuncData} {ps : List Str} {sp : Sp} {x : Str} {p pos : Pos} {e : Expr} {es : List Expr} {t : TA} (F : FnG X.prog X.w X.K X.mg X.base CX0 k f fd ps sp) (quiet : X.A.guards = some []) (room : Room k X.A) (glob : Gl X x) (is : X.mg x = some (.ref f))
    (kept : PySem.W.keepIn X.K (.ref f) = true) (bind : Binds X.K fd ps []) (args : PA X (e :: es) t) (nd : (x == ("__debug__" : Str)) = false := by decide) (st : starEach (e :: es) X.env = (false, eval e X.env) :: starEach es X.env := by rfl) (plain : (backTo pos (starEach es X.env)).any (·.1) = false := by rfl) :
    PE X (.Call (.Name x p) (e :: es) [] pos) (tCall sp [] C8.E0 t) := by
  refine ⟨fun pins s σ H Q I want => ?_⟩
  refine wpAny_Call_Name_kw (ld_glob I glob is ?_ nd)
  refine PySem.W.callWith_K (h₀ := X.base) I.ok.mod.kin kept (thn (args.run pos pins s σ H _ I want) ?_) st plain
  rintro us t1 ⟨vs, G, J, rv, q⟩
  rw [List.append_nil] at q
  have many : us.length = ps.length := by rw [← rv.length]; exact F.len _ _ _ _ q
  have bt := bind t1 us J.kIn (by rw [List.append_nil]; exact many)
  rw [List.append_nil] at bt
  refine ⟨J.kIn, wpAny_call (codeAny_mono (F.run X.A X.stack t1 G ⟨us, []⟩ us vs Q _ quiet room J.env0 bt rv q) fun r t2 z => ?_)⟩
  cases r with
  | error er => exact False.elim z
  | ok fl =>
    cases fl with
    | ret u => exact J.after z
    | next => exact False.elim z
    | brk => exact False.elim z
    | cont => exact False.elim z
end KA
namespace OW
open PySem PySem.Spec PyProof.Rows L2 KA
variable [Tbs]
section
variable {P : Program} {w : World} {K : PySem.W.Frag} {mg : Str → Option Value} {base : Heap}
theorem fn_bG {x qual : Str} {st : Stmt} {f : Addr} {fd : FuncData} {N ps : List Str} {k n : Nat} {T : List PyData → List Sl → (Rv → List PyData → Prop) → Prop} (F : Fun K x qual st f fd) (S : FnScope N ps (defScope st)) (hn : ps.length = n + 1 := by rfl) (hN : n + 1 + N.length < fl := by decide)
    (body : ∀ (cdv : Value) (A : Around) (outer : List Env) (s : Shared) (H : Hp) (E : XK), A.guards = some [] → Room k (A.deeper (envOfC qual (defScope st) s.heap.objs.size f cdv)) →
      ∃ t, PSs (cxOf CX0 P w K mg base N qual (defScope st) f cdv A outer s H E) (defBody st) t ∧ ∀ ct as Kr, as.length = n → T ct as Kr →
        Sm t (.l ct :: (as ++ uns (N.length - (n + 1)))) { nx := fun ρ => ∃ c', ρ[0]? = some (.l c') ∧ Kr (.d .none) c', rt := fun r ρ => ∃ c', ρ[0]? = some (.l c') ∧ Kr r c' }) :
    FnG P w K mg base CX0 (k + 1) f fd ps (spB n T) := by
  refine fnG F S (fun vs H Q E h => ?_) (fun cdv A outer s H vs Q E g hr h => ?_)
  · obtain ⟨Z, p, cs, ct, ws, as, Kr, rfl, hp, hZ, ep, dc, ha, hl, _⟩ := h
    rw [List.length_cons, ha.length, hl, hn]
  · obtain ⟨Z, p, cs, ct, ws, as, Kr, rfl, hp, hZ, ep, dc, ha, hl, hT, go⟩ := h
    obtain ⟨t, ht, hb⟩ := body cdv A outer s H E g hr
    refine ⟨t, ht, hb ct as Kr hl hT ⟨fun a => Z a ∧ a ≠ p, some p, H, hz Z H⟩ _ _ H _ (rp_startB hN hp hZ ep dc ha hl) rfl ?_⟩
    have fin : ∀ {A' : Am} {ρ' : List Sl} {σ' : L2.St} {H' : Hp} {c' : List PyData} {r : Rv} {v : V}, Rp ⟨fun a => Z a ∧ a ≠ p, some p, H, hz Z H⟩ A' ρ' σ' H' → ρ'[0]? = some (.l c') → Kr r c' → RvAt ⟨fun a => Z a ∧ a ≠ p, some p, H, hz Z H⟩ A' H' v r → Q v H' := by
      intro A' ρ' σ' H' c' r v R h0 hk o
      obtain ⟨a, cs', e1, e2, e3, dc'⟩ := R.sl 0 _ h0
      have := R.bor p rfl
      rw [e1] at this
      cases this
      have up : Same (vw (fun b => Z b ∧ b ≠ p) A' H') (hz Z H') := fun b u e => by
        obtain ⟨h1, h2, h3⟩ := vw_some e
        refine hz_mk (fun z => h1 ⟨z, fun q => h2 0 (by rw [q]; exact e1)⟩) h3
      refine go r c' cs' v H' hk e3 (DnAll.mono up dc') ⟨fun b z n t => (R.keep b ⟨z, n⟩ t).2, R.tb.mono up fun _ _ => rfl⟩ (fun b u e => up _ _ (R.old _ _ e)) ?_
      refine rv_out (fun b u e nz _ => R.old _ _ (hz_mk nz e)) (fun b z => ?_) R.inj R.off R.bor o
      by_cases q : b = p
      · exact Or.inr ⟨0, by decide, by rw [q]; exact e1⟩
      · exact Or.inl ⟨z, q⟩
    refine ⟨fun ρ' A' σ' H' hk R f => ?_, fun r ρ' v A' σ' H' hk R o => ?_, fun _ _ _ _ h => h.elim, fun _ _ _ _ h => h.elim⟩
    · obtain ⟨c', h0, hk⟩ := hk
      exact fin R h0 hk ⟨f, .non⟩
    · obtain ⟨c', h0, hk⟩ := hk
      exact fin R h0 hk o
end
end OW
set_option Elab.async false
set_option linter.unusedVariables false
set_option linter.unusedSectionVars false
set_option maxRecDepth 100000
set_option maxHeartbeats 2000000
namespace OW
open PySem PySem.Spec PyProof.Rows L2 KA
variable [Tbs]
/-! ### a dict that only its slot has; a list of things of any kind that only its slot has -/
section
variable {c : Fr} {A : Am} {ρ ρ' ρ1 ρ2 : List Sl} {σ : L2.St} {H : Hp} {te tk tv : TE} {i : Nat} {K : KK} {ss rs : List Sl} {s : Sl} {ta : TA} {KF : PySem.W.Frag}
/-- the new thing goes to a slot, in whatever form -/
theorem Rp.setO (R : Rp c A ρ σ H) {a : Addr} (i0 : i ≠ 0) (hi : i < ρ.length) (e : A fl = some a) (hs : ∀ W, Same (vw c.Z A H) W → SlOk W H (some (some (.ref a))) (some a) s) : Rp c (aset (aset A i (some a)) fl none) (ρ.set i s) (σ.set i (some (.ref a))) H := by
  have ne : i ≠ fl := by have := R.sz; omega
  have back : ∀ j b, aset (aset A i (some a)) fl none j = some b → (j = i ∧ b = a) ∨ (j ≠ i ∧ j ≠ fl ∧ A j = some b) := fun j b z => by
    by_cases q : j = fl
    · rw [q, aset_at] at z
      cases z
    · rw [aset_ne q] at z
      by_cases q' : j = i
      · rw [q', aset_at] at z
        exact Or.inl ⟨q', (Option.some.inj z).symm⟩
      · rw [aset_ne q'] at z
        exact Or.inr ⟨q', q, z⟩
  have more : Same (vw c.Z A H) (vw c.Z (aset (aset A i (some a)) fl none) H) := vw_less fun j b z => by
    rcases back j b z with ⟨_, rfl⟩ | ⟨_, _, z⟩
    · exact ⟨_, e⟩
    · exact ⟨_, z⟩
  refine ⟨by rw [List.length_set, List.length_set, R.len], by rw [List.length_set]; exact R.sz, ?_, ?_, ?_, R.keep, R.old.trans more, ?_, ?_, R.tz, R.tb.mono more fun _ _ => rfl⟩
  · intro k j b z z'
    rcases back k b z with ⟨q1, q2⟩ | ⟨n1, n2, y⟩
    · rcases back j _ z' with ⟨q3, _⟩ | ⟨n3, n4, y'⟩
      · rw [q1, q3]
      · exact absurd (R.inj _ _ _ (q2 ▸ y') e) n4
    · rcases back j b z' with ⟨q3, q4⟩ | ⟨n3, n4, y'⟩
      · exact absurd (R.inj _ _ _ (q4 ▸ y) e) n2
      · exact R.inj _ _ _ y y'
  · intro j b z
    rcases back j b z with ⟨rfl, rfl⟩ | ⟨n1, n2, z⟩
    · exact R.off _ _ e
    · exact R.off _ _ z
  · intro j b z
    rcases back j b z with ⟨rfl, rfl⟩ | ⟨n1, n2, z⟩
    · exact R.live _ _ e
    · exact R.live _ _ z
  · intro p q
    rw [aset_ne (by decide), aset_ne i0.symm]
    exact R.bor p q
  · intro j t z
    by_cases q : j = i
    · subst q
      rw [aset_ne ne, aset_at]
      rw [List.getElem?_set_self (by rw [R.len]; exact hi)]
      rw [List.getElem?_set_self hi] at z
      cases z
      exact hs _ more
    · rw [List.getElem?_set_ne (Ne.symm q)] at z ⊢
      rw [aset_ne (idx_small R.sz z), aset_ne q]
      exact (R.sl j t z).mono more fun _ _ _ h => h
/-- the thing that a slot has changes, and is of a form -/
theorem Rp.mutO (R : Rp c A ρ σ H) {a : Addr} {o : HO} (hi : i < ρ.length) (e : A i = some a) (hs : ∀ H', H' a = some o → SlOk (vw c.Z A H) H' σ[i]? (some a) s) : Rp c A (ρ.set i s) σ (upd H a o) := by
  have hv : vw c.Z A (upd H a o) = vw c.Z A H := vw_mut e
  refine ⟨by rw [List.length_set, R.len], by rw [List.length_set]; exact R.sz, R.inj, R.off, ?_, ?_, ?_, R.bor, ?_, R.tz, by rw [hv]; exact R.tb.mono (Same.refl _) (R.tb.upd_ (R.nt e))⟩
  · intro j b z
    by_cases q : b = a
    · rw [q, upd_same]
      simp
    · rw [upd_ne q]
      exact R.live _ _ z
  · intro b z t
    have nb : b ≠ a := fun q => R.off _ _ e (q ▸ z)
    rw [upd_ne nb]
    exact R.keep b z t
  · rw [hv]
    exact R.old
  · intro j t z
    rw [hv]
    by_cases q : j = i
    · subst q
      rw [List.getElem?_set_self hi] at z
      cases z
      rw [e]
      exact hs _ upd_same
    · rw [List.getElem?_set_ne (Ne.symm q)] at z
      refine (R.sl j t z).mono (Same.refl _) fun b ws e' hb => ?_
      have nb : b ≠ a := fun eb => q (R.inj _ _ _ e' (eb ▸ e))
      rw [upd_ne nb]
      exact hb
theorem sm_dk0 (k : K.nx (ρ.set i (.dk []))) (i0 : i ≠ 0 := by decide) (hi : i < ρ.length := by simp [uns]) : Sm (tAsg tDNewK (gName i)) ρ K := fun c A σ H D R f dk => fun p hp => by
  have R1 := R.fly (o := .dK []) hp
  exact dk.nx _ _ _ _ k (R1.setO (s := .dk []) i0 hi aset_at fun W S => ⟨p, rfl, rfl, upd_same⟩) aset_at
theorem sm_dkSet {kvs : List (Key × V)} {z : Int} {v : V} (h0 : ρ[i]? = some (.dk kvs)) (hv : Ev tv ρ (.p (isV v)) ρ) (hk : Ev tk ρ (.d (.int z)) ρ) (len : kvs.length < sizeLine) (k : K.nx (ρ.set i (.dk (putK kvs (Sum.inl z) v)))) : Sm (tAsg tv (gSub (tVar i) tk rSetD)) ρ K := fun c A σ H D R f dk =>
  hv c A σ H _ R f fun u A1 H1 R1 f1 S1 o1 => by
    obtain rfl := isv_v o1
    obtain ⟨a, e, e1, e2⟩ := R1.sl i _ h0
    refine ⟨_, e1, hk c A1 σ H1 _ R1 f1 fun w A2 H2 R2 f2 S2 o2 => ?_⟩
    obtain rfl := int_v o2
    obtain ⟨a', g, g1, g2⟩ := R2.sl i _ h0
    rw [e1] at g1
    cases g1
    refine ⟨a, _, rfl, DPut.k (k := Sum.inl z) g2 len, dk.nx _ _ _ _ k (R2.mutO (s := .dk _) (List.getElem?_eq_some_iff.mp h0).1 g fun H' h' => ⟨a, rfl, e1, h'⟩) f2⟩
theorem el_sortedDk {kvs : List (Key × V)} {ks ys : List Int} (h0 : ρ[i]? = some (.dk kvs)) (hks : kvs.map (·.1) = ks.map Sum.inl) (h64 : ks.length < 64) (hy : ∀ zs : List Int, zs.Perm ks → zs.Pairwise (· ≤ ·) → zs = ys) :
    El (tCB (fun xs H Q => ∃ (a : Addr) (kvs : List (Key × V)) (ks : List Int), xs = [.ref a] ∧ Rd H a (.dK kvs) ∧ kvs.map (·.1) = ks.map Sum.inl ∧ ks.length < 64 ∧
    ∀ (ys : List Int) (p : Addr), ys.Perm ks → ys.Pairwise (· ≤ ·) → H p = none → Q (.ref p) (upd H p (.lst (ys.map V.int)))) (tCons (tVar i) tNil)) ρ (ys.map .int) ρ := fun c A σ H Q R f q => by
  obtain ⟨a, e, e1, e2⟩ := R.sl i _ h0
  refine ⟨_, e1, a, kvs, ks, rfl, Rd.of e2, hks, h64, fun zs p hp hs n => ?_⟩
  rw [hy zs hp hs]
  refine q p _ _ _ (R.fly n) aset_at (vw_fly n) upd_same ?_
  have : ∀ zs : List Int, DnAll (vw c.Z (aset A fl (some p)) (upd H p (.lst (ys.map V.int)))) (zs.map V.int) (zs.map .int) := fun zs => by
    induction zs with
    | nil => exact .nil
    | cons z zs ih => exact .cons (.int z) ih
  exact this ys
end
end OW
set_option Elab.async false
set_option linter.unusedVariables false
set_option linter.unusedSectionVars false
set_option maxRecDepth 100000
set_option maxHeartbeats 2000000
namespace OW
open PySem PySem.Spec PyProof.Rows L2 KA
variable [Tbs]
/-! ### a def with defaults that refuses; calls of it; the script -/
structure CalXD (P : Program) (w : World) (K : PySem.W.Frag) (mg : Str → Option Value) (base : Heap) (k : Nat) (x : Str) (ps : List Str) (sp : Sp) (dvs : List V) : Prop where
  ex : ∃ (f : Addr) (fd : FuncData) (ds : List Value), FnOk P w K mg base (L2.CX P w) k f fd ps sp ∧ mg x = some (.ref f) ∧ PySem.W.keepIn K (.ref f) = true ∧ Binds K fd ps ds ∧ Vals dvs ds
theorem passF {X : Cx} {σ : L2.St} : PassesAt (L2.CX X.prog X.w) X σ (fun _ _ _ => False) := fun _ _ _ _ _ _ c => by
  obtain ⟨_, _, _, _, _, _, _, _, _, _, _, _, z⟩ := c
  exact z.elim
section
variable {X : Cx} {j k : Nat} {x : Str} {ps : List Str} {sp : Sp} {dvs : List V} {W : WX} {e : Expr} {es : List Expr} {t : TA} {p pos : Pos}
theorem pe_xF (c : CalX X.prog X.w X.K X.mg X.base k x ps sp) (hr : Room j X.A) (hk : k ≤ j) (hg : Gl X x) (ha : PA X (e :: es) t)
    (hdb : (x == ("__debug__" : Str)) = false := by decide) (he : starEach (e :: es) X.env = (false, eval e X.env) :: starEach es X.env := by rfl) (hpl : (backTo pos (starEach es X.env)).any (·.1) = false := by rfl) : PE X (.Call (.Name x p) (e :: es) [] pos) (tCallS sp (fun _ => fun _ _ _ => False) t) := by
  obtain ⟨f, fd, F, m, kp, b⟩ := c.ex
  exact pe_callS F (hr.mono hk) hg m kp b (fun σ => passF) ha hdb he hpl
theorem pe_xDF (c : CalXD X.prog X.w X.K X.mg X.base k x ps sp dvs) (hr : Room j X.A) (hk : k ≤ j) (hg : Gl X x) (ha : PA X (e :: es) t)
    (hdb : (x == ("__debug__" : Str)) = false := by decide) (he : starEach (e :: es) X.env = (false, eval e X.env) :: starEach es X.env := by rfl) (hpl : (backTo pos (starEach es X.env)).any (·.1) = false := by rfl) : PE X (.Call (.Name x p) (e :: es) [] pos) (tCallSD sp dvs (fun _ => fun _ _ _ => False) t) := by
  obtain ⟨f, fd, ds, F, m, kp, b, v⟩ := c.ex
  exact pe_callSD F (hr.mono hk) hg m kp b v (fun σ => passF) ha hdb he hpl
end
section
variable {ρ ρ' : List Sl} {tr : TA} {ss ds : List Sl} {x : PyData} {xs : List PyData} {n : Nat} {E : L2.St → XK} {T : List Sl → (Rv → Prop) → (Addr → Sl → Prop) → Prop} {dvs : List V}
theorem ev_callXD (h : Es tr ρ ss ρ') (hd : ∀ W, ArAll W dvs ds) (hn : (ss ++ ds).length = n) (g : T (ss ++ ds) (fun r => r = .d x) fun _ _ => False) : Ev (tCallSD (spX n T) dvs E tr) ρ (.d x) ρ' := fun c A σ H Q R f q =>
  h c A σ H _ R f fun vs A1 H1 R1 f1 S1 o1 => by
    refine ⟨zz c.Z A1, ss ++ ds, _, _, zz_ok R1, by rw [hz_eq]; exact o1.append (hd _), hn, g, fun r v H' hr S o => ?_, fun _ _ _ _ _ z => z.elim⟩
    subst hr
    have o : Dn (hz (zz c.Z A1) H') v x := o
    rw [hz_eq] at o
    exact q v A1 H' (R1.upA S) f1 (S1.trans (vw_upA R1 S)) o
end
section
variable {P : Program} {w : World} {K : PySem.W.Frag} {mg : Str → Option Value} {base : Heap}
theorem fn_xD {x qual : Str} {st : Stmt} {f : Addr} {fd : FuncData} {N ps : List Str} {k n : Nat} {dvs : List V} {kws : List (Str × V)} {T : List Sl → (Rv → Prop) → (Addr → Sl → Prop) → Prop} (F : FunD K x qual (defArgs st) (defBody st) (defScope st) dvs kws f fd) (S : FnScope N ps (defScope st)) (hn : ps.length = n := by rfl) (hN : n + N.length < fl := by decide)
    (body : ∀ (cdv : Value) (A : Around) (outer : List Env) (s : Shared) (H : Hp) (E : XK), Room k (A.deeper (envOfC qual (defScope st) s.heap.objs.size f cdv)) →
      ∃ t, PSs (cxOf (L2.CX P w) P w K mg base N qual (defScope st) f cdv A outer s H E) (defBody st) t ∧ ∀ as Kr X, as.length = n → T as Kr X →
        Sm t (as ++ uns (N.length - n)) { nx := fun _ => Kr (.d .none), rt := fun r _ => Kr r } ∨ ∃ C s ρ', X C s ∧ Rs (fun cls d _ H => E cls d H) t (as ++ uns (N.length - n)) C s ρ') :
    FnOk P w K mg base (L2.CX P w) (k + 1) f fd ps (spX n T) := by
  refine F.ok S (fun vs H Q E h => ?_) (fun cdv A outer s H vs Q E hr h => ?_)
  · obtain ⟨Z, as, Kr, X, hZ, ha, hl, _⟩ := h
    rw [ha.length, hl, hn]
  · obtain ⟨Z, as, Kr, X, hZ, ha, hl, hT, go, bad⟩ := h
    obtain ⟨t, ht, hb⟩ := body cdv A outer s H E hr
    have start := rp_start (N := N) (vs := vs) hN hZ ha hl
    rcases hb as Kr X hl hT with hb | ⟨C, s, ρ', hX, hb⟩
    · refine ⟨t, ht, hb ⟨Z, none, H, hz Z H⟩ _ _ H _ start rfl ?_⟩
      refine ⟨fun ρ' A' σ' H' hk R f => go _ _ _ hk (rp_aft R) .non, fun r ρ' v A' σ' H' hk R o => go r v H' hk (rp_aft R) ?_, fun _ _ _ _ h => h.elim, fun _ _ _ _ h => h.elim⟩
      exact rv_out (fun b o e nz _ => R.old _ _ (hz_mk nz e)) (fun b z => Or.inl z) R.inj R.off R.bor o
    · refine ⟨t, ht, hb ⟨Z, none, H, hz Z H⟩ _ _ H _ start rfl fun d v A' σ' H' R' f' e o => bad C s d v H' hX (rp_aft R') (vw_hz _ _ e) (o.mono vw_hz)⟩
end
/-! the script, where tables are hidden -/
theorem sql_mono {K : PySem.W.Frag} {H H' : Hp} {a : Addr} {xs : List V} (S : Same H H') (h : SqL K H a xs) : SqL K H' a xs := by
  rcases h with (h | ⟨ob, h⟩) | h
  · exact Or.inl (Or.inl (S _ _ h))
  · exact Or.inl (Or.inr ⟨ob, S _ _ h⟩)
  · exact Or.inr h
def scrMo (K : PySem.W.Frag) (ns : List Int) : Mo := ⟨fun u W => ∃ a, u = .ref a ∧ SqL K W a (ns.map V.int), fun S ⟨a, e, h⟩ => ⟨a, e, sql_mono S h⟩⟩
theorem sql_tabs {K : PySem.W.Frag} {H : Hp} {a : Addr} {xs : List V} (t : ∀ b, tabA b → H b = some (.tbl #[])) (h : SqL K H a xs) : SqL K (hz tabA H) a xs := by
  have no : ∀ o, H a = some o → o ≠ .tbl #[] → ¬ tabA a := fun o e n q => by
    rw [t a q] at e
    exact n (Option.some.inj e).symm
  rcases h with (h | ⟨ob, h⟩) | h
  · exact Or.inl (Or.inl (hz_mk (no _ h (by simp)) h))
  · exact Or.inl (Or.inr ⟨ob, hz_mk (no _ h (by simp)) h⟩)
  · exact Or.inr h
theorem zok_tabs {H : Hp} (t : ∀ b, tabA b → H b = some (.tbl #[])) : ZOk tabA H := ⟨fun a h => by rw [t a h]; simp, fun _ h => h, fun p hp => ⟨#[], t _ ⟨p, hp, rfl⟩, True.intro, fun pos cv h => by simp [codeAmong] at h⟩⟩
section
variable {ρ ρ' ρ1 ρ2 : List Sl} {te ta tb ti : TE} {x y : PyData} {K KF : PySem.W.Frag} {ns : List Int}
theorem fv_lenScr : FV (fun xs H Q => ∃ p ys, xs = [.ref p] ∧ (SqL K H p ys ∨ SqT K H p ys) ∧ Q (.int ys.length) H) [.p (scrMo K ns)] (.d (.int (ns.length : Int))) := by
  intro W H vs Q S o q
  cases vs with
  | nil => exact o.elim
  | cons v vs => cases vs with
    | cons w vs => exact o.2.elim
    | nil =>
      have o1 : ∃ a, v = .ref a ∧ SqL K W a (ns.map V.int) := o.1
      obtain ⟨a, rfl, h⟩ := o1
      refine ⟨a, ns.map V.int, rfl, Or.inl (sql_mono S h), ?_⟩
      rw [List.length_map]
      exact q _ _ (Same.refl _) fun _ _ _ => Dn.int _
theorem et_neD (ha : Ev ta ρ (.d x) ρ1) (hb : Ev tb ρ1 (.d x) ρ2) (sh : SeqAt.shaped x = true) : Et (tTest (tOp KA.rNeD ta tb)) ρ false ρ2 :=
  (et_test (ev_op ha hb (fv_neD sh sh))).is (by rw [SeqAt.eqv_refl _ (SeqAt.canLay_of_shaped sh)]; rfl)
end
theorem pe_ixKT {X : Cx} {K : PySem.W.Frag} (e3 : X.K = K) {a b : Expr} {ta tb : TE} {pos : Pos} (ha : PE X a ta) (hb : PE X b tb) (hs : PlainIx b) : PE X (.Subscript a b pos) (tOp (rIxT K) ta tb) := by
  subst e3
  exact pe_ix ix_tup ha hb hs
end OW
set_option Elab.async false
set_option linter.unusedVariables false
set_option linter.unusedSectionVars false
set_option maxRecDepth 100000
set_option maxHeartbeats 4000000
namespace OW
open PySem PySem.Spec PyProof.Rows L2 KA
/-! ### a def that tells, by one proof, and refuses, by another -/
theorem FnOk.both {P : Program} {w : World} {K : PySem.W.Frag} {mg : Str → Option Value} {base : Heap} {k n : Nat} {f : Addr} {fd : FuncData} {ps : List Str} {T1 : List Sl → (Rv → Prop) → Prop} {T2 : List Sl → (Addr → Sl → Prop) → Prop}
    (F1 : FnOk P w K mg base CX0 k f fd ps (spD n T1)) (F2 : FnOk P w K mg base (L2.CX P w) k f fd ps (spX n fun as _ X => T2 as X)) : FnOk P w K mg base (L2.CX P w) k f fd ps (spX n fun as Kr X => T1 as Kr ∨ T2 as X) := by
  refine ⟨fun vs H Q E h => ?_, fun A outer s H args us vs Q E hr e0 bt rv h => ?_⟩
  · obtain ⟨Z, as, Kr, X, hZ, ha, hl, hT, go, bad⟩ := h
    rcases hT with hT | hT
    · exact F1.len vs H Q E ⟨Z, as, Kr, hZ, ha, hl, hT, go⟩
    · exact F2.len vs H Q E ⟨Z, as, Kr, X, hZ, ha, hl, hT, go, bad⟩
  · obtain ⟨Z, as, Kr, X, hZ, ha, hl, hT, go, bad⟩ := h
    rcases hT with hT | hT
    · refine codeAny_mono (F1.run A outer s H args us vs Q E hr e0 bt rv ⟨Z, as, Kr, hZ, ha, hl, hT, go⟩) fun r s' z => ?_
      cases r with
      | ok fl => cases fl <;> exact z
      | error e => exact False.elim z
    · exact F2.run A outer s H args us vs Q E hr e0 bt rv ⟨Z, as, Kr, X, hZ, ha, hl, hT, go, bad⟩
end OW
set_option Elab.async false
set_option linter.unusedVariables false
set_option linter.unusedSectionVars false
set_option maxRecDepth 100000
set_option maxHeartbeats 4000000
namespace KP
open PySem PySem.Spec PyProof.Rows L2 KA OW
/-! ### what is no row, what is no number -/
def clsB : Stmt → List Stmt | .ClassDef (body := b) .. => b | _ => []
abbrev sClsR : Stmt := top 5
abbrev sClsN : Stmt := top 4
abbrev sInitR : Stmt := (clsB sClsR).headD (.Pass ⟨0, 0, 0, 0⟩)
abbrev sInitN : Stmt := (clsB sClsN).headD (.Pass ⟨0, 0, 0, 0⟩)
theorem scInitR : FnScope ["self", "found"] ["self", "found"] (defScope sInitR) := ⟨rfl, rfl, rfl, by decide +kernel, rfl, by decide +kernel, by decide +kernel⟩
theorem scInitN : FnScope ["self", "found"] ["self", "found"] (defScope sInitN) := ⟨rfl, rfl, rfl, by decide +kernel, rfl, by decide +kernel, by decide +kernel⟩
def goodT : PyData → Bool
  | .tuple (w :: n :: rest) => rowB (.tuple (w :: n :: rest)) && isS w "thing"
  | _ => false
theorem row_shape {d : PyData} (h : rowB d = true) : ∃ w n rest, d = .tuple (.str w :: n :: rest) ∧ goodT d = decide (w = "thing") := by
  unfold rowB at h
  split at h
  · rename_i w n rest
    have hr : rowB (.tuple (w :: n :: rest)) = true := h
    rw [Bool.and_eq_true] at h
    have hs : ∃ z, w = .str z := by
      cases w with
      | str z => exact ⟨z, rfl⟩
      | _ => exact absurd h.2 (by simp [isS])
    obtain ⟨z, rfl⟩ := hs
    refine ⟨z, n, rest, rfl, ?_⟩
    show (rowB (.tuple (.str z :: n :: rest)) && isS (.str z) "thing") = _
    rw [hr, Bool.true_and]
    show (decide _) = _
    rfl
  · cases h
def tWR2 (C : Addr) : List Sl → (Addr → Sl → Prop) → Prop := fun as X => ∃ s d, as = [s] ∧ Isd s d ∧ okT d ∧ goodT d = false ∧ X C s
def tWW2 (C : Addr) : List Sl → (Addr → Sl → Prop) → Prop := fun as X => ∃ s d lo hi, as = [s, .d (.int lo), .d (.int hi)] ∧ Isd s d ∧ wholeB lo hi d = false ∧ X C s
section
variable {ρ ρ' : List Sl} {tr : TA} {d : PyData}
theorem ev_wholeI {lo hi : Int} {E : XK} (h : Es tr ρ [.d d, .d (.int lo), .d (.int hi)] ρ') : Ev (tCall spWhole [] E tr) ρ (.d (.bool (wholeB lo hi d))) ρ' := ev_whole h
end
section
variable {P : Program} {w : World} {K : PySem.W.Frag} {mg : Str → Option Value} {base : Heap} {C C1 C2 U U1 U2 fI fI1 fI2 : Addr} {fdI fdI1 fdI2 : FuncData}
theorem ok_initR {nm : Str} (Z : NoX K mg nm "NoRow.__init__" sInitR C U fI fdI) : FnOk P w K mg base CX0 1 fI fdI ["self", "found"] (spErr C) := by
  refine Z.fn.ok scInitR (fun vs H Q E h => ?_) (fun cdv A outer s H vs Q E hr h => ?_)
  · obtain ⟨a, v, rfl, _⟩ := h
    rfl
  · obtain ⟨a, v, rfl, ha, k⟩ := h
    refine ⟨_, pss_cons (ps_expr (pe_upinit Z.up rfl Z.gU (pa_cons (pv 0) (pa_cons pe_str pa_nil)))) (pss_one (ps_ost (pv 0) (pv 1))), ?_⟩
    refine ⟨_, rfl, a, C, _, rfl, (by decide), Z.oex, ha, ?_⟩
    exact ⟨v, rfl, .ref a, rfl, a, C, rfl, Z.oex, Z.noF, Or.inl ⟨ha, fun dx n ne => k dx n ne⟩⟩
theorem ok_initN {nm : Str} (Z : NoX K mg nm "NoNumber.__init__" sInitN C U fI fdI) : FnOk P w K mg base CX0 1 fI fdI ["self", "found"] (spErr C) := by
  refine Z.fn.ok scInitN (fun vs H Q E h => ?_) (fun cdv A outer s H vs Q E hr h => ?_)
  · obtain ⟨a, v, rfl, _⟩ := h
    rfl
  · obtain ⟨a, v, rfl, ha, k⟩ := h
    refine ⟨_, pss_cons (ps_expr (pe_upinit Z.up rfl Z.gU (pa_cons (pv 0) (pa_cons pe_str pa_nil)))) (pss_one (ps_ost (pv 0) (pv 1))), ?_⟩
    refine ⟨_, rfl, a, C, _, rfl, (by decide), Z.oex, ha, ?_⟩
    exact ⟨v, rfl, .ref a, rfl, a, C, rfl, Z.oex, Z.noF, Or.inl ⟨ha, fun dx n ne => k dx n ne⟩⟩
theorem ok_wantrow2 {f : Addr} {fd : FuncData} (F : Fun K "_want_row_of_thing" "_want_row_of_thing" sWantRowOfThing f fd) (Z : NoX K mg "NoRow" "NoRow.__init__" sInitR C U fI fdI) (C_is_row : C8.Cal P w K mg base 7 "is_row" (spD 1 tIsRow) []) :
    FnOk P w K mg base (L2.CX P w) 8 f fd ["row"] (spX 1 fun as _ X => tWR2 C as X) := by
  refine fn_x F scWantRowOfThing (body := fun cdv A outer s H E hr => ⟨_, pss_one (ps_if (PW.pt (pw_or (pt_not (pt_val (C8.pe_c C_is_row hr (by decide) rfl (pa_cons (pv 0) pa_nil)))) (pw_or1 (pt_cmpR op_ne (pe_ix ix_tup (pv 0) pe_int (fun _ _ => rfl)) pe_str (nomark _))))) (pss_one (ps_raise rfl (takes_of rfl rfl rfl rfl) (pmk_oex Z.oex Z.iC Z.tI (ok_initR Z) (hr.mono (by decide)) Z.b .nil pass0 rfl Z.gC (pa_cons (pv 0) pa_nil)))) pss_nil), ?_⟩)
  rintro as Kr X _ ⟨s, d, rfl, is, ok, bad, no⟩
  have isr : Et (tNot (tB (tCall (spD 1 tIsRow) [] C8.E0 (tCons (tVar 0) tNil)))) ([s] ++ uns 0) (!rowB d) ([s] ++ uns 0) := et_not (et_B (ev_call (E := C8.E0) (es_cons (ev_varD (i := 0) rfl is) es_nil) ar_nil rfl ⟨d, rfl, ok, rfl⟩))
  cases hb : rowB d with
  | false =>
    rw [hb] at isr
    exact Or.inr ⟨C, s, _, no, rs_if (et_or (b := true) isr (fun h => by cases h)) (fun _ => rs_raise (ev_varI rfl is)) fun h => by cases h⟩
  | true =>
    rw [hb] at isr
    obtain ⟨z, n, rest, rfl, e⟩ := row_shape hb
    rw [bad] at e
    have ne : ¬ z = "thing" := of_decide_eq_false e.symm
    exact Or.inr ⟨C, s, _, no, rs_if (et_or (b := true) isr (fun _ => (et_test (ev_op (ev_op (ev_varD rfl is) ev_int (fv_ixT at0)) ev_str fv_neS)).is (by simp [ne]))) (fun _ => rs_raise (ev_varI rfl is)) fun h => by cases h⟩
theorem ok_wantw2 {f : Addr} {fd : FuncData} (F : Fun K "want_whole" "want_whole" sWantWhole f fd) (Z : NoX K mg "NoNumber" "NoNumber.__init__" sInitN C U fI fdI) (CW : C8.Cal P w K mg base 2 "is_whole" spWhole []) : FnOk P w K mg base (L2.CX P w) 3 f fd ["thing", "low", "high"] (spX 3 fun as _ X => tWW2 C as X) := by
  refine fn_x F scWantWhole (body := fun cdv A outer s H E hr => ⟨_, pss_one (ps_if (pt_not (pt_val (C8.pe_c CW hr (by decide) rfl (pa_cons (pv 0) (pa_cons (pv 1) (pa_cons (pv 2) pa_nil)))))) (pss_one (ps_raise rfl (takes_of rfl rfl rfl rfl) (pmk_oex Z.oex Z.iC Z.tI (ok_initN Z) (hr.mono (by decide)) Z.b .nil pass0 rfl Z.gC (pa_cons (pv 0) pa_nil)))) pss_nil), ?_⟩)
  rintro as Kr X _ ⟨s, d, lo, hi, rfl, is, bad, no⟩
  have tst : Et _ ([s, .d (.int lo), .d (.int hi)] ++ uns 0) (!wholeB lo hi d) ([s, .d (.int lo), .d (.int hi)] ++ uns 0) := et_not (et_B (ev_wholeI (E := C8.E0) (es_cons (ev_varD (i := 0) rfl is) (es_cons (ev_var (i := 1) rfl) (es_cons (ev_var (i := 2) rfl) es_nil)))))
  exact Or.inr ⟨C, s, _, no, rs_if tst (fun _ => rs_raise (ev_varI rfl is)) fun h => by rw [bad] at h; cases h⟩
end
end KP
set_option Elab.async false
set_option linter.unusedVariables false
set_option linter.unusedSectionVars false
set_option maxRecDepth 100000
set_option maxHeartbeats 4000000
namespace KP
open PySem PySem.Spec PyProof.Rows L2 KA OW
/-! ### the five, where they refuse -/
def ArgS (s : Sl) : Prop := (∃ x, s = .d x) ∨ ∃ P, s = .p P
theorem arg_isd {s : Sl} {x : PyData} (h : Isd s x) : ArgS s := by
  cases h
  · exact Or.inl ⟨_, rfl⟩
  · exact Or.inr ⟨_, rfl⟩
theorem ev_varG {ρ : List Sl} {i : Nat} {s : Sl} (h : ρ[i]? = some s) (a : ArgS s) : Ev (tVar i) ρ s ρ := by
  rcases a with ⟨x, rfl⟩ | ⟨P, rfl⟩
  · exact ev_var h
  · exact ev_varp h
theorem pss_never {X : Cx} {st : List Stmt} : PSs X st (fun _ _ _ => False) := ⟨fun _ _ _ _ _ _ h => h.elim⟩
def tRowX (C : Addr) : List Sl → (Rv → Prop) → (Addr → Sl → Prop) → Prop := fun as Kr X => tWantR as Kr ∨ tWR2 C as X
def tNumX (C : Addr) : List Sl → (Rv → Prop) → (Addr → Sl → Prop) → Prop := fun as Kr X => tWantW as Kr ∨ tWW2 C as X
/-- the row, or the number behind a good row, is none -/
def tTwo2 (C1 C2 : Addr) (lim : List (List PyData) → Int) : List Sl → (Addr → Sl → Prop) → Prop := fun as X => ∃ s1 s2 d, as = [s1, s2] ∧ Isd s1 d ∧ ArgS s2 ∧ okT d ∧ ((goodT d = false ∧ X C1 s1) ∨ ∃ x h es fs z, s1 = .d (rwT x h es fs) ∧ RwOk x h es fs ∧ Isd s2 z ∧ wholeB 0 (lim fs) z = false ∧ X C2 s2)
abbrev lenM (fs : List (List PyData)) : Int := (fs.length : Int) - 1
def tMakX (C1 C2 : Addr) : List Sl → (Rv → Prop) → (Addr → Sl → Prop) → Prop := fun as Kr X => tWantM as Kr ∨ tTwo2 C1 C2 lenM as X
section
variable {P : Program} {w : World} {K : PySem.W.Frag} {mg : Str → Option Value} {base : Heap} {C1 C2 : Addr}
theorem ok_wantmaker2 {f : Addr} {fd : FuncData} (F : Fun K "_want_maker" "_want_maker" sWantMaker f fd) (T : Txt K w mg) (C_row : CalX P w K mg base 8 "_want_row_of_thing" ["row"] (spX 1 (tRowX C1))) (C_whole : CalX P w K mg base 3 "want_whole" ["thing", "low", "high"] (spX 3 (tNumX C2))) :
    FnOk P w K mg base (L2.CX P w) 9 f fd ["row", "maker"] (spX 2 fun as _ X => tTwo2 C1 C2 lenM as X) := by
  refine fn_x F scWantMaker (body := fun cdv A outer s H E hr => ⟨_, (pss_cons (ps_expr (pe_x C_row (takes_of rfl rfl rfl rfl) hr (by decide) rfl (pa_cons (pv 0) pa_nil)))
      (pss_one (ps_expr (pe_x C_whole (takes_of rfl rfl rfl rfl) hr (by decide) rfl (pa_cons (pv 1) (pa_cons pe_int (pa_cons (pe_op op_sub (pe_callB call_len_seq (by rfl) T.len PySem.boot_len (pa_cons (pe_ix ix_tup (pv 0) pe_int (fun _ _ => rfl)) pa_nil)) pe_int) pa_nil))))))), ?_⟩)
  rintro as Kr X _ ⟨s1, s2, d, rfl, i1, i2, ok, h⟩
  rcases h with ⟨bad, no⟩ | ⟨x, h, es, fs, z, rfl, rw_, iz, bad, no⟩
  · exact Or.inr ⟨C1, s1, _, no, rs_seq1 (rs_drop (re_call (es_cons (ev_varI rfl i1) es_nil) rfl (Or.inr ⟨s1, d, rfl, i1, ok, bad, rfl, rfl⟩)))⟩
  · refine Or.inr ⟨C2, s2, [.d (rwT x h es fs), s2], no, rs_seq (sm_drop (s := .d .none) (ev_callX (es_cons (ev_var rfl) es_nil) rfl (Or.inl ⟨x, h, es, fs, rfl, rw_, rfl⟩)) (show Rs (fun cls d _ H => E cls d H) _ _ _ _ _ from rs_drop (re_call (ss := [s2, .d (.int 0), .d (.int (lenM fs))]) (es_cons (ev_varG rfl i2) (es_cons ev_int (es_cons (ev_op ((ev_fn (es_cons (ev_op (ev_var rfl) ev_int (fv_ixT (at_nat (j := 4) rfl))) es_nil) fv_lenT).is (y := .int (fs.length : Int)) (by rw [List.length_map])) ev_int fv_int) es_nil))) rfl (Or.inr ⟨s2, z, 0, lenM fs, rfl, iz, bad, rfl, rfl⟩))))⟩
theorem ok_thsay2 {f : Addr} {fd : FuncData} (F : Fun K "thing_saying" "thing_saying" sThingSaying f fd) (C_row : CalX P w K mg base 8 "_want_row_of_thing" ["row"] (spX 1 (tRowX C1))) :
    FnOk P w K mg base (L2.CX P w) 9 f fd ["row"] (spX 1 fun as _ X => tWR2 C1 as X) := by
  refine fn_x F scThingSaying (body := fun cdv A outer s H E hr => ⟨_, pss_cons (ps_expr (pe_x C_row (takes_of rfl rfl rfl rfl) hr (by decide) rfl (pa_cons (pv 0) pa_nil))) pss_never, ?_⟩)
  rintro as Kr X _ ⟨s, d, rfl, is, ok, bad, no⟩
  exact Or.inr ⟨C1, s, _, no, rs_seq1 (rs_drop (re_call (es_cons (ev_varI rfl is) es_nil) rfl (Or.inr ⟨s, d, rfl, is, ok, bad, rfl, rfl⟩)))⟩
theorem ok_ungrown2 {f : Addr} {fd : FuncData} (F : Fun K "ungrown" "ungrown" sUngrown f fd) (C_row : CalX P w K mg base 8 "_want_row_of_thing" ["row"] (spX 1 (tRowX C1))) :
    FnOk P w K mg base (L2.CX P w) 9 f fd ["row"] (spX 1 fun as _ X => tWR2 C1 as X) := by
  refine fn_x F scUngrown (body := fun cdv A outer s H E hr => ⟨_, pss_cons (ps_expr (pe_x C_row (takes_of rfl rfl rfl rfl) hr (by decide) rfl (pa_cons (pv 0) pa_nil))) pss_never, ?_⟩)
  rintro as Kr X _ ⟨s, d, rfl, is, ok, bad, no⟩
  exact Or.inr ⟨C1, s, _, no, rs_seq1 (rs_drop (re_call (es_cons (ev_varI rfl is) es_nil) rfl (Or.inr ⟨s, d, rfl, is, ok, bad, rfl, rfl⟩)))⟩
theorem ok_owns2 {f : Addr} {fd : FuncData} (F : Fun K "owns" "owns" sOwns f fd) (C_mak : CalX P w K mg base 9 "_want_maker" ["row", "maker"] (spX 2 (tMakX C1 C2))) :
    FnOk P w K mg base (L2.CX P w) 10 f fd ["row", "maker"] (spX 2 fun as _ X => tTwo2 C1 C2 lenM as X) := by
  refine fn_x F scOwns (body := fun cdv A outer s H E hr => ⟨_, pss_cons (ps_expr (pe_x C_mak (takes_of rfl rfl rfl rfl) hr (by decide) rfl (pa_cons (pv 0) (pa_cons (pv 1) pa_nil)))) pss_never, ?_⟩)
  rintro as Kr X _ ⟨s1, s2, d, rfl, i1, i2, ok, h⟩
  rcases h with ⟨bad, no⟩ | ⟨x, h, es, fs, z, e1, rw_, iz, bad, no⟩
  · exact Or.inr ⟨C1, s1, _, no, rs_seq1 (rs_drop (re_call (es_cons (ev_varI rfl i1) (es_cons (ev_varG rfl i2) es_nil)) rfl (Or.inr ⟨s1, s2, d, rfl, i1, i2, ok, Or.inl ⟨bad, rfl, rfl⟩⟩)))⟩
  · exact Or.inr ⟨C2, s2, _, no, rs_seq1 (rs_drop (re_call (es_cons (ev_varI rfl i1) (es_cons (ev_varG rfl i2) es_nil)) rfl (Or.inr ⟨s1, s2, d, rfl, i1, i2, ok, Or.inr ⟨x, h, es, fs, z, e1, rw_, iz, bad, rfl, rfl⟩⟩)))⟩
theorem ok_mksay2 {f : Addr} {fd : FuncData} (F : Fun K "maker_saying" "maker_saying" sMakerSaying f fd) (C_mak : CalX P w K mg base 9 "_want_maker" ["row", "maker"] (spX 2 (tMakX C1 C2))) :
    FnOk P w K mg base (L2.CX P w) 10 f fd ["row", "maker"] (spX 2 fun as _ X => tTwo2 C1 C2 lenM as X) := by
  refine fn_x F scMakerSaying (body := fun cdv A outer s H E hr => ⟨_, pss_cons (ps_expr (pe_x C_mak (takes_of rfl rfl rfl rfl) hr (by decide) rfl (pa_cons (pv 0) (pa_cons (pv 1) pa_nil)))) pss_never, ?_⟩)
  rintro as Kr X _ ⟨s1, s2, d, rfl, i1, i2, ok, h⟩
  rcases h with ⟨bad, no⟩ | ⟨x, h, es, fs, z, e1, rw_, iz, bad, no⟩
  · exact Or.inr ⟨C1, s1, _, no, rs_seq1 (rs_drop (re_call (es_cons (ev_varI rfl i1) (es_cons (ev_varG rfl i2) es_nil)) rfl (Or.inr ⟨s1, s2, d, rfl, i1, i2, ok, Or.inl ⟨bad, rfl, rfl⟩⟩)))⟩
  · exact Or.inr ⟨C2, s2, _, no, rs_seq1 (rs_drop (re_call (es_cons (ev_varI rfl i1) (es_cons (ev_varG rfl i2) es_nil)) rfl (Or.inr ⟨s1, s2, d, rfl, i1, i2, ok, Or.inr ⟨x, h, es, fs, z, e1, rw_, iz, bad, rfl, rfl⟩⟩)))⟩
theorem ok_eater2 {f : Addr} {fd : FuncData} (F : Fun K "eater_saying" "eater_saying" sEaterSaying f fd) (T : Txt K w mg) (C_row : CalX P w K mg base 8 "_want_row_of_thing" ["row"] (spX 1 (tRowX C1))) (C_whole : CalX P w K mg base 3 "want_whole" ["thing", "low", "high"] (spX 3 (tNumX C2))) :
    FnOk P w K mg base (L2.CX P w) 9 f fd ["row", "height"] (spX 2 fun as _ X => tTwo2 C1 C2 (fun _ => 5) as X) := by
  refine fn_x F scEaterSaying (body := fun cdv A outer s H E hr => ⟨_, pss_cons (ps_expr (pe_x C_row (takes_of rfl rfl rfl rfl) hr (by decide) rfl (pa_cons (pv 0) pa_nil))) (pss_cons (ps_expr (pe_x C_whole (takes_of rfl rfl rfl rfl) hr (by decide) rfl (pa_cons (pv 1) (pa_cons pe_int (pa_cons (C8.pe_gc rfl T.highest) pa_nil))))) pss_never), ?_⟩)
  rintro as Kr X _ ⟨s1, s2, d, rfl, i1, i2, ok, h⟩
  rcases h with ⟨bad, no⟩ | ⟨x, h, es, fs, z, rfl, rw_, iz, bad, no⟩
  · exact Or.inr ⟨C1, s1, _, no, rs_seq1 (rs_drop (re_call (es_cons (ev_varI rfl i1) es_nil) rfl (Or.inr ⟨s1, d, rfl, i1, ok, bad, rfl, rfl⟩)))⟩
  · exact Or.inr ⟨C2, s2, [.d (rwT x h es fs), s2] ++ uns 6, no, rs_seq (sm_drop (s := .d .none) (ev_callX (es_cons (ev_var rfl) es_nil) rfl (Or.inl ⟨x, h, es, fs, rfl, rw_, rfl⟩)) (rs_seq1 (W := fun cls d _ H => E cls d H) (rs_drop (re_call (es_cons (ev_varG rfl i2) (es_cons ev_int (es_cons ev_int es_nil))) rfl (Or.inr ⟨s2, z, 0, 5, rfl, iz, bad, rfl, rfl⟩)))))⟩
end
end KP
set_option Elab.async false
set_option linter.unusedVariables false
set_option linter.unusedSectionVars false
set_option maxRecDepth 100000
set_option maxHeartbeats 1000000
/-! The same with an else: it runs where nothing is refused. -/
namespace KA
open PySem PySem.Spec PyProof.Rows L2
def tTryAsE (K : PySem.W.Frag) (l : List (Value × Nat × (Addr → Value → Option Addr → TS))) (tb : WX → TS) (u : TS) : TS := fun D σ H => tb (wAs K D l) { D with nx := u D } σ H
section
variable {X : Cx} {body : List Stmt} {h0 : ExceptHandler} {hds : List ExceptHandler} {l : List (Value × Nat × (Addr → Value → Option Addr → TS))} {pos : Pos} {tb : WX → TS}
theorem ps_try_asE {orelse : List Stmt} {u : TS} (ho : PSs X orelse u) (stk : X.stack = X.env :: X.outer) (frm : X.env.frame = some X.env.locals) (nd : X.N.Nodup)
    (hb : ∀ (W : WX) (pn : List (Addr × Obj)) (xe : Value → Shared → Prop), Takes (X.tr pn xe) W → PassesOwn (model X.prog X.w) X.A X.env xe → PSs (X.tr pn xe) body (tb W))
    (hh : HdsA X (h0 :: hds) l) : PS X (.Try body (h0 :: hds) orelse [] pos) (tTryAsE X.K l tb u) := by
  refine ⟨fun pins s0 σ0 H0 D I0 want => ?_⟩
  have okX := I0.ok
  have frames : X.A.frames = some (X.env :: X.outer) := by rw [okX.frames, stk]
  refine wpAny_Try_except ?_
  refine wpAny_mono ((hb (wAs X.K D l) (X.pn ++ pins) (fun u t1 => wpAny (model X.prog X.w) X.A (noteFrame u X.env) (fun _ t2 => wpAny (model X.prog X.w) X.A (setFlight u none) (fun _ t3 =>
    wpAny (model X.prog X.w) X.A (handleBy u X.env (h0 :: hds)) (SP X pins D) X.xe t3) X.xe t2) X.xe t1) (fun u t0 inAir => ?_) PassesOwn.looking).run [] s0 σ0 H0 { D with nx := u D } (I0.toTry _) want) (fun fl t1 ends => ?_) (fun u t1 z => z)
  · obtain ⟨a, B, sB, pinsB, σ1, H1, cls, d, rfl, JB, newB, up0, air, freeA, osE, bareG, w⟩ := inAir
    have J0 : Inv X pins σ1 H1 sB := JB.ofTry okX
    have air' : Sky B (X.env :: X.outer) a (Zc cls d) X.env.locals t0.heap := by rw [← stk]; exact air
    show wpAny (model X.prog X.w) X.A (noteFrame (.ref a) X.env) _ _ _
    refine Sky.land Zc.steady frames frm air' fun hA flA upA => ?_
    have JA : Inv X pins σ1 H1 { t0 with heap := hA } := J0.landed newB flA.1 (up0.trans upA) osE bareG
    obtain ⟨oA, vA, getA, zcA, datA⟩ := flA.there
    have offF : a ∉ frs (X.env :: X.outer) := fun mem => by
      obtain ⟨_, o1, get1, notF⟩ := flA.2.2.1.mem mem
      rw [getA] at get1
      cases get1
      exact notF _ datA
    have offL : a ≠ X.env.locals := fun z => offF (List.mem_filterMap.mpr ⟨X.env, List.mem_cons_self, by rw [frm, z]⟩)
    have offS : a ∉ X.fs := fun mem => by
      obtain ⟨en, hen, q⟩ := List.mem_filterMap.mp mem
      exact offF (List.mem_filterMap.mpr ⟨en, List.mem_cons_of_mem _ hen, q⟩)
    have SA := JA.suite getA datA freeA offL offS
    have go : ∀ {hds' : List ExceptHandler} {l' : List (Value × Nat × (Addr → Value → Option Addr → TS))}, HdsA X hds' l' → wAs X.K D l' cls d σ1 H1 →
        wpAny (model X.prog X.w) X.A (handleBy (.ref a) X.env hds') (SP X pins D) X.xe { t0 with heap := hA } := by
      intro hds' l' hk
      induction hk with
      | rest =>
        intro w
        exact False.elim w
      | @cons x n c i ts b1 su np p3 hds2 l2 nm at_ loc hs r ih =>
        intro w
        obtain ⟨b, hb1, hyes, hno⟩ := w
        have here : Loc X.env.scope n := .inl loc
        refine wpAny_handleBy_cons (codeAny_handlers_test ?_) (by intro q; cases q)
        have lookT : PySem.W.Looks (model X.prog X.w) hA (typeOf (.ref a)) cls := fun _ _ _ t keep q => wpAny_typeOf_ref (keep _ _ getA) (by rw [zcA.1]; exact q)
        have lookM := PySem.W.exm_one (M := model X.prog X.w) JA.kIn lookT hb1
        have name : ∀ {Q E : Value → Shared → Prop}, Q c { t0 with heap := hA } → wpAny (model X.prog X.w) (X.A.mark (some (.ref a))) (eval (.Name x np) X.env) Q E { t0 with heap := hA } := fun {Q E} q => by
          obtain ⟨gl, dbg, own | ⟨none_, blt, nn⟩⟩ := nm
          · exact ld_glob (X := X.suite a ((a, oA) :: (X.pn ++ pins))) SA gl own q dbg
          · exact ld_blt (X := X.suite a ((a, oA) :: (X.pn ++ pins))) SA gl none_ blt q nn dbg
        refine name (lookM.here ?_)
        cases b with
        | false =>
          show wpAny _ X.A (handleBy (.ref a) X.env hds2) _ _ _
          exact ih (hno rfl)
        | true =>
          refine codeAny_handlers_suite_as ?_
          refine HandSPX.lands_againZ flA fun hC flC upC => ?_
          have JC : Inv X pins σ1 H1 { t0 with heap := hC } := J0.landed newB flC.1 ((up0.trans upA).trans upC) osE bareG
          obtain ⟨oC, vC, getC, zcC, datC⟩ := flC.there
          have SC := JC.suite getC datC freeA offL offS
          refine store_ok (X := X.suite a ((a, oC) :: (X.pn ++ pins))) (v := .ref a) SC nd at_ here rfl (fun t5 S5 => ?_) (.inr loc)
          refine wpAny_mono ((hs a oC cls d (X.pn ++ pins) zcC ⟨_, datC⟩).run [] t5 _ H1 _ S5 (hyes rfl a freeA)) (fun fl t6 ends => ?_) (fun _ _ z => False.elim z)
          have gone : ∀ {ρ : L2.St} {G : Hp} {Q : Shared → Prop}, Inv (X.suite a ((a, oC) :: (X.pn ++ pins))) [] ρ G t6 → (∀ t7, Inv X pins (ρ.set i none) G t7 → Q t7) →
              wpAny (model X.prog X.w) X.A (do bindName X.env n .none; unbindBehindTheSuite X.env n p3) (fun _ t7 => Q t7) X.xe t6 := fun {ρ G Q} S6 q => gone_ok (S6.unsuite okX) nd at_ loc q
          cases fl with
          | next =>
            obtain ⟨ρ, G, S6, q⟩ := ends
            exact gone S6 fun t7 J7 => ⟨_, _, J7, q⟩
          | brk =>
            obtain ⟨ρ, G, S6, q⟩ := ends
            exact gone S6 fun t7 J7 => ⟨_, _, J7, q⟩
          | cont =>
            obtain ⟨ρ, G, S6, q⟩ := ends
            exact gone S6 fun t7 J7 => ⟨_, _, J7, q⟩
          | ret u =>
            obtain ⟨v, ρ, G, S6, rv, q⟩ := ends
            exact gone S6 fun t7 J7 => ⟨_, _, _, J7, rv, q⟩
    exact go hh w
  · cases fl with
    | next =>
      obtain ⟨ρ, G, J, q⟩ := ends
      exact ho.run pins _ ρ G D (J.ofTry okX) q
    | brk =>
      obtain ⟨ρ, G, J, q⟩ := ends
      exact ⟨ρ, G, J.ofTry okX, q⟩
    | cont =>
      obtain ⟨ρ, G, J, q⟩ := ends
      exact ⟨ρ, G, J.ofTry okX, q⟩
    | ret u =>
      obtain ⟨v, ρ, G, J, rv, q⟩ := ends
      exact ⟨v, ρ, G, J.ofTry okX, rv, q⟩
end
end KA
set_option Elab.async false
set_option linter.unusedVariables false
set_option linter.unusedSectionVars false
set_option maxRecDepth 100000
set_option maxHeartbeats 1000000
namespace OW
open PySem PySem.Spec PyProof.Rows L2 KA
variable [Tbs]
section
variable {ρ ρ' ρ1 ρ2 : List Sl} {s s' : Sl} {i : Nat} {K : KK} {C : Addr} {KF : PySem.W.Frag} {u : TS}
theorem sm_tryE {l : List (Value × Nat × (Addr → Value → Option Addr → TS))} {tb : WX → TS} (h : ∀ W, Sm (tb W) ρ { K with nx := fun ρ' => Sm u ρ' K }) : Sm (tTryAsE KF l tb u) ρ K := fun c A σ H D R f dk =>
  h _ c A σ H { D with nx := u D } R f ⟨fun ρ' A' σ' H' hk R' f' => hk c A' σ' H' D R' f' dk, dk.rt, dk.bk, dk.ct⟩
theorem sm_tryXE {l : List (Value × Nat × (Addr → Value → Option Addr → TS))} {tb : WX → TS} {ts : Addr → Value → Option Addr → TS} (h : ∀ W, Rs W (tb W) ρ C s ρ') (ht : Takes1 KF C l i ts) (i0 : i ≠ 0 := by decide) (i1 : i ≠ fl := by decide)
    (hs : ∀ a d, Sm (ts a (.ref C) (some d)) (ρ'.set i (.p (excMo a d s))) { nx := fun _ => False, rt := K.rt }) : Sm (tTryAsE KF l tb u) ρ K := fun c A σ H D R f dk => by
  refine h (wAs KF D l) c A σ H { D with nx := u D } R f fun d v A' σ' H' R' f' e o => ?_
  induction ht with
  | @here c0 i0' ts0 r0 hx =>
    refine ⟨true, hx, (fun _ a ha => ?_), (fun z => by cases z)⟩
    refine hs a d c _ _ H' _ (R'.set (s := .p (excMo a d s)) (v := .ref a) i0 ⟨rfl, _, rfl, rfl, v, e, o⟩) (by rw [aset_ne i1.symm]; exact f') ⟨fun _ _ _ _ z => z.elim, fun r ρ v A σ H k => dk.rt r ρ v A σ H k, fun _ _ _ _ z => z.elim, fun _ _ _ _ z => z.elim⟩
  | @next c0 i0' j0 ts0 ts1 r0 hx _ ih => exact ⟨false, hx, (fun z => by cases z), fun _ => ih i0 i1 hs⟩
end
end OW
set_option Elab.async false
set_option linter.unusedVariables false
set_option linter.unusedSectionVars false
set_option maxRecDepth 100000
set_option maxHeartbeats 2000000
namespace OW
open PySem PySem.Spec PyProof.Rows L2 KA
variable [Tbs]
/-! ### tuples and lists of things that are known by more than their data -/
def tupMo (ss : List Sl) : Mo := ⟨fun u W => ∃ t us, u = .ref t ∧ W t = some (.tup us) ∧ ArAll W us ss, fun S ⟨t, us, e, h, o⟩ => ⟨t, us, e, S _ _ h, o.mono S⟩⟩
def arL (ss : List Sl) : MoL := ⟨fun vs W => ArAll W vs ss, fun S h => h.mono S⟩
def lstsMo (ss : List Sl) : Mo := ⟨fun u W => ∃ b us, u = .ref b ∧ W b = some (.lst us) ∧ ArAll W us ss, fun S ⟨b, us, e, h, o⟩ => ⟨b, us, e, S _ _ h, o.mono S⟩⟩
def Elp (te : TE) (ρ : List Sl) (ss : List Sl) (ρ' : List Sl) : Prop := ∀ (c : Fr) (A : Am) (σ : L2.St) (H : Hp) (Q : VK), Rp c A ρ σ H → A fl = none →
  (∀ a vs A' H', Rp c A' ρ' σ H' → A' fl = some a → Same (vw c.Z A H) (vw c.Z A' H') → H' a = some (.lst vs) → ArAll (vw c.Z A' H') vs ss → Q (.ref a) H') → te σ H Q
/-! a thing in a slot: data whose value is told, or a list at a known address -/
inductive TK where
  | dat (v : V) (x : PyData)
  | lst (a : Addr) (xs : List PyData)
def TK.sl : TK → Sl | .dat v x => .p (exactMo v x) | .lst a xs => .la a xs
def TK.v : TK → V | .dat v _ => v | .lst a _ => .ref a
def TK.x : TK → PyData | .dat _ x => x | .lst _ xs => .list xs
def TK.isL : TK → Bool | .dat _ _ => false | .lst _ _ => true
section
variable {c : Fr} {A : Am} {ρ ρ' ρ1 ρ2 : List Sl} {σ : L2.St} {H H' : Hp} {te ta tb ti : TE} {s s' : Sl} {x y : PyData} {i j k m : Nat} {tr : TA} {xs ys : List PyData} {ss rs : List Sl} {K : KK} {a : Addr} {KF : PySem.W.Frag} {g : TG} {gs : TGs} {t : TS}
theorem ev_tupP (h : Es tr ρ ss ρ') (len : ss.length ≤ sizeLine := by simp [sizeLine_eq]) : Ev (tTup tr) ρ (.p (tupMo ss)) ρ' := fun c A σ H Q R f q =>
  h c A σ H _ R f fun vs A1 H1 R1 f1 S1 o1 => ⟨by rw [o1.length]; exact len, fun a ha =>
    q _ A1 _ (R1.up (Same.new ha)) f1 (S1.trans (vw_up (Same.new ha))) ⟨a, vs, rfl, new_view R1 ha upd_same, o1.mono (vw_up (Same.new ha))⟩⟩
theorem elp_lst (h : Es tr ρ ss ρ') (len : ss.length ≤ sizeLine := by simp [sizeLine_eq]) : Elp (tLst tr) ρ ss ρ' := fun c A σ H Q R f q =>
  h c A σ H _ R f fun vs A1 H1 R1 f1 S1 o1 => ⟨by rw [o1.length]; exact len, fun a ha =>
    q a vs _ _ (R1.fly ha) aset_at (S1.trans (vw_fly ha)) upd_same (o1.mono (vw_fly ha))⟩
theorem elp_cat (h0 : ρ[i]? = some (.lm (arL rs))) (h : Elp te ρ ss ρ) (len : rs.length + ss.length ≤ sizeLine) : Elp (tOp rCat (tVar i) te) ρ (rs ++ ss) ρ := fun c A σ H Q R f q => by
  obtain ⟨b, us, e, e1, e2, o⟩ := R.sl i _ h0
  refine ⟨_, e1, h c A σ H _ R f fun a vs A1 H1 R1 f1 S1 ea o1 => ?_⟩
  obtain ⟨b', us', g, g1, g2, o'⟩ := R1.sl i _ h0
  rw [e1] at g1
  cases g1
  have o' : ArAll (vw c.Z A1 H1) us' rs := o'
  refine ⟨b, a, us', vs, rfl, rfl, g2, ea, by rw [o'.length, o1.length]; exact len, fun p hp => ?_⟩
  have R2 := R1.land.fly (o := .lst (us' ++ vs)) hp
  have S2 : Same (vw c.Z A1 H1) (vw c.Z (aset (aset A1 fl none) fl (some p)) (upd H1 p (.lst (us' ++ vs)))) := vw_land.trans (vw_fly hp)
  exact q p _ _ _ R2 aset_at (S1.trans S2) upd_same ((o'.mono S2).append (o1.mono S2))
theorem sm_setLM (h : Elp te ρ ss ρ1) (k : K.nx (ρ1.set i (.lm (arL ss)))) (i0 : i ≠ 0 := by decide) (hi : i < ρ1.length := by simp [uns]) : Sm (tAsg te (gName i)) ρ K := fun c A σ H D R f dk =>
  h c A σ H _ R f fun a vs A1 H1 R1 f1 S1 e o => dk.nx _ _ _ _ k (R1.setO (s := .lm (arL ss)) i0 hi f1 fun W S => ⟨a, vs, rfl, rfl, e, o.mono S⟩) aset_at
theorem sm_appM (h0 : ρ[k]? = some (.lm (arL ss))) (h : Ev te ρ s ρ) (len : ss.length < sizeLine) (q : K.nx (ρ.set k (.lm (arL (ss ++ [s]))))) : Sm (tDrop (tBM KF "list" rAppend (tVar k) (tCons te tNil))) ρ K := fun c A σ H D R f dk => by
  obtain ⟨b, us, e, e1, e2, o⟩ := R.sl k _ h0
  refine ⟨_, e1, Or.inl ⟨rfl, us, SqL.of e2⟩, h c A σ H _ R f fun v A1 H1 R1 f1 S1 o1 => ?_⟩
  obtain ⟨b', us', g, g1, g2, o'⟩ := R1.sl k _ h0
  rw [e1] at g1
  cases g1
  have o' : ArAll (vw c.Z A1 H1) us' ss := o'
  exact ⟨b, us', v, rfl, rfl, g2, by rw [o'.length]; exact len, dk.nx _ _ _ _ q (R1.mutO (s := .lm (arL (ss ++ [s]))) (List.getElem?_eq_some_iff.mp h0).1 g fun H' h' => ⟨b, us' ++ [v], rfl, e1, h', o'.append ⟨o1, trivial⟩⟩) f1⟩
/-- what a slot has goes to no slot -/
theorem Rp.toFlG (R : Rp c A ρ σ H) (i0 : i ≠ 0) (h : ρ[i]? = some s) (e : A i = some a) : Rp c (aset (aset A i none) fl (some a)) (ρ.set i .any) σ H := by
  have ni : i ≠ fl := idx_small R.sz h
  have back : ∀ j b, aset (aset A i none) fl (some a) j = some b → (j = fl ∧ b = a) ∨ (j ≠ i ∧ j ≠ fl ∧ A j = some b) := fun j b z => by
    by_cases q : j = fl
    · rw [q, aset_at] at z
      exact Or.inl ⟨q, (Option.some.inj z).symm⟩
    · rw [aset_ne q] at z
      by_cases q' : j = i
      · rw [q', aset_at] at z
        cases z
      · rw [aset_ne q'] at z
        exact Or.inr ⟨q', q, z⟩
  refine ⟨by rw [List.length_set, R.len], by rw [List.length_set]; exact R.sz, ?_, ?_, ?_, R.keep, R.old.trans (vw_toFl e), ?_, ?_, R.tz, R.tb.mono (vw_toFl e) fun _ _ => rfl⟩
  · intro k j b z z'
    rcases back k b z with ⟨q1, q2⟩ | ⟨n1, n2, y⟩
    · rcases back j b z' with ⟨q3, _⟩ | ⟨n3, n4, y'⟩
      · rw [q1, q3]
      · exact absurd (R.inj _ _ _ (q2 ▸ y') e) n3
    · rcases back j b z' with ⟨q3, q4⟩ | ⟨n3, n4, y'⟩
      · exact absurd (R.inj _ _ _ (q4 ▸ y) e) n1
      · exact R.inj _ _ _ y y'
  · intro j b z
    rcases back j b z with ⟨_, q⟩ | ⟨_, _, y⟩
    · rw [q]
      exact R.off _ _ e
    · exact R.off _ _ y
  · intro j b z
    rcases back j b z with ⟨_, q⟩ | ⟨_, _, y⟩
    · rw [q]
      exact R.live _ _ e
    · exact R.live _ _ y
  · intro p z
    rw [aset_ne (by decide), aset_ne i0.symm]
    exact R.bor p z
  · intro j t z
    by_cases q : j = i
    · subst q
      have lt := (List.getElem?_eq_some_iff.mp h).1
      rw [List.getElem?_set_self lt] at z
      cases z
      show aset (aset A j none) fl (some a) j = none
      rw [aset_ne ni, aset_at]
    · rw [List.getElem?_set_ne (Ne.symm q)] at z
      rw [aset_ne (idx_small R.sz z), aset_ne q]
      exact (R.sl j t z).mono (vw_toFl e) fun _ _ _ h => h
/-- such a list is seen from then on -/
theorem ev_lmF (h : ρ[i]? = some (.lm (arL ss))) (i0 : i ≠ 0 := by decide) : Ev (tVar i) ρ (.p (lstsMo ss)) (ρ.set i .any) := fun c A σ H Q R f q => by
  obtain ⟨b, us, e, e1, e2, o⟩ := R.sl i _ h
  have R1 := R.toFlG i0 h e
  have R2 := R1.land
  have S : Same (vw c.Z A H) (vw c.Z (aset (aset (aset A i none) fl (some b)) fl none) H) := (vw_toFl e).trans vw_land
  have nb : vw c.Z (aset (aset (aset A i none) fl (some b)) fl none) H b = some (.lst us) := vw_mk (R1.off _ _ aset_at) (fun k z => by
    by_cases q : k = fl
    · rw [q, aset_at] at z
      cases z
    · rw [aset_ne q] at z
      exact q (R1.inj _ _ _ z aset_at)) e2
  exact ⟨_, e1, q _ _ H R2 aset_at S ⟨b, us, rfl, nb, ArAll.mono S o⟩⟩
theorem sm_forP (h : Ev te ρ (.p (lstsMo ss)) ρ1) (R : Nat → List Sl → Prop) (h0 : R 0 ρ1) (hs : ∀ (j : Nat) s ρ', ss[j]? = some s → R j ρ' → Turn g t s ρ' (R (j + 1)) K) (hd : ∀ ρ', R ss.length ρ' → K.nx ρ') : Sm (tFor (iList KF te) g t) ρ K := fun c A σ H D R0 f dk =>
  h c A σ H _ R0 f fun v A1 H1 R1 f1 S1 o1 => by
    obtain ⟨a, vs, rfl, e, dx⟩ := o1
    refine ⟨a, rfl, ⟨_, SqL.of (vw_sub _ _ e)⟩, for_list (xs := vs) (fun j σ' H' => Stp (c.to (vw c.Z A1 H1)) (R j) σ' H') ⟨ρ1, A1, h0, R1.refr, f1⟩ ?_ ?_ ?_⟩
    · rintro j σ' H' _ ⟨ρ', A', r, R', f'⟩
      exact SqL.of (vw_sub _ _ (R'.old _ _ e))
    · rintro j w σ' H' hj ⟨ρ', A', r, R', f'⟩
      have lt : j < ss.length := by rw [← dx.length]; exact (List.getElem?_eq_some_iff.mp hj).1
      have hs' := List.getElem?_eq_getElem lt
      obtain ⟨w', hw, o⟩ := arAll_at dx hs'
      rw [hj] at hw
      cases hw
      exact (hs j _ ρ' hs' r).run R' f' (o.mono R'.old) R1.old dk
    · rintro σ' H' ⟨ρ', A', r, R', f'⟩
      rw [dx.length] at r
      exact dk.nx _ _ _ _ (hd _ r) (R'.unfr R1.old) f'
theorem tg_tupP {n : Nat} (h : Tgs gs ss ρ ρ1) (len : ss.length = n := by rfl) : Tg (gTup KF n gs) (.p (tupMo ss)) ρ ρ1 := fun c A σ H v Q R f o q => by
  obtain ⟨a, vs, rfl, e, dx⟩ := o
  exact ⟨a, vs, rfl, SqT.of (vw_sub _ _ e), dx.length.trans len, h c A σ H vs _ R f dx q⟩
theorem Ev.w {P P' : Mo} (h : Ev te ρ (.p P) ρ') (hw : ∀ v W, P.P v W → P'.P v W) : Ev te ρ (.p P') ρ' := fun c A σ H Q R f q => h c A σ H Q R f fun v A1 H1 R1 f1 S1 o1 => q v A1 H1 R1 f1 S1 (hw _ _ o1)
theorem ev_tk {q : TK} (h : ρ[i]? = some q.sl) : Ev (tVar i) ρ (.p (isV q.v)) ρ := by
  cases q with
  | dat v x => exact (ev_varp h).w fun u W z => z.1
  | lst a xs =>
    intro c A σ H Q R f q
    obtain ⟨vs, e, e1, e2, dx⟩ := R.sl i _ h
    exact ⟨_, e1, q _ A H R f (Same.refl _) rfl⟩
/-- in the whole heap it is its data -/
theorem Rp.tk (R : Rp c A ρ σ H) {q : TK} (h : ρ[i]? = some q.sl) : σ[i]? = some (some q.v) ∧ Dn H q.v q.x := by
  cases q with
  | dat v x =>
    obtain ⟨_, u, e, rfl, d⟩ := R.sl i _ h
    exact ⟨e, Dn.mono vw_sub d⟩
  | lst a xs =>
    obtain ⟨vs, e, e1, e2, dx⟩ := R.sl i _ h
    exact ⟨e1, .lst e2 (DnAll.mono vw_sub dx)⟩
/-- what is lent to a call: the lists of some slots -/
def lentZ (c : Fr) (A : Am) (L : List Nat) : Addr → Prop := fun b => c.Z b ∨ ∃ i, i ∉ L ∧ A i = some b
theorem lent_same {L : List Nat} : Same (vw c.Z A H) (hz (lentZ c A L) H) := fun b o e => by
  obtain ⟨h1, h2, h3⟩ := vw_some e
  refine hz_mk ?_ h3
  rintro (z | ⟨i, _, z⟩)
  · exact h1 z
  · exact h2 i z
theorem Rp.lentOk (R : Rp c A ρ σ H) (L : List Nat) : ZOk (lentZ c A L) H where
  there b z := by
    rcases z with z | ⟨i, _, z⟩
    · exact R.there z
    · exact R.live _ _ z
  tz b t := Or.inl (R.tz b t)
  tb := R.tb.mono lent_same fun _ _ => rfl
theorem Rp.lentDn (R : Rp c A ρ σ H) {L : List Nat} {q : TK} (h : ρ[i]? = some q.sl) (hi : i ∈ L) : Dn (hz (lentZ c A L) H) q.v q.x := by
  cases q with
  | dat v x =>
    obtain ⟨_, u, e, rfl, d⟩ := R.sl i _ h
    exact Dn.mono lent_same d
  | lst a xs =>
    obtain ⟨vs, e, e1, e2, dx⟩ := R.sl i _ h
    refine .lst (hz_mk ?_ e2) (DnAll.mono lent_same dx)
    rintro (z | ⟨j, hj, z⟩)
    · exact R.off _ _ e z
    · rw [R.inj _ _ _ z e] at hj
      exact hj hi
/-- what is seen where lists are lent is seen else, but for these lists -/
theorem Rp.lentBack (R : Rp c A ρ σ H) {L : List Nat} (SS : Aft (lentZ c A L) H H') {b : Addr} {o : HO} (nl : ∀ vs, o ≠ .lst vs) (hL : ∀ i ∈ L, ∃ q : TK, ρ[i]? = some q.sl) (e : hz (lentZ c A L) H' b = some o) : vw c.Z A H' b = some o := by
  obtain ⟨h1, h2⟩ := hz_some e
  refine vw_mk (fun z => h1 (Or.inl z)) (fun i z => ?_) h2
  by_cases hi : i ∈ L
  · obtain ⟨q, hq⟩ := hL i hi
    cases q with
    | dat v x =>
      obtain ⟨e0, _⟩ := R.sl i _ hq
      rw [e0] at z
      cases z
    | lst a xs =>
      obtain ⟨vs, g, g1, g2, _⟩ := R.sl i _ hq
      rw [g] at z
      cases z
      rw [SS.same _ _ g2 (R.nt g)] at h2
      exact nl _ (Option.some.inj h2).symm
  · exact h1 (Or.inr ⟨i, hi, z⟩)
theorem Rp.upLentG (R : Rp c A ρ σ H) {L : List Nat} (SS : Aft (lentZ c A L) H H') (hL : ∀ i ∈ L, ∃ q : TK, ρ[i]? = some q.sl) : Rp c A ρ σ H' := by
  refine R.upA ⟨SS.same, ?_⟩
  rw [hz_eq]
  intro p hp
  obtain ⟨ps, g1, g2, g3⟩ := SS.tb p hp
  refine ⟨ps, g1, g2, fun pos cv h => ?_⟩
  obtain ⟨cc, k1, k2⟩ := g3 pos cv h
  refine ⟨cc, k1, R.lentBack SS (fun vs z => ?_) hL k2⟩
  unfold LamX.CodeO at z
  cases z
/-- a call of variables, lists lent: a pair of a word and the very thing comes of it -/
theorem evp_lendG {n : Nat} {T : List Sl → (Rv → Prop) → Prop} {E : XK} {P S : Mo} (L : List Nat) (hL : ∀ i ∈ L, ∃ q : TK, ρ[i]? = some q.sl)
    (args : ∀ (c : Fr) (A : Am) (σ : L2.St) (H : Hp), Rp c A ρ σ H → ∃ vs : List V, (∀ Q : List V → Hp → Prop, Q vs H → tr σ H Q) ∧ ArAll (hz (lentZ c A L) H) vs ss) (hn : ss.length = n) (g : T ss fun r => r = .p S)
    (conv : ∀ u (W1 W : Hp), (∀ b o, (∀ vs, o ≠ .lst vs) → W1 b = some o → W b = some o) → S.P u W1 → P.P u W) : Ev (tCall (spD n T) [] E tr) ρ (.p P) ρ := fun c A σ H Q R f q => by
  obtain ⟨vs, hv, ha⟩ := args c A σ H R
  refine hv _ ⟨lentZ c A L, ss, _, R.lentOk L, by rw [List.append_nil]; exact ha, hn, g, fun r v H' hr SS o => ?_⟩
  subst hr
  have up : Same (vw c.Z A H) (vw c.Z A H') := R.vwLent SS
  exact q v A H' (R.upLentG SS hL) f up (conv v _ _ (fun b o nl e => R.lentBack SS nl hL e) o)
/-- such a list changes, by another name of it -/
theorem sm_appV {n : Int} (hk : ρ[k]? = some (.p (isV (.ref a)))) (h0 : ρ[i]? = some (.la a xs)) (len : xs.length < sizeLine) (q : K.nx (ρ.set i (.la a (xs ++ [.int n])))) : Sm (tDrop (tBM KF "list" rAppend (tVar k) (tCons (tC (.int n)) tNil))) ρ K := fun c A σ H D R f dk => by
  obtain ⟨vs, e, e1, e2, dx⟩ := R.sl i _ h0
  obtain ⟨_, u, eu, hu⟩ := R.sl k _ hk
  obtain rfl : u = .ref a := hu
  exact ⟨_, eu, Or.inl ⟨rfl, vs, SqL.of e2⟩, a, vs, .int n, rfl, rfl, e2, by rw [dx.length]; exact len, dk.nx _ _ _ _ q (R.mutA h0 (dx.snoc (.int n))) f⟩
theorem sm_pickB {z : Int} (h5 : ρ[j]? = some (.p (lstMo m k a))) (he : El te ρ ys ρ) (hi : Ev ti ρ (.d (.int z)) ρ1) (h6 : ρ1[i]? = some (.wa a xs)) (ez : z = (k : Int)) (len : m + ys.length ≤ sizeLine) (q : K.nx ((ρ1.set i .any).set j (.la a xs))) (i0 : i ≠ 0 := by decide) (j0 : j ≠ 0 := by decide) (hj : j < (ρ1.set i .any).length := by simp [uns]) :
    Sm (tAsg (tOp (rIxL KF) (tOp rCat (tVar j) te) ti) (gName j)) ρ K := fun c A σ H D R f dk => by
  obtain ⟨_, u, e, b, vs, eu, eb, l, ek⟩ := R.sl j _ h5
  subst eu
  refine ⟨_, e, he c A σ H _ R f fun b2 us A1 H1 R1 f1 S1 e1 du => ?_⟩
  refine ⟨b, b2, vs, us, rfl, rfl, vw_sub _ _ (S1 _ _ eb), e1, by rw [l, du.length]; exact len, fun p hp => ?_⟩
  have R2 := R1.land.up (Same.new (o := .lst (vs ++ us)) hp)
  refine hi c _ σ _ _ R2 aset_at fun w A3 H3 R3 f3 S3 o3 => ?_
  obtain rfl := int_v o3
  have ep : H3 p = some (.lst (vs ++ us)) := vw_sub _ _ (S3 _ _ (new_view R1.land hp upd_same))
  have lt : k < vs.length := (List.getElem?_eq_some_iff.mp ek).1
  have at' : (vs ++ us)[k]? = some (.ref a) := by rw [List.getElem?_append_left lt]; exact ek
  obtain ⟨ws, e4, e5, dx⟩ := R3.sl i _ h6
  have R4 := R3.toFlG i0 h6 e4
  refine ⟨p, _, z, .ref a, rfl, rfl, SqL.of ep, ?_, dk.nx _ _ _ _ q (R4.setO (s := .la a xs) j0 hj aset_at fun W S => ⟨ws, rfl, rfl, e5, DnAll.mono ((vw_toFl e4).trans S) dx⟩) aset_at⟩
  subst ez
  exact at_of rfl at'
theorem sm_pick1 {z : Int} (h : Ew tr ρ i k m xs) (len : m ≤ sizeLine) (ρq : Addr → List Sl) (hi : ∀ a, Ev ti (ρ.set i (.wa a xs)) (.d (.int z)) (ρq a)) (h6 : ∀ a, (ρq a)[i]? = some (.wa a xs)) (ez : z = (k : Int)) (q : ∀ a, K.nx ((ρq a).set i (.la a xs))) :
    Sm (tAsg (tOp (rIxL KF) (tLst tr) ti) (gName i)) ρ K := fun c A σ H D R f dk =>
  h c A σ H _ R f fun a vs A1 H1 R1 f1 l e => ⟨by rw [l]; exact len, fun p hp => by
    have R2 := R1.up (Same.new (o := .lst vs) hp)
    refine hi a c _ σ _ _ R2 f1 fun w A3 H3 R3 f3 S3 o3 => ?_
    obtain rfl := int_v o3
    have ep : H3 p = some (.lst vs) := vw_sub _ _ (S3 _ _ (new_view R1 hp upd_same))
    refine ⟨p, vs, z, .ref a, rfl, rfl, SqL.of ep, ?_, dk.nx _ _ _ _ (q a) (R3.fillA (h6 a)) f3⟩
    subst ez
    exact at_of rfl e⟩
end
end OW
set_option Elab.async false
set_option linter.unusedVariables false
set_option linter.unusedSectionVars false
set_option maxRecDepth 100000
set_option maxHeartbeats 4000000
namespace KP
open PySem PySem.Spec PyProof.Rows L2 KA OW
/-! ### what is caught -/
abbrev sLawCaught : Stmt := top 63
abbrev nLawCaught : List Str := ["_law_way", "_law_row_here", "_law_number", "e"]
theorem scLawCaught : FnScope nLawCaught ["_law_way", "_law_row_here", "_law_number"] (defScope sLawCaught) := ⟨rfl, rfl, rfl, by decide +kernel, rfl, by decide +kernel, by decide +kernel⟩
def limW (way : Int) (fs : List (List PyData)) : Int := if way = 4 then 5 else lenM fs
def tCaught : List Sl → (Rv → Prop) → Prop := fun as Kr => ∃ (way : Int) (s1 s2 : Sl) (d : PyData) (wd : Str) (s : Sl), as = [.d (.int way), s1, s2] ∧ Isd s1 d ∧ ArgS s2 ∧ okT d ∧ 0 ≤ way ∧ way ≤ 4 ∧
  ((goodT d = false ∧ wd = "row" ∧ s = s1) ∨ (∃ x h es fs, s1 = .d (rwT x h es fs) ∧ RwOk x h es fs ∧ nodes (rwT x h es fs) ≤ 900000 ∧
    ((∃ z, Isd s2 z ∧ 2 ≤ way ∧ wholeB 0 (limW way fs) z = false ∧ wd = "number" ∧ s = s2) ∨ ((2 ≤ way → ∃ i : Nat, s2 = .d (.int (i : Int)) ∧ (i : Int) ≤ limW way fs) ∧ wd = "told" ∧ s = .d .none)))) ∧ Kr (.p (pairMo wd s))
structure FiveC (P : Program) (w : World) (K : PySem.W.Frag) (mg : Str → Option Value) (base : Heap) (C1 C2 : Addr) : Prop where
  ung : CalX P w K mg base 9 "ungrown" ["row"] (spX 1 fun as Kr X => tUngrown as Kr ∨ tWR2 C1 as X)
  ths : CalX P w K mg base 9 "thing_saying" ["row"] (spX 1 fun as Kr X => tThSay as Kr ∨ tWR2 C1 as X)
  own : CalX P w K mg base 10 "owns" ["row", "maker"] (spX 2 fun as Kr X => tOwnArgs as Kr ∨ tTwo2 C1 C2 lenM as X)
  mks : CalX P w K mg base 10 "maker_saying" ["row", "maker"] (spX 2 fun as Kr X => tMkSay as Kr ∨ tTwo2 C1 C2 lenM as X)
  eat : CalX P w K mg base 9 "eater_saying" ["row", "height"] (spX 2 fun as Kr X => tEat as Kr ∨ tTwo2 C1 C2 (fun _ => 5) as X)
section
variable {P : Program} {w : World} {K : PySem.W.Frag} {mg : Str → Option Value} {base : Heap} {C1 C2 U1 U2 fI1 fI2 : Addr} {fdI1 fdI2 : FuncData}
theorem ok_caught {f : Addr} {fd : FuncData} (F : Fun K "_law_caught" "_law_caught" sLawCaught f fd) (Z1 : NoX K mg "NoRow" "NoRow.__init__" sInitR C1 U1 fI1 fdI1) (Z2 : NoX K mg "NoNumber" "NoNumber.__init__" sInitN C2 U2 fI2 fdI2) (n21 : PySem.W.exmOne K (.ref C2) (.ref C1) = some false) (Y : FiveC P w K mg base C1 C2) :
    FnOk P w K mg base CX0 11 f fd ["_law_way", "_law_row_here", "_law_number"] (spD 3 tCaught) := by
  refine fn_d F scLawCaught (body := fun cdv A outer s H E hr => ⟨_, pss_one (KA.ps_try_asE (pss_one (ps_ret (pe_tup (pa_cons pe_str (pa_cons pe_non pa_nil))))) rfl rfl scLawCaught.nd
      (fun W pn xe tk _ => pss_one (ps_if (pt_cmpR op_eq (pv 0) pe_int (nomark _)) (pss_one (ps_expr (pe_x Y.ung tk hr (by decide) rfl (pa_cons (pv 1) pa_nil))))
        (pss_one (ps_if (pt_cmpR op_eq (pv 0) pe_int (nomark _)) (pss_one (ps_expr (pe_x Y.ths tk hr (by decide) rfl (pa_cons (pv 1) pa_nil))))
        (pss_one (ps_if (pt_cmpR op_eq (pv 0) pe_int (nomark _)) (pss_one (ps_expr (pe_x Y.own tk hr (by decide) rfl (pa_cons (pv 1) (pa_cons (pv 2) pa_nil)))))
        (pss_one (ps_if (pt_cmpR op_eq (pv 0) pe_int (nomark _)) (pss_one (ps_expr (pe_x Y.mks tk hr (by decide) rfl (pa_cons (pv 1) (pa_cons (pv 2) pa_nil)))))
        (pss_one (ps_expr (pe_x Y.eat tk hr (by decide) rfl (pa_cons (pv 1) (pa_cons (pv 2) pa_nil)))))))))))))
      (.cons ⟨rfl, by decide, .inl Z1.gC⟩ (i := 3) rfl rfl (fun a oe cls d pn hz hf => pss_one (ps_ret (pe_tup (pa_cons pe_str (pa_cons (pe_xf Z1.xf Z1.noF hz hf (pv 3)) pa_nil)))))
        (.cons ⟨rfl, by decide, .inl Z2.gC⟩ (i := 3) rfl rfl (fun a oe cls d pn hz hf => pss_one (ps_ret (pe_tup (pa_cons pe_str (pa_cons (pe_xf Z2.xf Z2.noF hz hf (pv 3)) pa_nil))))) .rest))), ?_⟩)
  rintro as Kr _ ⟨way, s1, s2, d, wd, sr, rfl, i1, i2, ok, w0, w4, hc, k⟩
  have et : ∀ {ρ : List Sl} {m n : Int}, ρ[0]? = some (.d (.int m)) → Et (tTest (tOp rEq (tVar 0) (tC (.int n)))) ρ (decide (m = n)) ρ := fun h0 => et_test (ev_op (ev_var h0) ev_int fv_eqI)
  rcases hc with ⟨bad, rfl, rfl⟩ | ⟨x, h, es, fs, rfl, rw_, hn, hc⟩
  · have t1 : tWR2 C1 [sr] fun C' s' => C' = C1 ∧ s' = sr := ⟨sr, d, rfl, i1, ok, bad, rfl, rfl⟩
    have t2 : ∀ lim, tTwo2 C1 C2 lim [sr, s2] fun C' s' => C' = C1 ∧ s' = sr := fun lim => ⟨sr, s2, d, rfl, i1, i2, ok, Or.inl ⟨bad, rfl, rfl⟩⟩
    refine sm_tryXE (i := 3) (C := C1) (s := sr) (ρ' := [.d (.int way), sr, s2, .un]) (fun W => ?_) (.here Z1.te) (by decide) (by decide) (fun a d => sm_retP (ev_pair (ev_found rfl)) k)
    exact rs_if (et rfl) (fun _ => rs_drop (re_call (es_cons (ev_varI rfl i1) es_nil) rfl (Or.inr t1))) (fun _ => rs_if (et rfl) (fun _ => rs_drop (re_call (es_cons (ev_varI rfl i1) es_nil) rfl (Or.inr t1))) (fun _ => rs_if (et rfl) (fun _ => rs_drop (re_call (es_cons (ev_varI rfl i1) (es_cons (ev_varG rfl i2) es_nil)) rfl (Or.inr (t2 _)))) (fun _ => rs_if (et rfl) (fun _ => rs_drop (re_call (es_cons (ev_varI rfl i1) (es_cons (ev_varG rfl i2) es_nil)) rfl (Or.inr (t2 _)))) (fun _ => rs_drop (re_call (es_cons (ev_varI rfl i1) (es_cons (ev_varG rfl i2) es_nil)) rfl (Or.inr (t2 _)))))))
  · rcases hc with ⟨z, iz, w2, bad, rfl, rfl⟩ | ⟨good, rfl, rfl⟩
    · have t2 : ∀ lim : List (List PyData) → Int, lim fs = limW way fs → tTwo2 C1 C2 lim [.d (rwT x h es fs), sr] fun C' s' => C' = C2 ∧ s' = sr := fun lim e => ⟨_, sr, d, rfl, i1, i2, ok, Or.inr ⟨x, h, es, fs, z, rfl, rw_, iz, by rw [e]; exact bad, rfl, rfl⟩⟩
      refine sm_tryXE (i := 3) (C := C2) (s := sr) (ρ' := [.d (.int way), .d (rwT x h es fs), sr, .un]) (fun W => ?_) (.next n21 (.here Z2.te)) (by decide) (by decide) (fun a d => sm_retP (ev_pair (ev_found rfl)) k)
      have a2 : Es (tCons (tVar 1) (tCons (tVar 2) tNil)) [.d (.int way), .d (rwT x h es fs), sr, .un] [.d (rwT x h es fs), sr] [.d (.int way), .d (rwT x h es fs), sr, .un] := es_cons (ev_varI rfl i1) (es_cons (ev_varG rfl i2) es_nil)
      exact rs_if (et rfl) (fun q => absurd (of_decide_eq_true q) (by omega)) (fun _ => rs_if (et rfl) (fun q => absurd (of_decide_eq_true q) (by omega)) (fun _ => rs_if (et rfl) (fun q => rs_drop (re_call a2 rfl (Or.inr (t2 _ (if_neg (by have := of_decide_eq_true q; omega) : limW way fs = lenM fs).symm)))) (fun _ => rs_if (et rfl) (fun q => rs_drop (re_call a2 rfl (Or.inr (t2 _ (if_neg (by have := of_decide_eq_true q; omega) : limW way fs = lenM fs).symm)))) (fun q => rs_drop (re_call a2 rfl (Or.inr (t2 _ (if_pos (by
        rename_i q0 q1 q2
        have := of_decide_eq_false q
        have := of_decide_eq_false q2
        have := of_decide_eq_false q1
        have := of_decide_eq_false q0
        omega) : limW way fs = 5).symm)))))))
    · refine sm_tryE (fun W => ?_)
      have fin : Sm (tRet (tTup (tCons (tC (.str "told")) (tCons (tC .non) tNil)))) [.d (.int way), .d (rwT x h es fs), s2, .un] { nx := fun _ => Kr (.d .none), rt := fun r _ => Kr r } := sm_retP (ev_pair ev_non) k
      refine sm_if (et rfl) (fun _ => sm_drop (ev_callX (x := headD (candM x es.length fs)) (es_cons (ev_var rfl) es_nil) rfl (Or.inl ⟨x, h, es, fs, rfl, rw_, rfl⟩)) fin) (fun q0 => sm_if (et rfl) (fun _ => sm_drop (ev_callX (x := thSay h es) (es_cons (ev_var rfl) es_nil) rfl (Or.inl ⟨x, h, es, fs, rfl, rw_, rfl⟩)) fin) (fun q1 => ?_))
      obtain ⟨i, rfl, il⟩ := good (by have := of_decide_eq_false q0; have := of_decide_eq_false q1; omega)
      have gs : ∀ (e : limW way fs = lenM fs), ∃ gs, fs[i]? = some gs := fun e => by
        rw [e] at il
        exact ⟨_, List.getElem?_eq_getElem (by unfold lenM at il; omega)⟩
      refine sm_if (et rfl) (fun q => ?_) (fun q2 => sm_if (et rfl) (fun q => ?_) (fun q3 => ?_))
      · obtain ⟨g, hg⟩ := gs (if_neg (by have := of_decide_eq_true q; omega))
        exact sm_drop (Ev.of_el (el_callX (es_cons (ev_var rfl) (es_cons (ev_var rfl) es_nil)) rfl (Or.inl ⟨x, h, es, fs, i, g, rfl, rw_, hg, rfl⟩))) fin
      · obtain ⟨g, hg⟩ := gs (if_neg (by have := of_decide_eq_true q; omega))
        exact sm_drop (ev_callX (x := mkSay x es g) (es_cons (ev_var rfl) (es_cons (ev_var rfl) es_nil)) rfl (Or.inl ⟨x, h, es, fs, i, g, rfl, rw_, hg, rfl⟩)) fin
      · have e5 : limW way fs = 5 := if_pos (by
          have := of_decide_eq_false q0
          have := of_decide_eq_false q1
          have := of_decide_eq_false q2
          have := of_decide_eq_false q3
          omega)
        rw [e5] at il
        exact sm_drop (ev_callX (x := eatD x es fs (i : Int)) (es_cons (ev_var rfl) (es_cons (ev_var rfl) es_nil)) rfl (Or.inl ⟨x, h, es, fs, (i : Int), rfl, rw_, hn, by omega, il, rfl⟩)) fin
end
end KP
set_option Elab.async false
set_option linter.unusedVariables false
set_option linter.unusedSectionVars false
set_option maxRecDepth 100000
set_option maxHeartbeats 1000000
namespace OW
open PySem PySem.Spec PyProof.Rows L2 KA
variable [Tbs]
/-! ### calls by the arguments' names, in any order, with defaults in between -/
def pm {α : Type} (idx : List Nat) (l : List α) : List α := idx.filterMap fun i => l[i]?
theorem vals_get : ∀ {vs : List V} {us : List Value} (i : Nat), Vals vs us → (vs[i]? = none ∧ us[i]? = none) ∨ ∃ v u, vs[i]? = some v ∧ us[i]? = some u ∧ RelV v u
  | _, _, _, .nil => Or.inl ⟨rfl, rfl⟩
  | _, _, 0, .cons r _ => Or.inr ⟨_, _, rfl, rfl, r⟩
  | _, _, i + 1, .cons _ t => vals_get i t
theorem pm_vals {vs : List V} {us : List Value} (h : Vals vs us) : ∀ idx : List Nat, Vals (pm idx vs) (pm idx us)
  | [] => .nil
  | i :: idx => by
    have ih := pm_vals h idx
    unfold pm at ih ⊢
    rw [List.filterMap_cons, List.filterMap_cons]
    rcases vals_get i h with ⟨e1, e2⟩ | ⟨v, u, e1, e2, r⟩
    · rw [e1, e2]
      exact ih
    · rw [e1, e2]
      exact .cons r ih
theorem ar_get {W : Hp} : ∀ {vs : List V} {ss : List Sl} (i : Nat), ArAll W vs ss → (vs[i]? = none ∧ ss[i]? = none) ∨ ∃ v s, vs[i]? = some v ∧ ss[i]? = some s ∧ ArOk W v s
  | [], [], _, _ => Or.inl ⟨rfl, rfl⟩
  | v :: _, s :: _, 0, h => Or.inr ⟨v, s, rfl, rfl, h.1⟩
  | _ :: vs, _ :: ss, i + 1, h => ar_get (vs := vs) (ss := ss) i h.2
  | [], _ :: _, _, h => h.elim
  | _ :: _, [], _, h => h.elim
theorem pm_ar {W : Hp} {vs : List V} {ss : List Sl} (h : ArAll W vs ss) : ∀ idx : List Nat, ArAll W (pm idx vs) (pm idx ss)
  | [] => trivial
  | i :: idx => by
    have ih := pm_ar h idx
    unfold pm at ih ⊢
    rw [List.filterMap_cons, List.filterMap_cons]
    rcases ar_get i h with ⟨e1, e2⟩ | ⟨v, s, e1, e2, r⟩
    · rw [e1, e2]
      exact ih
    · rw [e1, e2]
      exact ⟨r, ih⟩
theorem vals_app {vs ws : List V} {us zs : List Value} (h : Vals vs us) (g : Vals ws zs) : Vals (vs ++ ws) (us ++ zs) := h.append g
abbrev gN {α : Type} (idx : List Nat) (ds : List α) : List α → List α → List α := fun us ws => pm idx (us ++ (ds ++ ws))
structure CalN (P : Program) (w : World) (K : PySem.W.Frag) (mg : Str → Option Value) (base : Heap) (k : Nat) (x : Str) (n : Nat) (ks : List Str) (idx : List Nat) (dvs : List V) (sp : Sp) : Prop where
  ex : ∃ (f : Addr) (fd : FuncData) (ps : List Str) (its : List Value), FnOk P w K mg base CX0 k f fd ps sp ∧ mg x = some (.ref f) ∧ PySem.W.keepIn K (.ref f) = true ∧ KBn K fd ps n ks (gN idx its) (gN idx dvs)
section
variable {X : Cx} {k j n : Nat} {ks : List Str} {idx : List Nat} {dvs : List V} {sp : Sp} {x : Str} {p pos : Pos} {kws : List Keyword} {e : Expr} {es : List Expr} {t tk : TA}
theorem pe_n0 (c : CalN X.prog X.w X.K X.mg X.base k x 0 ks idx dvs sp) (hr : Room j X.A) (hk : k ≤ j) (hg : Gl X x)
    (hkw : PK X kws tk) (hall : (backToKw pos (keywordEach kws X.env)).all (·.1.isSome) = true := by rfl) (hks : (backToKw pos (keywordEach kws X.env)).filterMap (·.1) = ks := by rfl)
    (hdb : (x == ("__debug__" : Str)) = false := by decide) (hpl : ((backTo pos (starEach [] X.env)).any (·.1) || (backToKw pos (keywordEach kws X.env)).any (·.1.isNone)) = false := by rfl) :
    PE X (.Call (.Name x p) [] kws pos) (tCallN 0 ks.length sp (gN idx dvs) C8.E0 tNil tk) := by
  obtain ⟨f, fd, ps, its, F, hm, kp, hb⟩ := c.ex
  refine ⟨fun pins s σ H Q I h => ?_⟩
  have h : tk σ H fun zs H2 => ([] : List V).length = 0 ∧ zs.length = ks.length ∧ sp (gN idx dvs [] zs) H2 Q C8.E0 := h
  refine wpAny_Call_Name_kw (ld_glob I hg hm ?_ hdb)
  refine PySem.W.callWith_KW0 (h₀ := X.base) I.ok.mod.kin kp hall (thn (hkw.run pos pins s σ H _ I h) fun ws s2 ⟨zs, H2, I2, rz, l1, l2, q2⟩ => ⟨I2.kIn, ?_⟩) hpl
  rw [hks]
  exact run_fnN (us := []) (vs := []) F (hr.mono hk) hb pass0 I2 .nil rz l1 l2 q2
theorem pe_n (c : CalN X.prog X.w X.K X.mg X.base k x n ks idx dvs sp) (hr : Room j X.A) (hk : k ≤ j) (hg : Gl X x) (ha : PA X (e :: es) t)
    (hkw : PK X kws tk) (hall : (backToKw pos (keywordEach kws X.env)).all (·.1.isSome) = true := by rfl) (hks : (backToKw pos (keywordEach kws X.env)).filterMap (·.1) = ks := by rfl)
    (hdb : (x == ("__debug__" : Str)) = false := by decide) (he : starEach (e :: es) X.env = (false, eval e X.env) :: starEach es X.env := by rfl)
    (hpl : ((backTo pos (starEach (e :: es) X.env)).any (·.1) || (backToKw pos (keywordEach kws X.env)).any (·.1.isNone)) = false := by rfl) :
    PE X (.Call (.Name x p) (e :: es) kws pos) (tCallN n ks.length sp (gN idx dvs) C8.E0 t tk) := by
  obtain ⟨f, fd, ps, its, F, hm, kp, hb⟩ := c.ex
  exact pe_callN F (hr.mono hk) hg hm kp hb pass0 ha hkw hall hks hdb he hpl
end
section
variable {P : Program} {w : World} {K : PySem.W.Frag} {mg : Str → Option Value} {base : Heap} {x qual : Str} {st : Stmt} {f : Addr} {fd : FuncData} {k n : Nat} {ps ks : List Str} {idx : List Nat} {sp : Sp}
theorem kbn_of (F : Fun K x qual st f fd) (h : ∀ (kV doc pm' : Value) (an : Option Addr) (cdv ct : Value) (us ws : List Value), us.length = n → ws.length = ks.length → bindArgs (PySem.W.fnOf x qual (defArgs st) (defBody st) (defScope st) .none kV doc pm' an cdv ct) ⟨us, ks.zip ws⟩ = pure (ps.zip (gN idx [] us ws))) :
    KBn K fd ps n ks (gN idx []) (gN idx []) := by
  obtain ⟨oc, od, kV, doc, pm', an, cdv, ct, osl, rfl, lk, hcd⟩ := F.ex
  exact ⟨fun s us ws _ l1 l2 => .of_eq (h kV doc pm' an cdv ct us ws l1 l2), fun r1 r2 => pm_vals (vals_app r1 (vals_app .nil r2)) _⟩
theorem kbn_d {params : Arguments} {body : List Stmt} {scope : Scope} {dvs : List V} {kws : List (Str × V)} (F : FunD K x qual params body scope dvs kws f fd) (hd : dvs ≠ [])
    (h : ∀ (T : Addr) (kV doc pm' : Value) (an : Option Addr) (cdv ct : Value) (us its ws : List Value), us.length = n → its.length = dvs.length → ws.length = ks.length →
      ∃ k, bindArgs (PySem.W.fnOf x qual params body scope (.ref T) kV doc pm' an cdv ct) ⟨us, ks.zip ws⟩ = seqItems? (.ref T) >>= k ∧ k (some its.toArray) = pure (ps.zip (gN idx its us ws))) :
    ∃ its, KBn K fd ps n ks (gN idx its) (gN idx dvs) :=
  F.kbindsD n ks (fun us ds ws => pm idx (us ++ (ds ++ ws))) hd (fun r1 r2 r3 => pm_vals (vals_app r1 (vals_app r2 r3)) _) h
end
section
variable {ρ ρ1 ρ' : List Sl} {t tk : TA} {ss zs ds : List Sl} {x : PyData} {xs : List PyData} {idx : List Nat} {dvs : List V} {n m k : Nat} {E : XK} {T : List Sl → (Rv → Prop) → Prop}
theorem ev_n (h : Es t ρ ss ρ1) (hk : Es tk ρ1 zs ρ') (hd : ∀ W, ArAll W dvs ds) (l1 : ss.length = n) (l2 : zs.length = m) (hn : (gN idx ds ss zs).length = k) (g : T (gN idx ds ss zs) fun r => r = .d x) : Ev (tCallN n m (spD k T) (gN idx dvs) E t tk) ρ (.d x) ρ' := fun c A σ H Q R f q =>
  h c A σ H _ R f fun vs A1 H1 R1 f1 S1 o1 => hk c A1 σ H1 _ R1 f1 fun us A2 H2 R2 f2 S2 o2 => by
    refine ⟨o1.length.trans l1, o2.length.trans l2, zz c.Z A2, gN idx ds ss zs, _, zz_ok R2, by rw [hz_eq]; exact pm_ar ((o1.mono S2).append ((hd _).append o2)) _, hn, g, fun r v H' hr S o => ?_⟩
    subst hr
    have o : Dn (hz (zz c.Z A2) H') v x := o
    rw [hz_eq] at o
    exact q v A2 H' (R2.upA S) f2 ((S1.trans S2).trans (vw_upA R2 S)) o
theorem el_n (h : Es t ρ ss ρ1) (hk : Es tk ρ1 zs ρ') (hd : ∀ W, ArAll W dvs ds) (l1 : ss.length = n) (l2 : zs.length = m) (hn : (gN idx ds ss zs).length = k) (g : T (gN idx ds ss zs) fun r => r = .l xs) : El (tCallN n m (spD k T) (gN idx dvs) E t tk) ρ xs ρ' := fun c A σ H Q R f q =>
  h c A σ H _ R f fun vs A1 H1 R1 f1 S1 o1 => hk c A1 σ H1 _ R1 f1 fun us A2 H2 R2 f2 S2 o2 => by
    refine ⟨o1.length.trans l1, o2.length.trans l2, zz c.Z A2, gN idx ds ss zs, _, zz_ok R2, by rw [hz_eq]; exact pm_ar ((o1.mono S2).append ((hd _).append o2)) _, hn, g, fun r v H' hr S o => ?_⟩
    subst hr
    obtain ⟨a, us', rfl, n', e, dx⟩ := o
    rw [hz_eq] at dx
    refine q a us' _ H' (R2.adopt S n' e) aset_at ((S1.trans S2).trans ?_) e (DnAll.mono vw_adopt dx)
    exact fun b o z => vw_adopt (A := A2) b o (by rw [hid_ne (ne_of_none (vw_some z).2.2 n')]; exact vw_upA R2 S _ _ z)
end
end OW
set_option Elab.async false
set_option linter.unusedVariables false
set_option linter.unusedSectionVars false
set_option maxRecDepth 100000
set_option maxHeartbeats 2000000
namespace OW
open PySem PySem.Spec PyProof.Rows L2 KA
variable [Tbs]
/-! ### a def that is handed a list at a known address, and changes it -/
def spA (n : Nat) (T : Addr → List PyData → List Sl → (Rv → List PyData → Prop) → Prop) : Sp := fun vs H Q _ => ∃ (Z : Addr → Prop) (p : Addr) (cs : List V) (ct : List PyData) (as : List Sl) (K : Rv → List PyData → Prop), Z p ∧ ZOk Z H ∧ H p = some (.lst cs) ∧ DnAll (hz Z H) cs ct ∧ ArAll (hz Z H) vs as ∧ as.length = n ∧ T p ct as K ∧
  ∀ r c' cs' v H', K r c' → H' p = some (.lst cs') → DnAll (hz Z H') cs' c' → ((∀ a, Z a → a ≠ p → ¬ tabA a → H' a = H a) ∧ Tb (hz Z H') H') → Same (hz Z H) (hz Z H') → RvOk Z H H' v r → Q v H'
section
variable {c : Fr} {A : Am} {ρ ρ' ρ1 ρ2 : List Sl} {σ : L2.St} {H H' : Hp}
theorem rp_startA {N : List Str} {vs cs : List V} {ct : List PyData} {as : List Sl} {n j : Nat} {Z : Addr → Prop} {p : Addr} (hN : n + N.length < fl) (hp : Z p) (hZ : ZOk Z H) (ep : H p = some (.lst cs)) (dc : DnAll (hz Z H) cs ct) (ha : ArAll (hz Z H) vs as) (hl : as.length = n) (hj : as[j]? = some (.p (isV (.ref p)))) :
    Rp ⟨fun a => Z a ∧ a ≠ p, none, H, hz Z H⟩ (aset (fun _ => none) j (some p)) ((as ++ uns (N.length - n)).set j (.la p ct)) (start N vs) H := by
  have R := rp_start (N := N) (n := n) (Z := Z) hN hZ ha hl
  have hv : vw (fun a => Z a ∧ a ≠ p) (aset (fun _ => none) j (some p)) H = hz Z H := by
    funext b
    by_cases z : Z b
    · have e2 : hz Z H b = none := by unfold hz vw; rw [if_pos (Or.inl z)]
      rw [e2]
      unfold vw
      rw [if_pos]
      by_cases q : b = p
      · exact Or.inr ⟨j, by rw [q]; exact aset_at⟩
      · exact Or.inl ⟨z, q⟩
    · have e2 : hz Z H b = H b := by
        unfold hz vw
        rw [if_neg]
        rintro (q | ⟨i, q⟩)
        · exact z q
        · cases q
      rw [e2]
      unfold vw
      rw [if_neg]
      rintro (q | ⟨i, q⟩)
      · exact z q.1
      · by_cases i0 : i = j
        · rw [i0, aset_at] at q
          cases q
          exact z hp
        · rw [aset_ne i0] at q
          cases q
  have one : ∀ {i : Nat} {a : Addr}, aset (fun _ => none) j (some p) i = some a → i = j ∧ a = p := fun {i a} q => by
    by_cases i0 : i = j
    · rw [i0, aset_at] at q
      exact ⟨i0, (Option.some.inj q).symm⟩
    · rw [aset_ne i0] at q
      cases q
  have tp : ∀ b, tabA b → b ≠ p := fun b t q => by
    obtain ⟨ps, g⟩ := hZ.tb.at_ t
    rw [q, ep] at g
    cases g
  have jl : j < (as ++ uns (N.length - n)).length := by
    have := (List.getElem?_eq_some_iff.mp hj).1
    rw [List.length_append]
    omega
  refine ⟨by rw [List.length_set]; exact R.len, by rw [List.length_set]; exact R.sz, ?_, ?_, ?_, ?_, by rw [hv]; exact Same.refl _, (fun q e => by cases e), ?_, fun b t => ⟨hZ.tz b t, tp b t⟩, by rw [hv]; exact hZ.tb⟩
  · intro i j a e e'
    rw [(one e).1, (one e').1]
  · intro i a e z
    exact z.2 (one e).2
  · intro i a e
    rw [(one e).2, ep]
    simp
  · intro a z _
    exact ⟨hZ.there a z.1, rfl⟩
  · intro i s e
    rw [hv]
    have hv0 : vw Z (fun _ => none) H = hz Z H := rfl
    by_cases q : i = j
    · subst q
      rw [List.getElem?_set_self jl] at e
      cases e
      have e0 : (as ++ uns (N.length - n))[i]? = some (.p (isV (.ref p))) := by
        rw [List.getElem?_append_left (List.getElem?_eq_some_iff.mp hj).1]
        exact hj
      obtain ⟨_, v, e1, hv1⟩ := R.sl i _ e0
      obtain rfl := isv_v hv1
      exact ⟨cs, aset_at, e1, ep, dc⟩
    · rw [List.getElem?_set_ne (fun z => q z.symm)] at e
      rw [aset_ne q]
      exact R.sl i s e
/-- the list comes back changed -/
theorem Rp.backA (R : Rp c A ρ σ H) {i : Nat} {p : Addr} {c0 c1 : List PyData} {cs : List V} (h : ρ[i]? = some (.la p c0) ∨ ρ[i]? = some (.wa p c0)) (e : A i = some p) (e' : H' p = some (.lst cs)) (dx : DnAll (hz (zz c.Z A) H') cs c1) (hz' : (∀ a, zz c.Z A a → a ≠ p → ¬ tabA a → H' a = H a) ∧ Tb (hz (zz c.Z A) H') H') (S : Same (hz (zz c.Z A) H) (hz (zz c.Z A) H')) :
    Rp c A (ρ.set i (match ρ[i]? with | some (.la _ _) => .la p c1 | _ => .wa p c1)) σ H' := by
  have ev : vw c.Z A (fun b => if b = p then H p else H' b) = vw c.Z A H' := by
    funext b
    unfold vw
    split
    · rfl
    · rename_i q
      have : b ≠ p := fun z => q (Or.inr ⟨i, z ▸ e⟩)
      exact if_neg this
  have S2 : Aft (zz c.Z A) H (fun b => if b = p then H p else H' b) := by
    refine ⟨fun b o z t => ?_, ?_⟩
    · show (if b = p then H p else H' b) = some o
      by_cases q : b = p
      · rw [if_pos q, ← q]
        exact z
      · rw [if_neg q]
        by_cases q' : zz c.Z A b
        · rw [hz'.1 b q' q t]
          exact z
        · exact (hz_some (S _ _ (hz_mk q' z))).2
    · have t := hz'.2
      rw [hz_eq] at t ⊢
      rw [ev]
      exact t.mono (Same.refl _) fun b hb => if_neg (show ¬ b = p from fun q => R.nt e (q ▸ hb))
  have R2 := R.upA S2
  have hi : i < ρ.length := by rcases h with h | h <;> exact (List.getElem?_eq_some_iff.mp h).1
  have R3 := R2.mutO (s := (match ρ[i]? with | some (.la _ _) => Sl.la p c1 | _ => Sl.wa p c1)) (o := .lst cs) hi e (fun H2 h2 => by
    rcases h with h | h
    · rw [h]
      obtain ⟨vs, e1, e2, _, _⟩ := R.sl i _ h
      exact ⟨cs, rfl, e2, h2, by rw [ev, ← hz_eq]; exact dx⟩
    · rw [h]
      exact ⟨cs, rfl, h2, by rw [ev, ← hz_eq]; exact dx⟩)
  have e3 : upd (fun b => if b = p then H p else H' b) p (.lst cs) = H' := by
    funext b
    by_cases q : b = p
    · rw [q, upd_same, e']
    · rw [upd_ne q]
      exact if_neg q
  rw [e3] at R3
  exact R3
theorem ev_varA {i : Nat} {a : Addr} {xs : List PyData} (h : ρ[i]? = some (.la a xs)) : Ev (tVar i) ρ (.p (isV (.ref a))) ρ := fun c A σ H Q R f q => by
  obtain ⟨vs, e, e1, e2, dx⟩ := R.sl i _ h
  exact ⟨_, e1, q _ A H R f (Same.refl _) rfl⟩
theorem ev_callAl {n i : Nat} {p : Addr} {c0 c1 : List PyData} {x : PyData} {ss : List Sl} {tr : TA} {E : XK} {T : Addr → List PyData → List Sl → (Rv → List PyData → Prop) → Prop} (h : Es tr ρ ss ρ1) (hi : ρ1[i]? = some (.la p c0)) (hn : ss.length = n) (g : T p c0 ss fun r c' => r = .d x ∧ c' = c1) :
    Ev (tCall (spA n T) [] E tr) ρ (.d x) (ρ1.set i (.la p c1)) := fun c A σ H Q R f q =>
  h c A σ H _ R f fun vs A1 H1 R1 f1 S1 o1 => by
    obtain ⟨cs, ep, e1, eH, dc⟩ := R1.sl i _ hi
    refine ⟨zz c.Z A1, p, cs, c0, ss, _, Or.inr ⟨i, ep⟩, zz_ok R1, eH, by rw [hz_eq]; exact dc, by rw [hz_eq, List.append_nil]; exact o1, hn, g, fun r c' cs' v H' hr e' dc' k S o => ?_⟩
    obtain ⟨rfl, rfl⟩ := hr
    have o : Dn (hz (zz c.Z A1) H') v x := o
    have R2 := R1.backA (Or.inl hi) ep e' dc' k S
    rw [hi] at R2
    rw [hz_eq] at o
    exact q v A1 H' R2 f1 (S1.trans (vw_back S)) o
theorem ev_callAw {n i : Nat} {p : Addr} {c0 c1 : List PyData} {x : PyData} {ss : List Sl} {tr : TA} {E : XK} {T : Addr → List PyData → List Sl → (Rv → List PyData → Prop) → Prop} (h : Es tr ρ ss ρ1) (hi : ρ1[i]? = some (.wa p c0)) (hn : ss.length = n) (g : T p c0 ss fun r c' => r = .d x ∧ c' = c1) :
    Ev (tCall (spA n T) [] E tr) ρ (.d x) (ρ1.set i (.wa p c1)) := fun c A σ H Q R f q =>
  h c A σ H _ R f fun vs A1 H1 R1 f1 S1 o1 => by
    obtain ⟨cs, ep, eH, dc⟩ := R1.sl i _ hi
    refine ⟨zz c.Z A1, p, cs, c0, ss, _, Or.inr ⟨i, ep⟩, zz_ok R1, eH, by rw [hz_eq]; exact dc, by rw [hz_eq, List.append_nil]; exact o1, hn, g, fun r c' cs' v H' hr e' dc' k S o => ?_⟩
    obtain ⟨rfl, rfl⟩ := hr
    have o : Dn (hz (zz c.Z A1) H') v x := o
    have R2 := R1.backA (Or.inr hi) ep e' dc' k S
    rw [hi] at R2
    rw [hz_eq] at o
    exact q v A1 H' R2 f1 (S1.trans (vw_back S)) o
end
section
variable {P : Program} {w : World} {K : PySem.W.Frag} {mg : Str → Option Value} {base : Heap}
theorem fn_aG {x qual : Str} {st : Stmt} {f : Addr} {fd : FuncData} {N ps : List Str} {k n : Nat} {T : Addr → List PyData → List Sl → (Rv → List PyData → Prop) → Prop} (j : Nat) (F : Fun K x qual st f fd) (S : FnScope N ps (defScope st)) (hj : ∀ p ct as Kr, T p ct as Kr → as[j]? = some (.p (isV (.ref p)))) (hn : ps.length = n := by rfl) (hN : n + N.length < fl := by decide)
    (body : ∀ (cdv : Value) (A : Around) (outer : List Env) (s : Shared) (H : Hp) (E : XK), A.guards = some [] → Room k (A.deeper (envOfC qual (defScope st) s.heap.objs.size f cdv)) →
      ∃ t, PSs (cxOf CX0 P w K mg base N qual (defScope st) f cdv A outer s H E) (defBody st) t ∧ ∀ p ct as Kr, as.length = n → T p ct as Kr →
        Sm t ((as ++ uns (N.length - n)).set j (.la p ct)) { nx := fun ρ => ∃ c', ρ[j]? = some (.la p c') ∧ Kr (.d .none) c', rt := fun r ρ => ∃ c', ρ[j]? = some (.la p c') ∧ Kr r c' }) :
    FnG P w K mg base CX0 (k + 1) f fd ps (spA n T) := by
  refine fnG F S (fun vs H Q E h => ?_) (fun cdv A outer s H vs Q E g hr h => ?_)
  · obtain ⟨Z, p, cs, ct, as, Kr, hp, hZ, ep, dc, ha, hl, _⟩ := h
    rw [ha.length, hl, hn]
  · obtain ⟨Z, p, cs, ct, as, Kr, hp, hZ, ep, dc, ha, hl, hT, go⟩ := h
    obtain ⟨t, ht, hb⟩ := body cdv A outer s H E g hr
    have hjp := hj _ _ _ _ hT
    have jn : j < n := by rw [← hl]; exact (List.getElem?_eq_some_iff.mp hjp).1
    refine ⟨t, ht, hb p ct as Kr hl hT ⟨fun a => Z a ∧ a ≠ p, none, H, hz Z H⟩ _ _ H _ (rp_startA hN hp hZ ep dc ha hl hjp) (by rw [aset_ne (by omega)]) ?_⟩
    have fin : ∀ {A' : Am} {ρ' : List Sl} {σ' : L2.St} {H' : Hp} {c' : List PyData} {r : Rv} {v : V}, Rp ⟨fun a => Z a ∧ a ≠ p, none, H, hz Z H⟩ A' ρ' σ' H' → ρ'[j]? = some (.la p c') → Kr r c' → RvAt ⟨fun a => Z a ∧ a ≠ p, none, H, hz Z H⟩ A' H' v r → Q v H' := by
      intro A' ρ' σ' H' c' r v R h0 hk o
      obtain ⟨cs', e1, e2, e3, dc'⟩ := R.sl j _ h0
      have up : Same (vw (fun b => Z b ∧ b ≠ p) A' H') (hz Z H') := fun b u e => by
        obtain ⟨h1, h2, h3⟩ := vw_some e
        refine hz_mk (fun z => h1 ⟨z, fun q => h2 j (by rw [q]; exact e1)⟩) h3
      refine go r c' cs' v H' hk e3 (DnAll.mono up dc') ⟨fun b z n t => (R.keep b ⟨z, n⟩ t).2, R.tb.mono up fun _ _ => rfl⟩ (fun b u e => up _ _ (R.old _ _ e)) ?_
      refine rv_out (fun b u e nz _ => R.old _ _ (hz_mk nz e)) (fun b z => ?_) R.inj R.off R.bor o
      by_cases q : b = p
      · exact Or.inr ⟨j, by omega, by rw [q]; exact e1⟩
      · exact Or.inl ⟨z, q⟩
    refine ⟨fun ρ' A' σ' H' hk R f => ?_, fun r ρ' v A' σ' H' hk R o => ?_, fun _ _ _ _ h => h.elim, fun _ _ _ _ h => h.elim⟩
    · obtain ⟨c', h0, hk⟩ := hk
      exact fin R h0 hk ⟨f, .non⟩
    · obtain ⟨c', h0, hk⟩ := hk
      exact fin R h0 hk o
end
end OW
set_option Elab.async false
set_option linter.unusedVariables false
set_option linter.unusedSectionVars false
set_option maxRecDepth 100000
set_option maxHeartbeats 2000000
namespace OW
open PySem PySem.Spec PyProof.Rows L2 KA
variable [Tbs]
/-! ### a def that is handed data, or a list at a known address -/
def spU (n : Nat) (T1 : List Sl → (Rv → Prop) → Prop) (T2 : Addr → List PyData → List Sl → (Rv → List PyData → Prop) → Prop) : Sp := fun vs H Q E => spD n T1 vs H Q E ∨ spA n T2 vs H Q E
theorem FnG.orU {P : Program} {w : World} {K : PySem.W.Frag} {mg : Str → Option Value} {base : Heap} {k n : Nat} {f : Addr} {fd : FuncData} {ps : List Str} {T1 : List Sl → (Rv → Prop) → Prop} {T2 : Addr → List PyData → List Sl → (Rv → List PyData → Prop) → Prop}
    (F1 : FnG P w K mg base CX0 k f fd ps (spD n T1)) (F2 : FnG P w K mg base CX0 k f fd ps (spA n T2)) : FnG P w K mg base CX0 k f fd ps (spU n T1 T2) := by
  refine ⟨fun vs H Q E h => h.elim (F1.len vs H Q E) (F2.len vs H Q E), fun A outer s H args us vs Q E g hr e0 bt rv h => ?_⟩
  rcases h with h | h
  · exact F1.run A outer s H args us vs Q E g hr e0 bt rv h
  · exact F2.run A outer s H args us vs Q E g hr e0 bt rv h
section
variable {c : Fr} {A : Am} {ρ ρ' ρ1 ρ2 : List Sl} {σ : L2.St} {H H' : Hp} {te ta tb ti : TE} {s : Sl} {x : PyData} {i j k n : Nat} {tr : TA} {xs : List PyData} {ss : List Sl} {K : KK} {a p : Addr} {KF : PySem.W.Frag} {c0 c1 : List PyData} {E : XK}
  {T1 : List Sl → (Rv → Prop) → Prop} {T2 : Addr → List PyData → List Sl → (Rv → List PyData → Prop) → Prop}
theorem ev_callU (h : Es tr ρ ss ρ') (hn : ss.length = n) (g : T1 ss fun r => r = .d x) : Ev (tCall (spU n T1 T2) [] E tr) ρ (.d x) ρ' := fun c A σ H Q R f q =>
  h c A σ H _ R f fun vs A1 H1 R1 f1 S1 o1 => by
    refine Or.inl ⟨zz c.Z A1, ss, _, zz_ok R1, by rw [hz_eq, List.append_nil]; exact o1, hn, g, fun r v H' hr S o => ?_⟩
    subst hr
    have o : Dn (hz (zz c.Z A1) H') v x := o
    rw [hz_eq] at o
    exact q v A1 H' (R1.upA S) f1 (S1.trans (vw_upA R1 S)) o
theorem ev_callUl (h : Es tr ρ ss ρ1) (hi : ρ1[i]? = some (.la p c0)) (hn : ss.length = n) (g : T2 p c0 ss fun r c' => r = .d x ∧ c' = c1) :
    Ev (tCall (spU n T1 T2) [] E tr) ρ (.d x) (ρ1.set i (.la p c1)) := fun c A σ H Q R f q =>
  h c A σ H _ R f fun vs A1 H1 R1 f1 S1 o1 => by
    obtain ⟨cs, ep, e1, eH, dc⟩ := R1.sl i _ hi
    refine Or.inr ⟨zz c.Z A1, p, cs, c0, ss, _, Or.inr ⟨i, ep⟩, zz_ok R1, eH, by rw [hz_eq]; exact dc, by rw [hz_eq, List.append_nil]; exact o1, hn, g, fun r c' cs' v H' hr e' dc' k S o => ?_⟩
    obtain ⟨rfl, rfl⟩ := hr
    have o : Dn (hz (zz c.Z A1) H') v x := o
    have R2 := R1.backA (Or.inl hi) ep e' dc' k S
    rw [hi] at R2
    rw [hz_eq] at o
    exact q v A1 H' R2 f1 (S1.trans (vw_back S)) o
theorem ev_callUw (h : Es tr ρ ss ρ1) (hi : ρ1[i]? = some (.wa p c0)) (hn : ss.length = n) (g : T2 p c0 ss fun r c' => r = .d x ∧ c' = c1) :
    Ev (tCall (spU n T1 T2) [] E tr) ρ (.d x) (ρ1.set i (.wa p c1)) := fun c A σ H Q R f q =>
  h c A σ H _ R f fun vs A1 H1 R1 f1 S1 o1 => by
    obtain ⟨cs, ep, eH, dc⟩ := R1.sl i _ hi
    refine Or.inr ⟨zz c.Z A1, p, cs, c0, ss, _, Or.inr ⟨i, ep⟩, zz_ok R1, eH, by rw [hz_eq]; exact dc, by rw [hz_eq, List.append_nil]; exact o1, hn, g, fun r c' cs' v H' hr e' dc' k S o => ?_⟩
    obtain ⟨rfl, rfl⟩ := hr
    have o : Dn (hz (zz c.Z A1) H') v x := o
    have R2 := R1.backA (Or.inr hi) ep e' dc' k S
    rw [hi] at R2
    rw [hz_eq] at o
    exact q v A1 H' R2 f1 (S1.trans (vw_back S)) o
/-- such a list gets a text put behind -/
theorem sm_appS {z : Str} (h0 : ρ[k]? = some (.la a xs)) (len : xs.length < sizeLine) (q : K.nx (ρ.set k (.la a (xs ++ [.str z])))) : Sm (tDrop (tBM KF "list" rAppend (tVar k) (tCons (tC (.str z)) tNil))) ρ K := fun c A σ H D R f dk => by
  obtain ⟨vs, e, e1, e2, dx⟩ := R.sl k _ h0
  exact ⟨_, e1, Or.inl ⟨rfl, vs, SqL.of e2⟩, a, vs, .str z, rfl, rfl, e2, by rw [dx.length]; exact len, dk.nx _ _ _ _ q (R.mutA h0 (dx.snoc (.str z))) f⟩
theorem ev_prB {b : Bool} (h : ∀ (c : Fr) (A : Am) (σ : L2.St) (H : Hp), Rp c A ρ σ H → Pr te σ H (.d (.bool b))) : Ev te ρ (.d (.bool b)) ρ := fun c A σ H Q R f q =>
  h c A σ H R H (Same.refl _) _ fun v H2 S o => by
    obtain rfl := bool_v o
    exact q _ A H2 (R.up S) f (vw_up S) (.bl b)
/-! ### a display with new lists, for each of which a slot is kept -/
def EsX (ta : TA) (ρ : List Sl) (G : List Sl → List Sl → Prop) : Prop := ∀ (c : Fr) (A : Am) (σ : L2.St) (H : Hp) (Q : List V → Hp → Prop), Rp c A ρ σ H → A fl = none →
  (∀ ss ρ' vs A' H', G ss ρ' → Rp c A' ρ' σ H' → A' fl = none → Same (vw c.Z A H) (vw c.Z A' H') → ArAll (vw c.Z A' H') vs ss → Q vs H') → ta σ H Q
theorem esx_nil {G : List Sl → List Sl → Prop} (g : G [] ρ) : EsX tNil ρ G := fun c A σ H Q R f q => q _ _ _ A H g R f (Same.refl _) trivial
theorem esx_cons {G : List Sl → List Sl → Prop} (h : Ev te ρ s ρ1) (g : EsX tr ρ1 fun ss ρ' => G (s :: ss) ρ') : EsX (tCons te tr) ρ G := fun c A σ H Q R f q =>
  h c A σ H _ R f fun v A1 H1 R1 f1 S1 o1 => g c A1 σ H1 _ R1 f1 fun ss ρ' vs A2 H2 hG R2 f2 S2 o2 => q _ ρ' (v :: vs) A2 H2 hG R2 f2 (S1.trans S2) ⟨o1.mono S2, o2⟩
theorem esx_es {G : List Sl → List Sl → Prop} (h : Es tr ρ ss ρ1) (g : G ss ρ1) : EsX tr ρ G := fun c A σ H Q R f q =>
  h c A σ H _ R f fun vs A1 H1 R1 f1 S1 o1 => q _ _ vs A1 H1 g R1 f1 S1 o1
theorem esx_new {G : List Sl → List Sl → Prop} (h : El te ρ xs ρ1) (g : ∀ a, EsX tr (ρ1.set i (.wa a xs)) fun ss ρ' => G (.p (isV (.ref a)) :: ss) ρ') (i0 : i ≠ 0 := by decide) (hi : i < ρ1.length := by simp [uns]) : EsX (tCons te tr) ρ G := fun c A σ H Q R f q =>
  h c A σ H _ R f fun a vs A1 H1 R1 f1 S1 e dx => by
    have R2 := R1.keepA i0 hi f1 e dx
    have S2 : Same (vw c.Z A1 H1) (vw c.Z (aset (aset A1 i (some a)) fl none) H1) := vw_less fun k b z => by
      by_cases q : k = fl
      · rw [q, aset_at] at z
        cases z
      · rw [aset_ne q] at z
        by_cases q' : k = i
        · rw [q', aset_at] at z
          cases z
          exact ⟨fl, f1⟩
        · rw [aset_ne q'] at z
          exact ⟨k, z⟩
    exact g a c _ σ H1 _ R2 aset_at fun ss ρ' us A3 H3 hG R3 f3 S3 o3 => q _ ρ' (.ref a :: us) A3 H3 hG R3 f3 ((S1.trans S2).trans S3) ⟨rfl, o3⟩
theorem sm_setX (h : EsX tr ρ fun ss ρ1 => ss.length ≤ sizeLine ∧ i < ρ1.length ∧ K.nx (ρ1.set i (.lm (arL ss)))) (i0 : i ≠ 0 := by decide) : Sm (tAsg (tLst tr) (gName i)) ρ K := fun c A σ H D R f dk =>
  h c A σ H _ R f fun ss ρ1 vs A1 H1 ⟨len, hi, k⟩ R1 f1 S1 o1 => ⟨by rw [o1.length]; exact len, fun a ha =>
    dk.nx _ _ _ _ k ((R1.fly ha).setO (s := .lm (arL ss)) i0 hi aset_at fun W S => ⟨a, vs, rfl, rfl, upd_same, o1.mono ((vw_fly ha).trans S)⟩) aset_at⟩
/-- one of such a list -/
theorem ev_pickM {z : Int} (h : ρ[i]? = some (.lm (arL ss))) (hi : Ev ti ρ (.d (.int z)) ρ1) (h' : ρ1[i]? = some (.lm (arL ss))) (ez : z = (k : Int)) (e : ss[k]? = some s) : Ev (tOp (rIxL KF) (tVar i) ti) ρ s ρ1 := fun c A σ H Q R f q => by
  obtain ⟨b, us, e0, e1, e2, o⟩ := R.sl i _ h
  refine ⟨_, e1, hi c A σ H _ R f fun w A1 H1 R1 f1 S1 o1 => ?_⟩
  obtain rfl := int_v o1
  obtain ⟨b', us', g0, g1, g2, o'⟩ := R1.sl i _ h'
  rw [e1] at g1
  cases g1
  obtain ⟨v, hv, ov⟩ := arAll_at (show ArAll (vw c.Z A1 H1) us' ss from o') e
  subst ez
  exact ⟨b, us', _, v, rfl, rfl, SqL.of g2, at_of rfl hv, q v A1 H1 R1 f1 S1 ov⟩
/-- a variable that is only assigned, whose slot is kept -/
theorem tg_keepW (h : ρ[i]? = some (.wa a xs)) : Tg (gName i) s ρ ρ := fun c A σ H v Q R f o q => by
  refine q A _ H ⟨by rw [List.length_set]; exact R.len, R.sz, R.inj, R.off, R.live, R.keep, R.old, R.bor, (fun j t z => ?_), R.tz, R.tb⟩ f (Same.refl _)
  by_cases e : j = i
  · subst e
    rw [h] at z
    cases z
    exact R.sl j _ h
  · rw [List.getElem?_set_ne (Ne.symm e)]
    exact R.sl j t z
/-! ### a pair of a word and a thing, by places -/
theorem ev_pair0 {z : Str} (h : Ev te ρ (.p (pairMo z s)) ρ1) : Ev (tOp (rIxT KF) te (tC (.int 0))) ρ (.d (.str z)) ρ1 := fun c A σ H Q R f q =>
  h c A σ H _ R f fun u A1 H1 R1 f1 S1 ⟨t, v, e, h1, o⟩ => by
    subst e
    exact ⟨t, [.str z, v], 0, .str z, rfl, rfl, SqT.of (vw_sub _ _ h1), rfl, q _ A1 H1 R1 f1 S1 (.str z)⟩
theorem ev_pair1 {z : Str} (h : Ev te ρ (.p (pairMo z s)) ρ1) : Ev (tOp (rIxT KF) te (tC (.int 1))) ρ s ρ1 := fun c A σ H Q R f q =>
  h c A σ H _ R f fun u A1 H1 R1 f1 S1 ⟨t, v, e, h1, o⟩ => by
    subst e
    exact ⟨t, [.str z, v], 1, v, rfl, rfl, SqT.of (vw_sub _ _ h1), rfl, q v A1 H1 R1 f1 S1 o⟩
end
end OW
set_option Elab.async false
set_option linter.unusedVariables false
set_option linter.unusedSectionVars false
set_option maxRecDepth 100000
set_option maxHeartbeats 4000000
namespace OW
open PySem PySem.Spec PyProof.Rows L2 KA
section
variable {σ : L2.St} {H : Hp} {te ta tb : TE} {x : PyData} {a b : Nat}
theorem shown_fits (B : KP.Bd a b x) (ha : a ≤ 100) (hb : b ≤ 16000000) : x.showable = true ∧ x.shown.length ≤ sizeLine ∧ x.depth ≤ 100 := by
  have sh := KP.shown_le _ B.1
  exact ⟨sh.2, by rw [sizeLine_eq]; have := B.2.2; have := sh.1; omega, Nat.le_trans B.2.1 ha⟩
theorem pr_reprEq (ha : Pr ta σ H (.d x)) (hb : Pr tb σ H (.d x)) (B : KP.Bd a b x) (la : a ≤ 100) (lb : b ≤ 16000000) : Pr (tOp rEq (tCB rRepr (tCons ta tNil)) (tCB rRepr (tCons tb tNil))) σ H (.d (.bool true)) := by
  obtain ⟨h1, h2, h3⟩ := shown_fits B la lb
  have := pr_op (pr_fn (prs_cons ha prs_nil) (fv_repr h1 h2 h3)) (pr_fn (prs_cons hb prs_nil) (fv_repr h1 h2 h3)) fv_eqS
  have e : decide (x.shown = x.shown) = true := by simp
  rw [e] at this
  exact this
end
section
variable {P : Program} {w : World} {K : PySem.W.Frag} {mg : Str → Option Value} {base : Heap}
theorem fn_dG {x qual : Str} {st : Stmt} {f : Addr} {fd : FuncData} {N ps : List Str} {k n : Nat} {T : List Sl → (Rv → Prop) → Prop} [Tbs] (F : Fun K x qual st f fd) (S : FnScope N ps (defScope st)) (hn : ps.length = n := by rfl) (hN : n + N.length < fl := by decide)
    (body : ∀ (cdv : Value) (A : Around) (outer : List Env) (s : Shared) (H : Hp) (E : XK), A.guards = some [] → Room k (A.deeper (envOfC qual (defScope st) s.heap.objs.size f cdv)) →
      ∃ t, PSs (cxOf CX0 P w K mg base N qual (defScope st) f cdv A outer s H E) (defBody st) t ∧ ∀ as Kr, as.length = n → T as Kr → Sm t (as ++ uns (N.length - n)) { nx := fun _ => Kr (.d .none), rt := fun r _ => Kr r }) :
    FnG P w K mg base CX0 (k + 1) f fd ps (spD n T) := by
  refine fnG F S (fun vs H Q E h => ?_) (fun cdv A outer s H vs Q E g hr h => ?_)
  · obtain ⟨Z, as, Kr, hZ, ha, hl, _⟩ := h
    rw [ha.length, hl, hn]
  · obtain ⟨Z, as, Kr, hZ, ha, hl, hT, go⟩ := h
    obtain ⟨t, ht, hb⟩ := body cdv A outer s H E g hr
    refine ⟨t, ht, hb as Kr hl hT ⟨Z, none, H, hz Z H⟩ _ _ H _ (rp_start hN hZ ha hl) rfl ?_⟩
    have same : ∀ {A' : Am} {ρ' : List Sl} {σ' : L2.St} {H' : Hp}, Rp ⟨Z, none, H, hz Z H⟩ A' ρ' σ' H' → Aft Z H H' := rp_aft
    refine ⟨fun ρ' A' σ' H' hk R f => go _ _ _ hk (same R) .non, fun r ρ' v A' σ' H' hk R o => go r v H' hk (same R) ?_, fun _ _ _ _ h => h.elim, fun _ _ _ _ h => h.elim⟩
    exact rv_out (fun b o e nz _ => R.old _ _ (hz_mk nz e)) (fun b z => Or.inl z) R.inj R.off R.bor o
/-- a def that is promised where nothing is being shown, by its name -/
structure CalG (P : Program) (w : World) (K : PySem.W.Frag) (mg : Str → Option Value) (base : Heap) (k : Nat) (x : Str) (ps : List Str) (sp : Sp) : Prop where
  ex : ∃ (f : Addr) (fd : FuncData), FnG P w K mg base CX0 k f fd ps sp ∧ mg x = some (.ref f) ∧ PySem.W.keepIn K (.ref f) = true ∧ Binds K fd ps []
theorem pe_g {X : Cx} {j k : Nat} {x : Str} {ps : List Str} {sp : Sp} {p pos : Pos} {e : Expr} {es : List Expr} {t : TA} (c : CalG X.prog X.w X.K X.mg X.base k x ps sp) (quiet : X.A.guards = some []) (room : Room j X.A) (hk : k ≤ j) (glob : Gl X x) (args : PA X (e :: es) t)
    (nd : (x == ("__debug__" : Str)) = false := by decide) (st : starEach (e :: es) X.env = (false, eval e X.env) :: starEach es X.env := by rfl) (plain : (backTo pos (starEach es X.env)).any (·.1) = false := by rfl) : PE X (.Call (.Name x p) (e :: es) [] pos) (tCall sp [] C8.E0 t) := by
  obtain ⟨f, fd, F, m, kp, b⟩ := c.ex
  exact pe_callG F quiet (room.mono hk) glob m kp b args nd st plain
end
end OW
namespace KP
open PySem PySem.Spec PyProof.Rows L2 KA OW
/-! ### the very thing, and what is put behind it -/
abbrev sLawGrown : Stmt := top 64
abbrev nLawGrown : List Str := ["_law_thing_here", "_law_found"]
theorem scLawGrown : FnScope nLawGrown ["_law_thing_here", "_law_found"] (defScope sLawGrown) := ⟨rfl, rfl, rfl, by decide +kernel, rfl, by decide +kernel, by decide +kernel⟩
def tGrownD : List Sl → (Rv → Prop) → Prop := fun as Kr => ∃ x a b, as = [.d x, .d x] ∧ isLstD x = false ∧ Bd a b x ∧ a ≤ 100 ∧ b ≤ 16000000 ∧ Kr (.d (.bool true))
def tGrownL : Addr → List PyData → List Sl → (Rv → List PyData → Prop) → Prop := fun p ct as Kr => ∃ a b, as = [.p (isV (.ref p)), .p (isV (.ref p))] ∧ Bd a b (.list (ct ++ [.str "more"])) ∧ a ≤ 100 ∧ b ≤ 16000000 ∧ ct.length < sizeLine ∧ Kr (.d (.bool true)) (ct ++ [.str "more"])
section
variable {P : Program} {w : World} {K : PySem.W.Frag} {mg : Str → Option Value} {base : Heap}
theorem ok_grown {f : Addr} {fd : FuncData} (F : Fun K "_law_grown" "_law_grown" sLawGrown f fd) (T : Txt K w mg) : FnG P w K mg base CX0 2 f fd ["_law_thing_here", "_law_found"] (spU 2 tGrownD tGrownL) := by
  refine FnG.orU ?_ ?_
  · refine fn_dG (k := 1) F scLawGrown (body := fun cdv A outer s H E g hr => ?_)
    have hu : (A.deeper (envOfC "_law_grown" (defScope sLawGrown) s.heap.objs.size f cdv)).units + 200 < cLine := by have := hr.un; omega
    have hg : (cxOf CX0 P w K mg base nLawGrown "_law_grown" (defScope sLawGrown) f cdv A outer s H E).nox.A.guards = some [] := g
    refine ⟨_, PSs.nox (pss_cons (ps_if (pt_val (pe_isD is_lst (pv 0) T.isi T.list (by decide +kernel))) (pss_one (ps_expr (pe_bm PySem.F.plainAttrs_list PySem.F.slot_list_append PySem.F.type_list_append mt_append (pv 0) (pa_cons pe_str pa_nil)))) pss_nil) (pss_one (ps_ret (pe_cmpR op_eq (pe_callB (call_repr hg hu) (by rfl) T.repr (by decide +kernel) (pa_cons (pv 1) pa_nil)) (pe_callB (call_repr hg hu) (by rfl) T.repr (by decide +kernel) (pa_cons (pv 0) pa_nil)) (nomark _))))), ?_⟩
    rintro as Kr _ ⟨x, a, b, rfl, nl, B, la, lb, k⟩
    obtain ⟨h1, h2, h3⟩ := shown_fits B la lb
    refine sm_seq (sm_if (b := false) (Et.is (et_B (ev_fn (es_cons (ev_var rfl) (es_cons ev_cv es_nil)) fv_isD)) nl) (fun h => by cases h) (fun h => sm_next ?_))
    exact sm_ret (Ev.is (ev_op (ev_fn (es_cons (ev_var rfl) es_nil) (fv_repr h1 h2 h3)) (ev_fn (es_cons (ev_var rfl) es_nil) (fv_repr h1 h2 h3)) fv_eqS) (y := .bool true) (by simp)) k
  · refine fn_aG (k := 1) 0 F scLawGrown (fun p ct as Kr h => ?_) (body := fun cdv A outer s H E g hr => ?_)
    · obtain ⟨a, b, rfl, _⟩ := h
      rfl
    have hu : (A.deeper (envOfC "_law_grown" (defScope sLawGrown) s.heap.objs.size f cdv)).units + 200 < cLine := by have := hr.un; omega
    have hg : (cxOf CX0 P w K mg base nLawGrown "_law_grown" (defScope sLawGrown) f cdv A outer s H E).nox.A.guards = some [] := g
    refine ⟨_, PSs.nox (pss_cons (ps_if (pt_val (pe_isD is_lst (pv 0) T.isi T.list (by decide +kernel))) (pss_one (ps_expr (pe_bm PySem.F.plainAttrs_list PySem.F.slot_list_append PySem.F.type_list_append mt_append (pv 0) (pa_cons pe_str pa_nil)))) pss_nil) (pss_one (ps_ret (pe_cmpR op_eq (pe_callB (call_repr hg hu) (by rfl) T.repr (by decide +kernel) (pa_cons (pv 1) pa_nil)) (pe_callB (call_repr hg hu) (by rfl) T.repr (by decide +kernel) (pa_cons (pv 0) pa_nil)) (nomark _))))), ?_⟩
    rintro p ct as Kr _ ⟨a, b, rfl, B, la, lb, len, k⟩
    show Sm _ [.la p ct, .p (isV (.ref p))] _
    refine sm_seq (sm_if (b := true) (Et.is (et_prB (b := isLstD (.list ct)) fun c A σ H R => ?_) rfl) (fun h => sm_appS (k := 0) rfl len ?_) (fun h => by cases h))
    · obtain ⟨vs, e0, e1, e2, dx⟩ := R.sl 0 _ rfl
      exact pr_fn (prs_cons (pr_var (s := .d (.list ct)) e1 (.lst e2 (DnAll.mono vw_sub dx))) (prs_cons (pr_c (s := .p (isV _)) (fun _ => rfl)) prs_nil)) fv_isD
    · show Sm _ [.la p (ct ++ [.str "more"]), .p (isV (.ref p))] _
      refine sm_ret (ev_prB fun c A σ H R => ?_) ⟨_, rfl, k⟩
      obtain ⟨vs, e0, e1, e2, dx⟩ := R.sl 0 _ rfl
      obtain ⟨_, u, e3, hu⟩ := R.sl 1 _ rfl
      obtain rfl := isv_v hu
      have dn : Dn H (.ref p) (.list (ct ++ [.str "more"])) := .lst e2 (DnAll.mono vw_sub dx)
      exact pr_reprEq (pr_var e3 dn) (pr_var e1 dn) B la lb
end
/-! a thing: data, or a list at a known address -/
inductive Th where
  | dat (x : PyData)
  | lst (a : Addr) (xs : List PyData)
def Th.sl : Th → Sl | .dat x => .d x | .lst a xs => .la a xs
def Th.arg : Th → Sl | .dat x => .d x | .lst a _ => .p (isV (.ref a))
def Th.seen : Th → Sl | .dat x => .d x | .lst a xs => .p (exactMo (.ref a) (.list xs))
def Th.x : Th → PyData | .dat x => x | .lst _ xs => .list xs
def Th.up : Th → Th | .dat x => .dat x | .lst a xs => .lst a (xs ++ [.str "more"])
def Th.ups : Nat → Th → Th | 0, q => q | n + 1, q => (Th.ups n q).up
def Th.isL : Th → Bool | .dat _ => false | .lst _ _ => true
structure ThOk' (q : Th) (j : Nat) : Prop where
  l : isLstD q.x = q.isL
  b : Bd 61 (1100400 + 1000 * j) q.x
theorem Th.seen_isd (q : Th) : Isd q.seen q.x := by
  cases q
  · exact .d _
  · exact .p _ _ fun W v h => h.2
theorem len_wt : ∀ xs : List PyData, xs.length ≤ wtAll xs
  | [] => Nat.le_refl _
  | x :: xs => by
    have := len_wt xs
    show xs.length + 1 ≤ wt x + 2 + wtAll xs
    omega
theorem more_bd {xs : List PyData} {a b : Nat} (h : Bd (a + 1) b (.list xs)) : Bd (a + 1) (b + 1000) (.list (xs ++ [.str "more"])) := by
  obtain ⟨h1, h2, h3⟩ := h
  have h1 : fineAll xs = true := by simpa only [fine] using h1
  have h2 : PyData.depthAll xs + 1 ≤ a + 1 := h2
  have h3 : wtAll xs + 4 ≤ b := h3
  refine ⟨?_, ?_, ?_⟩
  · show fine (.list (xs ++ [.str "more"])) = true
    simp only [fine]
    rw [fineAll_append, h1]
    decide +kernel
  · show PyData.depthAll (xs ++ [.str "more"]) + 1 ≤ a + 1
    rw [depthAll_append]
    have : PyData.depthAll [PyData.str "more"] = 0 := rfl
    omega
  · show wtAll (xs ++ [.str "more"]) + 4 ≤ _
    rw [wtAll_append]
    have : wtAll [PyData.str "more"] ≤ 1000 := by decide +kernel
    omega
theorem ThOk'.up {q : Th} {j : Nat} (h : ThOk' q j) : ThOk' q.up (j + 1) := by
  cases q with
  | dat x => exact ⟨h.l, h.b.mono (Nat.le_refl _) (by omega)⟩
  | lst a xs => exact ⟨rfl, (more_bd h.b).mono (Nat.le_refl _) (by omega)⟩
theorem ThOk'.ups {q : Th} {j : Nat} (h : ThOk' q j) : ∀ n, ThOk' (q.ups n) (j + n)
  | 0 => h
  | n + 1 => (ThOk'.ups h n).up
theorem ThOk'.mono {q : Th} {j k : Nat} (h : ThOk' q j) (jk : j ≤ k) : ThOk' q k := ⟨h.l, h.b.mono (Nat.le_refl _) (by omega)⟩
theorem set_self {α : Type} {ρ : List α} {k : Nat} {s : α} (h : ρ[k]? = some s) : ρ.set k s = ρ := by
  obtain ⟨lt, e⟩ := List.getElem?_eq_some_iff.mp h
  apply List.ext_getElem?
  intro i
  by_cases q : i = k
  · rw [q, List.getElem?_set_self lt, h]
  · rw [List.getElem?_set_ne (Ne.symm q)]
theorem arg_lent {c : Fr} {A : Am} {ρ : List Sl} {σ : L2.St} {H : Hp} {i : Nat} {s : Sl} {L : List Nat} (R : Rp c A ρ σ H) (h : ρ[i]? = some s) (a : ArgS s) : ∃ v, σ[i]? = some (some v) ∧ ArOk (hz (lentZ c A L) H) v s := by
  rcases a with ⟨x, rfl⟩ | ⟨P, rfl⟩
  · obtain ⟨_, v, e1, e2⟩ := R.sl i _ h
    exact ⟨v, e1, Dn.mono lent_same e2⟩
  · obtain ⟨_, v, e1, e2⟩ := R.sl i _ h
    exact ⟨v, e1, P.mono lent_same e2⟩
section
variable {ρ : List Sl} {q : Th} {s2 : Sl} {way : Int} {wd : Str} {E : XK} {k j : Nat} {KF : PySem.W.Frag}
theorem pair_conv {v : V} {x : PyData} (u : V) (W1 W : Hp) (back : ∀ b o, (∀ vs, o ≠ .lst vs) → W1 b = some o → W b = some o) (h : (pairMo wd (.p (exactMo v x))).P u W1) : (pairMo wd (.p (isV v))).P u W := by
  obtain ⟨t, z, eu, et, hv⟩ := h
  exact ⟨t, z, eu, back t _ (fun vs z => by cases z) et, hv.1⟩
/-- what is caught of a thing that is no row -/
theorem ev_caught0 (h0 : ρ[0]? = some q.sl) (h2 : ρ[2]? = some s2) (a2 : ArgS s2) (h3 : ρ[3]? = some (.d (.int way))) (T : tCaught [.d (.int way), q.seen, s2] fun r => r = .p (pairMo wd q.seen)) :
    Ev (tCall (spD 3 tCaught) [] E (tCons (tVar 3) (tCons (tVar 0) (tCons (tVar 2) tNil)))) ρ (.p (pairMo wd q.arg)) ρ := by
  cases q with
  | dat x => exact evp_call (es_cons (ev_var h3) (es_cons (ev_var h0) (es_cons (ev_varG h2 a2) es_nil))) ar_nil rfl T
  | lst a xs =>
    refine evp_lendG (S := pairMo wd (.p (exactMo (.ref a) (.list xs)))) (ss := [.d (.int way), .p (exactMo (.ref a) (.list xs)), s2]) [0] (fun i hi => ?_) (fun c A σ H R => ?_) rfl T pair_conv
    · obtain rfl := List.mem_singleton.mp hi
      exact ⟨.lst a xs, h0⟩
    · obtain ⟨_, v0, e0, d0⟩ := R.sl 3 _ h3
      obtain rfl := int_v d0
      obtain ⟨vs, _, e1, _, _⟩ := R.sl 0 _ h0
      have d1 := R.lentDn (L := [0]) (q := .lst a xs) h0 (by decide)
      obtain ⟨v2, e2, o2⟩ := arg_lent (L := [0]) R h2 a2
      exact ⟨[.int way, .ref a, v2], fun Q q => ⟨_, e0, _, e1, _, e2, q⟩, .int _, ⟨rfl, d1⟩, o2, trivial⟩
/-- what is caught of a good row and of a thing that is no number -/
theorem ev_caught2 {r : PyData} (h0 : ρ[0]? = some (.d r)) (h2 : ρ[2]? = some q.sl) (h3 : ρ[3]? = some (.d (.int way))) (T : tCaught [.d (.int way), .d r, q.seen] fun r => r = .p (pairMo wd q.seen)) :
    Ev (tCall (spD 3 tCaught) [] E (tCons (tVar 3) (tCons (tVar 0) (tCons (tVar 2) tNil)))) ρ (.p (pairMo wd q.arg)) ρ := by
  cases q with
  | dat x => exact evp_call (es_cons (ev_var h3) (es_cons (ev_var h0) (es_cons (ev_var h2) es_nil))) ar_nil rfl T
  | lst a xs =>
    refine evp_lendG (S := pairMo wd (.p (exactMo (.ref a) (.list xs)))) (ss := [.d (.int way), .d r, .p (exactMo (.ref a) (.list xs))]) [2] (fun i hi => ?_) (fun c A σ H R => ?_) rfl T pair_conv
    · obtain rfl := List.mem_singleton.mp hi
      exact ⟨.lst a xs, h2⟩
    · obtain ⟨_, v0, e0, d0⟩ := R.sl 3 _ h3
      obtain rfl := int_v d0
      obtain ⟨vs, _, e1, _, _⟩ := R.sl 2 _ h2
      have d1 := R.lentDn (L := [2]) (q := .lst a xs) h2 (by decide)
      obtain ⟨v2, e2, o2⟩ := arg_lent (L := [2]) R h0 (Or.inl ⟨_, rfl⟩)
      exact ⟨[.int way, v2, .ref a], fun Q q => ⟨_, e0, _, e2, _, e1, q⟩, .int _, o2, ⟨rfl, d1⟩, trivial⟩
/-- where it is told, the number is looked at, or not -/
theorem ev_caughtT {r : PyData} (h0 : ρ[0]? = some (.d r)) (h2 : ρ[2]? = some q.sl) (h3 : ρ[3]? = some (.d (.int way))) (T : tCaught [.d (.int way), .d r, q.arg] fun r => r = .p (pairMo wd (.d .none))) :
    Ev (tCall (spD 3 tCaught) [] E (tCons (tVar 3) (tCons (tVar 0) (tCons (tVar 2) tNil)))) ρ (.p (pairMo wd (.d .none))) ρ := by
  cases q with
  | dat x => exact evp_call (es_cons (ev_var h3) (es_cons (ev_var h0) (es_cons (ev_var h2) es_nil))) ar_nil rfl T
  | lst a xs => exact evp_call (es_cons (ev_var h3) (es_cons (ev_var h0) (es_cons (ev_varA h2) es_nil))) ar_nil rfl T
theorem ev_grown (h : ρ[k]? = some q.sl) (h6 : ρ[6]? = some (.p (pairMo wd q.arg))) (ok : ThOk' q j) (hj : j ≤ 100) :
    Ev (tCall (spU 2 tGrownD tGrownL) [] E (tCons (tVar k) (tCons (tOp (rIxT KF) (tVar 6) (tC (.int 1))) tNil))) ρ (.d (.bool true)) (ρ.set k q.up.sl) := by
  cases q with
  | dat x =>
    have e : ρ.set k (Th.up (.dat x)).sl = ρ := set_self h
    rw [e]
    exact ev_callU (es_cons (ev_var h) (es_cons (ev_pair1 (ev_varp h6)) es_nil)) rfl ⟨x, _, _, rfl, ok.l, ok.b, by decide, by omega, rfl⟩
  | lst a xs =>
    refine ev_callUl (es_cons (ev_varA h) (es_cons (ev_pair1 (ev_varp h6)) es_nil)) h rfl ⟨_, _, rfl, more_bd ok.b, by decide, by omega, ?_, rfl, rfl⟩
    have b1 : wtAll xs + 4 ≤ 1100400 + 1000 * j := ok.b.2.2
    have := len_wt xs
    rw [sizeLine_eq]
    omega
end
end KP
set_option Elab.async false
set_option linter.unusedVariables false
set_option linter.unusedSectionVars false
set_option maxRecDepth 100000
set_option maxHeartbeats 4000000
namespace KP
open PySem PySem.Spec PyProof.Rows L2 KA OW
/-! ### what is right of a row and of a number -/
abbrev sLawRight : Stmt := top 65
abbrev nLawRight : List Str := ["_law_row_here", "_law_is_good", "_law_number", "_law_way", "_law_due", "_law_most", "_law_found"]
theorem scLawRight : FnScope nLawRight ["_law_row_here", "_law_is_good", "_law_number"] (defScope sLawRight) := ⟨rfl, rfl, rfl, by decide +kernel, rfl, by decide +kernel, by decide +kernel⟩
mutual
theorem nodes2_wt : ∀ d : PyData, 2 * nodes d ≤ wt d
  | .none => by simp [nodes, wt]
  | .bool b => by simp [nodes, wt]
  | .int i => by simp [nodes, wt]
  | .str x => by simp [nodes, wt]
  | .list ds => by simp only [nodes, wt]; omega
  | .dict kvs => by simp only [nodes, wt]; omega
  | .tuple ds => by
    have := nodes2All_wt ds
    simp only [nodes, wt]
    omega
theorem nodes2All_wt : ∀ ds : List PyData, 2 * nodesAll ds ≤ wtAll ds
  | [] => by simp [nodesAll, wtAll]
  | d :: ds => by
    have h1 := nodes2_wt d
    have h2 := nodes2All_wt ds
    simp only [nodesAll, wtAll]
    omega
end
theorem ok2_of {a b : Nat} {d : PyData} (h : Bd a b d) (hb : b ≤ 2000000) : okT d := ⟨h.1, by have := nodes2_wt d; have := h.2.2; omega⟩
theorem ups_dat (x : PyData) : ∀ n, Th.ups n (.dat x) = .dat x
  | 0 => rfl
  | n + 1 => by
    show Th.up (Th.ups n (.dat x)) = _
    rw [ups_dat x n]
    rfl
def mores : Nat → List PyData → List PyData | 0, xs => xs | n + 1, xs => mores n xs ++ [.str "more"]
theorem ups_lst (a : Addr) : ∀ (n : Nat) (xs : List PyData), Th.ups n (.lst a xs) = .lst a (mores n xs)
  | 0, xs => rfl
  | n + 1, xs => by
    show Th.up (Th.ups n (.lst a xs)) = _
    rw [ups_lst a n xs]
    rfl
theorem ups_isL (q : Th) (n : Nat) : (q.ups n).isL = q.isL := by
  cases q with
  | dat x => rw [ups_dat]
  | lst a xs => rw [ups_lst]; rfl
theorem ups_bad {q : Th} (h : goodT q.x = false) (n : Nat) : goodT (q.ups n).x = false := by
  cases q with
  | dat x => rw [ups_dat]; exact h
  | lst a xs =>
    rw [ups_lst]
    rfl
theorem arg_th (q : Th) : ArgS q.seen ∧ ArgS q.arg := by
  cases q
  · exact ⟨Or.inl ⟨_, rfl⟩, Or.inl ⟨_, rfl⟩⟩
  · exact ⟨Or.inr ⟨_, rfl⟩, Or.inr ⟨_, rfl⟩⟩
section
variable {ρ : List Sl} {q : Th} {k : Nat} {T : String} {f : PyData → Bool}
theorem et_isTh (h : ρ[k]? = some q.sl) : Et (tB (tCB (rIsD T f) (tCons (tVar k) (tCons (tC (.ty T)) tNil)))) ρ (f q.x) ρ := by
  refine et_prB fun c A σ H R => ?_
  cases q with
  | dat x =>
    obtain ⟨_, v, e, dn⟩ := R.sl k _ h
    exact pr_fn (prs_cons (pr_var (s := .d x) e (Dn.mono vw_sub dn)) (prs_cons (pr_c (s := .p (isV _)) (fun _ => rfl)) prs_nil)) fv_isD
  | lst a xs =>
    obtain ⟨vs, e0, e1, e2, dx⟩ := R.sl k _ h
    exact pr_fn (prs_cons (pr_var (s := .d (.list xs)) e1 (.lst e2 (DnAll.mono vw_sub dx))) (prs_cons (pr_c (s := .p (isV _)) (fun _ => rfl)) prs_nil)) fv_isD
end
section
variable {P : Program} {w : World} {K : PySem.W.Frag} {mg : Str → Option Value} {base : Heap}
theorem right_t {f : Addr} {cdv : Value} {A : Around} {outer : List Env} {s : Shared} {H : Hp} {E : XK} (T : Txt K w mg) (g : A.guards = some []) (hr : Room 12 (A.deeper (envOfC "_law_right" (defScope sLawRight) s.heap.objs.size f cdv)))
    (C_law_caught : C8.Cal P w K mg base 11 "_law_caught" (spD 3 tCaught) []) (G_law_grown : CalG P w K mg base 2 "_law_grown" ["_law_thing_here", "_law_found"] (spU 2 tGrownD tGrownL)) :
    ∃ t, PSs (cxOf CX0 P w K mg base nLawRight "_law_right" (defScope sLawRight) f cdv A outer s H E) (defBody sLawRight) t ∧
      (∀ (q : Th) (s2 : Sl) (j : Nat) (KL : KK), ThOk' q j → j ≤ 60 → goodT q.x = false → ArgS s2 → (∀ s3 s4 s5 s6, KL.rt (.d (.bool true)) [(q.ups 5).sl, .d (.bool false), s2, s3, s4, s5, s6]) → Sm t [q.sl, .d (.bool false), s2, .un, .un, .un, .un] KL) ∧
      (∀ (x : Str) (h : Int) (es : List PyData) (fs : List (List PyData)) (q : Th) (j : Nat) (KL : KK), RwOk x h es fs → nodes (rwT x h es fs) ≤ 900000 → ThOk' q j → j ≤ 60 → (∀ n, (q.isL = true → n = 3) → ∀ s3 s4 s5 s6, KL.rt (.d (.bool true)) [.d (rwT x h es fs), .d (.bool true), (q.ups n).sl, s3, s4, s5, s6]) →
        Sm t [.d (rwT x h es fs), .d (.bool true), q.sl, .un, .un, .un, .un] KL) := by
  have hg : (cxOf CX0 P w K mg base nLawRight "_law_right" (defScope sLawRight) f cdv A outer s H E).nox.A.guards = some [] := g
  refine ⟨_, PSs.nox (pss_cons (ps_for PassesOwn.never rfl (pi_range1 (by rfl) T.range (pa_cons pe_int pa_nil)) (pg_name (i := 3) scLawRight.nd rfl (Or.inl rfl)) (pss_cons (ps_set (i := 4) scLawRight.nd rfl (Or.inl rfl) pe_str)
      (pss_cons (ps_set (i := 5) scLawRight.nd rfl (Or.inl rfl) (pe_ifExp (pt_val (pv 1)) (pe_op op_sub (pe_callB call_len_seq (by rfl) T.len PySem.boot_len (pa_cons (pe_ix ix_tup (pv 0) pe_int (fun _ _ => rfl)) pa_nil)) pe_int) pe_int))
      (pss_cons (ps_if (pt_not (pt_val (pv 1))) (pss_one (ps_set (i := 4) scLawRight.nd rfl (Or.inl rfl) pe_str)) (pss_one (ps_if (PW.pt (pw_and (pt_cmpR op_gt (pv 3) pe_int (nomark _)) (pw_and1 (PW.pt (pw_or (pt_not (pt_val (pe_isD is_int (pv 2) T.isi T.int (by decide +kernel)))) (pw_or1 (pt_val (pe_isD is_bool (pv 2) T.isi T.bool (by decide +kernel))))))))) (pss_one (ps_set (i := 4) scLawRight.nd rfl (Or.inl rfl) pe_str)) (pss_one (ps_if (PW.pt (pw_and (pt_cmpR op_gt (pv 3) pe_int (nomark _)) (pw_and1 (pt_not (pt_chain op_le op_le pe_int (pv 2) (pe_ifExp (pt_cmpR op_eq (pv 3) pe_int (nomark _)) pe_int (pv 5))))))) (pss_one (ps_set (i := 4) scLawRight.nd rfl (Or.inl rfl) pe_str)) pss_nil))))) (pss_cons (ps_set (i := 6) scLawRight.nd rfl (Or.inl rfl) (C8.pe_c C_law_caught hr (by omega) rfl (pa_cons (pv 3) (pa_cons (pv 0) (pa_cons (pv 2) pa_nil)))))
      (pss_cons (ps_if (pt_cmpR op_ne (pe_ix ix_tup (pv 6) pe_int (fun _ _ => rfl)) (pv 4) (nomark _)) (pss_one (ps_ret pe_bl)) pss_nil) (pss_cons (ps_if (PW.pt (pw_and (pt_cmpR op_eq (pv 4) pe_str (nomark _)) (pw_and1 (pt_not (pt_val (pe_g G_law_grown hg hr (by omega) rfl (pa_cons (pv 0) (pa_cons (pe_ix ix_tup (pv 6) pe_int (fun _ _ => rfl)) pa_nil)))))))) (pss_one (ps_ret pe_bl)) pss_nil) (pss_one (ps_if (PW.pt (pw_and (pt_cmpR op_eq (pv 4) pe_str (nomark _)) (pw_and1 (pt_not (pt_val (pe_g G_law_grown hg hr (by omega) rfl (pa_cons (pv 2) (pa_cons (pe_ix ix_tup (pv 6) pe_int (fun _ _ => rfl)) pa_nil)))))))) (pss_one (ps_ret pe_bl)) pss_nil)))))))))
      (pss_one (ps_ret pe_bl))), ?bad, ?good⟩
  case bad =>
    intro q s2 j KL hq hj gq a2 fin
    refine sm_seq (sm_for (fi_rng1 (eds_cons ev_int eds_nil) (by decide)) (fun i ρ => ∃ s3 s4 s5 s6, ρ = [(q.ups i).sl, .d (.bool false), s2, s3, s4, s5, s6]) ⟨_, _, _, _, rfl⟩ (fun i x ρ ex r => ?_) (fun ρ r => ?_))
    · obtain ⟨s3, s4, s5, s6, rfl⟩ := r
      obtain ⟨i5, rfl⟩ := rngD_at ex
      have i5 : i < 5 := i5
      refine ⟨_, tg_name, ?_⟩
      have oq := hq.ups i
      have bq := ups_bad gq i
      generalize he : q.ups i = q' at *
      refine sm_seq (sm_set ev_str ?_)
      refine sm_seq (sm_set (ev_if (b := false) (et_B (ev_var rfl)) (fun h => by cases h) (fun _ => ev_int)) ?_)
      refine sm_seq (sm_if (et_not (et_B (ev_var (x := .bool false) rfl))) (fun h => sm_set ev_str ?_) (fun h => by cases h))
      refine sm_seq (sm_set (ev_caught0 (q := q') (wd := "row") rfl rfl a2 rfl ⟨(i : Int), q'.seen, s2, q'.x, "row", q'.seen, rfl, q'.seen_isd, a2, ok2_of oq.b (by omega), by omega, by omega, Or.inl ⟨bq, rfl, rfl⟩, rfl⟩) ?_)
      refine sm_seq (sm_if (b := false) (Et.is (et_test (ev_op (ev_pair0 (ev_varp rfl)) (ev_var rfl) fv_neS)) (by simp)) (fun h => by cases h) (fun h => sm_next ?_))
      refine sm_seq (sm_if (b := false) (Et.is (et_and (et_test (ev_op (ev_var rfl) ev_str fv_eqS)) (fun _ => et_not (et_B (ev_grown (q := q') (k := 0) rfl rfl oq (by omega)))) (fun h => by simp at h)) (by simp)) (fun h => by cases h) (fun h => sm_next ?_))
      refine sm_if (b := false) (Et.is (et_and (b := false) (et_test (ev_op (ev_var rfl) ev_str fv_eqS)) (fun h => absurd h (by decide +kernel)) (fun _ => rfl)) (by simp)) (fun h => by cases h) (fun h => sm_next ?_)
      refine ⟨.d (.int (i : Int)), .d (.str "row"), .d (.int 0), .p (pairMo "row" q'.arg), ?_⟩
      have e : q.ups (i + 1) = q'.up := by show (q.ups i).up = _; rw [he]
      rw [e]
      rfl
    · obtain ⟨s3, s4, s5, s6, rfl⟩ := r
      exact sm_ret ev_bl (fin _ _ _ _)
  case good =>
    intro x h es fs q j KL rw_ hn hq hj fin
    refine sm_seq (sm_for (fi_rng1 (eds_cons ev_int eds_nil) (by decide)) (fun i ρ => ∃ n s3 s4 s5 s6, (n ≤ i ∧ (q.isL = true → n = i - 2)) ∧ ρ = [.d (rwT x h es fs), .d (.bool true), (q.ups n).sl, s3, s4, s5, s6]) ⟨0, _, _, _, _, ⟨Nat.le_refl _, fun _ => rfl⟩, rfl⟩ (fun i y ρ ex r => ?_) (fun ρ r => ?_))
    · obtain ⟨n, s3, s4, s5, s6, ⟨ni, nl⟩, rfl⟩ := r
      obtain ⟨i5, rfl⟩ := rngD_at ex
      have i5 : i < 5 := i5
      refine ⟨_, tg_name, ?_⟩
      have oq := hq.ups n
      have li := ups_isL q n
      generalize he : q.ups n = q' at *
      have eu : q.ups (n + 1) = q'.up := by show (q.ups n).up = _; rw [he]
      have okr : okT (rwT x h es fs) := rw_.ok
      refine sm_seq (sm_set ev_str ?_)
      refine sm_seq (sm_set (ev_if (b := true) (s := .d (.int (lenM fs))) (et_B (ev_var rfl)) (fun _ => ev_op ((ev_fn (es_cons (ev_op (ev_var rfl) ev_int (fv_ixT (at_nat (j := 4) rfl))) es_nil) fv_lenT).is (y := .int (fs.length : Int)) (by rw [List.length_map])) ev_int fv_int) (fun h => by cases h)) ?_)
      show Sm _ [.d (rwT x h es fs), .d (.bool true), q'.sl, .d (.int (i : Int)), .d (.str "told"), .d (.int (lenM fs)), s6] _
      have told : (2 ≤ i → ∃ m : Nat, q'.arg = .d (.int (m : Int)) ∧ (m : Int) ≤ limW (i : Int) fs) → ∃ ρ', ρ' = [.d (rwT x h es fs), .d (.bool true), q'.sl, .d (.int (i : Int)), .d (.str "told"), .d (.int (lenM fs)), s6] ∧ Ev (tCall (spD 3 tCaught) [] C8.E0 (tCons (tVar 3) (tCons (tVar 0) (tCons (tVar 2) tNil)))) ρ' (.p (pairMo "told" (.d .none))) ρ' := fun hm => ⟨_, rfl, ev_caughtT rfl rfl rfl ⟨(i : Int), _, q'.arg, _, "told", .d .none, rfl, .d _, (arg_th q').2, okr, by omega, by omega, Or.inr ⟨x, h, es, fs, rfl, rw_, hn, Or.inr ⟨fun h2 => hm (by omega), rfl, rfl⟩⟩, rfl⟩⟩
      have numb : 2 ≤ i → wholeB 0 (limW (i : Int) fs) q'.x = false → ∃ ρ', ρ' = [.d (rwT x h es fs), .d (.bool true), q'.sl, .d (.int (i : Int)), .d (.str "number"), .d (.int (lenM fs)), s6] ∧ Ev (tCall (spD 3 tCaught) [] C8.E0 (tCons (tVar 3) (tCons (tVar 0) (tCons (tVar 2) tNil)))) ρ' (.p (pairMo "number" q'.arg)) ρ' := fun h2 hb => ⟨_, rfl, ev_caught2 rfl rfl rfl ⟨(i : Int), _, q'.seen, _, "number", q'.seen, rfl, .d _, (arg_th q').1, okr, by omega, by omega, Or.inr ⟨x, h, es, fs, rfl, rw_, hn, Or.inl ⟨q'.x, q'.seen_isd, by omega, hb, rfl, rfl⟩⟩, rfl⟩⟩
      by_cases w2 : ¬ 2 ≤ i
      · -- the number is not looked at
        obtain ⟨ρ', eρ, ec⟩ := told (fun h2 => absurd h2 w2)
        refine sm_seq (sm_if (et_not (et_B (ev_var (x := .bool true) rfl))) (fun h => by cases h) (fun _ => ?_))
        have gt1 : decide ((i : Int) > 1) = false := decide_eq_false (by omega)
        refine sm_if (b := false) (Et.is (et_and (a := false) (b := false) ((et_test (ev_op (ev_var rfl) ev_int fv_cmpI)).is gt1) (fun h => by cases h) (fun _ => rfl)) rfl) (fun h => by cases h) (fun _ => ?_)
        refine sm_if (b := false) (Et.is (et_and (a := false) (b := false) ((et_test (ev_op (ev_var rfl) ev_int fv_cmpI)).is gt1) (fun h => by cases h) (fun _ => rfl)) rfl) (fun h => by cases h) (fun _ => sm_next ?_)
        subst eρ
        refine sm_seq (sm_set ec ?_)
        refine sm_seq (sm_if (b := false) (Et.is (et_test (ev_op (ev_pair0 (ev_varp rfl)) (ev_var rfl) fv_neS)) (by simp)) (fun h => by cases h) (fun h => sm_next ?_))
        refine sm_seq (sm_if (b := false) (Et.is (et_and (b := false) (et_test (ev_op (ev_var rfl) ev_str fv_eqS)) (fun h => absurd h (by decide +kernel)) (fun _ => rfl)) (by simp)) (fun h => by cases h) (fun h => sm_next ?_))
        refine sm_if (b := false) (Et.is (et_and (b := false) (et_test (ev_op (ev_var rfl) ev_str fv_eqS)) (fun h => absurd h (by decide +kernel)) (fun _ => rfl)) (by simp)) (fun h => by cases h) (fun h => sm_next ?_)
        exact ⟨n, _, _, _, _, ⟨by omega, fun hl => by have := nl hl; omega⟩, by rw [he]; rfl⟩
      · have w2 : 2 ≤ i := by omega
        have gt1 : decide ((i : Int) > 1) = true := decide_eq_true (by omega)
        refine sm_seq (sm_if (et_not (et_B (ev_var (x := .bool true) rfl))) (fun h => by cases h) (fun _ => ?_))
        refine sm_if (b := !isIntD q'.x || isBoolD q'.x) (Et.is (et_and ((et_test (ev_op (ev_var rfl) ev_int fv_cmpI)).is gt1) (fun _ => et_or (et_not (et_isTh rfl)) (fun _ => et_isTh rfl)) (fun h => by cases h)) (by rw [Bool.true_and])) (fun hz => ?_) (fun hz => ?_)
        · have nb : wholeB 0 (limW (i : Int) fs) q'.x = false := by
            cases hx : q'.x <;> rw [hx] at hz <;> first | rfl | cases hz
          obtain ⟨ρ', eρ, ec⟩ := numb w2 nb
          refine sm_set ev_str ?_
          subst eρ
          refine sm_seq (sm_set ec ?_)
          refine sm_seq (sm_if (b := false) (Et.is (et_test (ev_op (ev_pair0 (ev_varp rfl)) (ev_var rfl) fv_neS)) (by simp)) (fun h => by cases h) (fun h => sm_next ?_))
          refine sm_seq (sm_if (b := false) (Et.is (et_and (b := false) (et_test (ev_op (ev_var rfl) ev_str fv_eqS)) (fun h => absurd h (by decide +kernel)) (fun _ => rfl)) (by simp)) (fun h => by cases h) (fun h => sm_next ?_))
          refine sm_if (b := false) (Et.is (et_and (et_test (ev_op (ev_var rfl) ev_str fv_eqS)) (fun _ => et_not (et_B (ev_grown (q := q') (k := 2) rfl rfl oq (by omega)))) (fun h => by simp at h)) (by simp)) (fun h => by cases h) (fun h => sm_next ?_)
          exact ⟨n + 1, _, _, _, _, ⟨by omega, fun hl => by have := nl hl; omega⟩, by rw [eu]; rfl⟩
        · -- a whole number
          have hi : ∃ z, q' = .dat (.int z) := by
            cases q' with
            | dat y => cases y <;> first | exact ⟨_, rfl⟩ | cases hz
            | lst a ys => cases hz
          obtain ⟨z, rfl⟩ := hi
          have elim : ∀ {ρ : List Sl}, ρ = [.d (rwT x h es fs), .d (.bool true), (Th.dat (.int z)).sl, .d (.int (i : Int)), .d (.str "told"), .d (.int (lenM fs)), s6] → Ev (tIf (tTest (tOp rEq (tVar 3) (tC (.int 4)))) (tC (.int 5)) (tVar 5)) ρ (.d (.int (limW (i : Int) fs))) ρ := fun e => by
            subst e
            refine ev_if (b := decide ((i : Int) = 4)) (et_test (ev_op (ev_var rfl) ev_int fv_eqI)) (fun h => ?_) (fun h => ?_)
            · rw [show limW (i : Int) fs = 5 from if_pos (of_decide_eq_true h)]
              exact ev_int
            · rw [show limW (i : Int) fs = lenM fs from if_neg (of_decide_eq_false h)]
              exact ev_var rfl
          refine sm_if (b := !(decide (0 ≤ z) && decide (z ≤ limW (i : Int) fs))) (Et.is (et_and ((et_test (ev_op (ev_var rfl) ev_int fv_cmpI)).is gt1) (fun _ => et_not (et_test (ev_chain ev_int (ev_var rfl) (fun _ => elim rfl) fv_cmpI fv_cmpI))) (fun h => by cases h)) (by rw [Bool.true_and])) (fun hb => ?_) (fun hb => ?_)
          · have nb : wholeB 0 (limW (i : Int) fs) (Th.dat (.int z)).x = false := by
              show (decide (0 ≤ z) && decide (z ≤ limW (i : Int) fs)) = false
              revert hb
              cases (decide (0 ≤ z) && decide (z ≤ limW (i : Int) fs)) <;> simp
            obtain ⟨ρ', eρ, ec⟩ := numb w2 nb
            refine sm_set ev_str ?_
            subst eρ
            refine sm_seq (sm_set ec ?_)
            refine sm_seq (sm_if (b := false) (Et.is (et_test (ev_op (ev_pair0 (ev_varp rfl)) (ev_var rfl) fv_neS)) (by simp)) (fun h => by cases h) (fun h => sm_next ?_))
            refine sm_seq (sm_if (b := false) (Et.is (et_and (b := false) (et_test (ev_op (ev_var rfl) ev_str fv_eqS)) (fun h => absurd h (by decide +kernel)) (fun _ => rfl)) (by simp)) (fun h => by cases h) (fun h => sm_next ?_))
            refine sm_if (b := false) (Et.is (et_and (et_test (ev_op (ev_var rfl) ev_str fv_eqS)) (fun _ => et_not (et_B (ev_grown (q := .dat (.int z)) (k := 2) rfl rfl oq (by omega)))) (fun h => by simp at h)) (by simp)) (fun h => by cases h) (fun h => sm_next ?_)
            exact ⟨n + 1, _, _, _, _, ⟨by omega, fun hl => by have := nl hl; omega⟩, by rw [eu]; rfl⟩
          · have gz : 0 ≤ z ∧ z ≤ limW (i : Int) fs := by
              have : (decide (0 ≤ z) && decide (z ≤ limW (i : Int) fs)) = true := by
                revert hb
                cases (decide (0 ≤ z) && decide (z ≤ limW (i : Int) fs)) <;> simp
              rw [Bool.and_eq_true] at this
              exact ⟨of_decide_eq_true this.1, of_decide_eq_true this.2⟩
            obtain ⟨ρ', eρ, ec⟩ := told (fun _ => ⟨z.toNat, by show Sl.d (.int z) = _; rw [Int.toNat_of_nonneg gz.1], by rw [Int.toNat_of_nonneg gz.1]; exact gz.2⟩)
            refine sm_next ?_
            subst eρ
            refine sm_seq (sm_set ec ?_)
            refine sm_seq (sm_if (b := false) (Et.is (et_test (ev_op (ev_pair0 (ev_varp rfl)) (ev_var rfl) fv_neS)) (by simp)) (fun h => by cases h) (fun h => sm_next ?_))
            refine sm_seq (sm_if (b := false) (Et.is (et_and (b := false) (et_test (ev_op (ev_var rfl) ev_str fv_eqS)) (fun h => absurd h (by decide +kernel)) (fun _ => rfl)) (by simp)) (fun h => by cases h) (fun h => sm_next ?_))
            refine sm_if (b := false) (Et.is (et_and (b := false) (et_test (ev_op (ev_var rfl) ev_str fv_eqS)) (fun h => absurd h (by decide +kernel)) (fun _ => rfl)) (by simp)) (fun h => by cases h) (fun h => sm_next ?_)
            exact ⟨n, _, _, _, _, ⟨by omega, fun hl => by rw [← li] at hl; cases hl⟩, by rw [he]; rfl⟩
    · obtain ⟨n, s3, s4, s5, s6, ni, rfl⟩ := r
      exact sm_ret ev_bl (fin n ni.2 _ _ _ _)
end
end KP
set_option Elab.async false
set_option linter.unusedVariables false
set_option linter.unusedSectionVars false
set_option maxRecDepth 100000
set_option maxHeartbeats 4000000
namespace OW
open PySem PySem.Spec PyProof.Rows L2 KA
theorem FnG.orA [Tbs] {P : Program} {w : World} {K : PySem.W.Frag} {mg : Str → Option Value} {base : Heap} {k n : Nat} {f : Addr} {fd : FuncData} {ps : List Str} {T1 T2 : Addr → List PyData → List Sl → (Rv → List PyData → Prop) → Prop}
    (F1 : FnG P w K mg base CX0 k f fd ps (spA n T1)) (F2 : FnG P w K mg base CX0 k f fd ps (spA n T2)) : FnG P w K mg base CX0 k f fd ps (spA n fun p ct as Kr => T1 p ct as Kr ∨ T2 p ct as Kr) := by
  refine ⟨fun vs H Q E h => ?_, fun A outer s H args us vs Q E g hr e0 bt rv h => ?_⟩
  · obtain ⟨Z, p, cs, ct, as, Kr, hp, hZ, ep, dc, ha, hl, hT, go⟩ := h
    rcases hT with hT | hT
    · exact F1.len vs H Q E ⟨Z, p, cs, ct, as, Kr, hp, hZ, ep, dc, ha, hl, hT, go⟩
    · exact F2.len vs H Q E ⟨Z, p, cs, ct, as, Kr, hp, hZ, ep, dc, ha, hl, hT, go⟩
  · obtain ⟨Z, p, cs, ct, as, Kr, hp, hZ, ep, dc, ha, hl, hT, go⟩ := h
    rcases hT with hT | hT
    · exact F1.run A outer s H args us vs Q E g hr e0 bt rv ⟨Z, p, cs, ct, as, Kr, hp, hZ, ep, dc, ha, hl, hT, go⟩
    · exact F2.run A outer s H args us vs Q E g hr e0 bt rv ⟨Z, p, cs, ct, as, Kr, hp, hZ, ep, dc, ha, hl, hT, go⟩
end OW
namespace KP
open PySem PySem.Spec PyProof.Rows L2 KA OW
def tRightD : List Sl → (Rv → Prop) → Prop := fun as Kr => (∃ d s2 j, as = [.d d, .d (.bool false), s2] ∧ ThOk' (.dat d) j ∧ j ≤ 60 ∧ goodT d = false ∧ ArgS s2 ∧ Kr (.d (.bool true))) ∨
  ∃ x h es fs z j, as = [.d (rwT x h es fs), .d (.bool true), .d z] ∧ RwOk x h es fs ∧ nodes (rwT x h es fs) ≤ 900000 ∧ ThOk' (.dat z) j ∧ j ≤ 60 ∧ Kr (.d (.bool true))
def tRight0 : Addr → List PyData → List Sl → (Rv → List PyData → Prop) → Prop := fun p ct as Kr => ∃ s2 j, as = [.p (isV (.ref p)), .d (.bool false), s2] ∧ ThOk' (.lst p ct) j ∧ j ≤ 60 ∧ ArgS s2 ∧ Kr (.d (.bool true)) (mores 5 ct)
def tRight2 : Addr → List PyData → List Sl → (Rv → List PyData → Prop) → Prop := fun p ct as Kr => ∃ x h es fs j, as = [.d (rwT x h es fs), .d (.bool true), .p (isV (.ref p))] ∧ RwOk x h es fs ∧ nodes (rwT x h es fs) ≤ 900000 ∧ ThOk' (.lst p ct) j ∧ j ≤ 60 ∧ Kr (.d (.bool true)) (mores 3 ct)
section
variable {P : Program} {w : World} {K : PySem.W.Frag} {mg : Str → Option Value} {base : Heap}
theorem ok_right {f : Addr} {fd : FuncData} (F : Fun K "_law_right" "_law_right" sLawRight f fd) (T : Txt K w mg) (C_law_caught : C8.Cal P w K mg base 11 "_law_caught" (spD 3 tCaught) []) (G_law_grown : CalG P w K mg base 2 "_law_grown" ["_law_thing_here", "_law_found"] (spU 2 tGrownD tGrownL)) :
    FnG P w K mg base CX0 13 f fd ["_law_row_here", "_law_is_good", "_law_number"] (spU 3 tRightD fun p ct as Kr => tRight0 p ct as Kr ∨ tRight2 p ct as Kr) := by
  refine FnG.orU ?_ (FnG.orA ?_ ?_)
  · refine fn_dG (k := 12) F scLawRight (body := fun cdv A outer s H E g hr => ?_)
    obtain ⟨t, ht, hb, hg⟩ := right_t T g hr C_law_caught G_law_grown
    refine ⟨t, ht, ?_⟩
    rintro as Kr _ (⟨d, s2, j, rfl, ok, hj, bad, a2, k⟩ | ⟨x, h, es, fs, z, j, rfl, rw_, hn, ok, hj, k⟩)
    · exact hb (.dat d) s2 j _ ok hj bad a2 fun _ _ _ _ => k
    · exact hg x h es fs (.dat z) j _ rw_ hn ok hj fun _ _ _ _ _ _ => k
  · refine fn_aG (k := 12) 0 F scLawRight (fun p ct as Kr h => ?_) (body := fun cdv A outer s H E g hr => ?_)
    · obtain ⟨s2, j, rfl, _⟩ := h
      rfl
    obtain ⟨t, ht, hb, hg⟩ := right_t T g hr C_law_caught G_law_grown
    refine ⟨t, ht, ?_⟩
    rintro p ct as Kr _ ⟨s2, j, rfl, ok, hj, a2, k⟩
    exact hb (.lst p ct) s2 j _ ok hj rfl a2 fun _ _ _ _ => ⟨_, by rw [ups_lst]; rfl, k⟩
  · refine fn_aG (k := 12) 2 F scLawRight (fun p ct as Kr h => ?_) (body := fun cdv A outer s H E g hr => ?_)
    · obtain ⟨x, h, es, fs, j, rfl, _⟩ := h
      rfl
    obtain ⟨t, ht, hb, hg⟩ := right_t T g hr C_law_caught G_law_grown
    refine ⟨t, ht, ?_⟩
    rintro p ct as Kr _ ⟨x, h, es, fs, j, rfl, rw_, hn, ok, hj, k⟩
    exact hg x h es fs (.lst p ct) j _ rw_ hn ok hj fun n e _ _ _ _ => ⟨_, by rw [ups_lst, e rfl]; rfl, k⟩
end
end KP
set_option Elab.async false
set_option linter.unusedVariables false
set_option linter.unusedSectionVars false
set_option maxRecDepth 100000
set_option maxHeartbeats 4000000
namespace OW
open PySem PySem.Spec PyProof.Rows L2 KA
section
variable {ρ ρ' ρ1 ρ2 : List Sl} {te ta tb ti : TE} {i j k : Nat} {K' : KK} {K KF : PySem.W.Frag} {ns : List Int}
theorem sm_purse {E E' : XK} (h0 : ρ[0]? = some (.p (scrMo K ns))) (h1 : ρ[1]? = some (.d (.int (j : Int)))) (q : ∀ p, KP.PuOk p 0 → K'.nx (ρ.set i (.l p.ds))) (i0 : i ≠ 0 := by decide) (hi : i < ρ.length := by simp [uns]) :
    Sm (tAsg (tCall KP.spPurse [] E (tCons (tCall (KP.spCell K) [] E' (tCons (tVar 0) (tCons (tVar 1) tNil))) tNil)) (gName i)) ρ K' := fun c A σ H D R f dk => by
  obtain ⟨_, u, e0, a, rfl, hS⟩ := R.sl 0 _ h0
  obtain ⟨_, v, e1, dn⟩ := R.sl 1 _ h1
  obtain rfl := int_v dn
  refine ⟨_, e0, _, e1, a, ns, j, rfl, sql_mono vw_sub hS, fun z => ⟨z, rfl, fun p H' np S pu => ?_⟩⟩
  obtain ⟨x, y, z, ep, b⟩ := pu
  have R1 := R.adopt (Aft.of S (by rw [hz_eq]; exact R.tb)) np ep
  exact dk.nx _ _ _ _ (q ⟨x, y, z⟩ b) (R1.setL (xs := KP.Pu.ds ⟨x, y, z⟩) i0 hi aset_at ep (.cons (.int _) (.cons (.int _) (.one (.int _))))) aset_at
end
end OW
namespace KP
open PySem PySem.Spec PyProof.Rows L2 KA OW
theorem row_ok {t : Thing} {es : List PyData} {fs : List (List PyData)} (h : ThOk t es fs) : rowB (rowD t es fs) = true ∧ Bd 20 420000 (rowD t es fs) := by
  obtain ⟨hx, h0, h6, lb, bnd, lm, mks⟩ := h
  obtain ⟨e1, e2⟩ := vgB_bd bnd
  have le := vgB_len bnd
  have lf : t.makers.length = fs.length := Paired.length mks
  have all : ∀ {ms : List (List Arg)} {fs : List (List PyData)}, Paired (MkOk t.bounds) ms fs → (fs.map PyData.tuple).all (areT 4) = true ∧ BdAll 11 (fs.length * 80100) (fs.map PyData.tuple) := by
    intro ms fs p
    induction p with
    | nil => exact ⟨rfl, BdAll.nil⟩
    | @cons as gs ms fs r p ih =>
      obtain ⟨l4, _, v⟩ := r
      obtain ⟨g1, g2⟩ := vgB_bd v
      have lg := vgB_len v
      have lg : gs.length ≤ 4 := by
        unfold bl at lg
        rw [List.length_map] at lg
        omega
      refine ⟨?_, ?_⟩
      · rw [List.map_cons, List.all_cons, ih.1, Bool.and_true]
        show (decide ((gs.length : Int) ≤ 4) && tmAll gs) = true
        rw [g1, decide_eq_true (by omega)]
        rfl
      · have := Nat.mul_le_mul_right 20002 lg
        refine (BdAll.cons (b := 80020) ((Bd.tup g2).mono (by decide) (by omega)) ih.2).mono (Nat.le_refl _) ?_
        rw [List.length_cons]
        omega
  obtain ⟨a1, a2⟩ := all mks
  constructor
  · show (nameX t.name && (if isS (.str "thing") "thing" = true then (wholeB 0 5 (.int t.height) && areT 3 (.tuple es) && makB (.tuple (fs.map .tuple))) else _)) = true
    rw [hx, if_pos (by decide)]
    show (true && ((decide (0 ≤ t.height) && decide (t.height ≤ 5)) && (decide ((es.length : Int) ≤ 3) && tmAll es) && (decide (((fs.map PyData.tuple).length : Int) ≤ 5) && (fs.map PyData.tuple).all (areT 4)))) = true
    rw [e1, a1, decide_eq_true h0, decide_eq_true (by omega : t.height ≤ 5), decide_eq_true (by omega : (es.length : Int) ≤ 3), List.length_map, decide_eq_true (by omega : (fs.length : Int) ≤ 5)]
    rfl
  · have l3 : es.length * 4002 ≤ 3 * 4002 := Nat.mul_le_mul_right _ (by omega)
    have l5 : fs.length * 80100 ≤ 5 * 80100 := Nat.mul_le_mul_right _ (by omega)
    unfold rowD
    exact (Bd.tup (BdAll.cons ((Bd.str (x := "thing") (by decide +kernel)).mono (Nat.zero_le 12) (Nat.le_refl _)) (BdAll.cons ((name_b hx).mono (Nat.zero_le _) (Nat.le_refl _)) (BdAll.cons ((Bd.int (i := t.height) (by omega)).mono (Nat.zero_le _) (Nat.le_refl _)) (BdAll.cons ((Bd.tup e2).mono (by decide) (Nat.le_refl _)) (BdAll.one ((Bd.tup a2).mono (by decide) (Nat.le_refl _)))))))).mono (by decide) (by omega)
/-! ### the law -/
abbrev sLaw : Stmt := top 66
abbrev nLaw : List Str := ["_law_script", "_law_k", "_law_purse", "_law_names", "_law_row_here", "_law_kept", "_law_odd", "_law_numbers", "_law_turn", "_law_number", "_law_bad"]
theorem scLaw : FnScope nLaw ["_law_script"] (defScope sLaw) := ⟨rfl, rfl, rfl, by decide +kernel, rfl, by decide +kernel, by decide +kernel⟩
def spLaw (K : PySem.W.Frag) : Sp := fun vs H Q _ => ∃ (a : Addr) (ns : List Int), vs = [.ref a] ∧ (∀ b, tabA b → H b = some (.tbl #[])) ∧ SqL K H a (ns.map V.int) ∧ ns.length ≤ 63 ∧ ∀ H', Q (.bl true) H'
abbrev zK (n : Int) : PyData := .tuple [.str "kind", .int n]
section
variable (x n0 : Str) (h : Int) (es : List PyData) (fs : List (List PyData)) (a1 a2 a3 : Addr)
abbrev tW : PyData := .str "thing"
abbrev tE : PyData := .tuple es
abbrev tF : PyData := .tuple (fs.map .tuple)
/-- what is no row of a thing, as data -/
def oddD : List PyData := [.none, .bool true, .str "thing", .tuple [tW, .str x, .int h, tE es, tF fs, .int 0], .tuple [tW, .str x, .int h, tE es], .tuple [.str "hold", .str n0, zK 0], .tuple [], .dict [],
  .tuple [.str "mean", .str n0, zK 1, zK 0], .tuple [tW, .str x, .int 6, tE es, tF fs], .int (10 ^ (29 : Int).toNat),
  .tuple [tW, .str "all", .int h, tE es, tF fs], .tuple [tW, .str x, .int h, .tuple [zK 6], tF fs],
  .tuple [tW, .str x, .int h, .tuple [zK 0, zK 0, zK 0, zK 0], tF fs], .tuple [tW, .str x, .int h, tE es, .tuple [.tuple [], .tuple [], .tuple [], .tuple [], .tuple [], .tuple []]], .tuple [tW, .str x, .int h, tE es, .list []],
  .tuple [tW, .str x, .int h, tE es, .tuple [.tuple [zK 0, zK 0, zK 0, zK 0, zK 0]]], .tuple [tW, .str x, .int h, tE es, .tuple [.tuple [.none]]]]
def odd1 : List Sl := [.d .none, .d (.bool true), .d (.str "thing"), .p (isV (.ref a1)), .p (isV (.ref a2)), .d (.tuple [tW, .str x, .int h, tE es, tF fs, .int 0]), .d (.tuple [tW, .str x, .int h, tE es]), .d (.tuple [.str "hold", .str n0, zK 0]), .d (.tuple []), .d (.dict [])]
def odd2 : List Sl := [.d (.tuple [.str "mean", .str n0, zK 1, zK 0]), .d (.tuple [tW, .str x, .int 6, tE es, tF fs]), .d (.int (10 ^ (29 : Int).toNat))]
def odd3 : List Sl := [.d (.tuple [tW, .str "all", .int h, tE es, tF fs]), .d (.tuple [tW, .str x, .int h, .tuple [zK 6], tF fs])]
def odd4 : List Sl := [.d (.tuple [tW, .str x, .int h, .tuple [zK 0, zK 0, zK 0, zK 0], tF fs]), .d (.tuple [tW, .str x, .int h, tE es, .tuple [.tuple [], .tuple [], .tuple [], .tuple [], .tuple [], .tuple []]]), .d (.tuple [tW, .str x, .int h, tE es, .list []])]
def odd5 : List Sl := [.d (.tuple [tW, .str x, .int h, tE es, .tuple [.tuple [zK 0, zK 0, zK 0, zK 0, zK 0]]]), .d (.tuple [tW, .str x, .int h, tE es, .tuple [.tuple [.none]]])]
def oddS : List Sl := (((odd1 x n0 h es fs a1 a2 ++ odd2 x n0 es fs) ++ odd3 x h es fs) ++ odd4 x h es fs) ++ odd5 x h es
def numS (m : Int) : List Sl := [.d (.int 0), .d (.int 1), .d (.int 4), .d (.int 5), .d (.int 6), .d (.int (-1)), .d (.int m), .d (.int (m - 1)), .d .none, .d (.bool true), .d (.bool false), .d (.str "0"), .p (isV (.ref a3)), .d (.tuple [.int 0]), .d (.int (10 ^ (29 : Int).toNat))]
end
def BadS (a1 a2 : Addr) (s : Sl) : Prop := (∃ d, s = .d d ∧ ThOk' (.dat d) 0 ∧ goodT d = false) ∨ s = .p (isV (.ref a1)) ∨ s = .p (isV (.ref a2))
def NumS (a3 : Addr) (s : Sl) : Prop := (∃ d, s = .d d ∧ ThOk' (.dat d) 0) ∨ s = .p (isV (.ref a3))
def bdB (a b : Nat) (d : PyData) : Bool := fine d && decide (d.depth ≤ a) && decide (wt d ≤ b)
theorem bdB_of {a b : Nat} {d : PyData} (h : bdB a b d = true) : Bd a b d := by
  unfold bdB at h
  rw [Bool.and_eq_true, Bool.and_eq_true] at h
  exact ⟨h.1.1, of_decide_eq_true h.1.2, of_decide_eq_true h.2⟩
theorem thok {d : PyData} (l : isLstD d = false) (b : Bd 61 1100400 d) : ThOk' (.dat d) 0 := ⟨l, b⟩
theorem th_not {n : PyData} {rest : List PyData} (h : thB rest = false) : goodT (.tuple (tW :: n :: rest)) = false := by
  show ((nameB n && (if isS tW "thing" = true then thB rest else (if isS tW "mean" = true then meB rest else isS tW "hold" && hoB rest))) && isS tW "thing") = false
  rw [if_pos (by decide), h, Bool.and_false, Bool.false_and]
theorem th3 {h b m : PyData} (e : wholeB 0 5 h = false ∨ areT 3 b = false ∨ makB m = false) : thB [h, b, m] = false := by
  show (wholeB 0 5 h && areT 3 b && makB m) = false
  rcases e with e | e | e
  · rw [e, Bool.false_and, Bool.false_and]
  · rw [e, Bool.and_false, Bool.false_and]
  · rw [e, Bool.and_false]
theorem bd5 {p q r s t : PyData} {b1 b2 b3 b4 b5 : Nat} (h1 : Bd 59 b1 p) (h2 : Bd 59 b2 q) (h3 : Bd 59 b3 r) (h4 : Bd 59 b4 s) (h5 : Bd 59 b5 t) (l : b1 + b2 + b3 + b4 + b5 + 100 ≤ 1100400 := by omega) : Bd 61 1100400 (.tuple [p, q, r, s, t]) :=
  (Bd.tup (BdAll.cons h1 (BdAll.cons h2 (BdAll.cons h3 (BdAll.cons h4 (BdAll.one h5)))))).mono (by decide) (by omega)
theorem row_bd {x : Str} {h : Int} {es : List PyData} {fs : List (List PyData)} (b : Bd 20 420000 (rwT x h es fs)) : Bd 59 220 (.str x) ∧ Bd 59 40 (.int h) ∧ Bd 59 420000 (tE es) ∧ Bd 59 420000 (tF fs) := by
  obtain ⟨h1, h2, h3⟩ := b
  have h1 : fineAll [tW, .str x, .int h, tE es, tF fs] = true := by simpa only [fine] using h1
  simp only [fineAll, Bool.and_eq_true] at h1
  have h2 : PyData.depthAll [tW, .str x, .int h, tE es, tF fs] + 1 ≤ 20 := h2
  simp only [PyData.depthAll] at h2
  have h3 : wtAll [tW, .str x, .int h, tE es, tF fs] + 4 ≤ 420000 := h3
  simp only [wtAll] at h3
  exact ⟨⟨h1.2.1, by show (0 : Nat) ≤ 59; omega, by show (220 : Nat) ≤ 220; omega⟩, ⟨h1.2.2.1, by show (0 : Nat) ≤ 59; omega, by show (40 : Nat) ≤ 40; omega⟩, ⟨h1.2.2.2.1, by omega, by omega⟩, ⟨h1.2.2.2.2.1, by omega, by omega⟩⟩
theorem oddD_ok {x n0 : Str} {h : Int} {es : List PyData} {fs : List (List PyData)} (b : Bd 20 420000 (rwT x h es fs)) (hx : nameX n0 = true) : ∀ d ∈ oddD x n0 h es fs, ThOk' (.dat d) 0 ∧ goodT d = false := by
  obtain ⟨bx, bh, be, bf⟩ := row_bd b
  have bw : Bd 59 220 tW := bdB_of (by decide +kernel)
  have bn : Bd 59 220 (.str n0) := (name_b hx).mono (by decide) (by decide)
  have z0 : Bd 59 400 (zK 0) := bdB_of (by decide +kernel)
  have z1 : Bd 59 400 (zK 1) := bdB_of (by decide +kernel)
  have other : ∀ y : PyData, goodT y = false → bdB 61 1100400 y = true → isLstD y = false → ThOk' (.dat y) 0 ∧ goodT y = false := fun y a c e => ⟨thok e (bdB_of c), a⟩
  intro d hd
  simp only [oddD, List.mem_cons, List.not_mem_nil, or_false] at hd
  rcases hd with rfl | rfl | rfl | rfl | rfl | rfl | rfl | rfl | rfl | rfl | rfl | rfl | rfl | rfl | rfl | rfl | rfl | rfl
  · exact other _ rfl (by decide +kernel) rfl
  · exact other _ rfl (by decide +kernel) rfl
  · exact other _ rfl (by decide +kernel) rfl
  · exact ⟨thok rfl ((Bd.tup (BdAll.cons bw (BdAll.cons bx (BdAll.cons bh (BdAll.cons be (BdAll.cons bf (BdAll.one (b := 40) (bdB_of (by decide +kernel))))))))).mono (by decide) (by omega)), th_not rfl⟩
  · exact ⟨thok rfl ((Bd.tup (BdAll.cons bw (BdAll.cons bx (BdAll.cons bh (BdAll.one be))))).mono (by decide) (by omega)), th_not rfl⟩
  · exact ⟨thok rfl ((Bd.tup (BdAll.cons (b := 220) (bdB_of (by decide +kernel)) (BdAll.cons bn (BdAll.one z0)))).mono (by decide) (by omega)), by
      show (rowB (.tuple [.str "hold", .str n0, zK 0]) && isS (.str "hold") "thing") = false
      rw [show isS (.str "hold") "thing" = false by decide +kernel, Bool.and_false]⟩
  · exact other _ rfl (by decide +kernel) rfl
  · exact other _ rfl (by decide +kernel) rfl
  · exact ⟨thok rfl ((Bd.tup (BdAll.cons (b := 220) (bdB_of (by decide +kernel)) (BdAll.cons bn (BdAll.cons z1 (BdAll.one z0))))).mono (by decide) (by omega)), by
      show (rowB (.tuple [.str "mean", .str n0, zK 1, zK 0]) && isS (.str "mean") "thing") = false
      rw [show isS (.str "mean") "thing" = false by decide +kernel, Bool.and_false]⟩
  · exact ⟨thok rfl (bd5 bw bx (b3 := 40) (bdB_of (by decide +kernel)) be bf), th_not (th3 (Or.inl (by decide)))⟩
  · exact other _ rfl (by decide +kernel) rfl
  · refine ⟨thok rfl (bd5 bw (b2 := 220) (bdB_of (by decide +kernel)) bh be bf), ?_⟩
    show ((nameB (.str "all") && (if isS tW "thing" = true then thB [.int h, tE es, tF fs] else (if isS tW "mean" = true then meB [.int h, tE es, tF fs] else isS tW "hold" && hoB [.int h, tE es, tF fs]))) && isS tW "thing") = false
    rw [show nameB (.str "all") = false by decide +kernel, Bool.false_and, Bool.false_and]
  · exact ⟨thok rfl (bd5 bw bx bh (b4 := 1000) (bdB_of (by decide +kernel)) bf), th_not (th3 (Or.inr (Or.inl (by decide +kernel))))⟩
  · exact ⟨thok rfl (bd5 bw bx bh (b4 := 2000) (bdB_of (by decide +kernel)) bf), th_not (th3 (Or.inr (Or.inl (by decide +kernel))))⟩
  · exact ⟨thok rfl (bd5 bw bx bh be (b5 := 1000) (bdB_of (by decide +kernel))), th_not (th3 (Or.inr (Or.inr (by decide +kernel))))⟩
  · exact ⟨thok rfl (bd5 bw bx bh be (b5 := 1000) (bdB_of (by decide +kernel))), th_not (th3 (Or.inr (Or.inr rfl)))⟩
  · exact ⟨thok rfl (bd5 bw bx bh be (b5 := 3000) (bdB_of (by decide +kernel))), th_not (th3 (Or.inr (Or.inr (by decide +kernel))))⟩
  · exact ⟨thok rfl (bd5 bw bx bh be (b5 := 1000) (bdB_of (by decide +kernel))), th_not (th3 (Or.inr (Or.inr (by decide +kernel))))⟩
theorem odd_all {x n0 : Str} {h : Int} {es : List PyData} {fs : List (List PyData)} {a1 a2 : Addr} (b : Bd 20 420000 (rwT x h es fs)) (hx : nameX n0 = true) : ∀ s ∈ oddS x n0 h es fs a1 a2, BadS a1 a2 s := by
  have od := oddD_ok b hx
  intro s hs
  have dat : ∀ d, d ∈ oddD x n0 h es fs → BadS a1 a2 (.d d) := fun d hd => Or.inl ⟨d, rfl, od d hd⟩
  simp only [oddS, odd1, odd2, odd3, odd4, odd5, List.cons_append, List.nil_append, List.mem_cons, List.not_mem_nil, or_false] at hs
  rcases hs with rfl | rfl | rfl | rfl | rfl | rfl | rfl | rfl | rfl | rfl | rfl | rfl | rfl | rfl | rfl | rfl | rfl | rfl | rfl | rfl
  rotate_left 3
  · exact Or.inr (Or.inl rfl)
  · exact Or.inr (Or.inr rfl)
  all_goals exact dat _ (by simp [oddD])
theorem num_all {m : Int} {a3 : Addr} (h0 : 0 ≤ m) (h1 : m ≤ 1000000) : ∀ s ∈ numS a3 m, NumS a3 s := by
  intro s hs
  have dat : ∀ d, bdB 61 1100400 d = true → isLstD d = false → NumS a3 (.d d) := fun d hd e => Or.inl ⟨d, rfl, thok e (bdB_of hd)⟩
  have int : ∀ i : Int, -1 ≤ i → i ≤ 1000000 → NumS a3 (.d (.int i)) := fun i l u => Or.inl ⟨_, rfl, thok rfl ((Bd.int (i := i) ⟨by omega, by omega⟩).mono (by decide) (by decide))⟩
  simp only [numS, List.mem_cons, List.not_mem_nil, or_false] at hs
  rcases hs with rfl | rfl | rfl | rfl | rfl | rfl | rfl | rfl | rfl | rfl | rfl | rfl | rfl | rfl | rfl
  · exact int _ (by decide) (by decide)
  · exact int _ (by decide) (by decide)
  · exact int _ (by decide) (by decide)
  · exact int _ (by decide) (by decide)
  · exact int _ (by decide) (by decide)
  · exact int _ (by decide) (by decide)
  · exact int _ (by omega) (by omega)
  · exact int _ (by omega) (by omega)
  · exact dat _ (by decide +kernel) rfl
  · exact dat _ (by decide +kernel) rfl
  · exact dat _ (by decide +kernel) rfl
  · exact dat _ (by decide +kernel) rfl
  · exact Or.inr rfl
  · exact dat _ (by decide +kernel) rfl
  · exact dat _ (by decide +kernel) rfl
theorem list_at {ss : List Sl} {z : Int} (h0 : 0 ≤ z) (h1 : z < ss.length) : ∃ s, ss[z.toNat]? = some s ∧ s ∈ ss := by
  have lt : z.toNat < ss.length := by omega
  exact ⟨_, List.getElem?_eq_getElem lt, List.getElem_mem lt⟩
end KP
set_option Elab.async false
set_option linter.unusedVariables false
set_option linter.unusedSectionVars false
set_option maxRecDepth 100000
set_option maxHeartbeats 1000000
namespace OW
open PySem PySem.Spec PyProof.Rows L2 KA
variable [Tbs]
/-! ### a walk over a list or a tuple; isinstance of these two; a whole number in a list -/
theorem call_isSeq {X : Cx} : CallR X (.builtin "isinstance") (fun xs H Q => ∃ x tp d, xs = [x, .ref tp] ∧ H tp = some (.tup [.ty "list", .ty "tuple"]) ∧ Dn H x d ∧ Q (.bl (isLstD d || isTupD d)) H) := by
  intro pins s σ H xs us Q I r h
  obtain ⟨x, tp, d, rfl, ht, hd, q⟩ := h
  refine call_isiT pins s σ H _ us Q I r ⟨x, tp, _, _, [.type "list", .type "tuple"], _, rfl, ht, .cons (.ty _) (.cons (.ty _) .nil), hd.ty, ?_, q⟩
  have h1 := kit_ty (K := X.K) (KA.is_lst d)
  have h2 := kit_ty (K := X.K) (KA.is_tup d)
  unfold PySem.W.kitAny
  rw [h1]
  cases isLstD d with
  | true => rfl
  | false =>
    simp only [PySem.W.kitAny, h2]
    cases isTupD d <;> rfl
section
variable {X : Cx} {tg : Expr}
def iSeq (K : PySem.W.Frag) (tl : TE) : TI := fun σ H R => iList K tl σ H R ∨ iTup K tl σ H R
theorem pi_seq {l : Expr} {tl : TE} (hl : PE X l tl) : PI X tg l (iSeq X.K tl) :=
  ⟨fun pins s σ H R I h => h.elim (fun h => (pi_list hl).run pins s σ H R I h) fun h => (pi_tup hl).run pins s σ H R I h⟩
end
section
variable {ρ ρ1 ρ' : List Sl} {te : TE} {x : PyData} {xs : List PyData} {KF : PySem.W.Frag}
theorem fi_seqL (h : Ev te ρ (.d (.list xs)) ρ1) : Fi (iSeq KF te) ρ xs ρ1 := fun c A σ H R R0 f k => Or.inl (fi_list h c A σ H R R0 f k)
theorem fi_seqT (h : Ev te ρ (.d (.tuple xs)) ρ1) : Fi (iSeq KF te) ρ xs ρ1 := fun c A σ H R R0 f k => Or.inr (fi_tup h c A σ H R R0 f k)
theorem fv_isSeq : FV (fun xs H Q => ∃ x tp d, xs = [x, .ref tp] ∧ H tp = some (.tup [.ty "list", .ty "tuple"]) ∧ Dn H x d ∧ Q (.bl (isLstD d || isTupD d)) H) [.d x, .p (tupMo [.p (isV (.ty "list")), .p (isV (.ty "tuple"))])] (.d (.bool (isLstD x || isTupD x))) := fv_s (dB (isLstD x || isTupD x)) fun W H vs Q S o q => by
  cases vs with
  | nil => exact o.elim
  | cons v vs => cases vs with
    | nil => exact o.2.elim
    | cons u vs => cases vs with
      | cons _ _ => exact o.2.2.elim
      | nil =>
        have o2 : ∃ t us, u = .ref t ∧ W t = some (.tup us) ∧ ArAll W us [.p (isV (.ty "list")), .p (isV (.ty "tuple"))] := o.2.1
        obtain ⟨t, us, rfl, e, ar⟩ := o2
        cases us with
        | nil => exact ar.elim
        | cons a us => cases us with
          | nil => exact ar.2.elim
          | cons b us => cases us with
            | cons _ _ => exact ar.2.2.elim
            | nil =>
              obtain rfl := isv_v ar.1
              obtain rfl := isv_v ar.2.1
              exact ⟨v, t, x, rfl, S _ _ e, Dn.mono S o.1, q⟩
theorem inV_int {W : Hp} (a : Int) : ∀ {vs : List V} {bs : List Int}, DnAll W vs (bs.map .int) → vs.all flatV = true ∧ inV (.int a) vs = bs.any fun b => b == a
  | [], [], _ => ⟨rfl, rfl⟩
  | v :: vs, b :: bs, h => by
    cases h with
    | cons h t =>
      cases h
      obtain ⟨p, q⟩ := inV_int a t
      refine ⟨by rw [List.all_cons, p]; rfl, ?_⟩
      unfold inV at q ⊢
      rw [List.any_cons, List.any_cons, q]
      rfl
theorem fv_inI {a : Int} {bs : List Int} : FV2 (rIn KF false) (.d (.int a)) (.d (.list (bs.map .int))) (.d (.bool (bs.any fun b => b == a))) := fv2_s (dB (bs.any fun b => b == a)) fun W H v w Q S o o' q => by
  obtain rfl := int_v o
  obtain ⟨p, vs, rfl, e, dx⟩ := lst_v o'
  obtain ⟨h1, h2⟩ := inV_int a dx
  exact ⟨p, vs, rfl, Or.inl (SqL.of (S _ _ e)), rfl, h1, by rw [h2]; exact q⟩
end
end OW
set_option Elab.async false
set_option linter.unusedVariables false
set_option linter.unusedSectionVars false
set_option maxRecDepth 100000
set_option maxHeartbeats 4000000
namespace KP
open PySem PySem.Spec PyProof.Rows L2 KA OW
abbrev spRight : Sp := spU 3 tRightD fun p ct as Kr => tRight0 p ct as Kr ∨ tRight2 p ct as Kr
structure Calls (P : Program) (w : World) (K : PySem.W.Frag) (mg : Str → Option Value) (base : Heap) : Prop where
  cell : C8.Cal P w K mg base 1 "_law_cell" (spCell K) []
  box : C8.Cal P w K mg base 1 "_law_box" spPurse []
  letters : C8.Cal P w K mg base 2 "_law_letters" (spB 1 tLetters) []
  thing : C8.Cal P w K mg base 12 "_law_thing" (spB 2 tThing) []
  row : C8.Cal P w K mg base 42 "_law_row" (spD 1 tRow) []
  take : C8.Cal P w K mg base 1 "_law_take" (spB 1 tTake) []
  right : CalG P w K mg base 13 "_law_right" ["_law_row_here", "_law_is_good", "_law_number"] spRight
section
variable {ρ : List Sl} {te : TE} {ds : List PyData} {m : Int} {KF : PySem.W.Frag}
theorem ev_to (n : Nat) (h : Ev te ρ (.d (.tuple ds)) ρ) (e : m = (n : Int) := by rfl) : Ev (tSl (rSlA KF) te tNoPart (tPart (tC (.int m)))) ρ (.d (.tuple (ds.take n))) ρ := by
  subst e
  exact Ev.is (ev_slA h eo_none (eo_some ev_int)) (by rw [cutD_to'])
theorem ev_from (n : Nat) (h : Ev te ρ (.d (.tuple ds)) ρ) (e : m = (n : Int) := by rfl) : Ev (tSl (rSlA KF) te (tPart (tC (.int m))) tNoPart) ρ (.d (.tuple (ds.drop n))) ρ := by
  subst e
  exact Ev.is (ev_slA h (eo_some ev_int) eo_none) (by rw [cutD_from'])
theorem ev_negC {n : Int} : Ev (tUn (rU fun i => .int (-i)) (tC (.int n))) ρ (.d (.int (-n))) ρ := fun c A σ H Q R f q => ⟨n, rfl, q _ A H R f (Same.refl _) (.int _)⟩
theorem ev_dic0 : Ev tDNewK ρ (.d (.dict [])) ρ := fun c A σ H Q R f q => fun b hb =>
  q _ A _ (R.up (Same.new hb)) f (vw_up (Same.new hb)) (.dic (new_view R hb upd_same) .nil .nil)
theorem ev_kd {n : Int} : Ev (tTup (tCons (tC (.str "kind")) (tCons (tC (.int n)) tNil))) ρ (.d (zK n)) ρ := ev_tup (eds_cons ev_str (eds_cons ev_int eds_nil))
theorem ev_cat5 {ta tb : TE} {xs ys : List PyData} (h : Ev ta ρ (.d (.tuple xs)) ρ) (h' : Ev tb ρ (.d (.tuple ys)) ρ) (l : xs.length + ys.length ≤ 20 := by simp) : Ev (tOp (rCatA KF) ta tb) ρ (.d (.tuple (xs ++ ys))) ρ :=
  ev_op h h' (fv_catA (Nat.le_trans l (by rw [sizeLine_eq]; decide)))
theorem ev_put1 {a : PyData} (h : Ev te ρ (.d a) ρ) : Ev (tTup (tCons te tNil)) ρ (.d (.tuple [a])) ρ := ev_tup (eds_cons h eds_nil)
end
section
variable {P : Program} {w : World} {K : PySem.W.Frag} {mg : Str → Option Value} {base : Heap}
theorem ok_law {f : Addr} {fd : FuncData} (F : Fun K "law" "law" sLaw f fd) (T : Txt K w mg) (Y : Calls P w K mg base) : FnG P w K mg base CX0 60 f fd ["_law_script"] (spLaw K) := by
  have ⟨C_law_cell, C_law_box, C_law_letters, C_law_thing, C_law_row, C_law_take, G_law_right⟩ := Y
  refine fnG (k := 59) F scLaw (fun vs H Q E h => ?_) (fun cdv A outer s H vs Q E g hr h => ?_)
  · obtain ⟨a, ns, rfl, _⟩ := h
    rfl
  obtain ⟨a, ns, rfl, tb, hS, hl, fin⟩ := h
  have hu : (A.deeper (envOfC "law" (defScope sLaw) s.heap.objs.size f cdv)).units + 200 < cLine := by have := hr.un; omega
  have hg : (cxOf CX0 P w K mg base nLaw "law" (defScope sLaw) f cdv A outer s H E).nox.A.guards = some [] := g
  refine ⟨_, PSs.nox (pss_cons (ps_for PassesOwn.never rfl (pi_range1 (by rfl) T.range (pa_cons (pe_callB (call_max2 rfl) (by rfl) T.max (by decide +kernel) (pa_cons pe_int (pa_cons (pe_callB (call_min2 rfl) (by rfl) T.min (by decide +kernel) (pa_cons pe_int (pa_cons (pe_callB call_len_seq (by rfl) T.len PySem.boot_len (pa_cons (pv 0) pa_nil)) pa_nil))) pa_nil))) pa_nil)) (pg_name (i := 1) scLaw.nd rfl (Or.inl rfl)) (pss_cons (ps_set (i := 2) scLaw.nd rfl (Or.inl rfl) (C8.pe_c C_law_box hr (by omega) rfl (pa_cons (C8.pe_c C_law_cell hr (by omega) rfl (pa_cons (pv 0) (pa_cons (pv 1) pa_nil))) pa_nil)))
      (pss_cons (ps_set (i := 3) scLaw.nd rfl (Or.inl rfl) (C8.pe_c C_law_letters hr (by omega) rfl (pa_cons (pv 2) (pa_cons pe_int pa_nil))))
      (pss_cons (ps_set (i := 4) scLaw.nd rfl (Or.inl rfl) (C8.pe_c C_law_row hr (by omega) rfl (pa_cons (C8.pe_c C_law_thing hr (by omega) rfl (pa_cons (pv 2) (pa_cons (pe_ix ix_list (pv 3) pe_int (fun _ _ => rfl)) (pa_cons (pe_slice sl_list (pv 3) (po_some pe_int) po_none) pa_nil)))) pa_nil)))
      (pss_cons (ps_set (i := 5) scLaw.nd rfl (Or.inl rfl) (pe_callB (call_repr hg hu) (by rfl) T.repr (by decide +kernel) (pa_cons (pv 4) pa_nil)))
      (pss_cons (ps_set (i := 6) scLaw.nd rfl (Or.inl rfl) (pe_lst (pa_cons pe_non (pa_cons pe_bl (pa_cons pe_str (pa_cons (pe_lst (pa_cons (pv 4) pa_nil)) (pa_cons (pe_callTy call_list_of (by rfl) T.list (by decide +kernel) (pa_cons (pv 4) pa_nil)) (pa_cons (pe_op op_catA (pv 4) (pe_tup (pa_cons pe_int pa_nil))) (pa_cons (pe_slice sl_tupA (pv 4) po_none (po_some pe_int)) (pa_cons (pe_tup (pa_cons pe_str (pa_cons (pe_ix ix_list (pv 3) pe_int (fun _ _ => rfl)) (pa_cons (pe_tup (pa_cons pe_str (pa_cons pe_int pa_nil))) pa_nil)))) (pa_cons (pe_tup pa_nil) (pa_cons pe_dnewK pa_nil))))))))))))
      (pss_cons (ps_set (i := 6) scLaw.nd rfl (Or.inl rfl) (pe_op op_cat (pv 6) (pe_lst (pa_cons (pe_tup (pa_cons pe_str (pa_cons (pe_ix ix_list (pv 3) pe_int (fun _ _ => rfl)) (pa_cons (pe_tup (pa_cons pe_str (pa_cons pe_int pa_nil))) (pa_cons (pe_tup (pa_cons pe_str (pa_cons pe_int pa_nil))) pa_nil))))) (pa_cons (pe_op op_catA (pe_op op_catA (pe_slice sl_tupA (pv 4) po_none (po_some pe_int)) (pe_tup (pa_cons pe_int pa_nil))) (pe_slice sl_tupA (pv 4) (po_some pe_int) po_none)) (pa_cons (pe_op op_pow pe_int pe_int) pa_nil))))))
      (pss_cons (ps_set (i := 6) scLaw.nd rfl (Or.inl rfl) (pe_op op_cat (pv 6) (pe_lst (pa_cons (pe_op op_catA (pe_op op_catA (pe_slice sl_tupA (pv 4) po_none (po_some pe_int)) (pe_tup (pa_cons pe_str pa_nil))) (pe_slice sl_tupA (pv 4) (po_some pe_int) po_none)) (pa_cons (pe_op op_catA (pe_op op_catA (pe_slice sl_tupA (pv 4) po_none (po_some pe_int)) (pe_tup (pa_cons (pe_tup (pa_cons (pe_tup (pa_cons pe_str (pa_cons pe_int pa_nil))) pa_nil)) pa_nil))) (pe_slice sl_tupA (pv 4) (po_some pe_int) po_none)) pa_nil)))))
      (pss_cons (ps_set (i := 6) scLaw.nd rfl (Or.inl rfl) (pe_op op_cat (pv 6) (pe_lst (pa_cons (pe_op op_catA (pe_op op_catA (pe_slice sl_tupA (pv 4) po_none (po_some pe_int)) (pe_tup (pa_cons (pe_op op_repA (pe_tup (pa_cons (pe_tup (pa_cons pe_str (pa_cons pe_int pa_nil))) pa_nil)) pe_int) pa_nil))) (pe_slice sl_tupA (pv 4) (po_some pe_int) po_none)) (pa_cons (pe_op op_catA (pe_slice sl_tupA (pv 4) po_none (po_some pe_int)) (pe_tup (pa_cons (pe_op op_repA (pe_tup (pa_cons (pe_tup pa_nil) pa_nil)) pe_int) pa_nil))) (pa_cons (pe_op op_catA (pe_slice sl_tupA (pv 4) po_none (po_some pe_int)) (pe_tup (pa_cons (pe_lst pa_nil) pa_nil))) pa_nil))))))
      (pss_cons (ps_set (i := 6) scLaw.nd rfl (Or.inl rfl) (pe_op op_cat (pv 6) (pe_lst (pa_cons (pe_op op_catA (pe_slice sl_tupA (pv 4) po_none (po_some pe_int)) (pe_tup (pa_cons (pe_tup (pa_cons (pe_op op_repA (pe_tup (pa_cons (pe_tup (pa_cons pe_str (pa_cons pe_int pa_nil))) pa_nil)) pe_int) pa_nil)) pa_nil))) (pa_cons (pe_op op_catA (pe_slice sl_tupA (pv 4) po_none (po_some pe_int)) (pe_tup (pa_cons (pe_tup (pa_cons (pe_tup (pa_cons pe_non pa_nil)) pa_nil)) pa_nil))) pa_nil)))))
      (pss_cons (ps_set (i := 7) scLaw.nd rfl (Or.inl rfl) (pe_lst (pa_cons pe_int (pa_cons pe_int (pa_cons pe_int (pa_cons pe_int (pa_cons pe_int (pa_cons (pe_un un_neg pe_int) (pa_cons (pe_callB call_len_seq (by rfl) T.len PySem.boot_len (pa_cons (pe_ix ix_tup (pv 4) pe_int (fun _ _ => rfl)) pa_nil)) (pa_cons (pe_op op_sub (pe_callB call_len_seq (by rfl) T.len PySem.boot_len (pa_cons (pe_ix ix_tup (pv 4) pe_int (fun _ _ => rfl)) pa_nil)) pe_int) (pa_cons pe_non (pa_cons pe_bl (pa_cons pe_bl (pa_cons pe_str (pa_cons (pe_lst (pa_cons pe_int pa_nil)) (pa_cons (pe_tup (pa_cons pe_int pa_nil)) (pa_cons (pe_op op_pow pe_int pe_int) pa_nil)))))))))))))))))
      (pss_cons (ps_for PassesOwn.never rfl (pi_range1 (by rfl) T.range (pa_cons pe_int pa_nil)) (pg_name (i := 8) scLaw.nd rfl (Or.inl rfl)) (pss_cons (ps_set (i := 9) scLaw.nd rfl (Or.inl rfl) (pe_ix ix_list (pv 7) (C8.pe_c C_law_take hr (by omega) rfl (pa_cons (pv 2) (pa_cons pe_int pa_nil))) (fun _ _ => rfl)))
      (pss_cons (ps_set (i := 10) scLaw.nd rfl (Or.inl rfl) (pe_ix ix_list (pv 6) (C8.pe_c C_law_take hr (by omega) rfl (pa_cons (pv 2) (pa_cons pe_int pa_nil))) (fun _ _ => rfl)))
      (pss_one (ps_if (PW.pt (pw_or (pt_not (pt_val (pe_g G_law_right hg hr (by omega) rfl (pa_cons (pv 4) (pa_cons pe_bl (pa_cons (pv 9) pa_nil)))))) (pw_or1 (pt_not (pt_val (pe_g G_law_right hg hr (by omega) rfl (pa_cons (pv 10) (pa_cons pe_bl (pa_cons (pv 9) pa_nil))))))))) (pss_one (ps_ret pe_bl)) pss_nil)))))
      (pss_one (ps_if (pt_cmpR op_ne (pe_callB (call_repr hg hu) (by rfl) T.repr (by decide +kernel) (pa_cons (pv 4) pa_nil)) (pv 5) (nomark _)) (pss_one (ps_ret pe_bl)) pss_nil))))))))))))))
      (pss_one (ps_ret pe_bl))), ?_⟩
  refine (?main : Sm _ ([.p (scrMo K ns)] ++ uns (nLaw.length - 1)) { nx := fun _ => False, rt := fun r _ => r = .d (.bool true) }) ⟨tabA, none, H, hz tabA H⟩ _ _ H _ (rp_start (N := nLaw) (n := 1) (by decide) (zok_tabs tb) ⟨⟨a, rfl, sql_tabs tb hS⟩, trivial⟩ rfl) rfl ⟨fun _ _ _ _ z => z.elim, fun r ρ v A' σ' H' k R o => ?ret, fun _ _ _ _ z => z.elim, fun _ _ _ _ z => z.elim⟩
  case ret =>
    subst k
    obtain rfl := bool_v o.2
    exact fin H'
  clear fin hS tb
  have small : ∀ j : Int, -2 ^ 62 ≤ (if (if j < 10 then j else 10) > 2 then (if j < 10 then j else 10) else 2) ∧ (if (if j < 10 then j else 10) > 2 then (if j < 10 then j else 10) else 2) < 2 ^ 62 := fun j => by
    split <;> split <;> constructor <;> omega
  have mN : maxN = 1000000000 := rfl
  refine sm_seq (sm_for (fi_rng1 (eds_cons (ev_fn (es_cons ev_int (es_cons (ev_fn (es_cons ev_int (es_cons (ev_fn (es_cons (ev_varp rfl) es_nil) fv_lenScr) es_nil)) fv_min2) es_nil)) fv_max2) eds_nil) (small _)) (fun j ρ => ∃ s1 s2 s3 s4 s5 s6 s7 s8 s9 s10, ρ = [.p (scrMo K ns), s1, s2, s3, s4, s5, s6, s7, s8, s9, s10]) ⟨_, _, _, _, _, _, _, _, _, _, rfl⟩ (fun j x ρ ex r => ?_) (fun ρ r => ?_))
  · obtain ⟨s1, s2, s3, s4, s5, s6, s7, s8, s9, s10, rfl⟩ := r
    obtain ⟨_, rfl⟩ := rngD_at ex
    refine ⟨_, tg_name, ?_⟩
    refine sm_seq (sm_purse rfl rfl (fun pu hp => ?_))
    obtain ⟨n1, n2, p1⟩ := lettersF_ok hp
    refine sm_seq (sm_set (ev_callB (i := 2) rfl (es_cons ev_int es_nil) rfl ar_nil rfl ⟨pu, 0, rfl, rfl, hp, by decide, rfl, rfl⟩) ?_)
    generalize lettersF pu = L at *
    obtain ⟨N, pL⟩ := L
    have n1 : N.length = 4 := n1
    match N, n1, n2, p1 with
    | [n0, na, nb, nc], _, n2, p1 =>
    have x0 : nameX n0 = true := n2 _ (by simp)
    have hns3 : NsOk [na, nb, nc] := ⟨by simp, by simp, fun x m => n2 x (List.mem_cons_of_mem _ m)⟩
    have p1 : PuOk pL (0 + 10) := p1
    obtain ⟨⟨es, fs, th⟩, p3⟩ := thingF_ok hns3 x0 p1 (by decide)
    have cutN : PyData.list (cutD [PyData.str n0, .str na, .str nb, .str nc] (some (1 : Int)) none) = .list ([na, nb, nc].map .str) := by
      rw [show cutD [PyData.str n0, .str na, .str nb, .str nc] (some (1 : Int)) none = [PyData.str n0, .str na, .str nb, .str nc].drop 1 from cutD_from' (n := 1)]
      rfl
    obtain ⟨r1, r2⟩ := row_ok th
    have rw_ : RwOk (thingF [na, nb, nc] n0 pL).1.name (thingF [na, nb, nc] n0 pL).1.height es fs := ⟨r1, ok2_of r2 (by decide), Nat.le_trans r2.2.1 (by decide)⟩
    have r2 : Bd 20 420000 (rwT (thingF [na, nb, nc] n0 pL).1.name (thingF [na, nb, nc] n0 pL).1.height es fs) := r2
    refine sm_seq (sm_set (ev_call (x := rowD (thingF [na, nb, nc] n0 pL).1 es fs) (es_cons (ev_callB (i := 2) (x := thingT (thingF [na, nb, nc] n0 pL).1) (c1 := (thingF [na, nb, nc] n0 pL).2.ds) rfl (es_cons (ev_op (ev_var rfl) ev_int (fv_ixL at0)) (es_cons (Ev.is (Ev.of_el (el_slL (ev_var rfl) (eo_some ev_int) eo_none)) cutN) es_nil)) rfl ar_nil rfl ⟨pL, _, [na, nb, nc], n0, rfl, rfl, p1, hns3, x0, by decide, rfl, rfl⟩) es_nil) ar_nil rfl ⟨_, _, _, rfl, th, rfl⟩) ?_)
    generalize (thingF [na, nb, nc] n0 pL).2 = pT at *
    generalize hx : (thingF [na, nb, nc] n0 pL).1.name = x at *
    generalize hh : (thingF [na, nb, nc] n0 pL).1.height = h at *
    have eR : rowD (thingF [na, nb, nc] n0 pL).1 es fs = rwT x h es fs := by rw [← hx, ← hh]; rfl
    rw [eR]
    clear eR hx hh th r1 cutN n2 hns3 p1
    show Sm _ [.p (scrMo K ns), .d (.int (j : Int)), .l pT.ds, .d (.list [.str n0, .str na, .str nb, .str nc]), .d (rwT x h es fs), s5, s6, s7, s8, s9, s10] _
    obtain ⟨h1, h2, h3⟩ := shown_fits r2 (by decide) (by decide)
    have hn : nodes (rwT x h es fs) ≤ 900000 := by
      have := nodes2_wt (rwT x h es fs)
      have := r2.2.2
      omega
    have lr : ([tW, .str x, .int h, tE es, tF fs] : List PyData).length = 5 := rfl
    refine sm_seq (sm_set (ev_fn (es_cons (ev_var rfl) es_nil) (fv_repr h1 h2 h3)) ?_)
    generalize hk : (rwT x h es fs).shown = kept at *
    refine sm_seq (sm_setX (i := 6) (esx_cons ev_non (esx_cons ev_bl (esx_cons ev_str (esx_new (i := 1) (el_lst (eds_cons (ev_var (x := rwT x h es fs) rfl) eds_nil)) (fun a1 => esx_new (i := 8) (el_fn (es_cons (ev_var rfl) es_nil) fl_listT) (fun a2 =>
      esx_es (es_cons (ev_cat5 (ev_var rfl) (ev_put1 ev_int)) (es_cons (ev_to 4 (ev_var rfl)) (es_cons (ev_tup (eds_cons ev_str (eds_cons (ev_op (ev_var rfl) ev_int (fv_ixL at0)) (eds_cons ev_kd eds_nil)))) (es_cons (ev_tup eds_nil) (es_cons ev_dic0 es_nil))))) ⟨by simp [sizeLine_eq], by simp, ?_⟩)))))))
    show Sm _ [.p (scrMo K ns), .wa a1 [rwT x h es fs], .l pT.ds, .d (.list [.str n0, .str na, .str nb, .str nc]), .d (rwT x h es fs), .d (.str kept), .lm (arL (odd1 x n0 h es fs a1 a2)), s7, .wa a2 [tW, .str x, .int h, tE es, tF fs], s9, s10] _
    refine sm_seq (sm_setLM (elp_cat (i := 6) rfl (elp_lst (es_cons (ev_tup (eds_cons ev_str (eds_cons (ev_op (ev_var rfl) ev_int (fv_ixL at0)) (eds_cons ev_kd (eds_cons ev_kd eds_nil))))) (es_cons (ev_cat5 (ev_cat5 (ev_to 2 (ev_var rfl)) (ev_put1 ev_int)) (ev_from 3 (ev_var rfl))) (es_cons (ev_op ev_int ev_int (fv_intC ⟨by decide, by decide, by decide⟩)) es_nil)))) (by simp [sizeLine_eq, odd1])) ?_)
    show Sm _ [.p (scrMo K ns), .wa a1 [rwT x h es fs], .l pT.ds, .d (.list [.str n0, .str na, .str nb, .str nc]), .d (rwT x h es fs), .d (.str kept), .lm (arL (odd1 x n0 h es fs a1 a2 ++ odd2 x n0 es fs)), s7, .wa a2 [tW, .str x, .int h, tE es, tF fs], s9, s10] _
    refine sm_seq (sm_setLM (elp_cat (i := 6) rfl (elp_lst (es_cons (ev_cat5 (ev_cat5 (ev_to 1 (ev_var rfl)) (ev_put1 ev_str)) (ev_from 2 (ev_var rfl))) (es_cons (ev_cat5 (ev_cat5 (ev_to 3 (ev_var rfl)) (ev_put1 (ev_put1 ev_kd))) (ev_from 4 (ev_var rfl))) es_nil))) (by simp [sizeLine_eq, odd1, odd2])) ?_)
    show Sm _ [.p (scrMo K ns), .wa a1 [rwT x h es fs], .l pT.ds, .d (.list [.str n0, .str na, .str nb, .str nc]), .d (rwT x h es fs), .d (.str kept), .lm (arL ((odd1 x n0 h es fs a1 a2 ++ odd2 x n0 es fs) ++ odd3 x h es fs)), s7, .wa a2 [tW, .str x, .int h, tE es, tF fs], s9, s10] _
    refine sm_seq (sm_setLM (elp_cat (i := 6) rfl (elp_lst (es_cons (ev_cat5 (ev_cat5 (ev_to 3 (ev_var rfl)) (ev_put1 (ev_op (ev_put1 ev_kd) ev_int (fv_repA ⟨by simp, by decide, by decide, by simp⟩)))) (ev_from 4 (ev_var rfl))) (es_cons (ev_cat5 (ev_to 4 (ev_var rfl)) (ev_put1 (ev_op (ev_put1 (ev_tup eds_nil)) ev_int (fv_repA ⟨by simp, by decide, by decide, by simp⟩)))) (es_cons (ev_cat5 (ev_to 4 (ev_var rfl)) (ev_put1 (Ev.of_el (el_lst eds_nil)))) es_nil)))) (by simp [sizeLine_eq, odd1, odd2, odd3])) ?_)
    show Sm _ [.p (scrMo K ns), .wa a1 [rwT x h es fs], .l pT.ds, .d (.list [.str n0, .str na, .str nb, .str nc]), .d (rwT x h es fs), .d (.str kept), .lm (arL (((odd1 x n0 h es fs a1 a2 ++ odd2 x n0 es fs) ++ odd3 x h es fs) ++ odd4 x h es fs)), s7, .wa a2 [tW, .str x, .int h, tE es, tF fs], s9, s10] _
    refine sm_seq (sm_setLM (elp_cat (i := 6) rfl (elp_lst (es_cons (ev_cat5 (ev_to 4 (ev_var rfl)) (ev_put1 (ev_put1 (ev_op (ev_put1 ev_kd) ev_int (fv_repA ⟨by simp, by decide, by decide, by simp⟩))))) (es_cons (ev_cat5 (ev_to 4 (ev_var rfl)) (ev_put1 (ev_put1 (ev_put1 ev_non)))) es_nil))) (by simp [sizeLine_eq, odd1, odd2, odd3, odd4])) ?_)
    show Sm _ [.p (scrMo K ns), .wa a1 [rwT x h es fs], .l pT.ds, .d (.list [.str n0, .str na, .str nb, .str nc]), .d (rwT x h es fs), .d (.str kept), .lm (arL (oddS x n0 h es fs a1 a2)), s7, .wa a2 [tW, .str x, .int h, tE es, tF fs], s9, s10] _
    have ODD := odd_all (a1 := a1) (a2 := a2) r2 x0
    have oL : (oddS x n0 h es fs a1 a2).length = 20 := rfl
    generalize oddS x n0 h es fs a1 a2 = oS at *
    have lM : ∀ ρ : List Sl, ρ[4]? = some (.d (rwT x h es fs)) → Ev (tCB (fun xs H Q => ∃ p ys, xs = [.ref p] ∧ (SqL K H p ys ∨ SqT K H p ys) ∧ Q (.int ys.length) H) (tCons (tOp (rIxT K) (tVar 4) (tC (.int 4))) tNil)) ρ (.d (.int (((fs.map PyData.tuple).length : Nat) : Int))) ρ := fun ρ h4 => ev_fn (es_cons (ev_op (ev_var h4) ev_int (fv_ixT (at_nat (j := 4) rfl))) es_nil) fv_lenT
    refine sm_seq (sm_setX (i := 7) (esx_cons ev_int (esx_cons ev_int (esx_cons ev_int (esx_cons ev_int (esx_cons ev_int (esx_cons ev_negC (esx_cons (lM _ rfl) (esx_cons (ev_op (lM _ rfl) ev_int fv_int) (esx_cons ev_non (esx_cons ev_bl (esx_cons ev_bl (esx_cons ev_str (esx_new (i := 3) (el_lst (eds_cons ev_int eds_nil)) (fun a3 => esx_es (es_cons (ev_put1 ev_int) (es_cons (ev_op ev_int ev_int (fv_intC ⟨by decide, by decide, by decide⟩)) es_nil)) ⟨by simp [sizeLine_eq], by simp, ?_⟩))))))))))))))) 
    show Sm _ [.p (scrMo K ns), .wa a1 [rwT x h es fs], .l pT.ds, .wa a3 [.int 0], .d (rwT x h es fs), .d (.str kept), .lm (arL oS), .lm (arL (numS a3 (((fs.map PyData.tuple).length : Nat) : Int))), .wa a2 [tW, .str x, .int h, tE es, tF fs], s9, s10] _
    have lfs : (fs.map PyData.tuple).length ≤ 1000000 := by
      have := rw_.len
      rw [List.length_map]
      exact this.2
    have NUM := num_all (a3 := a3) (m := (((fs.map PyData.tuple).length : Nat) : Int)) (by omega) (by omega)
    have nL : (numS a3 (((fs.map PyData.tuple).length : Nat) : Int)).length = 15 := rfl
    generalize numS a3 (((fs.map PyData.tuple).length : Nat) : Int) = nS at *
    have b1 : ThOk' (.lst a1 [rwT x h es fs]) 0 := ⟨rfl, (Bd.lst (BdAll.one r2)).mono (by decide) (by decide)⟩
    have b2 : ThOk' (.lst a2 [tW, .str x, .int h, tE es, tF fs]) 0 := ⟨rfl, (show Bd 20 420000 (.list [tW, .str x, .int h, tE es, tF fs]) from ⟨r2.1, r2.2.1, r2.2.2⟩).mono (by decide) (by decide)⟩
    have b3 : ThOk' (.lst a3 [.int 0]) 0 := ⟨rfl, (show Bd 61 1100400 (.list [.int 0]) from bdB_of (by decide +kernel))⟩
    refine sm_seq (sm_for (fi_rng1 (eds_cons ev_int eds_nil) (by decide)) (fun i ρ => ∃ pu c1 c2 c3 s9 s10, PuOk pu (30000 + 2 * i) ∧ ThOk' (.lst a1 c1) (5 * i) ∧ ThOk' (.lst a2 c2) (5 * i) ∧ ThOk' (.lst a3 c3) (5 * i) ∧ ρ = [.p (scrMo K ns), .wa a1 c1, .l pu.ds, .wa a3 c3, .d (rwT x h es fs), .d (.str kept), .lm (arL oS), .lm (arL nS), .wa a2 c2, s9, s10]) ⟨_, _, _, _, _, _, p3.more (by omega), b1, b2, b3, rfl⟩ (fun i y ρ ey r => ?_) (fun ρ r => ?_))
    · obtain ⟨pu, c1, c2, c3, s9, s10, hp, k1, k2, k3, rfl⟩ := r
      obtain ⟨i3, rfl⟩ := rngD_at ey
      have i3 : i < 3 := i3
      refine ⟨_, tg_keepW (i := 8) rfl, ?_⟩
      obtain ⟨u0, u1, u2⟩ := takeF_ok (m := 15) hp (by decide)
      have gotN := got_take hp (by omega) (m := 15) (by decide) (by decide)
      generalize takeF pu 15 = t1 at *
      obtain ⟨v0, v1, v2⟩ := takeF_ok (m := 20) u2 (by decide)
      have gotB := got_take u2 (by omega) (m := 20) (by decide) (by decide)
      generalize takeF t1.2 20 = t2 at *
      obtain ⟨sN, eN, mN'⟩ := list_at (ss := nS) u0 (by rw [nL]; exact u1)
      obtain ⟨sB, eB, mB⟩ := list_at (ss := oS) v0 (by rw [oL]; exact v1)
      have hN := NUM _ mN'
      have hB := ODD _ mB
      clear mN' mB NUM ODD
      refine sm_seq (sm_set (i := 9) (ev_pickM (i := 7) (ss := nS) rfl (ev_callB (i := 2) rfl (es_cons ev_int es_nil) rfl ar_nil rfl gotN) rfl (Int.toNat_of_nonneg u0).symm eN) ?_)
      refine sm_seq (sm_set (i := 10) (ev_pickM (i := 6) (ss := oS) rfl (ev_callB (i := 2) rfl (es_cons ev_int es_nil) rfl ar_nil rfl gotB) rfl (Int.toNat_of_nonneg v0).symm eB) ?_)
      show Sm _ [.p (scrMo K ns), .wa a1 c1, .l t2.2.ds, .wa a3 c3, .d (rwT x h es fs), .d (.str kept), .lm (arL oS), .lm (arL nS), .wa a2 c2, sN, sB] _
      have aN : ArgS sN := by
        rcases hN with ⟨d, rfl, _⟩ | rfl
        · exact Or.inl ⟨_, rfl⟩
        · exact Or.inr ⟨_, rfl⟩
      have call1 : ∃ c3', ThOk' (.lst a3 c3') (5 * (i + 1)) ∧ Ev (tCall spRight [] C8.E0 (tCons (tVar 4) (tCons (tC (.bl true)) (tCons (tVar 9) tNil)))) [.p (scrMo K ns), .wa a1 c1, .l t2.2.ds, .wa a3 c3, .d (rwT x h es fs), .d (.str kept), .lm (arL oS), .lm (arL nS), .wa a2 c2, sN, sB] (.d (.bool true)) [.p (scrMo K ns), .wa a1 c1, .l t2.2.ds, .wa a3 c3', .d (rwT x h es fs), .d (.str kept), .lm (arL oS), .lm (arL nS), .wa a2 c2, sN, sB] := by
        rcases hN with ⟨z, rfl, hz⟩ | rfl
        · exact ⟨c3, k3.mono (by omega), ev_callU (es_cons (ev_var rfl) (es_cons ev_bl (es_cons (ev_var rfl) es_nil))) rfl (Or.inr ⟨x, h, es, fs, z, 0, rfl, rw_, hn, hz, by decide, rfl⟩)⟩
        · refine ⟨mores 3 c3, ?_, ev_callUw (i := 3) (es_cons (ev_var rfl) (es_cons ev_bl (es_cons (ev_varp rfl) es_nil))) rfl rfl (Or.inr ⟨x, h, es, fs, 5 * i, rfl, rw_, hn, k3, by omega, rfl, rfl⟩)⟩
          have := k3.ups 3
          rw [ups_lst] at this
          exact this.mono (by omega)
      obtain ⟨c3', k3', e1⟩ := call1
      have call2 : ∃ c1' c2', ThOk' (.lst a1 c1') (5 * (i + 1)) ∧ ThOk' (.lst a2 c2') (5 * (i + 1)) ∧ Ev (tCall spRight [] C8.E0 (tCons (tVar 10) (tCons (tC (.bl false)) (tCons (tVar 9) tNil)))) [.p (scrMo K ns), .wa a1 c1, .l t2.2.ds, .wa a3 c3', .d (rwT x h es fs), .d (.str kept), .lm (arL oS), .lm (arL nS), .wa a2 c2, sN, sB] (.d (.bool true)) [.p (scrMo K ns), .wa a1 c1', .l t2.2.ds, .wa a3 c3', .d (rwT x h es fs), .d (.str kept), .lm (arL oS), .lm (arL nS), .wa a2 c2', sN, sB] := by
        rcases hB with ⟨d, rfl, hd, bad⟩ | rfl | rfl
        · exact ⟨c1, c2, k1.mono (by omega), k2.mono (by omega), ev_callU (es_cons (ev_var rfl) (es_cons ev_bl (es_cons (ev_varG rfl aN) es_nil))) rfl (Or.inl ⟨d, sN, 0, rfl, hd, by decide, bad, aN, rfl⟩)⟩
        · refine ⟨mores 5 c1, c2, ?_, k2.mono (by omega), ev_callUw (i := 1) (es_cons (ev_varp rfl) (es_cons ev_bl (es_cons (ev_varG rfl aN) es_nil))) rfl rfl (Or.inl ⟨sN, 5 * i, rfl, k1, by omega, aN, rfl, rfl⟩)⟩
          have := k1.ups 5
          rw [ups_lst] at this
          exact this.mono (by omega)
        · refine ⟨c1, mores 5 c2, k1.mono (by omega), ?_, ev_callUw (i := 8) (es_cons (ev_varp rfl) (es_cons ev_bl (es_cons (ev_varG rfl aN) es_nil))) rfl rfl (Or.inl ⟨sN, 5 * i, rfl, k2, by omega, aN, rfl, rfl⟩)⟩
          have := k2.ups 5
          rw [ups_lst] at this
          exact this.mono (by omega)
      obtain ⟨c1', c2', k1', k2', e2⟩ := call2
      refine sm_if (b := false) (Et.is (et_or (et_not (et_B e1)) (fun _ => et_not (et_B e2)) (fun z => by cases z)) rfl) (fun z => by cases z) (fun _ => sm_next ?_)
      exact ⟨_, _, _, _, _, _, v2.more (by omega), k1', k2', k3', rfl⟩
    · obtain ⟨pu, c1, c2, c3, s9, s10, hp, k1, k2, k3, rfl⟩ := r
      subst hk
      refine sm_if (b := false) (Et.is (et_test (ev_op (ev_fn (es_cons (ev_var rfl) es_nil) (fv_repr h1 h2 h3)) (ev_var rfl) fv_neS)) (by simp)) (fun z => by cases z) (fun _ => sm_next ?_)
      exact ⟨_, _, _, _, _, _, _, _, _, _, rfl⟩
  · obtain ⟨s1, s2, s3, s4, s5, s6, s7, s8, s9, s10, rfl⟩ := r
    exact sm_ret ev_bl rfl
end
end KP
set_option Elab.async false
set_option linter.unusedVariables false
set_option maxRecDepth 100000
set_option maxHeartbeats 4000000
namespace KP
open PySem PySem.Spec PyProof.Rows L2 KA OW
structure DefAt (K : PySem.W.Frag) (x : Str) (st : Stmt) (f : Addr) (fd : FuncData) : Prop where
  at_ : PySem.W.nsIn K mainGlobals x = some (some (.ref f))
  fn : Fun K x x st f fd
theorem defAt {K : PySem.W.Frag} {x : Str} {st : Stmt} {f : Addr} {oc : Value} {od an : Option Addr} {osl : Array (Option Value)} {kV doc pm cdv ct : Value} (a : PySem.W.nsIn K mainGlobals x = some (some (.ref f))) (l : K.lookup f = some ⟨oc, od, .func (PySem.W.fnOf x x (defArgs st) (defBody st) (defScope st) .none kV doc pm an cdv ct), osl⟩)
    (c : PySem.W.codeIn K cdv x = true) (k : PySem.W.keepIn K (.ref f) = true) : ∃ f fd, DefAt K x st f fd := ⟨_, _, a, fun_mk l c k⟩
structure NotC (K : PySem.W.Frag) (nm qual : Str) (st : Stmt) (C fI : Addr) (fdI : FuncData) : Prop where
  at_ : PySem.W.nsIn K mainGlobals nm = some (some (.ref C))
  oex : OexC K C
  iC : PySem.W.findIn K (.ref C) "__init__" = some (some (.ref fI))
  tI : PySem.W.typeIn K (.ref fI) = some (.type "function")
  noF : PySem.W.findIn K (.ref C) "found" = some none
  fn : Fun K "__init__" qual st fI fdI
  xf : XfC K C
  te : PySem.W.exmOne K (.ref C) (.ref C) = some true
abbrev rowCs : List (Addr × Addr) := [(138, 134)]
abbrev rowTs : List NdefX.NTab := [(134, fun _ _ => "raised_by.<locals>.turn")]
theorem row_tabs : (Tbs.T : List NdefX.NTab) = rowTs := rfl
theorem tab_void {H : Hp} (t : ∀ p ∈ rowCs, H p.2 = some (.tbl #[])) : ∀ b, tabA b → H b = some (.tbl #[]) := fun b ⟨p, hp, e⟩ => by
  rw [row_tabs] at hp
  simp only [rowTs, List.mem_cons, List.not_mem_nil, or_false] at hp
  simp only [rowCs, List.forall_mem_cons] at t
  subst hp
  subst e
  exact t.1
theorem tabd_raised_by {base : Heap} {mg : Str → Option Value} (t : LamX.TabB base mg 138 134) : Tabd base mg 138 134 "raised_by.<locals>.turn" where
  tb := t
  mem := by rw [row_tabs]; simp [rowTs]
  one p hp e := by
    rw [row_tabs] at hp
    simp only [rowTs, List.mem_cons, List.not_mem_nil, or_false] at hp
    subst hp
    rfl
structure DefCAt (K : PySem.W.Frag) (x : Str) (st : Stmt) (f : Addr) (fd : FuncData) (c : Addr) : Prop where
  at_ : PySem.W.nsIn K mainGlobals x = some (some (.ref f))
  fn : FunC K x x st f fd c
theorem defCAt {K : PySem.W.Frag} {x : Str} {st : Stmt} {f c : Addr} {oc : Value} {od an : Option Addr} {osl : Array (Option Value)} {kV doc pm ct : Value} (a : PySem.W.nsIn K mainGlobals x = some (some (.ref f))) (l : K.lookup f = some ⟨oc, od, .func (PySem.W.fnOf x x (defArgs st) (defBody st) (defScope st) .none kV doc pm an (.ref c) ct), osl⟩)
    (h : PySem.W.codeIn K (.ref c) x = true) (k : PySem.W.keepIn K (.ref f) = true) : ∃ f fd, DefCAt K x st f fd c := ⟨f, _, a, ⟨_, _, _, _, _, _, _, _, rfl, l, h⟩, k⟩
theorem defD_mk {K : PySem.W.Frag} {x : Str} {st : Stmt} {dvs : List V} {f T : Addr} {oc : Value} {od an td : Option Addr} {kV doc pm cdv ct tc : Value} {osl tsl : Array (Option Value)} {its : Array Value} {n : Nat} (hd : dvs ≠ []) (e : PySem.W.nsIn K mainGlobals x = some (some (.ref f)))
    (l : K.lookup f = some ⟨oc, od, .func (PySem.W.fnOf x x (defArgs st) (defBody st) (defScope st) (.ref T) kV doc pm an cdv ct), osl⟩) (c : PySem.W.codeIn K cdv x = true) (k : PySem.W.keepIn K (.ref f) = true)
    (lT : K.lookup T = some ⟨tc, td, .seq its n, tsl⟩) (v : Vals dvs its.toList) :
    ∃ f fd, PySem.W.nsIn K mainGlobals x = some (some (.ref f)) ∧ FunD K x x (defArgs st) (defBody st) (defScope st) dvs [] f fd :=
  ⟨f, _, e, ⟨_, _, _, _, _, _, _, _, _, _, rfl, l, c, Or.inr ⟨hd, T, _, its.toList, n, rfl, lT, rfl, v⟩, Or.inl rfl⟩, k⟩
structure Facts (K : PySem.W.Frag) (w : World) : Prop where
  d_parts_of : ∃ f fd, DefAt K "parts_of" sPartsOf f fd
  d_passed : ∃ f fd, DefAt K "passed" sPassed f fd
  d_inner_terms : ∃ f fd, DefAt K "inner_terms" sInnerTerms f fd
  d_all_spots : ∃ f fd, DefAt K "all_spots" sAllSpots f fd
  d_rebuilt : ∃ f fd, DefAt K "rebuilt" sRebuilt f fd
  d_turned : ∃ f fd, DefAt K "turned" sTurned f fd
  d_raised_by : ∃ f fd, DefCAt K "raised_by" sRaisedBy f fd 138
  d_given_all : ∃ f fd, DefAt K "given_all" sGivenAll f fd
  d_all_of : ∃ f fd, DefAt K "all_of" sAllOf f fd
  d_bound : ∃ f fd, DefAt K "_bound" sBound f fd
  d_sayings_and_end : ∃ f fd, DefAt K "sayings_and_end" sSayingsAndEnd f fd
  d_places : ∃ f fd, DefAt K "places" sPlaces f fd
  d_is_whole : ∃ f fd, DefAt K "is_whole" sWhole f fd
  d_is_name : ∃ f fd, DefAt K "is_name" sName f fd
  d_is_term : ∃ f fd, DefAt K "is_term" sTerm f fd
  d_is_leaf : ∃ f fd, DefAt K "_is_leaf" sLeaf f fd
  d_want_whole : ∃ f fd, DefAt K "want_whole" sWantWhole f fd
  d_is_row : ∃ f fd, DefAt K "is_row" sIsRow f fd
  d_are_of_thing : ∃ f fd, DefAt K "_are_of_thing" sAreOfThing f fd
  d_are_terms : ∃ f fd, DefAt K "_are_terms" sAreTerms f fd
  d_want_row_of_thing : ∃ f fd, DefAt K "_want_row_of_thing" sWantRowOfThing f fd
  d_want_maker : ∃ f fd, DefAt K "_want_maker" sWantMaker f fd
  d_ungrown : ∃ f fd, DefAt K "ungrown" sUngrown f fd
  d_owns : ∃ f fd, DefAt K "owns" sOwns f fd
  d_thing_saying : ∃ f fd, DefAt K "thing_saying" sThingSaying f fd
  d_maker_saying : ∃ f fd, DefAt K "maker_saying" sMakerSaying f fd
  d_eater_saying : ∃ f fd, DefAt K "eater_saying" sEaterSaying f fd
  d_bounded : ∃ f fd, DefAt K "bounded" sBounded f fd
  d_own_arguments : ∃ f fd, DefAt K "own_arguments" sOwnArguments f fd
  d_sayings_if_grown : ∃ f fd, DefAt K "_sayings_if_grown" sSayingsIfGrown f fd
  d_stray_spot : ∃ f fd, DefAt K "_stray_spot" sStraySpot f fd
  d_step_saying : ∃ f fd, DefAt K "step_saying" sStepSaying f fd
  d_own_saying : ∃ f fd, DefAt K "_own_saying" sOwnSaying f fd
  d_law_cell : ∃ f fd, DefAt K "_law_cell" sLawCell f fd
  d_law_box : ∃ f fd, DefAt K "_law_box" sLawBox f fd
  d_law_take : ∃ f fd, DefAt K "_law_take" sLawTake f fd
  d_law_letters : ∃ f fd, DefAt K "_law_letters" sLawLetters f fd
  d_law_placed : ∃ f fd, DefAt K "_law_placed" sLawPlaced f fd
  d_law_given : ∃ f fd, DefAt K "_law_given" sLawGiven f fd
  d_law_drawn : ∃ f fd, DefAt K "_law_drawn" sLawDrawn f fd
  d_law_all_of : ∃ f fd, DefAt K "_law_all_of" sLawAllOf f fd
  d_law_own : ∃ f fd, DefAt K "_law_own" sLawOwn f fd
  d_law_thing : ∃ f fd, DefAt K "_law_thing" sLawThing f fd
  d_law_row : ∃ f fd, DefAt K "_law_row" sLawRow f fd
  d_law_caught : ∃ f fd, DefAt K "_law_caught" sLawCaught f fd
  d_law_grown : ∃ f fd, DefAt K "_law_grown" sLawGrown f fd
  d_law_right : ∃ f fd, DefAt K "_law_right" sLawRight f fd
  d_law : ∃ f fd, DefAt K "law" sLaw f fd
  count : ∃ f fd, PySem.W.nsIn K mainGlobals "is_count" = some (some (.ref f)) ∧ FunD K "is_count" "is_count" (defArgs sCount) (defBody sCount) (defScope sCount) [.int 0] [] f fd
  n_isi : PySem.W.nsIn K mainGlobals "isinstance" = some none
  n_int : PySem.W.nsIn K mainGlobals "int" = some none
  n_bool : PySem.W.nsIn K mainGlobals "bool" = some none
  n_str : PySem.W.nsIn K mainGlobals "str" = some none
  n_tuple : PySem.W.nsIn K mainGlobals "tuple" = some none
  n_list : PySem.W.nsIn K mainGlobals "list" = some none
  n_dict : PySem.W.nsIn K mainGlobals "dict" = some none
  n_len : PySem.W.nsIn K mainGlobals "len" = some none
  n_all : PySem.W.nsIn K mainGlobals "all" = some none
  n_max : PySem.W.nsIn K mainGlobals "max" = some none
  n_min : PySem.W.nsIn K mainGlobals "min" = some none
  n_range : PySem.W.nsIn K mainGlobals "range" = some none
  n_zip : PySem.W.nsIn K mainGlobals "zip" = some none
  n_repr : PySem.W.nsIn K mainGlobals "repr" = some none
  n_enumerate : PySem.W.nsIn K mainGlobals "enumerate" = some none
  n_reversed : PySem.W.nsIn K mainGlobals "reversed" = some none
  i_most_bounds : ∃ u, PySem.W.nsIn K mainGlobals "MOST_BOUNDS" = some (some u) ∧ RelV (.int 3) u
  i_most_makers : ∃ u, PySem.W.nsIn K mainGlobals "MOST_MAKERS" = some (some u) ∧ RelV (.int 5) u
  i_most_arguments : ∃ u, PySem.W.nsIn K mainGlobals "MOST_ARGUMENTS" = some (some u) ∧ RelV (.int 4) u
  letters : ∃ u, PySem.W.nsIn K mainGlobals "LETTERS" = some (some u) ∧ RelV (.str KP.letters) u
  most : ∃ u, PySem.W.nsIn K mainGlobals "MOST_LETTERS" = some (some u) ∧ RelV (.int 8) u
  highest : ∃ u, PySem.W.nsIn K mainGlobals "HIGHEST" = some (some u) ∧ RelV (.int 5) u
  no : ∃ a o its n, PySem.W.nsIn K mainGlobals "NO_NAMES" = some (some (.ref a)) ∧ K.lookup a = some o ∧ o.cls = .type "tuple" ∧ o.data = .seq its n ∧ its.size ≤ sizeLine ∧ Vals (noNames.map V.str) its.toList
  parted : ∃ a es n, PySem.W.nsIn K mainGlobals "PARTED" = some (some (.ref a)) ∧ KDict K w a es n ∧ ∀ z, ∃ r, PySem.W.nsIn K a z = some r ∧ RelO ((parts z).map fun n => V.int (n : Int)) r
  nots : ∃ U C1 fI1 fdI1 C2 fI2 fdI2, PySem.W.nsIn K mainGlobals "PaperError" = some (some (.ref U)) ∧ UpC K U ∧ NotC K "NoRow" "NoRow.__init__" sInitR C1 fI1 fdI1 ∧ NotC K "NoNumber" "NoNumber.__init__" sInitN C2 fI2 fdI2 ∧ PySem.W.exmOne K (.ref C2) (.ref C1) = some false
section
variable {P : Program} {w : World} {K : PySem.W.Frag} {h : Heap} {mg : Str → Option Value}
theorem Facts.txt (Z : Facts K w) (X : K.In h) (G : h.Ns mainGlobals mg) : Txt K w mg where
  isi := PySem.W.mg_none_of X G Z.n_isi
  int := PySem.W.mg_none_of X G Z.n_int
  bool := PySem.W.mg_none_of X G Z.n_bool
  str := PySem.W.mg_none_of X G Z.n_str
  tuple := PySem.W.mg_none_of X G Z.n_tuple
  list := PySem.W.mg_none_of X G Z.n_list
  dict := PySem.W.mg_none_of X G Z.n_dict
  len := PySem.W.mg_none_of X G Z.n_len
  all := PySem.W.mg_none_of X G Z.n_all
  max := PySem.W.mg_none_of X G Z.n_max
  min := PySem.W.mg_none_of X G Z.n_min
  range := PySem.W.mg_none_of X G Z.n_range
  zip := PySem.W.mg_none_of X G Z.n_zip
  repr := PySem.W.mg_none_of X G Z.n_repr
  letters := by
    obtain ⟨u, e, r⟩ := Z.letters
    exact ⟨u, PySem.W.mg_of X G e, r⟩
  most := by
    obtain ⟨u, e, r⟩ := Z.most
    exact ⟨u, PySem.W.mg_of X G e, r⟩
  highest := by
    obtain ⟨u, e, r⟩ := Z.highest
    exact ⟨u, PySem.W.mg_of X G e, r⟩
  no := by
    obtain ⟨a, o, its, n, e, r⟩ := Z.no
    exact ⟨a, o, its, n, PySem.W.mg_of X G e, r⟩
  parted := by
    obtain ⟨a, es, n, e, r⟩ := Z.parted
    exact ⟨a, es, n, PySem.W.mg_of X G e, r⟩
theorem DefAt.dfn {x : Str} {st : Stmt} {f : Addr} {fd : FuncData} {ps : List Str} (D : DefAt K x st f fd) (X : K.In h) (G : h.Ns mainGlobals mg)
    (b : ∀ (kV doc pm : Value) (an : Option Addr) (cdv ct : Value) (us : List Value), us.length = ps.length → bindArgs (PySem.W.fnOf x x (defArgs st) (defBody st) (defScope st) .none kV doc pm an cdv ct) ⟨us, []⟩ = pure (ps.zip us)) : Dfn K mg x st f fd ps :=
  ⟨D.fn, PySem.W.mg_of X G D.at_, D.fn.binds b⟩
theorem all_mk {fa : Addr} (X : K.In h) (G : h.Ns mainGlobals mg) (hfa : mg "law" = some (.ref fa)) (Z : Facts K w) :
    ∃ fd : FuncData, (∀ (s : Shared) (v : Value), BindsTo s fd ⟨[v], []⟩ [("_law_script", v)]) ∧ ∀ base : Heap, K.In base → base.Ns mainGlobals mg → (∀ p ∈ rowCs, LamX.TabB base mg p.1 p.2) → FnG P w K mg base CX0 60 fa fd ["_law_script"] (spLaw K) := by
  have T := Z.txt X G
  have Tenum := PySem.W.mg_none_of X G Z.n_enumerate
  have Trev := PySem.W.mg_none_of X G Z.n_reversed
  have I_most_bounds : ∃ u, mg "MOST_BOUNDS" = some u ∧ RelV (.int 3) u := by
    obtain ⟨u, e, r⟩ := Z.i_most_bounds
    exact ⟨u, PySem.W.mg_of X G e, r⟩
  have I_most_makers : ∃ u, mg "MOST_MAKERS" = some u ∧ RelV (.int 5) u := by
    obtain ⟨u, e, r⟩ := Z.i_most_makers
    exact ⟨u, PySem.W.mg_of X G e, r⟩
  have I_most_arguments : ∃ u, mg "MOST_ARGUMENTS" = some u ∧ RelV (.int 4) u := by
    obtain ⟨u, e, r⟩ := Z.i_most_arguments
    exact ⟨u, PySem.W.mg_of X G e, r⟩
  obtain ⟨f_parts_of, d_parts_of, D_parts_of⟩ := Z.d_parts_of
  obtain ⟨f_passed, d_passed, D_passed⟩ := Z.d_passed
  obtain ⟨f_inner_terms, d_inner_terms, D_inner_terms⟩ := Z.d_inner_terms
  obtain ⟨f_all_spots, d_all_spots, D_all_spots⟩ := Z.d_all_spots
  obtain ⟨f_rebuilt, d_rebuilt, D_rebuilt⟩ := Z.d_rebuilt
  obtain ⟨f_turned, d_turned, D_turned⟩ := Z.d_turned
  obtain ⟨f_raised_by, d_raised_by, D_raised_by⟩ := Z.d_raised_by
  obtain ⟨f_given_all, d_given_all, D_given_all⟩ := Z.d_given_all
  obtain ⟨f_all_of, d_all_of, D_all_of⟩ := Z.d_all_of
  obtain ⟨f_bound, d_bound, D_bound⟩ := Z.d_bound
  obtain ⟨f_sayings_and_end, d_sayings_and_end, D_sayings_and_end⟩ := Z.d_sayings_and_end
  obtain ⟨f_places, d_places, D_places⟩ := Z.d_places
  obtain ⟨f_is_whole, d_is_whole, D_is_whole⟩ := Z.d_is_whole
  obtain ⟨f_is_name, d_is_name, D_is_name⟩ := Z.d_is_name
  obtain ⟨f_is_term, d_is_term, D_is_term⟩ := Z.d_is_term
  obtain ⟨f_is_leaf, d_is_leaf, D_is_leaf⟩ := Z.d_is_leaf
  obtain ⟨f_want_whole, d_want_whole, D_want_whole⟩ := Z.d_want_whole
  obtain ⟨f_is_row, d_is_row, D_is_row⟩ := Z.d_is_row
  obtain ⟨f_are_of_thing, d_are_of_thing, D_are_of_thing⟩ := Z.d_are_of_thing
  obtain ⟨f_are_terms, d_are_terms, D_are_terms⟩ := Z.d_are_terms
  obtain ⟨f_want_row_of_thing, d_want_row_of_thing, D_want_row_of_thing⟩ := Z.d_want_row_of_thing
  obtain ⟨f_want_maker, d_want_maker, D_want_maker⟩ := Z.d_want_maker
  obtain ⟨f_ungrown, d_ungrown, D_ungrown⟩ := Z.d_ungrown
  obtain ⟨f_owns, d_owns, D_owns⟩ := Z.d_owns
  obtain ⟨f_thing_saying, d_thing_saying, D_thing_saying⟩ := Z.d_thing_saying
  obtain ⟨f_maker_saying, d_maker_saying, D_maker_saying⟩ := Z.d_maker_saying
  obtain ⟨f_eater_saying, d_eater_saying, D_eater_saying⟩ := Z.d_eater_saying
  obtain ⟨f_bounded, d_bounded, D_bounded⟩ := Z.d_bounded
  obtain ⟨f_own_arguments, d_own_arguments, D_own_arguments⟩ := Z.d_own_arguments
  obtain ⟨f_sayings_if_grown, d_sayings_if_grown, D_sayings_if_grown⟩ := Z.d_sayings_if_grown
  obtain ⟨f_stray_spot, d_stray_spot, D_stray_spot⟩ := Z.d_stray_spot
  obtain ⟨f_step_saying, d_step_saying, D_step_saying⟩ := Z.d_step_saying
  obtain ⟨f_own_saying, d_own_saying, D_own_saying⟩ := Z.d_own_saying
  obtain ⟨f_law_cell, d_law_cell, D_law_cell⟩ := Z.d_law_cell
  obtain ⟨f_law_box, d_law_box, D_law_box⟩ := Z.d_law_box
  obtain ⟨f_law_take, d_law_take, D_law_take⟩ := Z.d_law_take
  obtain ⟨f_law_letters, d_law_letters, D_law_letters⟩ := Z.d_law_letters
  obtain ⟨f_law_placed, d_law_placed, D_law_placed⟩ := Z.d_law_placed
  obtain ⟨f_law_given, d_law_given, D_law_given⟩ := Z.d_law_given
  obtain ⟨f_law_drawn, d_law_drawn, D_law_drawn⟩ := Z.d_law_drawn
  obtain ⟨f_law_all_of, d_law_all_of, D_law_all_of⟩ := Z.d_law_all_of
  obtain ⟨f_law_own, d_law_own, D_law_own⟩ := Z.d_law_own
  obtain ⟨f_law_thing, d_law_thing, D_law_thing⟩ := Z.d_law_thing
  obtain ⟨f_law_row, d_law_row, D_law_row⟩ := Z.d_law_row
  obtain ⟨f_law_caught, d_law_caught, D_law_caught⟩ := Z.d_law_caught
  obtain ⟨f_law_grown, d_law_grown, D_law_grown⟩ := Z.d_law_grown
  obtain ⟨f_law_right, d_law_right, D_law_right⟩ := Z.d_law_right
  obtain ⟨f_law, d_law, D_law⟩ := Z.d_law
  obtain ⟨f6, d6, e6, D6⟩ := Z.count
  obtain ⟨U, C1, fI1, fdI1, C2, fI2, fdI2, eU, up, N1, N2, n21⟩ := Z.nots
  have bI1 : Binds K fdI1 ["self", "found"] [] := N1.fn.binds fun _ _ _ _ _ _ us hl => match us, hl with | [_, _], _ => rfl
  have bI2 : Binds K fdI2 ["self", "found"] [] := N2.fn.binds fun _ _ _ _ _ _ us hl => match us, hl with | [_, _], _ => rfl
  have Z1 : NoX K mg "NoRow" "NoRow.__init__" sInitR C1 U fI1 fdI1 := ⟨N1.oex, up, PySem.W.mg_of X G eU, PySem.W.mg_of X G N1.at_, N1.iC, N1.tI, N1.noF, N1.fn, bI1, N1.xf, N1.te⟩
  have Z2 : NoX K mg "NoNumber" "NoNumber.__init__" sInitN C2 U fI2 fdI2 := ⟨N2.oex, up, PySem.W.mg_of X G eU, PySem.W.mg_of X G N2.at_, N2.iC, N2.tI, N2.noF, N2.fn, bI2, N2.xf, N2.te⟩
  have e := hfa.symm.trans (PySem.W.mg_of X G D_law.at_)
  cases e
  have m6 := PySem.W.mg_of X G e6
  obtain ⟨ds0, v0, b0⟩ := D6.binds1 (ps := ["thing", "low"]) 1 0 (by simp) rfl fun _ _ _ _ _ _ _ us its hu hi => match us, its, hu, hi with | [_], [_], _, _ => ⟨_, rfl, rfl⟩
  obtain ⟨ds1, v1, b1⟩ := D6.binds1 (ps := ["thing", "low"]) 2 1 (by simp) rfl fun _ _ _ _ _ _ _ us its hu hi => match us, its, hu, hi with | [_, _], [_], _, _ => ⟨_, rfl, rfl⟩
  have N_parts_of : Dfn K mg "parts_of" sPartsOf f_parts_of d_parts_of ["term"] := D_parts_of.dfn X G fun _ _ _ _ _ _ us hl => match us, hl with | [_], _ => rfl
  have N_passed : Dfn K mg "passed" sPassed f_passed d_passed ["word", "at"] := D_passed.dfn X G fun _ _ _ _ _ _ us hl => match us, hl with | [_, _], _ => rfl
  have N_inner_terms : Dfn K mg "inner_terms" sInnerTerms f_inner_terms d_inner_terms ["term"] := D_inner_terms.dfn X G fun _ _ _ _ _ _ us hl => match us, hl with | [_], _ => rfl
  have N_all_spots : Dfn K mg "all_spots" sAllSpots f_all_spots d_all_spots ["term"] := D_all_spots.dfn X G fun _ _ _ _ _ _ us hl => match us, hl with | [_], _ => rfl
  have N_rebuilt : Dfn K mg "rebuilt" sRebuilt f_rebuilt d_rebuilt ["part", "news"] := D_rebuilt.dfn X G fun _ _ _ _ _ _ us hl => match us, hl with | [_, _], _ => rfl
  have N_turned : Dfn K mg "turned" sTurned f_turned d_turned ["term", "turn"] := D_turned.dfn X G fun _ _ _ _ _ _ us hl => match us, hl with | [_, _], _ => rfl
  have m_raised_by := PySem.W.mg_of X G D_raised_by.at_
  have b_raised_by : Binds K d_raised_by ["term", "by", "start"] [] := D_raised_by.fn.fn.binds fun _ _ _ _ _ _ us hl => match us, hl with | [_, _, _], _ => rfl
  have N_raised_by : Dfn K mg "raised_by" sRaisedBy f_raised_by d_raised_by ["term", "by", "start"] := ⟨D_raised_by.fn.fn, m_raised_by, b_raised_by⟩
  have N_given_all : Dfn K mg "given_all" sGivenAll f_given_all d_given_all ["head", "some"] := D_given_all.dfn X G fun _ _ _ _ _ _ us hl => match us, hl with | [_, _], _ => rfl
  have N_all_of : Dfn K mg "all_of" sAllOf f_all_of d_all_of ["sayings", "term"] := D_all_of.dfn X G fun _ _ _ _ _ _ us hl => match us, hl with | [_, _], _ => rfl
  have N_bound : Dfn K mg "_bound" sBound f_bound d_bound ["word", "sayings", "term"] := D_bound.dfn X G fun _ _ _ _ _ _ us hl => match us, hl with | [_, _, _], _ => rfl
  have N_sayings_and_end : Dfn K mg "sayings_and_end" sSayingsAndEnd f_sayings_and_end d_sayings_and_end ["term"] := D_sayings_and_end.dfn X G fun _ _ _ _ _ _ us hl => match us, hl with | [_], _ => rfl
  have N_places : Dfn K mg "places" sPlaces f_places d_places ["many", "inward"] := D_places.dfn X G fun _ _ _ _ _ _ us hl => match us, hl with | [_, _], _ => rfl
  have N_is_whole : Dfn K mg "is_whole" sWhole f_is_whole d_is_whole ["thing", "low", "high"] := D_is_whole.dfn X G fun _ _ _ _ _ _ us hl => match us, hl with | [_, _, _], _ => rfl
  have N_is_name : Dfn K mg "is_name" sName f_is_name d_is_name ["thing"] := D_is_name.dfn X G fun _ _ _ _ _ _ us hl => match us, hl with | [_], _ => rfl
  have N_is_term : Dfn K mg "is_term" sTerm f_is_term d_is_term ["thing"] := D_is_term.dfn X G fun _ _ _ _ _ _ us hl => match us, hl with | [_], _ => rfl
  have N_is_leaf : Dfn K mg "_is_leaf" sLeaf f_is_leaf d_is_leaf ["thing"] := D_is_leaf.dfn X G fun _ _ _ _ _ _ us hl => match us, hl with | [_], _ => rfl
  have N_want_whole : Dfn K mg "want_whole" sWantWhole f_want_whole d_want_whole ["thing", "low", "high"] := D_want_whole.dfn X G fun _ _ _ _ _ _ us hl => match us, hl with | [_, _, _], _ => rfl
  have N_is_row : Dfn K mg "is_row" sIsRow f_is_row d_is_row ["thing"] := D_is_row.dfn X G fun _ _ _ _ _ _ us hl => match us, hl with | [_], _ => rfl
  have N_are_of_thing : Dfn K mg "_are_of_thing" sAreOfThing f_are_of_thing d_are_of_thing ["height", "bounds", "makers"] := D_are_of_thing.dfn X G fun _ _ _ _ _ _ us hl => match us, hl with | [_, _, _], _ => rfl
  have N_are_terms : Dfn K mg "_are_terms" sAreTerms f_are_terms d_are_terms ["thing", "most"] := D_are_terms.dfn X G fun _ _ _ _ _ _ us hl => match us, hl with | [_, _], _ => rfl
  have N_want_row_of_thing : Dfn K mg "_want_row_of_thing" sWantRowOfThing f_want_row_of_thing d_want_row_of_thing ["row"] := D_want_row_of_thing.dfn X G fun _ _ _ _ _ _ us hl => match us, hl with | [_], _ => rfl
  have N_want_maker : Dfn K mg "_want_maker" sWantMaker f_want_maker d_want_maker ["row", "maker"] := D_want_maker.dfn X G fun _ _ _ _ _ _ us hl => match us, hl with | [_, _], _ => rfl
  have N_ungrown : Dfn K mg "ungrown" sUngrown f_ungrown d_ungrown ["row"] := D_ungrown.dfn X G fun _ _ _ _ _ _ us hl => match us, hl with | [_], _ => rfl
  have N_owns : Dfn K mg "owns" sOwns f_owns d_owns ["row", "maker"] := D_owns.dfn X G fun _ _ _ _ _ _ us hl => match us, hl with | [_, _], _ => rfl
  have N_thing_saying : Dfn K mg "thing_saying" sThingSaying f_thing_saying d_thing_saying ["row"] := D_thing_saying.dfn X G fun _ _ _ _ _ _ us hl => match us, hl with | [_], _ => rfl
  have N_maker_saying : Dfn K mg "maker_saying" sMakerSaying f_maker_saying d_maker_saying ["row", "maker"] := D_maker_saying.dfn X G fun _ _ _ _ _ _ us hl => match us, hl with | [_, _], _ => rfl
  have N_eater_saying : Dfn K mg "eater_saying" sEaterSaying f_eater_saying d_eater_saying ["row", "height"] := D_eater_saying.dfn X G fun _ _ _ _ _ _ us hl => match us, hl with | [_, _], _ => rfl
  have N_bounded : Dfn K mg "bounded" sBounded f_bounded d_bounded ["row", "head", "inward"] := D_bounded.dfn X G fun _ _ _ _ _ _ us hl => match us, hl with | [_, _, _], _ => rfl
  have N_own_arguments : Dfn K mg "own_arguments" sOwnArguments f_own_arguments d_own_arguments ["row", "maker"] := D_own_arguments.dfn X G fun _ _ _ _ _ _ us hl => match us, hl with | [_, _], _ => rfl
  have N_sayings_if_grown : Dfn K mg "_sayings_if_grown" sSayingsIfGrown f_sayings_if_grown d_sayings_if_grown ["row", "argument", "saying"] := D_sayings_if_grown.dfn X G fun _ _ _ _ _ _ us hl => match us, hl with | [_, _, _], _ => rfl
  have N_stray_spot : Dfn K mg "_stray_spot" sStraySpot f_stray_spot d_stray_spot ["row", "argument", "saying"] := D_stray_spot.dfn X G fun _ _ _ _ _ _ us hl => match us, hl with | [_, _, _], _ => rfl
  have N_step_saying : Dfn K mg "step_saying" sStepSaying f_step_saying d_step_saying ["row", "maker", "beyond"] := D_step_saying.dfn X G fun _ _ _ _ _ _ us hl => match us, hl with | [_, _, _], _ => rfl
  have N_own_saying : Dfn K mg "_own_saying" sOwnSaying f_own_saying d_own_saying ["many", "argument", "between", "ahead", "beyond"] := D_own_saying.dfn X G fun _ _ _ _ _ _ us hl => match us, hl with | [_, _, _, _, _], _ => rfl
  have N_law_cell : Dfn K mg "_law_cell" sLawCell f_law_cell d_law_cell ["_law_script", "_law_k"] := D_law_cell.dfn X G fun _ _ _ _ _ _ us hl => match us, hl with | [_, _], _ => rfl
  have N_law_box : Dfn K mg "_law_box" sLawBox f_law_box d_law_box ["_law_cell_here"] := D_law_box.dfn X G fun _ _ _ _ _ _ us hl => match us, hl with | [_], _ => rfl
  have N_law_take : Dfn K mg "_law_take" sLawTake f_law_take d_law_take ["_law_purse", "_law_wide"] := D_law_take.dfn X G fun _ _ _ _ _ _ us hl => match us, hl with | [_, _], _ => rfl
  have N_law_letters : Dfn K mg "_law_letters" sLawLetters f_law_letters d_law_letters ["_law_purse", "_law_wide"] := D_law_letters.dfn X G fun _ _ _ _ _ _ us hl => match us, hl with | [_, _], _ => rfl
  have N_law_placed : Dfn K mg "_law_placed" sLawPlaced f_law_placed d_law_placed ["_law_term", "_law_around"] := D_law_placed.dfn X G fun _ _ _ _ _ _ us hl => match us, hl with | [_, _], _ => rfl
  have N_law_given : Dfn K mg "_law_given" sLawGiven f_law_given d_law_given ["_law_head", "_law_some"] := D_law_given.dfn X G fun _ _ _ _ _ _ us hl => match us, hl with | [_, _], _ => rfl
  have N_law_drawn : Dfn K mg "_law_drawn" sLawDrawn f_law_drawn d_law_drawn ["_law_purse", "_law_around", "_law_names", "_law_deep"] := D_law_drawn.dfn X G fun _ _ _ _ _ _ us hl => match us, hl with | [_, _, _, _], _ => rfl
  have N_law_all_of : Dfn K mg "_law_all_of" sLawAllOf f_law_all_of d_law_all_of ["_law_rows", "_law_end"] := D_law_all_of.dfn X G fun _ _ _ _ _ _ us hl => match us, hl with | [_, _], _ => rfl
  have N_law_own : Dfn K mg "_law_own" sLawOwn f_law_own d_law_own ["_law_purse", "_law_around", "_law_name", "_law_bounds", "_law_names"] := D_law_own.dfn X G fun _ _ _ _ _ _ us hl => match us, hl with | [_, _, _, _, _], _ => rfl
  have N_law_thing : Dfn K mg "_law_thing" sLawThing f_law_thing d_law_thing ["_law_purse", "_law_name", "_law_names"] := D_law_thing.dfn X G fun _ _ _ _ _ _ us hl => match us, hl with | [_, _, _], _ => rfl
  have N_law_row : Dfn K mg "_law_row" sLawRow f_law_row d_law_row ["_law_thing_here"] := D_law_row.dfn X G fun _ _ _ _ _ _ us hl => match us, hl with | [_], _ => rfl
  have N_law_caught : Dfn K mg "_law_caught" sLawCaught f_law_caught d_law_caught ["_law_way", "_law_row_here", "_law_number"] := D_law_caught.dfn X G fun _ _ _ _ _ _ us hl => match us, hl with | [_, _, _], _ => rfl
  have N_law_grown : Dfn K mg "_law_grown" sLawGrown f_law_grown d_law_grown ["_law_thing_here", "_law_found"] := D_law_grown.dfn X G fun _ _ _ _ _ _ us hl => match us, hl with | [_, _], _ => rfl
  have N_law_right : Dfn K mg "_law_right" sLawRight f_law_right d_law_right ["_law_row_here", "_law_is_good", "_law_number"] := D_law_right.dfn X G fun _ _ _ _ _ _ us hl => match us, hl with | [_, _, _], _ => rfl
  have N_law : Dfn K mg "law" sLaw fa d_law ["_law_script"] := D_law.dfn X G fun _ _ _ _ _ _ us hl => match us, hl with | [_], _ => rfl
  obtain ⟨oc, od, kV, doc, pm, an, cdv, ct, osl, e19, _⟩ := D_law.fn.ex
  refine ⟨d_law, fun s v => by rw [e19]; exact .of_eq rfl, fun base _ _ hT => ?_⟩
  have Cc := ok_count (P := P) (w := w) (base := base) D6 T
  have c_count0 : C8.Cal P w K mg base 1 "is_count" spCount [.int 0] := ⟨f6, d6, _, ds0, Cc, m6, D6.kp, b0, v0⟩
  have c_count : C8.Cal P w K mg base 1 "is_count" spCount [] := ⟨f6, d6, _, ds1, Cc, m6, D6.kp, b1, v1⟩
  have t_raised_by := tabd_raised_by (hT (138, 134) (by simp [rowCs]))
  have c_is_whole := N_is_whole.cal (P := P) (w := w) (base := base) (ok_whole N_is_whole.fn T c_count)
  have c_is_name := N_is_name.cal (P := P) (w := w) (base := base) (ok_name N_is_name.fn T)
  have c_is_leaf := N_is_leaf.cal (P := P) (w := w) (base := base) (ok_leaf N_is_leaf.fn T c_count0 c_is_whole c_is_name)
  have c_is_term := N_is_term.cal (P := P) (w := w) (base := base) (ok_term N_is_term.fn T c_is_leaf)
  have c_are_terms := N_are_terms.cal (P := P) (w := w) (base := base) (ok_areterms N_are_terms.fn T c_is_term)
  have TB : TxtR mg := ⟨I_most_bounds, I_most_makers, I_most_arguments⟩
  have c_are_of_thing := N_are_of_thing.cal (P := P) (w := w) (base := base) (ok_ofthing N_are_of_thing.fn T TB c_is_whole c_are_terms)
  have c_is_row := N_is_row.cal (P := P) (w := w) (base := base) (ok_isrow N_is_row.fn T c_is_name c_is_term c_are_of_thing)
  have c_parts_of := N_parts_of.cal (P := P) (w := w) (base := base) (ok_partsof N_parts_of.fn T)
  have c_passed := N_passed.cal (P := P) (w := w) (base := base) (ok_passed N_passed.fn)
  have c_inner_terms := N_inner_terms.cal (P := P) (w := w) (base := base) (ok_inner N_inner_terms.fn T Trev c_parts_of c_passed)
  have c_all_spots := N_all_spots.cal (P := P) (w := w) (base := base) (ok_allspots N_all_spots.fn T Trev c_parts_of)
  have c_rebuilt := N_rebuilt.cal (P := P) (w := w) (base := base) (ok_rebuilt N_rebuilt.fn T)
  have s_turned : CalS P w K mg base 3 "turned" 2 (tTurned P w K mg base 1) := ⟨_, _, _, ok_turned N_turned.fn T Trev c_rebuilt c_passed 1, N_turned.mgf, N_turned.fn.kp, N_turned.b⟩
  have c_raised_by := N_raised_by.cal (P := P) (w := w) (base := base) (ok_raisedby D_raised_by.fn t_raised_by s_turned)
  have c_given_all := N_given_all.cal (P := P) (w := w) (base := base) (ok_givenall N_given_all.fn T)
  have c_bound := N_bound.cal (P := P) (w := w) (base := base) (ok_boundS N_bound.fn T Trev)
  have c_all_of := N_all_of.cal (P := P) (w := w) (base := base) (ok_allofS N_all_of.fn T c_bound)
  have c_boundP := N_bound.cal (P := P) (w := w) (base := base) (ok_bound N_bound.fn T Trev)
  have c_all_ofP := N_all_of.cal (P := P) (w := w) (base := base) (ok_allofP N_all_of.fn T c_boundP)
  have c_sayings_and_end := N_sayings_and_end.cal (P := P) (w := w) (base := base) (ok_untie N_sayings_and_end.fn T)
  have c_places := N_places.cal (P := P) (w := w) (base := base) (ok_places N_places.fn T Trev)
  have c_want_whole := N_want_whole.cal (P := P) (w := w) (base := base) (ok_wantwhole N_want_whole.fn T c_is_whole)
  have c_want_row_of_thing := N_want_row_of_thing.cal (P := P) (w := w) (base := base) (ok_wantrow N_want_row_of_thing.fn T c_is_row)
  have c_want_maker := N_want_maker.cal (P := P) (w := w) (base := base) (ok_wantmaker N_want_maker.fn T c_want_row_of_thing c_want_whole)
  have c_bounded := N_bounded.cal (P := P) (w := w) (base := base) (ok_bounded N_bounded.fn T c_given_all c_places)
  have c_sayings_if_grown := N_sayings_if_grown.cal (P := P) (w := w) (base := base) (ok_grow N_sayings_if_grown.fn T c_sayings_and_end c_bounded)
  have c_stray_spot := N_stray_spot.cal (P := P) (w := w) (base := base) (ok_stray N_stray_spot.fn T c_sayings_if_grown c_all_spots c_inner_terms)
  have c_own_arguments := N_own_arguments.cal (P := P) (w := w) (base := base) (ok_ownargs N_own_arguments.fn T Tenum c_sayings_if_grown c_stray_spot)
  have c_own_saying := N_own_saying.cal (P := P) (w := w) (base := base) (ok_ownsay N_own_saying.fn T Tenum c_raised_by c_given_all c_places c_all_of)
  have c_step_saying := N_step_saying.cal (P := P) (w := w) (base := base) (ok_step N_step_saying.fn T Tenum c_raised_by c_given_all c_places c_all_of c_own_arguments c_own_saying c_bounded)
  have F_want_whole : FnOk P w K mg base (L2.CX P w) 3 f_want_whole d_want_whole ["thing", "low", "high"] (spX 3 (tNumX C2)) := FnOk.both (ok_wantwhole N_want_whole.fn T c_is_whole) (ok_wantw2 N_want_whole.fn Z2 c_is_whole)
  have x_want_whole : CalX P w K mg base 3 "want_whole" ["thing", "low", "high"] (spX 3 (tNumX C2)) := ⟨_, _, F_want_whole, N_want_whole.mgf, N_want_whole.fn.kp, N_want_whole.b⟩
  have F_want_row_of_thing : FnOk P w K mg base (L2.CX P w) 8 f_want_row_of_thing d_want_row_of_thing ["row"] (spX 1 (tRowX C1)) := FnOk.both (ok_wantrow N_want_row_of_thing.fn T c_is_row) (ok_wantrow2 N_want_row_of_thing.fn Z1 c_is_row)
  have x_want_row_of_thing : CalX P w K mg base 8 "_want_row_of_thing" ["row"] (spX 1 (tRowX C1)) := ⟨_, _, F_want_row_of_thing, N_want_row_of_thing.mgf, N_want_row_of_thing.fn.kp, N_want_row_of_thing.b⟩
  have F_want_maker : FnOk P w K mg base (L2.CX P w) 9 f_want_maker d_want_maker ["row", "maker"] (spX 2 (tMakX C1 C2)) := FnOk.both (ok_wantmaker N_want_maker.fn T c_want_row_of_thing c_want_whole) (ok_wantmaker2 N_want_maker.fn T x_want_row_of_thing x_want_whole)
  have x_want_maker : CalX P w K mg base 9 "_want_maker" ["row", "maker"] (spX 2 (tMakX C1 C2)) := ⟨_, _, F_want_maker, N_want_maker.mgf, N_want_maker.fn.kp, N_want_maker.b⟩
  have F_ungrown : FnOk P w K mg base (L2.CX P w) 9 f_ungrown d_ungrown ["row"] (spX 1 fun as Kr X => tUngrown as Kr ∨ tWR2 C1 as X) := FnOk.both (ok_ungrown N_ungrown.fn T Tenum c_want_row_of_thing c_stray_spot) (ok_ungrown2 N_ungrown.fn x_want_row_of_thing)
  have x_ungrown : CalX P w K mg base 9 "ungrown" ["row"] (spX 1 fun as Kr X => tUngrown as Kr ∨ tWR2 C1 as X) := ⟨_, _, F_ungrown, N_ungrown.mgf, N_ungrown.fn.kp, N_ungrown.b⟩
  have F_thing_saying : FnOk P w K mg base (L2.CX P w) 9 f_thing_saying d_thing_saying ["row"] (spX 1 fun as Kr X => tThSay as Kr ∨ tWR2 C1 as X) := FnOk.both (ok_thsay N_thing_saying.fn T c_want_row_of_thing c_all_ofP) (ok_thsay2 N_thing_saying.fn x_want_row_of_thing)
  have x_thing_saying : CalX P w K mg base 9 "thing_saying" ["row"] (spX 1 fun as Kr X => tThSay as Kr ∨ tWR2 C1 as X) := ⟨_, _, F_thing_saying, N_thing_saying.mgf, N_thing_saying.fn.kp, N_thing_saying.b⟩
  have F_owns : FnOk P w K mg base (L2.CX P w) 10 f_owns d_owns ["row", "maker"] (spX 2 fun as Kr X => tOwnArgs as Kr ∨ tTwo2 C1 C2 lenM as X) := FnOk.both (ok_owns N_owns.fn T c_want_maker c_own_arguments) (ok_owns2 N_owns.fn x_want_maker)
  have x_owns : CalX P w K mg base 10 "owns" ["row", "maker"] (spX 2 fun as Kr X => tOwnArgs as Kr ∨ tTwo2 C1 C2 lenM as X) := ⟨_, _, F_owns, N_owns.mgf, N_owns.fn.kp, N_owns.b⟩
  have F_maker_saying : FnOk P w K mg base (L2.CX P w) 10 f_maker_saying d_maker_saying ["row", "maker"] (spX 2 fun as Kr X => tMkSay as Kr ∨ tTwo2 C1 C2 lenM as X) := FnOk.both (ok_mksay N_maker_saying.fn T c_want_maker c_all_ofP c_bounded) (ok_mksay2 N_maker_saying.fn x_want_maker)
  have x_maker_saying : CalX P w K mg base 10 "maker_saying" ["row", "maker"] (spX 2 fun as Kr X => tMkSay as Kr ∨ tTwo2 C1 C2 lenM as X) := ⟨_, _, F_maker_saying, N_maker_saying.mgf, N_maker_saying.fn.kp, N_maker_saying.b⟩
  have F_eater_saying : FnOk P w K mg base (L2.CX P w) 9 f_eater_saying d_eater_saying ["row", "height"] (spX 2 fun as Kr X => tEat as Kr ∨ tTwo2 C1 C2 (fun _ => 5) as X) := FnOk.both (ok_eater N_eater_saying.fn T c_want_row_of_thing c_want_whole c_bounded c_step_saying c_all_of) (ok_eater2 N_eater_saying.fn T x_want_row_of_thing x_want_whole)
  have x_eater_saying : CalX P w K mg base 9 "eater_saying" ["row", "height"] (spX 2 fun as Kr X => tEat as Kr ∨ tTwo2 C1 C2 (fun _ => 5) as X) := ⟨_, _, F_eater_saying, N_eater_saying.mgf, N_eater_saying.fn.kp, N_eater_saying.b⟩
  have c_law_cell := N_law_cell.cal (P := P) (w := w) (base := base) (ok_cell N_law_cell.fn T)
  have c_law_box := N_law_box.cal (P := P) (w := w) (base := base) (ok_purse N_law_box.fn T)
  have c_law_take := N_law_take.cal (P := P) (w := w) (base := base) (ok_take N_law_take.fn T)
  have c_law_letters := N_law_letters.cal (P := P) (w := w) (base := base) (ok_letters N_law_letters.fn T c_law_take)
  have c_law_placed : C8.Cal P w K mg base 41 "_law_placed" (spD 2 (tPlaced 40)) [] := N_law_placed.cal (P := P) (w := w) (base := base) (ok_placed N_law_placed T 40)
  have c_law_given := N_law_given.cal (P := P) (w := w) (base := base) (ok_given N_law_given.fn T)
  have c_law_drawn : C8.Cal P w K mg base 10 "_law_drawn" (spB 3 (tDrawn 8)) [] := N_law_drawn.cal (P := P) (w := w) (base := base) (ok_drawn N_law_drawn T c_law_take 8)
  have c_law_all_of := N_law_all_of.cal (P := P) (w := w) (base := base) (ok_allof N_law_all_of.fn T)
  have c_law_own := N_law_own.cal (P := P) (w := w) (base := base) (ok_own N_law_own.fn T c_law_take c_law_drawn c_law_given)
  have c_law_thing := N_law_thing.cal (P := P) (w := w) (base := base) (ok_thing N_law_thing.fn T c_law_take c_law_drawn c_law_own c_law_all_of)
  have c_law_row := N_law_row.cal (P := P) (w := w) (base := base) (ok_row N_law_row.fn T Tenum c_law_placed)
  have c_law_caught := N_law_caught.cal (P := P) (w := w) (base := base) (ok_caught N_law_caught.fn Z1 Z2 n21 ⟨x_ungrown, x_thing_saying, x_owns, x_maker_saying, x_eater_saying⟩)
  have g_grown : CalG P w K mg base 2 "_law_grown" ["_law_thing_here", "_law_found"] (spU 2 tGrownD tGrownL) := ⟨_, _, ok_grown N_law_grown.fn T, N_law_grown.mgf, N_law_grown.fn.kp, N_law_grown.b⟩
  have g_right : CalG P w K mg base 13 "_law_right" ["_law_row_here", "_law_is_good", "_law_number"] spRight := ⟨_, _, ok_right N_law_right.fn T c_law_caught g_grown, N_law_right.mgf, N_law_right.fn.kp, N_law_right.b⟩
  exact ok_law N_law.fn T ⟨c_law_cell, c_law_box, c_law_letters, c_law_thing, c_law_row, c_law_take, g_right⟩
theorem exm_self {C : Addr} (b : PySem.W.subIn K (.ref C) (.type "BaseException") = some true) (i : (PySem.W.clsIn K C).isSome = true) (t : PySem.W.typeIn K (.ref C) = some (.type "type")) (s : PySem.W.subIn K (.ref C) (.ref C) = some true) : PySem.W.exmOne K (.ref C) (.ref C) = some true := by
  unfold PySem.W.exmOne PySem.W.kitCls
  rw [b]
  show (if ((PySem.W.clsIn K C).isSome && PySem.W.typeIn K (.ref C) == some (.type "type")) = true then PySem.W.subIn K (.ref C) (.ref C) else none) = some true
  rw [t, s, i]
  simp
theorem cls_there {C : Addr} {nm q N bs bm sn sub ab col dd k0 k1 k2 k3 k5 : _} {t : String} (l : K.lookup C = some (excClassObj nm q C N bs bm true sn sub ab col dd k0 k1 k2 k3 k5 t)) : (PySem.W.clsIn K C).isSome = true := by
  unfold PySem.W.clsIn
  rw [l] <;> rfl
theorem exm_other {C D : Addr} (b : PySem.W.subIn K (.ref C) (.type "BaseException") = some true) (i : (PySem.W.clsIn K C).isSome = true) (t : PySem.W.typeIn K (.ref C) = some (.type "type")) (s : PySem.W.subIn K (.ref D) (.ref C) = some false) : PySem.W.exmOne K (.ref D) (.ref C) = some false := by
  unfold PySem.W.exmOne PySem.W.kitCls
  rw [b]
  show (if ((PySem.W.clsIn K C).isSome && PySem.W.typeIn K (.ref C) == some (.type "type")) = true then PySem.W.subIn K (.ref D) (.ref C) else none) = some false
  rw [t, s, i]
  simp
theorem not_mk {nm0 qual : Str} {st : Stmt} {C fI : Addr} {nm q N bs bm sn sub ab col dd k0 k1 k2 k3 k5 : _} {oc : Value} {od an : Option Addr} {osl : Array (Option Value)} {kV doc pm cdv ct : Value}
    (eC : PySem.W.nsIn K mainGlobals nm0 = some (some (.ref C)))
    (lC : K.lookup C = some (excClassObj nm q C N bs bm true sn sub ab col dd k0 k1 k2 k3 k5 "ValueError.__new__")) (rv : PySem.HandSPX.refsVE bm = true) (sa : PySem.W.findIn K (.ref C) "__setattr__" = some (some (.builtin "object.__setattr__"))) (exC : PySem.W.subIn K (.ref C) (.type "BaseException") = some true)
    (tyC : PySem.W.typeIn K (.ref C) = some (.type "type")) (kC : PySem.W.keepIn K (.ref C) = true) (iC : PySem.W.findIn K (.ref C) "__init__" = some (some (.ref fI))) (tI : PySem.W.typeIn K (.ref fI) = some (.type "function")) (noF : PySem.W.findIn K (.ref C) "found" = some none)
    (lI : K.lookup fI = some ⟨oc, od, .func (PySem.W.fnOf "__init__" qual (defArgs st) (defBody st) (defScope st) .none kV doc pm an cdv ct), osl⟩) (cI : PySem.W.codeIn K cdv qual = true) (kI : PySem.W.keepIn K (.ref fI) = true)
    (ga : PySem.W.findIn K (.ref C) "__getattribute__" = some (some (.builtin "BaseException.__getattribute__"))) (gg : PySem.W.findIn K (.ref C) "__getattr__" = some none) (hdC : PySem.W.hasDictIn K C = true) (suC : PySem.W.subIn K (.ref C) (.ref C) = some true) :
    ∃ fdI, NotC K nm0 qual st C fI fdI ∧ (PySem.W.clsIn K C).isSome = true :=
  ⟨_, ⟨eC, ⟨⟨_, _, _, _, _, _, _, _, _, _, _, _, _, _, _, lC, rv⟩, sa, exC, tyC, kC⟩, iC, tI, noF, fun_mk lI cI kI, ⟨ga, gg, exC, hdC⟩, exm_self exC (cls_there lC) tyC suC⟩, cls_there lC⟩
theorem nots_mk {U C1 C2 fI1 fI2 : Addr} (eU : PySem.W.nsIn K mainGlobals "PaperError" = some (some (.ref U))) (kU : PySem.W.keepIn K (.ref U) = true) (spU : PySem.W.specialIn K (.ref U) "__getattribute__" = some (some (.builtin "type.__getattribute__"))) (rdU : PySem.W.readsIn K U (.type "type") = true)
    (fcU : PySem.W.findCls K (.ref U) (.type "type") "__init__" = some (.val (.builtin "ValueError.__init__"))) (h1 : ∃ fdI, NotC K "NoRow" "NoRow.__init__" sInitR C1 fI1 fdI ∧ (PySem.W.clsIn K C1).isSome = true) (h2 : ∃ fdI, NotC K "NoNumber" "NoNumber.__init__" sInitN C2 fI2 fdI ∧ (PySem.W.clsIn K C2).isSome = true)
    (b1 : PySem.W.subIn K (.ref C1) (.type "BaseException") = some true) (t1 : PySem.W.typeIn K (.ref C1) = some (.type "type")) (s21 : PySem.W.subIn K (.ref C2) (.ref C1) = some false) :
    ∃ U C1 fI1 fdI1 C2 fI2 fdI2, PySem.W.nsIn K mainGlobals "PaperError" = some (some (.ref U)) ∧ UpC K U ∧ NotC K "NoRow" "NoRow.__init__" sInitR C1 fI1 fdI1 ∧ NotC K "NoNumber" "NoNumber.__init__" sInitN C2 fI2 fdI2 ∧ PySem.W.exmOne K (.ref C2) (.ref C1) = some false := by
  obtain ⟨fd1, N1, i1⟩ := h1
  obtain ⟨fd2, N2, i2⟩ := h2
  exact ⟨U, C1, fI1, fd1, C2, fI2, fd2, eU, ⟨kU, spU, _, rdU, fcU⟩, N1, N2, exm_other b1 i1 t1 s21⟩
end
section
variable {K : PySem.W.Frag} {w : World}
theorem glo_mk {x : Str} {u : Value} {v : V} (e : PySem.W.nsIn K mainGlobals x = some (some u)) (r : RelV v u) : ∃ u, PySem.W.nsIn K mainGlobals x = some (some u) ∧ RelV v u := ⟨u, e, r⟩
theorem no_mk {a : Addr} {dd : Option Addr} {its : Array Value} {n : Nat} {sl : Array (Option Value)} (e : PySem.W.nsIn K mainGlobals "NO_NAMES" = some (some (.ref a))) (l : K.lookup a = some ⟨.type "tuple", dd, .seq its n, sl⟩) (s : its.size ≤ sizeLine) (v : Vals (noNames.map V.str) its.toList) :
    ∃ a o its n, PySem.W.nsIn K mainGlobals "NO_NAMES" = some (some (.ref a)) ∧ K.lookup a = some o ∧ o.cls = .type "tuple" ∧ o.data = .seq its n ∧ its.size ≤ sizeLine ∧ Vals (noNames.map V.str) its.toList := ⟨a, _, its, n, e, l, rfl, rfl, s, v⟩
theorem count_mk {f T : Addr} {oc : Value} {od an td : Option Addr} {kV doc pm cdv ct tc : Value} {osl tsl : Array (Option Value)} {its : Array Value} {n : Nat} (e : PySem.W.nsIn K mainGlobals "is_count" = some (some (.ref f)))
    (l : K.lookup f = some ⟨oc, od, .func (PySem.W.fnOf "is_count" "is_count" (defArgs sCount) (defBody sCount) (defScope sCount) (.ref T) kV doc pm an cdv ct), osl⟩) (c : PySem.W.codeIn K cdv "is_count" = true) (k : PySem.W.keepIn K (.ref f) = true)
    (lT : K.lookup T = some ⟨tc, td, .seq its n, tsl⟩) (v : Vals [.int 0] its.toList) :
    ∃ f fd, PySem.W.nsIn K mainGlobals "is_count" = some (some (.ref f)) ∧ FunD K "is_count" "is_count" (defArgs sCount) (defBody sCount) (defScope sCount) [.int 0] [] f fd :=
  ⟨f, _, e, ⟨_, _, _, _, _, _, _, _, _, _, rfl, l, c, Or.inr ⟨by simp, T, _, its.toList, n, rfl, lT, rfl, v⟩, Or.inl rfl⟩, k⟩
theorem parted_z {a : Addr} {c : Value} {d : Option Addr} {n : Nat} {sl : Array (Option Value)} {h1 h2 h3 h4 h5 h6 : Int} {k1 k2 k3 k4 k5 k6 v1 v2 v3 v4 v5 v6 : Tok}
    (l : K.lookup a = some ⟨c, d, .dict #[⟨h1, .str "all" k1, .int 2 v1⟩, ⟨h2, .str "fun" k2, .int 2 v2⟩, ⟨h3, .str "app" k3, .int 2 v3⟩, ⟨h4, .str "same" k4, .int 3 v4⟩, ⟨h5, .str "self" k5, .int 2 v5⟩, ⟨h6, .str "put" k6, .int 3 v6⟩] n, sl⟩) :
    ∀ z, ∃ r, PySem.W.nsIn K a z = some r ∧ RelO ((parts z).map fun n => V.int (n : Int)) r := by
  intro z
  have y : ∀ {s : Str} {t : Tok}, s = z → (Value.str s t).isStr z = true := fun h => by
    subst h
    show (_ == _) = true
    simp
  have no : ∀ {s : Str} {t : Tok}, z ≠ s → (Value.str s t).isStr z = false := fun h => by
    show (_ == _) = false
    exact beq_eq_false_iff_ne.mpr fun e => h e.symm
  have pos : ∀ {h : Int} {s : Str} {t : Tok} {v : Value} {r : List DictEntry}, s = z → List.find? (fun x : DictEntry => x.key.isStr z) (⟨h, .str s t, v⟩ :: r) = some ⟨h, .str s t, v⟩ := fun e => List.find?_cons_of_pos (y e)
  have neg : ∀ {h : Int} {s : Str} {t : Tok} {v : Value} {r : List DictEntry}, z ≠ s → List.find? (fun x : DictEntry => x.key.isStr z) (⟨h, .str s t, v⟩ :: r) = List.find? (fun x : DictEntry => x.key.isStr z) r := fun e => List.find?_cons_of_neg (by
    show ¬ (Value.str _ _).isStr z = true
    rw [no e]
    exact Bool.false_ne_true)
  unfold PySem.W.nsIn
  rw [l]
  dsimp only
  by_cases c1 : z = "all"
  · rw [pos c1.symm]
    refine ⟨_, rfl, ?_⟩
    rw [c1]
    exact ⟨_, rfl⟩
  rw [neg c1]
  by_cases c2 : z = "fun"
  · rw [pos c2.symm]
    refine ⟨_, rfl, ?_⟩
    rw [c2]
    exact ⟨_, rfl⟩
  rw [neg c2]
  by_cases c3 : z = "app"
  · rw [pos c3.symm]
    refine ⟨_, rfl, ?_⟩
    rw [c3]
    exact ⟨_, rfl⟩
  rw [neg c3]
  by_cases c4 : z = "same"
  · rw [pos c4.symm]
    refine ⟨_, rfl, ?_⟩
    rw [c4]
    exact ⟨_, rfl⟩
  rw [neg c4]
  by_cases c5 : z = "self"
  · rw [pos c5.symm]
    refine ⟨_, rfl, ?_⟩
    rw [c5]
    exact ⟨_, rfl⟩
  rw [neg c5]
  by_cases c6 : z = "put"
  · rw [pos c6.symm]
    refine ⟨_, rfl, ?_⟩
    rw [c6]
    exact ⟨_, rfl⟩
  rw [neg c6]
  have e : parts z = none := by
    unfold parts
    rw [if_neg c1, if_neg c2, if_neg c3, if_neg c4, if_neg c5, if_neg c6]
  rw [e]
  exact ⟨none, rfl, trivial⟩
theorem parted_mk {a : Addr} {n : Nat} {h1 h2 h3 h4 h5 h6 : Int} {k1 k2 k3 k4 k5 k6 v1 v2 v3 v4 v5 v6 : Tok} (e : PySem.W.nsIn K mainGlobals "PARTED" = some (some (.ref a)))
    (l : K.lookup a = some ⟨.type "dict", none, .dict #[⟨h1, .str "all" k1, .int 2 v1⟩, ⟨h2, .str "fun" k2, .int 2 v2⟩, ⟨h3, .str "app" k3, .int 2 v3⟩, ⟨h4, .str "same" k4, .int 3 v4⟩, ⟨h5, .str "self" k5, .int 2 v5⟩, ⟨h6, .str "put" k6, .int 3 v6⟩] n, #[]⟩)
    (k : PySem.W.KeysLit w.params (#[(⟨h1, .str "all" k1, .int 2 v1⟩ : DictEntry), ⟨h2, .str "fun" k2, .int 2 v2⟩, ⟨h3, .str "app" k3, .int 2 v3⟩, ⟨h4, .str "same" k4, .int 3 v4⟩, ⟨h5, .str "self" k5, .int 2 v5⟩, ⟨h6, .str "put" k6, .int 3 v6⟩] : Array DictEntry).toList) (lo : (a == sysModules) = false) :
    ∃ a es n, PySem.W.nsIn K mainGlobals "PARTED" = some (some (.ref a)) ∧ KDict K w a es n ∧ ∀ z, ∃ r, PySem.W.nsIn K a z = some r ∧ RelO ((parts z).map fun n => V.int (n : Int)) r := ⟨a, _, n, e, ⟨l, k, lo⟩, parted_z l⟩
end
end KP
set_option Elab.async false
set_option linter.unusedVariables false
set_option maxRecDepth 100000
set_option maxHeartbeats 1000000
/-! The end of a law on a row with defs within defs: their code tables, empty ahead of the law, are tracked beside the script. -/
namespace KA
open PySem PySem.Spec PyProof.Rows L2
structure Tabled (K : PySem.W.Frag) (cs : List (Addr × Addr)) (h : Heap) : Prop where
  void : ∀ p ∈ cs, h.get? p.2 = some { cls := .none, data := .fields #[] }
  off : ∀ p ∈ cs, K.lookup p.2 = none
  hd : ∀ p ∈ cs, PySem.W.CodeHd h p.1 p.2
section
variable {P : Program} {w : World} {K : PySem.W.Frag} {mg mb : Str → Option Value} {k : Nat} {fa a : Addr} {fd : FuncData} {x : Str} {sp : Sp} {s : Shared} {vs : List Value} {ns : List Int} {cs : List (Addr × Addr)}
theorem law_fromT {H : Hp} (kin : K.In s.heap) (ng : s.heap.Ns mainGlobals mg) (nb : s.heap.Ns builtinsNs mb) (hb : ∀ x : Str, x ≠ "__name__" → mb x = bootBuiltins x) (lim : s.heap.NoLimit) (gens : s.gens = #[])
    (bmain : ∃ (bm : Addr) (ob : Obj), mg "__builtins__" = some (.ref bm) ∧ bm ≠ builtinsNs ∧ s.heap.get? bm = some ob ∧ ob.cls = .type "module" ∧ ob.dict = some builtinsNs ∧ ob.data = .plain)
    (obj : s.heap.get? a = some { cls := .type "list", data := .seq vs.toArray }) (room : Room k callerA) (T : Tabled K cs s.heap)
    (F : ∀ base : Heap, K.In base → base.Ns mainGlobals mg → (∀ p ∈ cs, LamX.TabB base mg p.1 p.2) → FnG P w K mg base CX0 k fa fd [x] sp)
    (bt : ∀ (s : Shared) (u : Value), BindsTo s fd ⟨[u], []⟩ [(x, u)]) (hok : HOk P w H s.heap) (tH : ∀ p ∈ cs, H p.2 = some (.tbl #[]))
    (one : ∀ b, H b ≠ none → (b = a ∧ ∃ ob, H b = some (.frz ob (.lst (ns.map V.int)))) ∨ ∃ p ∈ cs, p.2 = b) (offK : H a ≠ none → K.lookup a = none)
    (h : sp [.ref a] H (fun v _ => v = .bl true) fun _ _ _ => False) :
    codeAny (model P w) callerA (.call (.ref fa) ⟨[.ref a], []⟩) (fun r s' => r = .ok (.ret (.bool true)) ∧ OldK s.heap s'.heap ∧ s'.os = s.os ∧ AllBare s'.gens) s := by
  have low : ∀ {b : Addr} {o : Obj}, s.heap.get? b = some o → H b = none → (hidT s.heap H).get? b = some o := fun e n => hidT_get e n
  have free : ∀ {b : Addr} {o : Obj}, s.heap.get? b = some o → (∀ n, o.data ≠ .seq vs.toArray n) → o.data ≠ .fields #[] → H b = none := by
    intro b o e d d2
    cases q : H b with
    | none => rfl
    | some u =>
      rcases one b (by rw [q]; simp) with ⟨rfl, _⟩ | ⟨p, hp, rfl⟩
      · rw [obj] at e
        cases e
        exact absurd rfl (d _)
      · rw [T.void p hp] at e
        cases e
        exact absurd rfl d2
  have nsL : ∀ {b : Addr} {m : Str → Option Value}, s.heap.Ns b m → (hidT s.heap H).Ns b m := by
    rintro b m ⟨o, es, ep, e, d, r⟩
    exact ⟨o, es, ep, low e (free e (fun n z => by rw [d] at z; cases z) fun z => by rw [d] at z; cases z), d, r⟩
  have kinL : K.In (hidT s.heap H) := by
    intro b o e
    refine low (kin b o e) ?_
    cases q : H b with
    | none => rfl
    | some u =>
      rcases one b (by rw [q]; simp) with ⟨rfl, _⟩ | ⟨p, hp, rfl⟩
      · rw [offK (by rw [q]; simp)] at e
        cases e
      · rw [T.off p hp] at e
        cases e
  have md : Mod K mg (hidT s.heap H) := ⟨kinL, nsL ng, ⟨mb, nsL nb, hb⟩, by obtain ⟨mc, h1, h2⟩ := lim; exact ⟨mc, nsL h1, h2⟩⟩
  have dict0 : ∀ {b : Addr}, s.heap.Ns b mg → ∃ o es ep, s.heap.get? b = some o ∧ o.data = .dict es ep := by
    rintro b ⟨o, es, ep, e, d, r⟩
    exact ⟨o, es, ep, e, d⟩
  have tabs : ∀ p ∈ cs, LamX.TabB (hidT s.heap H) mg p.1 p.2 := by
    intro p hp
    have v := T.void p hp
    obtain ⟨go, ges, gep, ge, gd⟩ := dict0 ng
    refine ⟨?_, ?_, fun z => ?_⟩
    · obtain ⟨o, us, a1, a2, a3, a4, a5, a6, a7, e1, r1, r2, r3, r4⟩ := T.hd p hp
      refine ⟨o, us, a1, a2, a3, a4, a5, a6, a7, low e1 (free e1 (fun n z => by rw [r2] at z; cases z) fun z => ?_), r1, r2, r3, r4⟩
      rw [r2] at z
      cases z
      simp at r3
    · obtain ⟨bm, ob, b1, b2, b3, b4, b5, b6⟩ := bmain
      refine ⟨bm, ob, b1, b2, fun q => ?_, fun q => ?_, low b3 (free b3 (fun n z => by rw [b6] at z; cases z) fun z => by rw [b6] at z; cases z), b4, b5, b6⟩
      · rw [q, ge] at b3
        cases b3
        rw [gd] at b6
        cases b6
      · rw [q, v] at b3
        cases b3
        cases b6
    · rw [z, v] at ge
      cases ge
      cases gd
  have e0 : Env0 P w K mg (hidT s.heap H) callerA [] s H :=
    ⟨rfl, md, fun b o e => of_hidT e, Nat.le_of_eq (hidT_size _ _), trivial, fun b z => absurd (show b ∈ ([] : List Addr) from z) (by simp), hok, .of_eq gens⟩
  have G := (F _ kinL (nsL ng) tabs).run callerA [] s H ⟨[.ref a], []⟩ [.ref a] [.ref a] _ _ rfl room e0 (bt s (.ref a)) (.cons rfl .nil) h
  refine codeAny_mono G fun r s' z => ?_
  cases r with
  | error e => exact absurd z id
  | ok fl =>
    cases fl with
    | next => exact absurd z id
    | brk => exact absurd z id
    | cont => exact absurd z id
    | ret u =>
      obtain ⟨v, H', os, bare, un, hok', rv, q⟩ := z
      obtain rfl : v = .bl true := q
      obtain rfl : u = Value.bool true := rv
      have more : ∀ p ∈ cs, ∃ m : Array Value, s'.heap.get? p.2 = some { cls := .none, data := .fields m } := fun p hp => by
        obtain ⟨m, y⟩ := un.tbls p.2 #[] (tH p hp)
        exact ⟨_, hok' p.2 _ y⟩
      have rest : ∀ b o, s.heap.get? b = some o → (¬ ∃ p ∈ cs, p.2 = b) → s'.heap.get? b = some o := fun b o e nb => by
        cases q : H b with
        | none => exact un.keep b o e q (fun z => absurd (show b ∈ ([] : List Addr) from z) (by simp)) (by simp)
        | some u =>
          rcases one b (by rw [q]; simp) with ⟨_, ob, z⟩ | z
          · obtain ⟨e1, _⟩ := hok b _ z
            obtain ⟨e2, _⟩ := hok' b _ (un.frzs b ob _ z)
            rw [e] at e1
            cases e1
            exact e2
          · exact absurd z nb
      refine ⟨rfl, ⟨fun b o e => ?_, fun b o e => ?_⟩, os, bare⟩
      · by_cases c : ∃ p ∈ cs, p.2 = b
        · obtain ⟨p, hp, rfl⟩ := c
          obtain ⟨m, hm⟩ := more p hp
          rw [T.void p hp] at e
          cases e
          exact Or.inr (Or.inl ⟨((T.hd p hp).tab (T.void p hp)).isCodeTable, rfl, #[], m, rfl, by rw [Array.empty_append]; exact hm⟩)
        · exact Or.inl (rest b o e c)
      · by_cases c : ∃ p ∈ cs, p.2 = b
        · obtain ⟨p, hp, rfl⟩ := c
          obtain ⟨m, hm⟩ := more p hp
          exact ⟨_, hm⟩
        · exact ⟨o, rest b o e c⟩
open Classical in
theorem law_runT (kin : K.In s.heap) (ng : s.heap.Ns mainGlobals mg) (nb : s.heap.Ns builtinsNs mb) (hb : ∀ x : Str, x ≠ "__name__" → mb x = bootBuiltins x) (lim : s.heap.NoLimit) (gens : s.gens = #[])
    (bmain : ∃ (bm : Addr) (ob : Obj), mg "__builtins__" = some (.ref bm) ∧ bm ≠ builtinsNs ∧ s.heap.get? bm = some ob ∧ ob.cls = .type "module" ∧ ob.dict = some builtinsNs ∧ ob.data = .plain)
    (obj : s.heap.get? a = some { cls := .type "list", data := .seq vs.toArray }) (its : IntsAre vs ns) (many : ns.length ≤ sizeLine) (room : Room k callerA) (T : Tabled K cs s.heap)
    (F : ∀ base : Heap, K.In base → base.Ns mainGlobals mg → (∀ p ∈ cs, LamX.TabB base mg p.1 p.2) → FnG P w K mg base CX0 k fa fd [x] sp) (bt : ∀ (s : Shared) (u : Value), BindsTo s fd ⟨[u], []⟩ [(x, u)])
    (h : ∀ H : Hp, (∀ p ∈ cs, H p.2 = some (.tbl #[])) → (∀ b, H b ≠ none → b = a ∨ ∃ p ∈ cs, p.2 = b) → SqL K H a (ns.map V.int) → sp [.ref a] H (fun v _ => v = .bl true) fun _ _ _ => False) :
    codeAny (model P w) callerA (.call (.ref fa) ⟨[.ref a], []⟩) (fun r s' => r = .ok (.ret (.bool true)) ∧ OldK s.heap s'.heap ∧ s'.os = s.os ∧ AllBare s'.gens) s := by
  have rv := vals_ints its
  have len := its.length
  have na : ¬ ∃ p ∈ cs, p.2 = a := by
    rintro ⟨p, hp, e⟩
    have v := T.void p hp
    rw [e, obj] at v
    have v2 : Data.seq vs.toArray _ = Data.fields #[] := congrArg Obj.data (Option.some.inj v)
    cases v2
  by_cases hk : K.lookup a = none
  · refine law_fromT (H := fun b => if b = a then some (.frz { cls := .type "list", data := .seq vs.toArray } (.lst (ns.map V.int))) else if ∃ p ∈ cs, p.2 = b then some (.tbl #[]) else none) (ns := ns) kin ng nb hb lim gens bmain obj room T F bt ?_ ?_ ?_ (fun _ => hk) ?_
    · intro b u z
      by_cases q : b = a
      · subst q
        simp only [if_true] at z
        cases z
        exact ⟨obj, by rw [List.length_map]; exact many, vs, _, rv, obj⟩
      · simp only [if_neg q] at z
        by_cases c : ∃ p ∈ cs, p.2 = b
        · rw [if_pos c] at z
          cases z
          obtain ⟨p, hp, rfl⟩ := c
          exact T.void p hp
        · rw [if_neg c] at z
          cases z
    · intro p hp
      exact (if_neg fun e => na ⟨p, hp, e⟩).trans (if_pos ⟨p, hp, rfl⟩)
    · intro b z
      by_cases q : b = a
      · exact Or.inl ⟨q, _, if_pos q⟩
      · refine Or.inr (Classical.byContradiction fun c => z ?_)
        exact (if_neg q).trans (if_neg c)
    · refine h _ (fun p hp => (if_neg fun e => na ⟨p, hp, e⟩).trans (if_pos ⟨p, hp, rfl⟩)) (fun b z => ?_) (Or.inl (Or.inr ⟨_, if_pos rfl⟩))
      by_cases q : b = a
      · exact Or.inl q
      · refine Or.inr (Classical.byContradiction fun c => z ?_)
        exact (if_neg q).trans (if_neg c)
  · obtain ⟨o, hk⟩ := Option.ne_none_iff_exists'.mp hk
    have e := kin a o hk
    rw [obj] at e
    cases e
    refine law_fromT (H := fun b => if ∃ p ∈ cs, p.2 = b then some (.tbl #[]) else none) (ns := ns) kin ng nb hb lim gens bmain obj room T F bt ?_ (fun p hp => if_pos ⟨p, hp, rfl⟩) ?_ (fun z => absurd (if_neg na) z) ?_
    · intro b u z
      by_cases c : ∃ p ∈ cs, p.2 = b
      · simp only [if_pos c] at z
        cases z
        obtain ⟨p, hp, rfl⟩ := c
        exact T.void p hp
      · simp only [if_neg c] at z
        cases z
    · intro b z
      exact Or.inr (Classical.byContradiction fun c => z (if_neg c))
    · refine h _ (fun p hp => if_pos ⟨p, hp, rfl⟩) (fun b z => Or.inr (Classical.byContradiction fun c => z (if_neg c))) ?_
      exact Or.inr ⟨_, vs.toArray, _, hk, rfl, rfl, rfl, by rw [List.size_toArray, len]; exact many, by simpa using rv⟩
end
theorem walkT {l : PySem.W.OpenLaw} {n k : Nat} {q : Program} {loose : List Str} {XP : (Str → Option Value) → Heap → Prop} {YP : World → Heap → Prop} {d : DefRec} {K : Params → PySem.W.Frag} {sp : PySem.W.Frag → Sp} {x : Str} {cs : List (Addr × Addr)}
    (hn : l.most = some n) (small : n ≤ sizeLine) (hdf : d.params.defaults = []) (room : Room k callerA) (hY : ∀ (w : World) (h : Heap), YP w h → (K w.params).In h) (hT : ∀ (w : World) (h : Heap), YP w h → Tabled (K w.params) cs h)
    (F : ∀ (w : World) (mg : Str → Option Value) (fa : Addr) (h : Heap), (K w.params).In h → h.Ns mainGlobals mg → mg d.name = some (.ref fa) →
      ∃ fd : FuncData, (∀ (s : Shared) (u : Value), BindsTo s fd ⟨[u], []⟩ [(x, u)]) ∧ ∀ base : Heap, (K w.params).In base → base.Ns mainGlobals mg → (∀ p ∈ cs, LamX.TabB base mg p.1 p.2) → FnG l.prog w (K w.params) mg base CX0 k fa fd [x] (sp (K w.params)))
    (h : ∀ (K : PySem.W.Frag) (H : Hp) (a : Addr) (ns : List Int), ns.length ≤ n → (∀ p ∈ cs, H p.2 = some (.tbl #[])) → (∀ b, H b ≠ none → b = a ∨ ∃ p ∈ cs, p.2 = b) → SqL K H a (ns.map V.int) → sp K [.ref a] H (fun v _ => v = .bl true) fun _ _ _ => False) :
    PySem.W.WalkO q loose XP YP l.row.toRowW d [] (fun f vs => PySem.call f vs) := by
  refine Att.attach_call hn hdf fun w s₀ s₁ mg mb fa o pm cd doc a vs ns G Y ho hd hcd hmg obj its len gens => ?_
  have kin := hY w _ Y
  obtain ⟨fd, bt, F1⟩ := F w mg fa _ kin G.T.g hmg
  exact law_runT kin G.T.g G.T.b G.T.builtins G.T.nolimit gens G.T.bmain obj its (Nat.le_trans len small) room (hT w _ Y) F1 bt fun H tH one sq => h (K w.params) H a ns len tH one sq
end KA
set_option Elab.async false
set_option maxRecDepth 100000
open PySem PySem.W PyProof.Rows in
set_option maxRecDepth 100000 in
set_option maxHeartbeats 0 in
theorem PySem.Challenge.cw_kernelpapers_k16_things_refused_holds : PySem.Challenge.rw_kernelpapers_k16_things_refused.Holds := by
  w_on; o_law; k_head; (case hw => w_witness2)
  k_fill
  refine KA.walkT (l := PySem.Challenge.rw_kernelpapers_k16_things_refused) (n := 63) (k := 60) (x := "_law_script") (sp := KP.spLaw) (cs := KP.rowCs) rfl (by decide) rfl ⟨rfl, by decide, by decide⟩ (fun w h Y => PySem.W.km_in_of Y) ?T ?F ?G
  case G => exact fun K H a ns hl tH _ hS => ⟨a, ns, rfl, KP.tab_void tH, hS, hl, fun _ => rfl⟩
  case T =>
    intro w h Y
    have X := PySem.W.km_in_of Y
    have V := PySem.W.km_tabs_of Y
    refine ⟨fun p hp => ?_, fun p hp => ?_, fun p hp => ?_⟩
    · simp only [KP.rowCs, List.mem_cons, List.not_mem_nil, or_false] at hp
      subst hp <;> exact V _ (by simp)
    · simp only [KP.rowCs, List.mem_cons, List.not_mem_nil, or_false] at hp
      subst hp <;> kernel_rfl
    · simp only [KP.rowCs, List.mem_cons, List.not_mem_nil, or_false] at hp
      subst hp
      · exact PySem.W.codeHd_of_K (c := 138) (P := 134) X (by kernel_rfl)
  case F =>
    intro w mg fa h KX G hmg
    refine KP.all_mk KX G hmg ?Z
    clear hmg
    constructor
    case letters =>
      refine KP.glo_mk (by k_is) ?_
      exact ⟨_, rfl⟩
    case most =>
      refine KP.glo_mk (by k_is) ?_
      exact ⟨_, rfl⟩
    case highest =>
      refine KP.glo_mk (by k_is) ?_
      exact ⟨_, rfl⟩
    case no =>
      refine KP.no_mk (by k_is) (by k_is) ?s ?v
      (case s => decide)
      (case v => exact .cons ⟨_, rfl⟩ (.cons ⟨_, rfl⟩ (.cons ⟨_, rfl⟩ (.cons ⟨_, rfl⟩ (.cons ⟨_, rfl⟩ .nil)))))
    case parted =>
      refine KP.parted_mk (by k_is) (by k_is) ?k ?lo
      (case k => k_keys)
      (case lo => rfl)
    case count =>
      refine KP.count_mk (by k_is) (by k_is) (by k_is) (by k_is) (by k_is) ?v
      exact .cons ⟨_, rfl⟩ .nil
    case i_most_bounds =>
      refine KP.glo_mk (by k_is) ?_
      exact ⟨_, rfl⟩
    case i_most_makers =>
      refine KP.glo_mk (by k_is) ?_
      exact ⟨_, rfl⟩
    case i_most_arguments =>
      refine KP.glo_mk (by k_is) ?_
      exact ⟨_, rfl⟩
    case nots =>
      refine KP.nots_mk (by k_is) (by k_is) (by k_is) (by k_is) (by k_is) (KP.not_mk (by k_is) (by k_is) ?rv1 (by k_is) (by k_is) (by k_is) (by k_is) (by k_is) (by k_is) (by k_is) (by k_is) (by k_is) (by k_is) (by k_is) (by k_is) (by k_is) (by k_is)) (KP.not_mk (by k_is) (by k_is) ?rv2 (by k_is) (by k_is) (by k_is) (by k_is) (by k_is) (by k_is) (by k_is) (by k_is) (by k_is) (by k_is) (by k_is) (by k_is) (by k_is) (by k_is)) (by k_is) (by k_is) (by k_is)
      (case rv1 => decide +kernel)
      (case rv2 => decide +kernel)
    all_goals first | k_is | exact KP.defAt (by k_is) (by k_is) (by k_is) (by k_is) | exact KP.defCAt (by k_is) (by k_is) (by k_is) (by k_is)
