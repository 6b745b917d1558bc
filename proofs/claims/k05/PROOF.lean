import PyProof.Rows.All
import Wide.All
import OpenK.AllK
import Wide.FinOn
import HandS.ForMost
import HandS.Defaults
import HandS.IsInst
import HandS.TupAny
import HandS.ListItems
import HandS.Flow
import HandS.Zip
import PyProof.AutoSeq1
import HandS.Codes
import HandS.More
import HandS.Style
import HandS.Conv
import HandS.ExcInit
import PyProof.Rows.EqDataRows
import HandS.Exc
import HandS.ExcField
import HandS.WordsExc
import PyProof.StrLawsRepr
import PySem.Challenge.RW_kernelpapers_k05_heads_given_several
set_option Elab.async false
set_option maxRecDepth 100000
set_option maxHeartbeats 1000000
/-! Own ground: calls where nothing is being shown (guards), what data a value stands for, repr of it. -/
namespace KA
open PySem PySem.Spec PyProof.Rows L2

/-! ### a def's promise where no repr is under way -/
structure FnG (P : Program) (w : World) (K : PySem.W.Frag) (mg : Str → Option Value) (base : Heap) (CX : CXT) (k : Nat) (f : Addr) (fd : FuncData) (ps : List Str) (sp : Sp) : Prop where
  len : ∀ vs H Q E, sp vs H Q E → vs.length = ps.length
  run : ∀ (A : Around) (outer : List Env) (s : Shared) (H : Hp) (args : Args) (us : List Value) (vs : List V) (Q : VK) (E : XK), A.guards = some [] → Room k A → Env0 P w K mg base A outer s H →
    BindsTo s fd args (ps.zip us) → Vals vs us → sp vs H Q E → codeAny (model P w) A (.call (.ref f) args) (CR CX outer P w H s Q E) s

section
variable {P : Program} {w : World} {K : PySem.W.Frag} {mg : Str → Option Value} {base : Heap} {CX : CXT} {k : Nat}
/-- the body of a def, entered from one place -/
theorem enter {x qual : Str} {st : Stmt} {f : Addr} {fd : FuncData} {N ps : List Str} (F : Fun K x qual st f fd) (S : FnScope N ps (defScope st))
    {A : Around} {outer : List Env} {s : Shared} {H : Hp} {args : Args} {us : List Value} {vs : List V} {Q : VK} {E : XK} (room : Room (k + 1) A) (e0 : Env0 P w K mg base A outer s H) (bt : BindsTo s fd args (ps.zip us))
    (rv : Vals vs us) (many : vs.length = ps.length)
    (body : ∀ cdv : Value, ∃ t, PSs (cxOf CX P w K mg base N qual (defScope st) f cdv A outer s H E) (defBody st) t ∧ t { nx := fun _ H' => Q .non H', rt := Q } (start N vs) H) :
    codeAny (model P w) A (.call (.ref f) args) (CR CX outer P w H s Q E) s := by
  obtain ⟨oc, od, kV, doc, pm, an, cdv, ct, osl, rfl, lk, code⟩ := F.ex
  have here : ∀ b o, base.get? b = some o → s.heap.get? b = some o := fun b o e => (e0.bs b o e).1
  have kin : K.In s.heap := e0.mod.kin.keeps here
  have lim : s.heap.NoLimit := e0.mod.nolimit.keeps here
  have kinds : ∀ y ∈ ps.zip us, (defScope st).names.lookup y.1 = some .local ∨ ((defScope st).names.lookup y.1 = some .cell ∧ ((cellsFrom (s.heap.objs.size + 1) (defScope st).names []).lookup y.1).isSome = true) := by
    rintro ⟨n, v⟩ hy
    rcases S.par n (List.of_mem_zip hy).1 with q | q
    · exact Or.inl q
    · exact Or.inr ⟨q, PySem.W.cellsFrom_some _ _ _ (Or.inl q)⟩
  refine codeAny_call_function room.depth (kin _ _ lk) rfl S.co S.gen rfl (PySem.W.codeRec_of kin code) (bt _ _ _ _ ?_)
  refine wpAny_newFunctionEnv_cells S.kind kinds fun env he s1 x => ?_
  subst he
  refine ⟨lim.keeps x.toInCall.keep, codeAny_func ?_⟩
  obtain ⟨t, ht, hq⟩ := body cdv
  have I0 := inv_start (CX := CX) (E := E) S room.hd e0 many rv x
  refine wpAny_mono (ht.run [] s1 (start N vs) H _ I0 hq) (fun fl s' hs => ?_) fun e s' hs => hs
  have fin : ∀ {σ' : L2.St} {H' : Hp} {v : V} {u : Value}, Inv (cxOf CX P w K mg base N qual (defScope st) f cdv A outer s H E) [] σ' H' s' → RelV v u → Q v H' → CE outer P w H s Q u s' :=
    fun {_ H' v _} J r q => ⟨v, H', J.os, J.bare, J.base, J.hok, r, q⟩
  cases fl with
  | ret u => obtain ⟨v, σ', H', J, r, q⟩ := hs; exact fin J r q
  | next => obtain ⟨σ', H', J, q⟩ := hs; exact fin (v := V.non) (u := Value.none) J rfl q
  | brk => obtain ⟨_, _, _, q⟩ := hs; exact q.elim
  | cont => obtain ⟨_, _, _, q⟩ := hs; exact q.elim

theorem fnG {x qual : Str} {st : Stmt} {f : Addr} {fd : FuncData} {N ps : List Str} {sp : Sp} (F : Fun K x qual st f fd) (S : FnScope N ps (defScope st)) (len : ∀ vs H Q E, sp vs H Q E → vs.length = ps.length)
    (body : ∀ (cdv : Value) (A : Around) (outer : List Env) (s : Shared) (H : Hp) (vs : List V) (Q : VK) (E : XK), A.guards = some [] → Room k (A.deeper (envOfC qual (defScope st) s.heap.objs.size f cdv)) → sp vs H Q E →
      ∃ t, PSs (cxOf CX P w K mg base N qual (defScope st) f cdv A outer s H E) (defBody st) t ∧ t { nx := fun _ H' => Q .non H', rt := Q } (start N vs) H) : FnG P w K mg base CX (k + 1) f fd ps sp :=
  ⟨len, fun A outer s H args us vs Q E g room e0 bt rv h => enter F S room e0 bt rv (len _ _ _ _ h) fun cdv => body cdv A outer s H vs Q E g (room.deeper _) h⟩
end
end KA

namespace KA
open PySem PySem.Spec PyProof.Rows L2
/-! ### the law's own call, made where nothing is being shown -/
section
variable {P : Program} {w : World} {K : PySem.W.Frag} {mg mb : Str → Option Value} {k : Nat} {fa a : Addr} {fd : FuncData} {x : Str} {sp : Sp} {s : Shared} {vs : List Value} {ns : List Int}
/-- from a heap H that tracks at most the script -/
theorem law_from {H : Hp} (kin : K.In s.heap) (ng : s.heap.Ns mainGlobals mg) (nb : s.heap.Ns builtinsNs mb) (hb : ∀ x : Str, x ≠ "__name__" → mb x = bootBuiltins x) (lim : s.heap.NoLimit) (gens : s.gens = #[])
    (obj : s.heap.get? a = some { cls := .type "list", data := .seq vs.toArray }) (room : Room k callerA) (F : ∀ base : Heap, K.In base → base.Ns mainGlobals mg → FnG P w K mg base CX0 k fa fd [x] sp)
    (bt : ∀ (s : Shared) (u : Value), BindsTo s fd ⟨[u], []⟩ [(x, u)]) (only : Only H) (hok : HOk P w H s.heap) (atA : ∀ b, H b ≠ none → b = a) (offK : H a ≠ none → K.lookup a = none)
    (h : sp [.ref a] H (fun v _ => v = .bl true) fun _ _ _ => False) :
    codeAny (model P w) callerA (.call (.ref fa) ⟨[.ref a], []⟩) (fun r s' => r = .ok (.ret (.bool true)) ∧ OldK s.heap s'.heap ∧ s'.os = s.os ∧ AllBare s'.gens) s := by
  have low : ∀ {b : Addr} {o : Obj}, s.heap.get? b = some o → H b = none → (hidT s.heap H).get? b = some o := fun e n => hidT_get e n
  have free : ∀ {b : Addr} {o : Obj}, s.heap.get? b = some o → (∀ n, o.data ≠ .seq vs.toArray n) → H b = none := by
    intro b o e d
    cases q : H b with
    | none => rfl
    | some u =>
      obtain rfl : b = a := atA b (by rw [q]; simp)
      rw [obj] at e
      cases e
      exact absurd rfl (d _)
  have nsL : ∀ {b : Addr} {m : Str → Option Value}, s.heap.Ns b m → (hidT s.heap H).Ns b m := by
    rintro b m ⟨o, es, ep, e, d, r⟩
    exact ⟨o, es, ep, low e (free e fun n z => by rw [d] at z; cases z), d, r⟩
  have kinL : K.In (hidT s.heap H) := by
    intro b o e
    refine low (kin b o e) ?_
    cases q : H b with
    | none => rfl
    | some u =>
      obtain rfl : b = a := atA b (by rw [q]; simp)
      rw [offK (by rw [q]; simp)] at e
      cases e
  have md : Mod K mg (hidT s.heap H) := ⟨kinL, nsL ng, ⟨mb, nsL nb, hb⟩, by obtain ⟨mc, h1, h2⟩ := lim; exact ⟨mc, nsL h1, h2⟩⟩
  have e0 : Env0 P w K mg (hidT s.heap H) callerA [] s H :=
    ⟨rfl, md, fun b o e => of_hidT e, Nat.le_of_eq (hidT_size _ _), trivial, fun b z => absurd (show b ∈ ([] : List Addr) from z) (by simp), hok, .of_eq gens⟩
  have G := (F _ kinL (nsL ng)).run callerA [] s H ⟨[.ref a], []⟩ [.ref a] [.ref a] _ _ rfl room e0 (bt s (.ref a)) (.cons rfl .nil) h
  refine codeAny_mono G fun r s' z => ?_
  cases r with
  | error e => exact absurd z id
  | ok fl =>
    cases fl with
    | next => exact absurd z id
    | brk => exact absurd z id
    | cont => exact absurd z id
    | ret u =>
      obtain ⟨v, H', os, bare, un, hok', rv, q⟩ := z
      obtain rfl : v = .bl true := q
      obtain rfl : u = Value.bool true := rv
      refine ⟨rfl, OldK.of_keep fun b o e => ?_, os, bare⟩
      cases q : H b with
      | none => exact un.keep b o e q (fun z => absurd (show b ∈ ([] : List Addr) from z) (by simp)) (by simp)
      | some u =>
        obtain z | ⟨ob, xs, z⟩ := only b
        · rw [q] at z; cases z
        · obtain ⟨e1, _⟩ := hok b _ z
          obtain ⟨e2, _⟩ := hok' b _ (un.frzs b ob _ z)
          rw [e] at e1
          cases e1
          exact e2
theorem law_run (kin : K.In s.heap) (ng : s.heap.Ns mainGlobals mg) (nb : s.heap.Ns builtinsNs mb) (hb : ∀ x : Str, x ≠ "__name__" → mb x = bootBuiltins x) (lim : s.heap.NoLimit) (gens : s.gens = #[])
    (obj : s.heap.get? a = some { cls := .type "list", data := .seq vs.toArray }) (its : IntsAre vs ns) (many : ns.length ≤ sizeLine) (room : Room k callerA)
    (F : ∀ base : Heap, K.In base → base.Ns mainGlobals mg → FnG P w K mg base CX0 k fa fd [x] sp) (bt : ∀ (s : Shared) (u : Value), BindsTo s fd ⟨[u], []⟩ [(x, u)])
    (h : ∀ H : Hp, Only H → SqL K H a (ns.map V.int) → sp [.ref a] H (fun v _ => v = .bl true) fun _ _ _ => False) :
    codeAny (model P w) callerA (.call (.ref fa) ⟨[.ref a], []⟩) (fun r s' => r = .ok (.ret (.bool true)) ∧ OldK s.heap s'.heap ∧ s'.os = s.os ∧ AllBare s'.gens) s := by
  have rv := vals_ints its
  have len := its.length
  by_cases hk : K.lookup a = none
  · refine law_from (H := fun b => if b = a then some (.frz { cls := .type "list", data := .seq vs.toArray } (.lst (ns.map V.int))) else none) kin ng nb hb lim gens obj room F bt ?_ ?_ ?_ (fun _ => hk) ?_
    · intro b
      by_cases z : b = a
      · exact Or.inr ⟨_, _, if_pos z⟩
      · exact Or.inl (if_neg z)
    · intro b u z
      by_cases q : b = a
      · subst q
        simp only [if_true] at z
        cases z
        exact ⟨obj, by rw [List.length_map]; exact many, vs, _, rv, obj⟩
      · simp only [if_neg q] at z
        cases z
    · intro b z
      by_cases q : b = a
      · exact q
      · exact absurd (if_neg q) z
    · refine h _ (fun b => ?_) (Or.inl (Or.inr ⟨_, if_pos rfl⟩))
      by_cases z : b = a
      · exact Or.inr ⟨_, _, if_pos z⟩
      · exact Or.inl (if_neg z)
  · obtain ⟨o, hk⟩ := Option.ne_none_iff_exists'.mp hk
    have e := kin a o hk
    rw [obj] at e
    cases e
    have no : ∀ b : Addr, (fun _ : Addr => (none : Option HO)) b = none := fun _ => rfl
    refine law_from (H := fun _ => none) kin ng nb hb lim gens obj room F bt (fun b => Or.inl rfl) (fun b u z => by cases z) (fun b z => absurd rfl z) (fun z => absurd rfl z) ?_
    exact h _ (fun b => Or.inl rfl) (Or.inr ⟨_, vs.toArray, _, hk, rfl, rfl, rfl, by rw [List.size_toArray, len]; exact many, by simpa using rv⟩)
end
/-- the end of a law whose def is promised where nothing is being shown -/
theorem walkG {l : PySem.W.OpenLaw} {n k : Nat} {q : Program} {loose : List Str} {XP : (Str → Option Value) → Heap → Prop} {YP : World → Heap → Prop} {d : DefRec} {K : Params → PySem.W.Frag} {sp : PySem.W.Frag → Sp} {x : Str}
    (hn : l.most = some n) (small : n ≤ sizeLine) (hdf : d.params.defaults = []) (room : Room k callerA) (hY : ∀ (w : World) (h : Heap), YP w h → (K w.params).In h)
    (F : ∀ (w : World) (mg : Str → Option Value) (fa : Addr) (h : Heap), (K w.params).In h → h.Ns mainGlobals mg → mg d.name = some (.ref fa) →
      ∃ fd : FuncData, (∀ (s : Shared) (u : Value), BindsTo s fd ⟨[u], []⟩ [(x, u)]) ∧ ∀ base : Heap, (K w.params).In base → base.Ns mainGlobals mg → FnG l.prog w (K w.params) mg base CX0 k fa fd [x] (sp (K w.params)))
    (h : ∀ (K : PySem.W.Frag) (H : Hp) (a : Addr) (ns : List Int), ns.length ≤ n → Only H → SqL K H a (ns.map V.int) → sp K [.ref a] H (fun v _ => v = .bl true) fun _ _ _ => False) :
    PySem.W.WalkO q loose XP YP l.row.toRowW d [] (fun f vs => PySem.call f vs) := by
  refine Att.attach_call hn hdf fun w s₀ s₁ mg mb fa o pm cd doc a vs ns G Y ho hd hcd hmg obj its len gens => ?_
  have kin := hY w _ Y
  obtain ⟨fd, bt, F1⟩ := F w mg fa _ kin G.T.g hmg
  exact law_run kin G.T.g G.T.b G.T.builtins G.T.nolimit gens obj its (Nat.le_trans len small) room F1 bt fun H only sq => h (K w.params) H a ns len only sq
end KA
set_option Elab.async false
set_option linter.unusedVariables false
set_option maxRecDepth 100000
set_option maxHeartbeats 1000000
/-! What data a value stands for, where all of it is tracked; repr of such. -/
namespace KA
open PySem PySem.Spec PyProof.Rows L2

mutual
inductive Dn (H : Hp) : V → PyData → Prop
  | non : Dn H .non .none
  | bl (b : Bool) : Dn H (.bl b) (.bool b)
  | int (i : Int) : Dn H (.int i) (.int i)
  | str (x : Str) : Dn H (.str x) (.str x)
  | lst {a : Addr} {xs : List V} {ds : List PyData} : H a = some (.lst xs) → DnAll H xs ds → Dn H (.ref a) (.list ds)
  | tup {a : Addr} {xs : List V} {ds : List PyData} : H a = some (.tup xs) → DnAll H xs ds → Dn H (.ref a) (.tuple ds)
  | dic {a : Addr} {kvs : List (Key × V)} {ds : List (PyData × PyData)} : H a = some (.dK kvs) → DnAll H (kvs.map fun p => kV p.1) (ds.map (·.1)) → DnAll H (kvs.map (·.2)) (ds.map (·.2)) → Dn H (.ref a) (.dict ds)
inductive DnAll (H : Hp) : List V → List PyData → Prop
  | nil : DnAll H [] []
  | cons {v : V} {vs : List V} {d : PyData} {ds : List PyData} : Dn H v d → DnAll H vs ds → DnAll H (v :: vs) (d :: ds)
end

section
variable {H H' : Hp}
mutual
theorem Dn.mono (e : Same H H') : ∀ {v : V} {d : PyData}, Dn H v d → Dn H' v d
  | _, _, .non => .non
  | _, _, .bl b => .bl b
  | _, _, .int i => .int i
  | _, _, .str x => .str x
  | _, _, .lst h r => .lst (e _ _ h) (DnAll.mono e r)
  | _, _, .tup h r => .tup (e _ _ h) (DnAll.mono e r)
  | _, _, .dic h r r' => .dic (e _ _ h) (DnAll.mono e r) (DnAll.mono e r')
theorem DnAll.mono (e : Same H H') : ∀ {vs : List V} {ds : List PyData}, DnAll H vs ds → DnAll H' vs ds
  | _, _, .nil => .nil
  | _, _, .cons h r => .cons (Dn.mono e h) (DnAll.mono e r)
end
theorem DnAll.length : ∀ {vs : List V} {ds : List PyData}, DnAll H vs ds → vs.length = ds.length
  | _, _, .nil => rfl
  | _, _, .cons _ r => congrArg (· + 1) (DnAll.length r)
theorem DnAll.get : ∀ {vs : List V} {ds : List PyData} {i : Nat} {d : PyData}, DnAll H vs ds → ds[i]? = some d → ∃ v, vs[i]? = some v ∧ Dn H v d
  | _, _, _, _, .nil, e => by cases e
  | _, _, 0, _, .cons h _, e => by
    cases e
    exact ⟨_, rfl, h⟩
  | _, _, i + 1, d, .cons _ r, e => DnAll.get (i := i) (d := d) r e
theorem DnAll.append : ∀ {vs ws : List V} {ds es : List PyData}, DnAll H vs ds → DnAll H ws es → DnAll H (vs ++ ws) (ds ++ es)
  | _, _, _, _, .nil, s => s
  | _, _, _, _, .cons h r, s => .cons h (DnAll.append r s)
theorem DnAll.take : ∀ {vs : List V} {ds : List PyData} (n : Nat), DnAll H vs ds → DnAll H (vs.take n) (ds.take n)
  | _, _, 0, _ => .nil
  | _, _, _ + 1, .nil => .nil
  | _, _, n + 1, .cons h r => .cons h (DnAll.take n r)
theorem DnAll.drop : ∀ {vs : List V} {ds : List PyData} (n : Nat), DnAll H vs ds → DnAll H (vs.drop n) (ds.drop n)
  | _, _, 0, r => r
  | _, _, _ + 1, .nil => .nil
  | _, _, n + 1, .cons _ r => DnAll.drop n r
theorem DnAll.dropLast : ∀ {vs : List V} {ds : List PyData}, DnAll H vs ds → DnAll H vs.dropLast ds.dropLast := by
  intro vs ds r
  rw [List.dropLast_eq_take, List.dropLast_eq_take, r.length]
  exact r.take _
theorem DnAll.snoc {vs : List V} {ds : List PyData} {v : V} {d : PyData} (r : DnAll H vs ds) (h : Dn H v d) : DnAll H (vs ++ [v]) (ds ++ [d]) := r.append (.cons h .nil)
theorem DnAll.one {v : V} {d : PyData} (h : Dn H v d) : DnAll H [v] [d] := .cons h .nil
/-- a list whose items are data each -/
theorem DnAll.bools : ∀ bs : List Bool, DnAll H (bs.map V.bl) (bs.map PyData.bool)
  | [] => .nil
  | b :: bs => .cons (.bl b) (DnAll.bools bs)
end

section
variable {P : Program} {w : World} {H : Hp} {h : Heap}
theorem keys_read : ∀ {kvs : List (Key × V)} {vs : List (Key × Value)} {es : List DictEntry} {ds : List PyData}, KV kvs vs → PySem.Pairs (mixKind P w) es vs → DnAll H (kvs.map fun p => kV p.1) ds → Vals (kvs.map fun p => kV p.1) (es.map (·.key))
  | _, _, _, _, .nil, .nil, _ => .nil
  | _, _, _, _, .cons r t, .cons k _ t', .cons _ t'' => by
    refine .cons ?_ (keys_read t t' t'')
    have k' := k
    rw [mixKind_is, ← r.1] at k'
    obtain ⟨i, u, e1, e2⟩ | ⟨x, u, e1, e2⟩ := keyIs_shape k'
    · dsimp only
      rw [e1, e2]
      exact ⟨u, rfl⟩
    · dsimp only
      rw [e1, e2]
      exact ⟨u, rfl⟩
theorem vals_read : ∀ {kvs : List (Key × V)} {vs : List (Key × Value)} {es : List DictEntry}, KV kvs vs → PySem.Pairs (mixKind P w) es vs → Vals (kvs.map (·.2)) (es.map (·.val))
  | _, _, _, .nil, .nil => .nil
  | _, _, _, .cons r t, .cons _ e t' => by
    refine .cons ?_ (vals_read t t')
    dsimp only
    rw [e]
    exact r.2

mutual
/-- the heap reads so -/
theorem Dn.reads (ok : HOk P w H h) : ∀ {v : V} {d : PyData} {u : Value}, Dn H v d → RelV v u → ∃ as, Reads h u d as
  | _, _, _, .non, r => by
    cases r
    exact ⟨_, .none⟩
  | _, _, _, .bl b, r => by
    cases r
    exact ⟨_, .bool b⟩
  | _, _, _, .int i, r => by
    obtain ⟨t, rfl⟩ := r
    exact ⟨_, .int i t⟩
  | _, _, _, .str x, r => by
    obtain ⟨t, rfl⟩ := r
    exact ⟨_, .str x t⟩
  | _, _, _, .lst e q, r => by
    cases r
    obtain ⟨_, its, n, rv, ho⟩ := ok _ _ e
    obtain ⟨as, hr⟩ := DnAll.reads ok q rv
    exact ⟨_, .list ho rfl rfl hr⟩
  | _, _, _, .tup e q, r => by
    cases r
    obtain ⟨_, its, rv, o, ho, hc, n, hd⟩ := ok _ _ e
    obtain ⟨as, hr⟩ := DnAll.reads ok q rv
    exact ⟨_, .tuple ho hc hd hr⟩
  | _, _, _, .dic e q q', r => by
    cases r
    obtain ⟨_, _, vs, kv, o, es, ep, ho, hx, hd, _, hp, _⟩ := ok _ _ e
    obtain ⟨as, hr⟩ := DnAll.reads ok q (keys_read kv hp q)
    obtain ⟨bs, hr'⟩ := DnAll.reads ok q' (vals_read kv hp)
    exact ⟨_, .dict ho hx.1 hd hr hr'⟩
theorem DnAll.reads (ok : HOk P w H h) : ∀ {vs : List V} {ds : List PyData} {us : List Value}, DnAll H vs ds → Vals vs us → ∃ as, ReadsAll h us ds as
  | _, _, _, .nil, r => by
    cases r
    exact ⟨_, .nil⟩
  | _, _, _, .cons q t, .cons r r' => by
    obtain ⟨as, h1⟩ := Dn.reads ok q r
    obtain ⟨bs, h2⟩ := DnAll.reads ok t r'
    exact ⟨_, .cons h1 h2⟩
end

mutual
/-- how it is shown, piece by piece -/
theorem Dn.repr (ok : HOk P w H h) : ∀ {v : V} {d : PyData} {u : Value}, Dn H v d → RelV v u → d.showable = true → d.shown.length ≤ sizeLine → ∃ bs, ReadAtMost h d.depth bs ∧ ReprK P w bs h d.depth u d.shown
  | _, _, _, .non, r, _, _ => by
    cases r
    exact ReprK.of_reads (prog := P) (w := w) (Reads.none (h := h)) rfl (fun z => by cases z) (by decide +kernel)
  | _, _, _, .bl b, r, _, z => by
    cases r
    exact ReprK.of_reads (Reads.bool b) rfl (fun z => by cases z) z
  | _, _, _, .int i, r, s, z => by
    obtain ⟨t, rfl⟩ := r
    exact ReprK.of_reads (Reads.int i t) s (fun z => by cases z) z
  | _, _, _, .str x, r, s, z => by
    obtain ⟨t, rfl⟩ := r
    exact ReprK.of_reads (Reads.str x t) s (fun z => by cases z) z
  | _, _, _, .lst (a := a) (ds := ds) e q, r, s, z => by
    obtain ⟨as, hr⟩ := Dn.reads ok (.lst e q) r
    cases r
    obtain ⟨_, its, n, rv, ho⟩ := ok _ _ e
    have z' : (listText (PyData.shownAll ds)).length ≤ sizeLine := by simpa only [PyData.shown] using z
    obtain ⟨bs, hb, hk⟩ := DnAll.repr ok q rv (by simpa [PyData.showable] using s) (fun t m => Nat.le_trans (listText_mem_le m) z')
    have off : a ∉ bs := not_mem_of_deeper hr (by simp only [PyData.depth]; omega) hb
    refine ⟨a :: bs, ReadAtMost.cons hr (by simp only [PyData.depth]; omega) hb, ?_⟩
    simp only [PyData.depth, PyData.shown]
    cases its with
    | nil =>
      cases rv
      cases q
      simp only [PyData.shownAll, listText_nil]
      exact ReprK.listEmpty ho rfl rfl
    | cons x l => exact ReprK.list ho rfl rfl off (by simpa using hk.length_eq) (fun i y e => hk.item i y (by simpa using e))
  | _, _, _, .tup (a := a) (ds := ds) e q, r, s, z => by
    obtain ⟨as, hr⟩ := Dn.reads ok (.tup e q) r
    cases r
    obtain ⟨_, its, rv, o, ho, hc, n, hd⟩ := ok _ _ e
    have z' : (tupleText (PyData.shownAll ds)).length ≤ sizeLine := by simpa only [PyData.shown] using z
    obtain ⟨bs, hb, hk⟩ := DnAll.repr ok q rv (by simpa [PyData.showable] using s) (fun t m => Nat.le_trans (tupleText_mem_le m) z')
    have off : a ∉ bs := not_mem_of_deeper hr (by simp only [PyData.depth]; omega) hb
    refine ⟨a :: bs, ReadAtMost.cons hr (by simp only [PyData.depth]; omega) hb, ?_⟩
    simp only [PyData.depth, PyData.shown]
    exact ReprK.tuple ho hc hd off hk
  | _, _, _, .dic (a := a) (ds := ds) e q q', r, s, z => by
    obtain ⟨as, hr⟩ := Dn.reads ok (.dic e q q') r
    cases r
    obtain ⟨_, sys, vs, kv, o, es, ep, ho, hx, hd, _, hp, _⟩ := ok _ _ e
    have z' : (dictText (PyData.shownKv ds)).length ≤ sizeLine := by simpa only [PyData.shown] using z
    obtain ⟨s1, s2⟩ := PyData.showableKv_split ds (by simpa [PyData.showable] using s)
    obtain ⟨b1, hb1, k1⟩ := DnAll.repr ok q (keys_read kv hp q) s1 (fun t m => let ⟨p, hp, hl⟩ := PyData.shownKv_key_le ds t m; Nat.le_trans hl (Nat.le_trans (dictText_mem_le hp) z'))
    obtain ⟨b2, hb2, k2⟩ := DnAll.repr ok q' (vals_read kv hp) s2 (fun t m => let ⟨p, hp, hl⟩ := PyData.shownKv_val_le ds t m; Nat.le_trans hl (Nat.le_trans (dictText_mem_le hp) z'))
    have hb : ReadAtMost h (PyData.depthKv ds) (b1 ++ b2) := (hb1.mono (PyData.depthAll_keys_le ds)).append (hb2.mono (PyData.depthAll_vals_le ds))
    have off : a ∉ b1 ++ b2 := not_mem_of_deeper hr (by simp only [PyData.depth]; omega) hb
    refine ⟨a :: (b1 ++ b2), ReadAtMost.cons hr (by simp only [PyData.depth]; omega) hb, ?_⟩
    simp only [PyData.depth, PyData.shown, PyData.shownKv_eq]
    exact ReprK.dict ho hx.1 hd sys off (ReprEntriesK.of_two es.toList _ _ (k1.more_le (fun b m => List.mem_append_left _ m) (PyData.depthAll_keys_le ds)) (k2.more_le (fun b m => List.mem_append_right _ m) (PyData.depthAll_vals_le ds)))
theorem DnAll.repr (ok : HOk P w H h) : ∀ {vs : List V} {ds : List PyData} {us : List Value}, DnAll H vs ds → Vals vs us → PyData.showableAll ds = true → (∀ t ∈ PyData.shownAll ds, t.length ≤ sizeLine) →
    ∃ bs, ReadAtMost h (PyData.depthAll ds) bs ∧ ReprAllK P w bs h (PyData.depthAll ds) us (PyData.shownAll ds)
  | _, _, _, .nil, r, _, _ => by
    cases r
    exact ReprAllK.of_readsAll (prog := P) (w := w) (ReadsAll.nil (h := h)) rfl (fun z => by cases z) (fun t m => by simp [PyData.shownAll] at m)
  | _, _, _, .cons (d := d) (ds := ds) q t, .cons r r', s, z => by
    have s' : d.showable = true ∧ PyData.showableAll ds = true := by simpa [PyData.showableAll] using s
    obtain ⟨b1, hb1, k1⟩ := Dn.repr ok q r s'.1 (z _ (by simp only [PyData.shownAll]; exact List.mem_cons_self ..))
    obtain ⟨b2, hb2, k2⟩ := DnAll.repr ok t r' s'.2 (fun t m => z t (by simp only [PyData.shownAll]; exact List.mem_cons_of_mem _ m))
    refine ⟨b1 ++ b2, ?_, ?_⟩
    · simp only [PyData.depthAll]
      exact (hb1.mono (Nat.le_max_left _ _)).append (hb2.mono (Nat.le_max_right _ _))
    · simp only [PyData.depthAll, PyData.shownAll]
      exact .cons ((k1.more fun b m => List.mem_append_left _ m).level_le (Nat.le_max_left _ _)) (k2.more_le (fun b m => List.mem_append_right _ m) (Nat.le_max_right _ _))
end
end
end KA
set_option Elab.async false
set_option linter.unusedVariables false
set_option maxRecDepth 100000
set_option maxHeartbeats 1000000
/-! Rules of one's own: repr of data, a list grown by a tuple, == with what is empty. -/
namespace KA
open PySem PySem.Spec PyProof.Rows L2

section
variable {X : Cx}
/-- repr of data, where nothing is being shown -/
def rRepr : List V → Hp → VK → Prop := fun xs H Q => ∃ v d, xs = [v] ∧ Dn H v d ∧ d.showable = true ∧ d.shown.length ≤ sizeLine ∧ d.depth ≤ 100 ∧ Q (.str d.shown) H
theorem call_repr (hg : X.A.guards = some []) (hu : X.A.units + 200 < cLine) : CallR X (.builtin "repr") rRepr := by
  intro pins s σ H xs us Q I r h
  obtain ⟨v, d, rfl, hd, sh, sz, dp, q⟩ := h
  obtain ⟨u, rfl, ru⟩ := vals1 r
  have fin : ∀ h' tk, (∀ b o, s.heap.get? b = some o → h'.get? b = some o) → ∀ t, EP X pins σ Q (.str d.shown t) { s with heap := h', toks := tk } :=
    fun h' tk k t => ⟨.str d.shown, H, I.kept k, ⟨t, rfl⟩, q⟩
  cases hd with
  | non =>
    cases ru
    exact P.repr_of_none (fin s.heap _ (fun _ _ e => e) _)
  | bl b =>
    cases ru
    refine P.repr_of_bool ?_
    have z := fin s.heap (s.toks + 1) (fun _ _ e => e) s.toks
    rw [PyData.shown_bool] at z
    cases b <;> exact z
  | int i =>
    obtain ⟨t, rfl⟩ := ru
    exact P.repr_of_int (by simpa [PyData.showable] using sh) (fin s.heap _ (fun _ _ e => e) _)
  | str x =>
    obtain ⟨t, rfl⟩ := ru
    exact P.repr_of_str (fin s.heap _ (fun _ _ e => e) _) (by simpa only [PyData.shown] using sz)
  | @lst a xs ds e c =>
    obtain ⟨as, hr⟩ := Dn.reads I.hok (.lst e c) ru
    cases ru
    obtain ⟨_, its, n, rv, ho⟩ := I.hok _ _ e
    have z' : (listText (PyData.shownAll ds)).length ≤ sizeLine := by simpa only [PyData.shown] using sz
    obtain ⟨bs, hb, hk⟩ := DnAll.repr I.hok c rv (by simpa [PyData.showable] using sh) (fun t m => Nat.le_trans (listText_mem_le m) z')
    have off : a ∉ bs := not_mem_of_deeper hr (by simp only [PyData.depth]; omega) hb
    have dep : PyData.depthAll ds + 1 ≤ 100 := by simpa only [PyData.depth] using dp
    refine call_repr_slot (idr := "list.__repr__") (by omega) ⟨_, ho, rfl⟩ F.slot_list_repr.toG ?_
    simp only [PyData.shown] at fin
    cases its with
    | nil =>
      cases rv
      cases c
      simp only [PyData.shownAll, listText_nil] at fin
      exact call_list_repr_empty ⟨_, ho, rfl⟩ ho rfl ⟨_, _, rfl, fin s.heap _ (fun _ _ e => e) _⟩
    | cons y l =>
      exact call_list_reprK ho rfl rfl off (by simpa using hk.length_eq) (fun i y e => hk.item i y (by simpa using e)) (by exact hg) (fun b _ => Clear.nil b) (by show X.A.units + 1 + _ < cLine; omega) (fun _ _ e => e)
        (fun h' u tk k => ⟨_, _, rfl, fin h' tk k u⟩) z'
  | @tup a xs ds e c =>
    obtain ⟨as, hr⟩ := Dn.reads I.hok (.tup e c) ru
    cases ru
    obtain ⟨_, its, rv, o, ho, hc, n, hd⟩ := I.hok _ _ e
    have z' : (tupleText (PyData.shownAll ds)).length ≤ sizeLine := by simpa only [PyData.shown] using sz
    obtain ⟨bs, hb, hk⟩ := DnAll.repr I.hok c rv (by simpa [PyData.showable] using sh) (fun t m => Nat.le_trans (tupleText_mem_le m) z')
    have off : a ∉ bs := not_mem_of_deeper hr (by simp only [PyData.depth]; omega) hb
    have dep : PyData.depthAll ds + 1 ≤ 100 := by simpa only [PyData.depth] using dp
    refine call_repr_slot (idr := "tuple.__repr__") (by omega) ⟨o, ho, hc⟩ F.slot_tuple_repr ?_
    simp only [PyData.shown] at fin
    exact call_tuple_reprK ho hc hd off hk (by exact hg) (fun b _ => Clear.nil b) (by show X.A.units + 1 + _ < cLine; omega) (fun _ _ e => e) (fun h' u tk k => ⟨_, _, rfl, fin h' tk k u⟩) z'
  | @dic a kvs ds e c c' =>
    obtain ⟨as, hr⟩ := Dn.reads I.hok (.dic e c c') ru
    cases ru
    obtain ⟨_, sys, vs, kv, o, es, ep, ho, hx, hd, _, hp, _⟩ := I.hok _ _ e
    have z' : (dictText (PyData.shownKv ds)).length ≤ sizeLine := by simpa only [PyData.shown] using sz
    obtain ⟨s1, s2⟩ := PyData.showableKv_split ds (by simpa [PyData.showable] using sh)
    obtain ⟨b1, hb1, k1⟩ := DnAll.repr I.hok c (keys_read kv hp c) s1 (fun t m => let ⟨p, hp, hl⟩ := PyData.shownKv_key_le ds t m; Nat.le_trans hl (Nat.le_trans (dictText_mem_le hp) z'))
    obtain ⟨b2, hb2, k2⟩ := DnAll.repr I.hok c' (vals_read kv hp) s2 (fun t m => let ⟨p, hp, hl⟩ := PyData.shownKv_val_le ds t m; Nat.le_trans hl (Nat.le_trans (dictText_mem_le hp) z'))
    have hb : ReadAtMost s.heap (PyData.depthKv ds) (b1 ++ b2) := (hb1.mono (PyData.depthAll_keys_le ds)).append (hb2.mono (PyData.depthAll_vals_le ds))
    have off : a ∉ b1 ++ b2 := not_mem_of_deeper hr (by simp only [PyData.depth]; omega) hb
    have dep : PyData.depthKv ds + 1 ≤ 100 := by simpa only [PyData.depth] using dp
    refine call_repr_slot (idr := "dict.__repr__") (by omega) ⟨o, ho, hx.1⟩ F.slot_dict_repr ?_
    simp only [PyData.shown, PyData.shownKv_eq] at fin
    exact call_dict_reprK ho hx.1 hd sys off (ReprEntriesK.of_two es.toList _ _ (k1.more_le (fun b m => List.mem_append_left _ m) (PyData.depthAll_keys_le ds)) (k2.more_le (fun b m => List.mem_append_right _ m) (PyData.depthAll_vals_le ds)))
      (by exact hg) (fun b _ => Clear.nil b) (by show X.A.units + 1 + _ < cLine; omega) (fun _ _ e => e) (fun h' u tk k => ⟨_, _, rfl, fin h' tk k u⟩) (by rw [← PyData.shownKv_eq]; exact z')
theorem grow_meets (l : Addr) (us : Array Value) (n : Nat) (b : Addr) (ws : Array Value) (n2 : Nat) (dd : Option Addr) (sl : Array (Option Value)) (short : ¬(!us.isEmpty && Builtin.List.listTooLong (us.size + ws.size)) = true)
    (z1 : us.size ≤ sizeLine) (z2 : us.size + ws.size ≤ sizeLine + 1) : Meets (Builtin.«list.extend» ⟨[.ref l, .ref b], []⟩) (fun _ R s =>
      s.heap.get? l = some { cls := .type "list", dict := none, data := .seq us n, slots := #[] } ∧ s.heap.get? b = some { cls := .type "tuple", dict := dd, data := .seq ws n2, slots := sl } ∧
        R (.ok (.ret Value.none)) { s with heap := s.heap.update l (Obj.mapSeq fun x => x ++ ws), toks := s.toks }) :=
  .of_wp fun prog w A R s h => by
    obtain ⟨hp, g, d, tk, os⟩ := s
    obtain ⟨hl, hb, h⟩ := h
    have f1 := PySem.AutoSeq1.idx_int
    have f2 := PySem.AutoSeq1.sub_tuple_tuple
    have f3 := PySem.AutoSeq1.sub_list_list
    have f4 := PySem.AutoSeq1.sub_tuple_list
    have f5 := PySem.AutoSeq1.sub_list_tuple
    have z3 : (us ++ ws).size ≤ sizeLine + 1 := by rw [Array.size_append]; exact z2
    wp_walk using (wpAny_updateSeq hl rfl (hz := z1) (_hz' := z3)), PySem.AutoSeq1.wpAny_loadPart' hl, PySem.AutoSeq1.wpAny_loadPart' hb
    exact ⟨_, rfl, h⟩
/-- xs.extend(t), t a tuple that H tracks -/
def rGrow : V → List V → Hp → VK → Prop := fun x vs H Q => ∃ l b xs zs, x = .ref l ∧ vs = [.ref b] ∧ H l = some (.lst xs) ∧ H b = some (.tup zs) ∧ xs.length + zs.length ≤ sizeLine ∧ Q .non (upd H l (.lst (xs ++ zs)))
theorem mt_grow : MtM X "list.extend" rGrow := by
  intro pins s σ H x vs v us Q I rx rv h
  obtain ⟨l, b, xs, zs, rfl, rfl, hl, hb, sz, q⟩ := h
  cases rx
  obtain ⟨u, rfl, ru⟩ := rv.one
  cases ru
  obtain ⟨z, its, n, r, ll, e⟩ := I.lstM hl
  obtain ⟨_, its2, r2, ⟨cls, dd, data, sl⟩, e2, hc, n2, hd⟩ := I.hok _ _ hb
  simp only at hc hd
  subst hc hd
  have l1 := r.length
  have l2 := r2.length
  have many : its.toArray.size + its2.toArray.size ≤ sizeLine := by rw [List.size_toArray, List.size_toArray]; omega
  have long : ¬ (!its.toArray.isEmpty && Builtin.List.listTooLong (its.toArray.size + its2.toArray.size)) = true := by
    rw [notLongL many, Bool.and_false]
    exact Bool.false_ne_true
  refine call_meets F.slot_list_extend ⟨_, e, rfl⟩ F.entry_list_extend (F.args_list_extend_2 _ _) (grow_meets l its.toArray n b its2.toArray n2 dd sl long (by rw [List.size_toArray]; omega) (by omega)) ⟨e, e2, ?_⟩
  exact ⟨.non, _, I.lset (its' := its ++ its2) hl e (by simp) (r.append r2) (by rw [List.length_append]; omega), rfl, q⟩
end
end KA
namespace KA
open PySem PySem.Spec PyProof.Rows L2
section
variable {X : Cx}
/-- t == (), xs == []: only whether it is empty counts -/
def rEqE : R2 := fun x y H Q => ∃ a b xs, x = .ref a ∧ y = .ref b ∧ ((H a = some (.tup xs) ∧ H b = some (.tup [])) ∨ (H a = some (.lst xs) ∧ H b = some (.lst []))) ∧ Q (.bl xs.isEmpty) H
theorem op_eqE (hu : X.A.units + 1 < cLine) : OpR X (compareOp .Eq) rEqE := by
  intro pins s σ H x y v u Q I rx ry h
  obtain ⟨a, b, xs, rfl, rfl, h, q⟩ := h
  cases rx
  cases ry
  have fin : EP X pins σ Q (.bool xs.isEmpty) s := ⟨.bl xs.isEmpty, H, I, rfl, q⟩
  rcases h with ⟨ha, hb⟩ | ⟨ha, hb⟩
  · obtain ⟨_, its, r, o, ho, hc, hd⟩ := I.hok _ _ ha
    obtain ⟨_, its2, r2, o2, ho2, hc2, hd2⟩ := I.hok _ _ hb
    cases r2
    refine SeqAt.eq_tupleAt (e := fun _ => true) ⟨o, ho, hc, hd⟩ ⟨o2, ho2, hc2, hd2⟩ (by omega) (fun j h1 h2 => absurd h2 (by simp)) ?_
    cases r <;> simpa using fin
  · obtain ⟨_, its, n, r, ho⟩ := I.hok _ _ ha
    obtain ⟨_, its2, n2, r2, ho2⟩ := I.hok _ _ hb
    cases r2
    cases r with
    | nil => exact SeqAt.eq_listAt (e := fun _ => true) ⟨_, ho, rfl, _, rfl⟩ ⟨_, ho2, rfl, _, rfl⟩ rfl (by omega) (fun j h1 h2 => absurd h2 (by simp)) (by simpa using fin)
    | cons r t => exact SeqAt.eq_list_lengthsAt ⟨_, ho, rfl, _, rfl⟩ ⟨_, ho2, rfl, _, rfl⟩ (by simp) (by omega) (by simpa using fin)
def rNeE : R2 := fun x y H Q => ∃ a b xs, x = .ref a ∧ y = .ref b ∧ H a = some (.tup xs) ∧ H b = some (.tup []) ∧ Q (.bl (!xs.isEmpty)) H
theorem op_neE (hu : X.A.units + 1 < cLine) : OpR X (compareOp .NotEq) rNeE := by
  intro pins s σ H x y v u Q I rx ry h
  obtain ⟨a, b, xs, rfl, rfl, ha, hb, q⟩ := h
  cases rx
  cases ry
  have fin : EP X pins σ Q (.bool (!xs.isEmpty)) s := ⟨.bl (!xs.isEmpty), H, I, rfl, q⟩
  obtain ⟨_, its, r, o, ho, hc, hd⟩ := I.hok _ _ ha
  obtain ⟨_, its2, r2, o2, ho2, hc2, hd2⟩ := I.hok _ _ hb
  cases r2
  refine SeqAt.RcNeAt.tuples (e := fun _ => true) ⟨o, ho, hc, hd⟩ ⟨o2, ho2, hc2, hd2⟩ (by omega) (fun j h1 h2 => absurd h2 (by simp)) _ _ _ _ ?_
  cases r <;> simpa using fin
end
end KA
set_option Elab.async false
set_option linter.unusedVariables false
set_option maxRecDepth 100000
set_option maxHeartbeats 1000000
/-! Data looked at: kinds, terms, names; heaps without one object; isinstance of data. -/
namespace KA
open PySem PySem.Spec PyProof.Rows L2

/-! ### a heap without one object -/
def hid (p : Addr) (H : Hp) : Hp := fun b => if b = p then none else H b
theorem hid_ne {p b : Addr} {H : Hp} (h : b ≠ p) : hid p H b = H b := if_neg h
theorem hid_at {p : Addr} {H : Hp} : hid p H p = none := if_pos rfl
theorem hid_some {p b : Addr} {H : Hp} {o : HO} (h : hid p H b = some o) : b ≠ p ∧ H b = some o := by
  by_cases e : b = p
  · subst e
    rw [hid_at] at h
    cases h
  · rw [hid_ne e] at h
    exact ⟨e, h⟩
theorem hid_sub {p : Addr} {H : Hp} : Same (hid p H) H := fun b o h => (hid_some h).2
theorem hid_upd {p : Addr} {H : Hp} {o : HO} : hid p (upd H p o) = hid p H := by
  funext b
  by_cases e : b = p
  · subst e
    rw [hid_at, hid_at]
  · rw [hid_ne e, hid_ne e, upd_ne e]
theorem Same.less {p : Addr} {H H' : Hp} (h : Same H H') : Same (hid p H) (hid p H') := fun b o e => by
  obtain ⟨n, e'⟩ := hid_some e
  rw [hid_ne n]
  exact h b o e'
theorem Same.new {H : Hp} {q : Addr} {o : HO} (h : H q = none) : Same H (upd H q o) := fun b u e => by
  rw [upd_ne (ne_of_none e h)]
  exact e
/-- what is new stands in the rest, too -/
theorem Same.hidNew {p q : Addr} {H H' : Hp} {o : HO} (h : Same H (hid p H')) (n : H' q = none) : Same H (hid p (upd H' q o)) := fun b u e => by
  have e' := h b u e
  obtain ⟨n1, e2⟩ := hid_some e'
  rw [hid_ne n1, upd_ne (ne_of_none e2 n)]
  exact e2
theorem Same.at {H H' : Hp} (h : Same H H') {b : Addr} {o : HO} (e : H b = some o) : H' b = some o := h b o e
/-- a heap to which only new things came, and p, which H does not know, changed -/
theorem Same.to_hid {p : Addr} {H H' : Hp} (h : Same H H') (n : H p = none) : Same H (hid p H') := fun b o e => by
  rw [hid_ne (ne_of_none e n)]
  exact h b o e
theorem Same.mut {p : Addr} {H H' : Hp} {o : HO} (h : Same H H') (n : H p = none) : Same H (upd H' p o) := fun b u e => by
  rw [upd_ne (ne_of_none e n)]
  exact h b u e

/-! ### kinds of data -/
def isTupD : PyData → Bool | .tuple _ => true | _ => false
def isLstD : PyData → Bool | .list _ => true | _ => false
def isStrD : PyData → Bool | .str _ => true | _ => false
def isIntD : PyData → Bool | .int _ => true | .bool _ => true | _ => false
def isBoolD : PyData → Bool | .bool _ => true | _ => false
def tyD : PyData → String
  | .none => "NoneType" | .bool _ => "bool" | .int _ => "int" | .str _ => "str" | .list _ => "list" | .tuple _ => "tuple" | .dict _ => "dict"
theorem Dn.ty {K : PySem.W.Frag} {H : Hp} {v : V} {d : PyData} (h : Dn H v d) : TyX K H v (.type (tyD d)) := by
  cases h with
  | non => exact .base .non
  | bl b => exact .base (.bl b)
  | int i => exact .base (.int i)
  | str x => exact .base (.str x)
  | lst e _ => exact .base (.lst e)
  | tup e _ => exact .base (.tup e)
  | dic e _ _ => exact .base (.dK e)
theorem is_tup (d : PyData) : kitB (tyD d) "tuple" = some (isTupD d) := by
  have t : kitB "NoneType" "tuple" = some false ∧ kitB "bool" "tuple" = some false ∧ kitB "int" "tuple" = some false ∧ kitB "str" "tuple" = some false ∧ kitB "list" "tuple" = some false ∧ kitB "tuple" "tuple" = some true ∧ kitB "dict" "tuple" = some false := by decide +kernel
  obtain ⟨a, b, c, e, g, h, i⟩ := t
  cases d <;> first | exact a | exact b | exact c | exact e | exact g | exact h | exact i
theorem is_lst (d : PyData) : kitB (tyD d) "list" = some (isLstD d) := by
  have t : kitB "NoneType" "list" = some false ∧ kitB "bool" "list" = some false ∧ kitB "int" "list" = some false ∧ kitB "str" "list" = some false ∧ kitB "list" "list" = some true ∧ kitB "tuple" "list" = some false ∧ kitB "dict" "list" = some false := by decide +kernel
  obtain ⟨a, b, c, e, g, h, i⟩ := t
  cases d <;> first | exact a | exact b | exact c | exact e | exact g | exact h | exact i
theorem is_str (d : PyData) : kitB (tyD d) "str" = some (isStrD d) := by
  have t : kitB "NoneType" "str" = some false ∧ kitB "bool" "str" = some false ∧ kitB "int" "str" = some false ∧ kitB "str" "str" = some true ∧ kitB "list" "str" = some false ∧ kitB "tuple" "str" = some false ∧ kitB "dict" "str" = some false := by decide +kernel
  obtain ⟨a, b, c, e, g, h, i⟩ := t
  cases d <;> first | exact a | exact b | exact c | exact e | exact g | exact h | exact i
theorem is_int (d : PyData) : kitB (tyD d) "int" = some (isIntD d) := by
  have t : kitB "NoneType" "int" = some false ∧ kitB "bool" "int" = some true ∧ kitB "int" "int" = some true ∧ kitB "str" "int" = some false ∧ kitB "list" "int" = some false ∧ kitB "tuple" "int" = some false ∧ kitB "dict" "int" = some false := by decide +kernel
  obtain ⟨a, b, c, e, g, h, i⟩ := t
  cases d <;> first | exact a | exact b | exact c | exact e | exact g | exact h | exact i
theorem is_bool (d : PyData) : kitB (tyD d) "bool" = some (isBoolD d) := by
  have t : kitB "NoneType" "bool" = some false ∧ kitB "bool" "bool" = some true ∧ kitB "int" "bool" = some false ∧ kitB "str" "bool" = some false ∧ kitB "list" "bool" = some false ∧ kitB "tuple" "bool" = some false ∧ kitB "dict" "bool" = some false := by decide +kernel
  obtain ⟨a, b, c, e, g, h, i⟩ := t
  cases d <;> first | exact a | exact b | exact c | exact e | exact g | exact h | exact i
/-- isinstance(e, T) of data -/
def rIsD (T : String) (f : PyData → Bool) : List V → Hp → VK → Prop := fun xs H Q => ∃ x d, xs = [x, .ty T] ∧ Dn H x d ∧ Q (.bl (f d)) H
section
variable {X : Cx} {e : Expr} {te : TE} {p q pos : Pos}
theorem call_isD {T : String} {f : PyData → Bool} (hf : ∀ d, kitB (tyD d) T = some (f d)) : CallR X (.builtin "isinstance") (rIsD T f) := by
  intro pins s σ H xs us Q I r h
  obtain ⟨x, d, rfl, hd, k⟩ := h
  exact call_isi pins s σ H _ us Q I r ⟨x, .ty T, _, _, _, rfl, .ty T, hd.ty, kit_ty (hf d), k⟩
theorem pe_isD {n : Str} {T : String} {f : PyData → Bool} (hf : ∀ d, kitB (tyD d) T = some (f d)) (he : PE X e te) (hm : X.mg "isinstance" = none) (hn : X.mg n = none) (hv : bootBuiltins n = some (.type T)) (hg : Gl X "isinstance" := by rfl) (hg2 : Gl X n := by rfl)
    (hne : n ≠ "__name__" := by decide) (hnd : (n == ("__debug__" : Str)) = false := by decide)
    (a1 : starEach [e, .Name n q] X.env = (false, eval e X.env) :: starEach [.Name n q] X.env := by rfl) (a2 : (backTo pos (starEach [.Name n q] X.env)).any (·.1) = false := by rfl) (a3 : starEach [.Name n q] X.env = (false, eval (.Name n q) X.env) :: starEach [] X.env := by rfl) :
    PE X (.Call (.Name "isinstance" p) [e, .Name n q] [] pos) (tCB (rIsD T f) (tCons te (tCons (tC (.ty T)) tNil))) :=
  pe_callB (X := X) (p := p) (pos := pos) (call_isD hf) hg hm (by decide +kernel) (pa_cons he (pa_cons (pe_bltn (v := .ty T) hg2 hn hv rfl hne hnd) pa_nil a3) a1) (by decide) (by decide) a1 a2
end
/-! ### a comprehension over a text -/
theorem lc_str {x : Str} {g : TG} {tt : TT} {te : TE} {vs : List Nat} {σ : L2.St} {H1 : Hp} {D : Addr} {Qd : Hp → Prop} (Pv : Nat → Hp → Prop) (h0 : Pv 0 (upd H1 D (.lst [])))
    (hs : ∀ (i c : Nat) (H : Hp), x.cps[i]? = some c → Pv i H → g (.str ⟨#[c]⟩) (wipe σ vs) H fun σ2 H2 => wipe σ2 vs = wipe σ vs ∧ tt σ2 H2 fun b H3 =>
      if b = true then te σ2 H3 fun y H4 => ∃ acc, H4 D = some (.lst acc) ∧ acc.length < sizeLine ∧ Pv (i + 1) (upd H4 D (.lst (acc ++ [y]))) else Pv (i + 1) H3) (hd : ∀ H, Pv x.cps.size H → Qd H) :
    ∃ W : Nat → Nat → Hp → Prop, (∃ m, W 0 m (upd H1 D (.lst []))) ∧ ∀ i m H, W i m H →
      ((Its x).stop i H ∧ Qd H) ∨ ((Its x).go i H ∧ ∃ Nx : Hp → Prop, (∀ H', Nx H' → ∃ m', m' < m ∧ W (i + 1) m' H') ∧ ∀ v H', (Its x).yld i H v H' → g v (wipe σ vs) H' fun σ2 H2 => wipe σ2 vs = wipe σ vs ∧ tt σ2 H2 fun b H3 =>
        if b = true then te σ2 H3 fun y H4 => ∃ acc, H4 D = some (.lst acc) ∧ acc.length < sizeLine ∧ Nx (upd H4 D (.lst (acc ++ [y]))) else Nx H3) := by
  refine ⟨fun i m H => m = x.cps.size - i ∧ i ≤ x.cps.size ∧ Pv i H, ⟨_, rfl, Nat.zero_le _, h0⟩, ?_⟩
  rintro i m H ⟨rfl, hi, p⟩
  by_cases lt : i < x.cps.size
  · refine Or.inr ⟨lt, Pv (i + 1), fun H' p' => ⟨x.cps.size - (i + 1), by omega, rfl, lt, p'⟩, ?_⟩
    rintro v H' ⟨rfl, c, hc, rfl⟩
    exact hs i c _ hc p
  · obtain rfl : i = x.cps.size := by omega
    exact Or.inl ⟨Nat.le_refl _, hd H p⟩
theorem yes {σ : L2.St} {H : Hp} {Q : Bool → Hp → Prop} (h : Q true H) : tYes σ H Q := h
theorem take_snoc {α : Type} {xs : List α} {i : Nat} {x : α} (h : xs[i]? = some x) : xs.take (i + 1) = xs.take i ++ [x] := by
  rw [List.take_add_one, h]
  rfl
end KA
set_option Elab.async false
set_option linter.unusedVariables false
set_option maxRecDepth 100000
set_option maxHeartbeats 1000000
/-! Rules of one's own: == and != of data; P.__init__(self, ..), P a class of one's own over ValueError that has none. -/
namespace KA
open PySem PySem.Spec PyProof.Rows L2
section
variable {X : Cx}
def rEqD : R2 := fun x y H Q => ∃ d e, Dn H x d ∧ Dn H y e ∧ SeqAt.shaped d = true ∧ SeqAt.shaped e = true ∧ Q (.bl (PyData.eqv d e)) H
theorem op_eqD (hu : X.A.units + 64 < cLine) : OpR X (compareOp .Eq) rEqD := by
  intro pins s σ H x y v u Q I rx ry h
  obtain ⟨d, e, hd, he, sd, se, q⟩ := h
  obtain ⟨as, ra⟩ := Dn.reads I.hok hd rx
  obtain ⟨bs, rb⟩ := Dn.reads I.hok he ry
  exact eq_dataH ra rb sd se hu ⟨.bl (PyData.eqv d e), H, I, rfl, q⟩
def rNeD : R2 := fun x y H Q => ∃ d e, Dn H x d ∧ Dn H y e ∧ SeqAt.shaped d = true ∧ SeqAt.shaped e = true ∧ Q (.bl (!PyData.eqv d e)) H
theorem op_neD (hu : X.A.units + 64 < cLine) : OpR X (compareOp .NotEq) rNeD := by
  intro pins s σ H x y v u Q I rx ry h
  obtain ⟨d, e, hd, he, sd, se, q⟩ := h
  obtain ⟨as, ra⟩ := Dn.reads I.hok hd rx
  obtain ⟨bs, rb⟩ := Dn.reads I.hok he ry
  exact ne_dataH ra rb sd se hu ⟨.bl (!PyData.eqv d e), H, I, rfl, q⟩
/-- what the written part says of a class of one's own that has its __init__ from ValueError -/
structure UpC (K : PySem.W.Frag) (C : Addr) : Prop where
  kp : PySem.W.keepIn K (.ref C) = true
  sp : PySem.W.specialIn K (.ref C) "__getattribute__" = some (some (.builtin "type.__getattribute__"))
  rd : ∃ mc, PySem.W.readsIn K C mc = true ∧ PySem.W.findCls K (.ref C) mc "__init__" = some (.val (.builtin "ValueError.__init__"))
theorem pe_upinit {x : Str} {U : Addr} {e : Expr} {es : List Expr} {ta : TA} {p1 p2 pos : Pos} {pl : Sem Bool} (T : UpC X.K U) (hg : Gl X x) (hm : X.mg x = some (.ref U)) (ha : PA X (e :: es) ta) (hdb : (x == ("__debug__" : Str)) = false := by decide)
    (hc : eval (.Call (.Attribute (.Name x p1) "__init__" p2) (e :: es) [] pos) X.env = (do
      let ov ← eval (.Name x p1) X.env
      standAt p2.atName
      let (f, first) ← holding [ov] (getMethod ov "__init__" pl)
      callWith pos f first (backTo pos (starEach (e :: es) X.env)) (backToKw pos (keywordEach [] X.env))) := by rfl)
    (he : starEach (e :: es) X.env = (false, eval e X.env) :: starEach es X.env := by rfl) (hpl : (backTo pos (starEach es X.env)).any (·.1) = false := by rfl) :
    PE X (.Call (.Attribute (.Name x p1) "__init__" p2) (e :: es) [] pos) (tVeI X.K ta) := by
  refine ⟨fun pins s σ H Q I h => ?_⟩
  obtain ⟨mc, rd, fc⟩ := T.rd
  refine PySem.W.methodCall_KW (ld_glob I hg hm ?_ hdb) hc
  refine PySem.W.method_cls I.kIn T.sp ?_
  refine PySem.W.cls_value I.kIn rd fc (by decide +kernel) ?_
  show wpAny _ _ (callWith pos (Value.builtin "ValueError.__init__") [] (backTo pos (starEach (e :: es) X.env)) []) _ _ _
  refine PyProof.Rows.callWith_method1 (thn (ha.run pos pins _ σ H _ (I.tok _) h) fun us s1 ⟨vs, H1, I1, r1, a, C, ws, ev, hl, T', ea, q⟩ => ?_) he hpl
  subst ev
  cases r1 with
  | @cons _ u0 _ ur ra rw' =>
    obtain rfl : u0 = Value.ref a := ra
    have hlen : ur.length ≤ sizeLine := by
      rw [← Paired.length rw', sizeLine_eq]
      omega
    exact oinit_ok T' I1 ea hlen fun s' J => ⟨.non, H1, J, rfl, q⟩
end
end KA
set_option Elab.async false
set_option linter.unusedVariables false
set_option maxRecDepth 100000
set_option maxHeartbeats 1000000
/-! A try with several handlers of which the first one, with a name, takes whatever comes. -/
namespace KA
open PySem PySem.Spec PyProof.Rows L2
/-- the wish of the body: what comes is of the first handler's class -/
def wFirst (K : PySem.W.Frag) (c : Value) (i : Nat) (ts : Addr → Value → Option Addr → TS) (D : Ends) : WX := fun cls d σ H =>
  PySem.W.exmOne K cls c = some true ∧ ∀ a, H a = none → ts a cls d { nx := fun ρ G => D.nx (ρ.set i none) G, rt := D.rt, bk := fun ρ G => D.bk (ρ.set i none) G, ct := fun ρ G => D.ct (ρ.set i none) G } (σ.set i (some (.ref a))) H
section
variable {X : Cx} {x n : Str} {c : Value} {i : Nat} {body su : List Stmt} {b1 : Stmt} {np pos p3 : Pos} {more : List ExceptHandler} {tb : WX → TS} {ts : Addr → Value → Option Addr → TS}
theorem ps_try_first (stk : X.stack = X.env :: X.outer) (frm : X.env.frame = some X.env.locals) (nd : X.N.Nodup) (at_ : X.N[i]? = some n) (loc : X.env.kindOf n = some .local) (nm : Names X x c)
    (hb : ∀ (W : WX) (pn : List (Addr × Obj)) (xe : Value → Shared → Prop), Takes (X.tr pn xe) W → PassesOwn (model X.prog X.w) X.A X.env xe → PSs (X.tr pn xe) body (tb W))
    (hs : ∀ (a : Addr) (oe : Obj) (cls : Value) (d : Option Addr) (pn : List (Addr × Obj)), Zc cls d oe → (∃ vs, oe.data = .fields vs) → PSs (X.suite a ((a, oe) :: pn)) (b1 :: su) (ts a cls d)) :
    PS X (.Try body (.ExceptHandler (some (.Name x np)) (some n) (b1 :: su) p3 :: more) [] [] pos) (fun D σ H => tb (wFirst X.K c i ts D) D σ H) := by
  refine ⟨fun pins s0 σ0 H0 D I0 want => ?_⟩
  have okX := I0.ok
  have frames : X.A.frames = some (X.env :: X.outer) := by rw [okX.frames, stk]
  have here : Loc X.env.scope n := .inl loc
  refine wpAny_Try_except ?_
  refine wpAny_mono ((hb (wFirst X.K c i ts D) (X.pn ++ pins) (fun u t1 => wpAny (model X.prog X.w) X.A (noteFrame u X.env) (fun _ t2 => wpAny (model X.prog X.w) X.A (setFlight u none) (fun _ t3 =>
    wpAny (model X.prog X.w) X.A (handleBy u X.env (.ExceptHandler (some (.Name x np)) (some n) (b1 :: su) p3 :: more)) (SP X pins D) X.xe t3) X.xe t2) X.xe t1) (fun u t0 inAir => ?_) PassesOwn.looking).run [] s0 σ0 H0 D (I0.toTry _) want) (fun fl t1 ends => ?_) (fun u t1 z => z)
  · obtain ⟨a, B, sB, pinsB, σ1, H1, cls, d, rfl, JB, newB, up0, air, freeA, osE, bareG, isC, suite⟩ := inAir
    have J0 : Inv X pins σ1 H1 sB := JB.ofTry okX
    have air' : Sky B (X.env :: X.outer) a (Zc cls d) X.env.locals t0.heap := by rw [← stk]; exact air
    show wpAny (model X.prog X.w) X.A (noteFrame (.ref a) X.env) _ _ _
    refine Sky.land Zc.steady frames frm air' fun hA flA upA => ?_
    have JA : Inv X pins σ1 H1 { t0 with heap := hA } := J0.landed newB flA.1 (up0.trans upA) osE bareG
    obtain ⟨oA, vA, getA, zcA, datA⟩ := flA.there
    have offF : a ∉ frs (X.env :: X.outer) := fun mem => by
      obtain ⟨_, o1, get1, notF⟩ := flA.2.2.1.mem mem
      rw [getA] at get1
      cases get1
      exact notF _ datA
    have offL : a ≠ X.env.locals := fun z => offF (List.mem_filterMap.mpr ⟨X.env, List.mem_cons_self, by rw [frm, z]⟩)
    have offS : a ∉ X.fs := fun mem => by
      obtain ⟨en, hen, q⟩ := List.mem_filterMap.mp mem
      exact offF (List.mem_filterMap.mpr ⟨en, List.mem_cons_of_mem _ hen, q⟩)
    have SA := JA.suite getA datA freeA offL offS
    refine wpAny_handleBy_cons (codeAny_handlers_test ?_) (by intro q; cases q)
    have lookT : PySem.W.Looks (model X.prog X.w) hA (typeOf (.ref a)) cls := fun _ _ _ t keep q => wpAny_typeOf_ref (keep _ _ getA) (by rw [zcA.1]; exact q)
    have lookM := PySem.W.exm_one (M := model X.prog X.w) JA.kIn lookT isC
    have name : ∀ {Q E : Value → Shared → Prop}, Q c { t0 with heap := hA } → wpAny (model X.prog X.w) (X.A.mark (some (.ref a))) (eval (.Name x np) X.env) Q E { t0 with heap := hA } := fun {Q E} q => by
      obtain ⟨gl, dbg, own | ⟨none_, blt, nn⟩⟩ := nm
      · exact ld_glob (X := X.suite a ((a, oA) :: (X.pn ++ pins))) SA gl own q dbg
      · exact ld_blt (X := X.suite a ((a, oA) :: (X.pn ++ pins))) SA gl none_ blt q nn dbg
    refine name (lookM.here ?_)
    refine codeAny_handlers_suite_as ?_
    refine HandSPX.lands_againZ flA fun hC flC upC => ?_
    have JC : Inv X pins σ1 H1 { t0 with heap := hC } := J0.landed newB flC.1 ((up0.trans upA).trans upC) osE bareG
    obtain ⟨oC, vC, getC, zcC, datC⟩ := flC.there
    have SC := JC.suite getC datC freeA offL offS
    refine store_ok (X := X.suite a ((a, oC) :: (X.pn ++ pins))) (v := .ref a) SC nd at_ here rfl (fun t5 S5 => ?_) (.inr loc)
    refine wpAny_mono ((hs a oC cls d (X.pn ++ pins) zcC ⟨_, datC⟩).run [] t5 _ H1 _ S5 (suite a freeA)) (fun fl t6 ends => ?_) (fun _ _ z => False.elim z)
    have gone : ∀ {ρ : L2.St} {G : Hp} {Q : Shared → Prop}, Inv (X.suite a ((a, oC) :: (X.pn ++ pins))) [] ρ G t6 → (∀ t7, Inv X pins (ρ.set i none) G t7 → Q t7) →
        wpAny (model X.prog X.w) X.A (do bindName X.env n .none; unbindBehindTheSuite X.env n p3) (fun _ t7 => Q t7) X.xe t6 := fun {ρ G Q} S6 q => gone_ok (S6.unsuite okX) nd at_ loc q
    cases fl with
    | next =>
      obtain ⟨ρ, G, S6, q⟩ := ends
      exact gone S6 fun t7 J7 => ⟨_, _, J7, q⟩
    | brk =>
      obtain ⟨ρ, G, S6, q⟩ := ends
      exact gone S6 fun t7 J7 => ⟨_, _, J7, q⟩
    | cont =>
      obtain ⟨ρ, G, S6, q⟩ := ends
      exact gone S6 fun t7 J7 => ⟨_, _, J7, q⟩
    | ret u =>
      obtain ⟨v, ρ, G, S6, rv, q⟩ := ends
      exact gone S6 fun t7 J7 => ⟨_, _, _, J7, rv, q⟩
  · cases fl with
    | next =>
      obtain ⟨ρ, G, J, q⟩ := ends
      exact wpAny_execs_nil ⟨ρ, G, J.ofTry okX, q⟩
    | brk =>
      obtain ⟨ρ, G, J, q⟩ := ends
      exact ⟨ρ, G, J.ofTry okX, q⟩
    | cont =>
      obtain ⟨ρ, G, J, q⟩ := ends
      exact ⟨ρ, G, J.ofTry okX, q⟩
    | ret u =>
      obtain ⟨v, ρ, G, J, rv, q⟩ := ends
      exact ⟨v, ρ, G, J.ofTry okX, rv, q⟩
end
end KA
set_option Elab.async false
set_option linter.unusedVariables false
set_option maxRecDepth 100000
set_option maxHeartbeats 1000000
/-! The program's defs. -/
namespace KP
open PySem PySem.Spec PyProof.Rows L2 KA

/-! ### what it reckons, on data -/
def cntB (lo : Int) : PyData → Bool | .int i => decide (lo ≤ i) | _ => false
def wholeB (lo hi : Int) : PyData → Bool | .int i => decide (lo ≤ i) && decide (i ≤ hi) | _ => false
def letterB (c : Nat) : Bool := decide (97 ≤ c) && decide (c ≤ 122)
def letters : Str := "abcdefghijklmnopqrstuvwxyz"
def noNames : List Str := ["all", "fun", "same", "self", "put"]
def nameX (x : Str) : Bool := !(noNames.any fun y => y == x) && (decide (1 ≤ x.length) && decide (x.length ≤ 8) && x.cps.toList.all letterB)
def nameB : PyData → Bool | .str x => nameX x | _ => false
def parts (z : Str) : Option Nat :=
  if z = "all" then some 2 else if z = "fun" then some 2 else if z = "app" then some 2 else if z = "same" then some 3 else if z = "self" then some 2 else if z = "put" then some 3 else none
def leafB (w : Str) : List PyData → Bool
  | [x] => if w = "at" then cntB 0 x else if w = "kind" then wholeB 0 5 x else (decide (w = "name") || decide (w = "thing")) && nameB x
  | [x, y] => nameB x && (if w = "maker" then cntB 0 y else decide (w = "eater") && wholeB 0 5 y)
  | _ => false
mutual
def tm : PyData → Bool
  | .tuple (.str w :: ds) => (match parts w with
    | some n => decide (ds.length = n) && tmAll ds
    | none => leafB w ds)
  | _ => false
def tmAll : List PyData → Bool
  | [] => true
  | d :: ds => tm d && tmAll ds
end
mutual
/-- how many data there are in it -/
def nodes : PyData → Nat
  | .tuple ds => nodesAll ds + 1
  | _ => 1
def nodesAll : List PyData → Nat
  | [] => 0
  | d :: ds => nodes d + nodesAll ds
end

mutual
/-- its leaves are small -/
def fine : PyData → Bool
  | .int i => decide (-(10 ^ 31) ≤ i) && decide (i ≤ 10 ^ 31)
  | .str x => decide (x.length ≤ 20) && x.cps.toList.all fun c => decide (c < 128)
  | .list ds => fineAll ds
  | .tuple ds => fineAll ds
  | .dict kvs => fineKv kvs
  | _ => true
def fineAll : List PyData → Bool
  | [] => true
  | d :: ds => fine d && fineAll ds
def fineKv : List (PyData × PyData) → Bool
  | [] => true
  | (k, v) :: r => fine k && fine v && fineKv r
end
theorem letters_list : letters.cps.toList = [97, 98, 99, 100, 101, 102, 103, 104, 105, 106, 107, 108, 109, 110, 111, 112, 113, 114, 115, 116, 117, 118, 119, 120, 121, 122] := by decide +kernel
theorem in_letters (c : Nat) : decide (c ∈ letters.cps.toList) = letterB c := by
  rw [letters_list]
  unfold letterB
  rw [← Bool.decide_and]
  apply decide_eq_decide.mpr
  simp only [List.mem_cons, List.not_mem_nil, or_false]
  omega

/-! ### the text by places -/
def top (i : Nat) : Stmt := PySem.Challenge.pw_kernelpapers_k05_heads_given_several.main.body.getD i (.Pass ⟨0, 0, 0, 0⟩)
abbrev sWhole : Stmt := top 14
abbrev sCount : Stmt := top 15
abbrev sName : Stmt := top 16
abbrev sTerm : Stmt := top 17
abbrev sLeaf : Stmt := top 18

/-- what the top has left, but for the defs -/
structure Txt (K : PySem.W.Frag) (w : World) (mg : Str → Option Value) : Prop where
  isi : mg "isinstance" = none
  int : mg "int" = none
  bool : mg "bool" = none
  str : mg "str" = none
  tuple : mg "tuple" = none
  list : mg "list" = none
  dict : mg "dict" = none
  len : mg "len" = none
  all : mg "all" = none
  max : mg "max" = none
  min : mg "min" = none
  range : mg "range" = none
  zip : mg "zip" = none
  repr : mg "repr" = none
  letters : ∃ u, mg "LETTERS" = some u ∧ RelV (.str KP.letters) u
  most : ∃ u, mg "MOST_LETTERS" = some u ∧ RelV (.int 8) u
  highest : ∃ u, mg "HIGHEST" = some u ∧ RelV (.int 5) u
  no : ∃ a o its n, mg "NO_NAMES" = some (.ref a) ∧ K.lookup a = some o ∧ o.cls = .type "tuple" ∧ o.data = .seq its n ∧ its.size ≤ sizeLine ∧ Vals (noNames.map V.str) its.toList
  parted : ∃ a es n, mg "PARTED" = some (.ref a) ∧ KDict K w a es n ∧ ∀ z, ∃ r, PySem.W.nsIn K a z = some r ∧ RelO ((parts z).map fun n => V.int (n : Int)) r

/-! ### promises -/
def spCount : Sp := fun vs H Q _ => ∃ v d lo, vs = [v, .int lo] ∧ Dn H v d ∧ ∀ H', Same H H' → Q (.bl (cntB lo d)) H'
def spWhole : Sp := fun vs H Q _ => ∃ v d lo hi, vs = [v, .int lo, .int hi] ∧ Dn H v d ∧ ∀ H', Same H H' → Q (.bl (wholeB lo hi d)) H'
def sp1 (ok : PyData → Prop) (f : PyData → Bool) : Sp := fun vs H Q _ => ∃ v d, vs = [v] ∧ Dn H v d ∧ ok d ∧ ∀ H', Same H H' → Q (.bl (f d)) H'

section
variable {P : Program} {w : World} {K : PySem.W.Frag} {mg : Str → Option Value} {base : Heap}
theorem scCount : FnScope ["thing", "low"] ["thing", "low"] (defScope sCount) := ⟨rfl, rfl, rfl, by decide +kernel, rfl, by decide +kernel, by decide +kernel⟩
theorem ok_count {f : Addr} {fd : FuncData} {dvs : List V} {kws : List (Str × V)} (F : FunD K "is_count" "is_count" (defArgs sCount) (defBody sCount) (defScope sCount) dvs kws f fd) (T : Txt K w mg) : FnOk P w K mg base CX0 1 f fd ["thing", "low"] spCount := by
  refine F.ok scCount (fun vs H Q E h => ?_) (fun cdv A outer s H vs Q E hr h => ?_)
  · obtain ⟨v, d, lo, rfl, _⟩ := h
    rfl
  · obtain ⟨v, d, lo, rfl, hd, k⟩ := h
    refine ⟨_, pss_one (ps_ret (pe_and (pe_isD is_int (pv 0) T.isi T.int (by decide +kernel)) (pe_and (pe_not (pe_isD is_bool (pv 0) T.isi T.bool (by decide +kernel))) (pe_one (pe_cmpR op_ge (pv 0) (pv 1) (nomark _)))))), ?_⟩
    have k0 := k H (Same.refl H)
    refine ⟨v, rfl, v, d, rfl, hd, _, rfl, ?_⟩
    cases hd with
    | int i => exact iteT ⟨_, rfl, .int i, _, rfl, .int i, _, rfl, _, rfl, iteT ⟨_, rfl, _, rfl, i, lo, rfl, rfl, k0⟩⟩
    | bl b => exact iteT ⟨_, rfl, .bl b, _, rfl, .bl b, _, rfl, _, rfl, iteF k0⟩
    | non => exact iteF k0
    | str x => exact iteF k0
    | lst _ _ => exact iteF k0
    | tup _ _ => exact iteF k0
    | dic _ _ _ => exact iteF k0
theorem scWhole : FnScope ["thing", "low", "high"] ["thing", "low", "high"] (defScope sWhole) := ⟨rfl, rfl, rfl, by decide +kernel, rfl, by decide +kernel, by decide +kernel⟩
theorem ok_whole {f : Addr} {fd : FuncData} (F : Fun K "is_whole" "is_whole" sWhole f fd) (T : Txt K w mg) (C : C8.Cal P w K mg base 1 "is_count" spCount []) : FnOk P w K mg base CX0 2 f fd ["thing", "low", "high"] spWhole := by
  refine F.ok scWhole (fun vs H Q E h => ?_) (fun cdv A outer s H vs Q E hr h => ?_)
  · obtain ⟨v, d, lo, hi, rfl, _⟩ := h
    rfl
  · obtain ⟨v, d, lo, hi, rfl, hd, k⟩ := h
    refine ⟨_, pss_one (ps_ret (pe_and (C8.pe_c C hr (by decide) rfl (pa_cons (pv 0) (pa_cons (pv 1) pa_nil))) (pe_one (pe_cmpR op_le (pv 0) (pv 2) (nomark _))))), ?_⟩
    refine ⟨v, rfl, _, rfl, v, d, lo, rfl, hd, fun H' S => ⟨_, rfl, ?_⟩⟩
    have k0 := k H' S
    cases hd with
    | int i =>
      refine ite2 (fun h => ?_) (fun h => ?_)
      · refine ⟨_, rfl, _, rfl, i, hi, rfl, rfl, ?_⟩
        have e : wholeB lo hi (.int i) = decide (i ≤ hi) := by
          show (decide (lo ≤ i) && decide (i ≤ hi)) = _
          rw [show decide (lo ≤ i) = true from h, Bool.true_and]
        rw [e] at k0
        exact k0
      · have e : wholeB lo hi (.int i) = false := by
          show (decide (lo ≤ i) && decide (i ≤ hi)) = _
          rw [show decide (lo ≤ i) = false by simpa [cntB] using h, Bool.false_and]
        rw [e] at k0
        exact k0
    | bl b => exact iteF k0
    | non => exact iteF k0
    | str x => exact iteF k0
    | lst _ _ => exact iteF k0
    | tup _ _ => exact iteF k0
    | dic _ _ _ => exact iteF k0
theorem scName : FnScope ["thing", "letter"] ["thing"] (defScope sName) := ⟨rfl, rfl, rfl, by decide +kernel, rfl, by decide +kernel, by decide +kernel⟩
theorem ok_name {f : Addr} {fd : FuncData} (F : Fun K "is_name" "is_name" sName f fd) (T : Txt K w mg) : FnOk P w K mg base CX0 1 f fd ["thing"] (sp1 (fun d => fine d = true) nameB) := by
  refine F.ok scName (fun vs H Q E h => ?_) (fun cdv A outer s H vs Q E hr h => ?_)
  · obtain ⟨v, d, rfl, _⟩ := h
    rfl
  · obtain ⟨v, d, rfl, hd, hf, k⟩ := h
    obtain ⟨na, no, nits, nn, nm, nl, nc, ndt, nsz, nv⟩ := T.no
    refine ⟨_, pss_cons (ps_if (PW.pt (pw_or (pt_not (pt_val (pe_isD is_str (pv 0) T.isi T.str (by decide +kernel)))) (pw_or1 (pt_cmpR op_in_seq (pv 0) (pe_glob (v := .ref na) rfl nm rfl) rfl))))
        (pss_one (ps_ret pe_bl)) pss_nil)
      (pss_one (ps_ret (pe_and (pe_chain op_le op_le pe_int (pe_callB call_len_str (by rfl) T.len PySem.boot_len (pa_cons (pv 0) pa_nil)) (C8.pe_gc rfl T.most))
        (pe_one (pe_callB (cr_all rfl) (by rfl) T.all (by decide +kernel) (pa_cons (pe_lc (own := [("letter", 1)]) (g := gName 1) (tt := tYes) rfl scName.nd (pi_str (pv 0)) (blkOk_by (N := ["thing", "letter"]) (sc := defScope sName) (by decide +kernel))
          (fun _ _ _ _ _ => pg_name (i := 1) scName.nd rfl (Or.inl rfl)) (fun _ _ _ _ _ => pts_nil) (fun _ _ _ _ _ => pe_cmpR op_in_sign (pv 1) (C8.pe_gc rfl T.letters) rfl)) pa_nil)))))), ?_⟩
    refine ⟨v, rfl, v, d, rfl, hd, _, rfl, ?_⟩
    have k0 := k H (Same.refl H)
    cases hd with
    | str x =>
      have fx : x.length ≤ 20 ∧ (x.cps.toList.all fun c => decide (c < 128)) = true := by simpa [fine] using hf
      have nT : SqT K H na (noNames.map V.str) := Or.inr ⟨no, nits, nn, nl, nc, ndt, nsz, nv⟩
      refine iteF ⟨.str x, rfl, na, _, rfl, Or.inr nT, rfl, rfl, _, rfl, ?_⟩
      have eN : inV (.str x) (noNames.map V.str) = noNames.any fun y => y == x := by
        unfold inV
        rw [List.any_map]
        rfl
      refine ite2 (fun h => ?_) (fun h => ?_)
      · have e : nameB (.str x) = false := by
          show (!(noNames.any fun y => y == x) && _) = false
          rw [← eN, show inV (.str x) (noNames.map V.str) = true from h]
          rfl
        rw [e] at k0
        exact k0
      · have hin : inV (.str x) (noNames.map V.str) = false := by simpa using h
        have e : nameB (.str x) = (decide (1 ≤ x.length) && decide (x.length ≤ 8) && x.cps.toList.all letterB) := by
          show (!(noNames.any fun y => y == x) && _) = _
          rw [← eN, hin]
          rfl
        rw [e] at k
        refine ⟨.str x, rfl, x, rfl, (by show x.length ≤ sizeLine; exact Nat.le_trans fx.1 (by decide)), 1, _, rfl, rfl, _, rfl, ?_⟩
        refine ite2 (fun h1 => ?_) (fun h1 => ?_)
        · have h1 : decide ((1 : Int) ≤ (x.length : Int)) = true := h1
          refine ⟨_, _, rfl, rfl, _, rfl, ?_⟩
          refine ite2 (fun h2 => ?_) (fun h2 => ?_)
          · have h2 : decide ((x.length : Int) ≤ 8) = true := h2
            refine ⟨.str x, rfl, x, rfl, fun D hD => lc_str (fun i H' => H' D = some (.lst ((x.cps.toList.take i).map fun c => V.bl (letterB c))) ∧ Same H H') ⟨upd_same, Same.new hD⟩ ?_ ?_⟩
            · rintro i c H' hc ⟨hl, S⟩
              refine ⟨rfl, yes (iteT ?_)⟩
              refine ⟨.str ⟨#[c]⟩, rfl, c, letters, rfl, rfl, ?_⟩
              refine ⟨_, hl, ?_, ?_, Same.mut S hD⟩
              · rw [List.length_map, List.length_take]
                have : x.cps.toList.length ≤ 20 := fx.1
                exact Nat.lt_of_le_of_lt (Nat.le_trans (Nat.min_le_right _ _) this) (by decide)
              · rw [upd_same, in_letters, take_snoc (x := c) (by simpa using hc), List.map_append]
                rfl
            · rintro H' ⟨hl, S⟩
              refine ⟨D, x.cps.toList.map letterB, rfl, Or.inl (Or.inl ?_), ?_⟩
              · rw [hl, List.take_of_length_le (by simp), List.map_map]
                rfl
              · have e2 : (x.cps.toList.map letterB).all id = (decide (1 ≤ x.length) && decide (x.length ≤ 8) && x.cps.toList.all letterB) := by
                  have a1 : decide (1 ≤ x.length) = true := by
                    have := of_decide_eq_true h1
                    exact decide_eq_true (by omega)
                  have a2 : decide (x.length ≤ 8) = true := by
                    have := of_decide_eq_true h2
                    exact decide_eq_true (by omega)
                  rw [a1, a2, List.all_map]
                  rfl
                rw [e2]
                exact k H' S
          · have h2 : ¬ decide ((x.length : Int) ≤ 8) = true := h2
            have a2 : decide (x.length ≤ 8) = false := by
              simp only [decide_eq_true_eq] at h2
              exact decide_eq_false (by omega)
            have := k H (Same.refl H)
            rw [a2, Bool.and_false, Bool.false_and] at this
            exact this
        · have h1 : ¬ decide ((1 : Int) ≤ (x.length : Int)) = true := h1
          have a1 : decide (1 ≤ x.length) = false := by
            simp only [decide_eq_true_eq] at h1
            exact decide_eq_false (by omega)
          have := k H (Same.refl H)
          rw [a1, Bool.false_and, Bool.false_and] at this
          exact ⟨_, rfl, iteF this⟩
    | int i => exact iteT k0
    | bl b => exact iteT k0
    | non => exact iteT k0
    | lst _ _ => exact iteT k0
    | tup _ _ => exact iteT k0
    | dic _ _ _ => exact iteT k0
theorem beq_dec (x y : Str) : (x == y) = decide (y = x) := by
  by_cases h : y = x
  · subst h
    rw [decide_eq_true rfl]
    exact beq_self_eq_true _
  · rw [decide_eq_false h]
    exact beq_eq_false_iff_ne.mpr fun e => h e.symm
def spLeaf : Sp := fun vs H Q _ => ∃ v wd ds, vs = [v] ∧ Dn H v (.tuple (.str wd :: ds)) ∧ fineAll ds = true ∧ (∀ H', Same H H' → Q (.bl (leafB wd ds)) H')
theorem scLeaf : FnScope ["thing", "word"] ["thing"] (defScope sLeaf) := ⟨rfl, rfl, rfl, by decide +kernel, rfl, by decide +kernel, by decide +kernel⟩
theorem tup_inv {H : Hp} {v : V} {ds : List PyData} (h : Dn H v (.tuple ds)) : ∃ a xs, v = .ref a ∧ H a = some (.tup xs) ∧ DnAll H xs ds := by
  cases h with
  | tup e r => exact ⟨_, _, rfl, e, r⟩
theorem str_inv {H : Hp} {v : V} {x : Str} (h : Dn H v (.str x)) : v = .str x := by
  cases h
  rfl
theorem cons_inv {H : Hp} {xs : List V} {d : PyData} {ds : List PyData} (h : DnAll H xs (d :: ds)) : ∃ y ys, xs = y :: ys ∧ Dn H y d ∧ DnAll H ys ds := by
  cases h with
  | cons a b => exact ⟨_, _, rfl, a, b⟩
theorem nil_inv {H : Hp} {xs : List V} (h : DnAll H xs []) : xs = [] := by
  cases h
  rfl
theorem ok_leaf {f : Addr} {fd : FuncData} (F : Fun K "_is_leaf" "_is_leaf" sLeaf f fd) (T : Txt K w mg) (C0 : C8.Cal P w K mg base 1 "is_count" spCount [.int 0]) (CW : C8.Cal P w K mg base 2 "is_whole" spWhole [])
    (CN : C8.Cal P w K mg base 1 "is_name" (sp1 (fun d => fine d = true) nameB) []) : FnOk P w K mg base CX0 3 f fd ["thing"] spLeaf := by
  refine F.ok scLeaf (fun vs H Q E h => ?_) (fun cdv A outer s H vs Q E hr h => ?_)
  · obtain ⟨v, wd, ds, rfl, _⟩ := h
    rfl
  · obtain ⟨v, wd, ds, rfl, hd, hf, k⟩ := h
    refine ⟨_, pss_cons (ps_set (i := 1) scLeaf.nd rfl (Or.inl rfl) (pe_ix ix_tup (pv 0) pe_int (fun _ _ => rfl)))
      (pss_cons (ps_if (pt_cmpR op_eq (pe_callB call_len_seq (by rfl) T.len PySem.boot_len (pa_cons (pv 0) pa_nil)) pe_int (nomark _))
        (pss_cons (ps_if (pt_cmpR op_eq (pv 1) pe_str (nomark _)) (pss_one (ps_ret (C8.pe_c C0 hr (by decide) rfl (pa_cons (pe_ix ix_tup (pv 0) pe_int (fun _ _ => rfl)) pa_nil)))) pss_nil)
          (pss_cons (ps_if (pt_cmpR op_eq (pv 1) pe_str (nomark _)) (pss_one (ps_ret (C8.pe_c CW hr (by decide) rfl (pa_cons (pe_ix ix_tup (pv 0) pe_int (fun _ _ => rfl)) (pa_cons pe_int (pa_cons (C8.pe_gc rfl T.highest) pa_nil)))))) pss_nil)
            (pss_one (ps_ret (pe_and (pe_cmpR op_in_seq (pv 1) (pe_tup (pa_cons pe_str (pa_cons pe_str pa_nil))) rfl) (pe_one (C8.pe_c CN hr (by decide) rfl (pa_cons (pe_ix ix_tup (pv 0) pe_int (fun _ _ => rfl)) pa_nil))))))))
        pss_nil)
      (pss_cons (ps_if (PW.pt (pw_or (pt_cmpR op_ne (pe_callB call_len_seq (by rfl) T.len PySem.boot_len (pa_cons (pv 0) pa_nil)) pe_int (nomark _))
          (pw_or1 (pt_not (pt_val (C8.pe_c CN hr (by decide) rfl (pa_cons (pe_ix ix_tup (pv 0) pe_int (fun _ _ => rfl)) pa_nil))))))) (pss_one (ps_ret pe_bl)) pss_nil)
      (pss_cons (ps_if (pt_cmpR op_eq (pv 1) pe_str (nomark _)) (pss_one (ps_ret (C8.pe_c C0 hr (by decide) rfl (pa_cons (pe_ix ix_tup (pv 0) pe_int (fun _ _ => rfl)) pa_nil)))) pss_nil)
      (pss_one (ps_ret (pe_and (pe_cmpR op_eq (pv 1) pe_str (nomark _)) (pe_one (C8.pe_c CW hr (by decide) rfl (pa_cons (pe_ix ix_tup (pv 0) pe_int (fun _ _ => rfl)) (pa_cons pe_int (pa_cons (C8.pe_gc rfl T.highest) pa_nil)))))))))))
      , ?_⟩
    obtain ⟨a, xs0, rfl, ha, hx0⟩ := tup_inv hd
    obtain ⟨x0, xs, rfl, h0, hx⟩ := cons_inv hx0
    obtain rfl := str_inv h0
    clear hx0 hd h0
    have sT : SqT K H a (.str wd :: xs) := SqT.of ha
    refine ⟨_, rfl, a, _, 0, _, rfl, rfl, sT, at_of (j := 0) rfl rfl, ?_⟩
    refine ⟨_, rfl, a, _, rfl, Or.inr sT, rfl, _, rfl, ?_⟩
    match ds, hx, hf, k with
    | [], hx, hf, k =>
      obtain rfl := nil_inv hx
      refine iteF ⟨_, rfl, a, _, rfl, Or.inr sT, rfl, _, rfl, iteT ?_⟩
      exact k H (Same.refl H)
    | [d1], hx, hf, k =>
      obtain ⟨x1, xs1, rfl, h1, hx1⟩ := cons_inv hx
      obtain rfl := nil_inv hx1
      have f1 : fine d1 = true := by simpa [fineAll] using hf
      refine iteT ⟨_, rfl, rfl, _, rfl, ?_⟩
      refine ite2 (fun c1 => ?_) (fun c1 => ?_)
      · have c1 : wd = "at" := V.str.inj (of_decide_eq_true c1)
        refine ⟨_, rfl, a, _, 1, _, rfl, rfl, sT, at_of (j := 1) rfl rfl, x1, d1, 0, rfl, h1, fun H' S => ?_⟩
        have k' := k H' S
        rw [show leafB wd [d1] = cntB 0 d1 from if_pos c1] at k'
        exact k'
      · have c1 : ¬ wd = "at" := fun e => c1 (decide_eq_true (congrArg V.str e))
        refine ⟨_, rfl, rfl, _, rfl, ?_⟩
        refine ite2 (fun c2 => ?_) (fun c2 => ?_)
        · have c2 : wd = "kind" := V.str.inj (of_decide_eq_true c2)
          refine ⟨_, rfl, a, _, 1, _, rfl, rfl, sT, at_of (j := 1) rfl rfl, x1, d1, 0, 5, rfl, h1, fun H' S => ?_⟩
          have k' := k H' S
          rw [show leafB wd [d1] = wholeB 0 5 d1 from (if_neg c1).trans (if_pos c2)] at k'
          exact k'
        · have c2 : ¬ wd = "kind" := fun e => c2 (decide_eq_true (congrArg V.str e))
          have e0 : leafB wd [d1] = ((decide (wd = "name") || decide (wd = "thing")) && nameB d1) := (if_neg c1).trans (if_neg c2)
          rw [e0] at k
          refine ⟨_, rfl, (by show 2 ≤ sizeLine; decide), fun p hp => ⟨p, _, rfl, Or.inr (SqT.of upd_same), rfl, rfl, _, rfl, ?_⟩⟩
          have ei : inV (.str wd) [.str "name", .str "thing"] = (decide (wd = "name") || decide (wd = "thing")) := by
            unfold inV
            simp only [List.any_cons, List.any_nil, Bool.or_false, eqV]
            rw [beq_dec, beq_dec]
          have sN : Same H (upd H p (.tup [.str "name", .str "thing"])) := Same.new hp
          refine ite2 (fun c3 => ?_) (fun c3 => ?_)
          · have c3 : inV (.str wd) [.str "name", .str "thing"] = true := c3
            refine ⟨_, rfl, a, _, 1, _, rfl, rfl, SqT.of (sN _ _ ha), at_of (j := 1) rfl rfl, x1, d1, rfl, Dn.mono sN h1, f1, fun H' S => ?_⟩
            have k' := k H' (sN.trans S)
            rw [← ei, c3, Bool.true_and] at k'
            exact k'
          · have c3 : inV (.str wd) [.str "name", .str "thing"] = false := by simpa using c3
            have k' := k _ sN
            rw [← ei, c3, Bool.false_and] at k'
            exact k'
    | [d1, d2], hx, hf, k =>
      obtain ⟨x1, xs1, rfl, h1, hx1⟩ := cons_inv hx
      obtain ⟨x2, xs2, rfl, h2, hx2⟩ := cons_inv hx1
      obtain rfl := nil_inv hx2
      have f1 : fine d1 = true := by
        have : fine d1 = true ∧ fine d2 = true := by simpa [fineAll] using hf
        exact this.1
      refine iteF ⟨_, rfl, a, _, rfl, Or.inr sT, rfl, _, rfl, iteF ?_⟩
      refine ⟨_, rfl, a, _, 1, _, rfl, rfl, sT, at_of (j := 1) rfl rfl, x1, d1, rfl, h1, f1, fun H' S => ⟨_, rfl, ?_⟩⟩
      have ha' := S _ _ ha
      have sT' : SqT K H' a [.str wd, x1, x2] := SqT.of ha'
      have e0 : leafB wd [d1, d2] = (nameB d1 && (if wd = "maker" then cntB 0 d2 else decide (wd = "eater") && wholeB 0 5 d2)) := rfl
      rw [e0] at k
      cases c : nameB d1 with
      | false =>
        refine iteT ?_
        have k' := k H' S
        rw [c] at k'
        exact k'
      | true =>
        rw [c, Bool.true_and] at k
        refine iteF ⟨_, rfl, rfl, _, rfl, ?_⟩
        refine ite2 (fun c1 => ?_) (fun c1 => ?_)
        · have c1 : wd = "maker" := V.str.inj (of_decide_eq_true c1)
          refine ⟨_, rfl, a, _, 2, _, rfl, rfl, sT', at_of (j := 2) rfl rfl, x2, d2, 0, rfl, Dn.mono S h2, fun H2 S2 => ?_⟩
          have k' := k H2 (S.trans S2)
          rw [if_pos c1] at k'
          exact k'
        · have c1 : ¬ wd = "maker" := fun e => c1 (decide_eq_true (congrArg V.str e))
          rw [if_neg c1] at k
          refine ⟨_, rfl, rfl, _, rfl, ?_⟩
          refine ite2 (fun c2 => ?_) (fun c2 => ?_)
          · have c2 : wd = "eater" := V.str.inj (of_decide_eq_true c2)
            refine ⟨_, rfl, a, _, 2, _, rfl, rfl, sT', at_of (j := 2) rfl rfl, x2, d2, 0, 5, rfl, Dn.mono S h2, fun H2 S2 => ?_⟩
            have k' := k H2 (S.trans S2)
            rw [decide_eq_true c2, Bool.true_and] at k'
            exact k'
          · have c2 : ¬ wd = "eater" := fun e => c2 (decide_eq_true (congrArg V.str e))
            have k' := k H' S
            rw [decide_eq_false c2, Bool.false_and] at k'
            exact k'
    | d1 :: d2 :: d3 :: ds, hx, hf, k =>
      obtain ⟨x1, xs1, rfl, h1, hx1⟩ := cons_inv hx
      obtain ⟨x2, xs2, rfl, h2, hx2⟩ := cons_inv hx1
      obtain ⟨x3, xs3, rfl, h3, hx3⟩ := cons_inv hx2
      have n2 : decide (V.int (((.str wd : V) :: x1 :: x2 :: x3 :: xs3).length : Int) = V.int 2) = false := decide_eq_false fun e => by
        have := V.int.inj e
        simp only [List.length_cons] at this
        omega
      have n3 : decide (V.int (((.str wd : V) :: x1 :: x2 :: x3 :: xs3).length : Int) = V.int 3) = false := decide_eq_false fun e => by
        have := V.int.inj e
        simp only [List.length_cons] at this
        omega
      rw [n2]
      refine iteF ⟨_, rfl, a, _, rfl, Or.inr sT, rfl, _, rfl, ?_⟩
      rw [n3]
      exact iteT (k H (Same.refl H))
end
end KP
set_option Elab.async false
set_option linter.unusedVariables false
set_option maxRecDepth 100000
set_option maxHeartbeats 1000000
namespace KP
open PySem PySem.Spec PyProof.Rows L2 KA
theorem tm_parts {wd : Str} {ds : List PyData} {n : Nat} (h : parts wd = some n) : tm (.tuple (.str wd :: ds)) = (decide (ds.length = n) && tmAll ds) := by simp only [tm, h]
theorem tm_leaf {wd : Str} {ds : List PyData} (h : parts wd = none) : tm (.tuple (.str wd :: ds)) = leafB wd ds := by simp only [tm, h]
theorem tmAll_append : ∀ (ds es : List PyData), tmAll (ds ++ es) = (tmAll ds && tmAll es)
  | [], es => by simp [tmAll]
  | d :: ds, es => by simp only [List.cons_append, tmAll, tmAll_append ds es, Bool.and_assoc]
theorem nodesAll_append : ∀ (ds es : List PyData), nodesAll (ds ++ es) = nodesAll ds + nodesAll es
  | [], es => by simp [nodesAll]
  | d :: ds, es => by simp only [List.cons_append, nodesAll, nodesAll_append ds es, Nat.add_assoc]
theorem fineAll_append : ∀ (ds es : List PyData), fineAll (ds ++ es) = (fineAll ds && fineAll es)
  | [], es => by simp [fineAll]
  | d :: ds, es => by simp only [List.cons_append, fineAll, fineAll_append ds es, Bool.and_assoc]
theorem nodes_pos (d : PyData) : 0 < nodes d := by cases d <;> simp [nodes]
theorem len_nodes : ∀ ds : List PyData, ds.length ≤ nodesAll ds
  | [] => Nat.zero_le _
  | d :: ds => by
    have := len_nodes ds
    have := nodes_pos d
    simp only [List.length_cons, nodesAll]
    omega
theorem unsnoc {H : Hp} : ∀ {ds : List PyData} {d : PyData} {xs : List V}, DnAll H xs (ds ++ [d]) → ∃ ys y, xs = ys ++ [y] ∧ DnAll H ys ds ∧ Dn H y d
  | [], d, xs, h => by
    obtain ⟨y, ys, rfl, h1, h2⟩ := cons_inv h
    obtain rfl := nil_inv h2
    exact ⟨[], y, rfl, .nil, h1⟩
  | e :: ds, d, xs, h => by
    obtain ⟨y, ys, rfl, h1, h2⟩ := cons_inv h
    obtain ⟨zs, z, rfl, h3, h4⟩ := unsnoc h2
    exact ⟨y :: zs, z, rfl, .cons h1 h3, h4⟩
theorem isTup_false {d : PyData} (h : isTupD d = false) : tm d = false := by
  cases d <;> first | (cases h; done) | simp [tm]
theorem isStr_false {d : PyData} {ds : List PyData} (h : isStrD d = false) : tm (.tuple (d :: ds)) = false := by
  cases d <;> first | (cases h; done) | simp [tm]
theorem sIx1 (n : Nat) : HT.sIx (n + 1) 0 (some 1) = 1 := (HT.sIx_nat (n + 1) 0 1).trans (by omega)
section
variable {P : Program} {w : World} {K : PySem.W.Frag} {mg : Str → Option Value} {base : Heap}
def okT (d : PyData) : Prop := fine d = true ∧ nodes d ≤ 1000000
theorem scTerm : FnScope ["thing", "waiting", "part"] ["thing"] (defScope sTerm) := ⟨rfl, rfl, rfl, by decide +kernel, rfl, by decide +kernel, by decide +kernel⟩
theorem ok_term {f : Addr} {fd : FuncData} (F : Fun K "is_term" "is_term" sTerm f fd) (T : Txt K w mg) (CL : C8.Cal P w K mg base 3 "_is_leaf" spLeaf []) : FnOk P w K mg base CX0 4 f fd ["thing"] (sp1 okT tm) := by
  refine F.ok scTerm (fun vs H Q E h => ?_) (fun cdv A outer s H vs Q E hr h => ?_)
  · obtain ⟨v, d, rfl, _⟩ := h
    rfl
  · obtain ⟨v, d, rfl, hd, ⟨hf, hn⟩, k⟩ := h
    obtain ⟨pa, es, en, pm, PD, pn⟩ := T.parted
    refine ⟨_, pss_cons (ps_set (i := 1) scTerm.nd rfl (Or.inl rfl) (pe_lst (pa_cons (pv 0) pa_nil)))
      (pss_cons (ps_while PassesOwn.never (pt_truth (pv 1) (by intro _; rfl))
        (pss_cons (ps_set (i := 2) scTerm.nd rfl (Or.inl rfl) (pe_bm0 PySem.F.plainAttrs_list PySem.F.slot_list_pop PySem.F.type_list_pop mt_pop (pv 1)))
        (pss_cons (ps_if (PW.pt (pw_or (pt_not (pt_val (pe_isD is_tup (pv 2) T.isi T.tuple (by decide +kernel)))) (pw_or (pt_not (pt_truth (pv 2) (by intro _; rfl)))
            (pw_or1 (pt_not (pt_val (pe_isD is_str (pe_ix ix_tup (pv 2) pe_int (fun _ _ => rfl)) T.isi T.str (by decide +kernel)))))))) (pss_one (ps_ret pe_bl)) pss_nil)
        (pss_one (ps_if (pt_cmpR (op_notIn_kd PD) (pe_ix ix_tup (pv 2) pe_int (fun _ _ => rfl)) (pe_glob (v := .ref pa) rfl pm rfl) rfl)
          (pss_one (ps_if (pt_not (pt_val (C8.pe_c CL hr (by decide) rfl (pa_cons (pv 2) pa_nil)))) (pss_one (ps_ret pe_bl)) pss_nil))
          (pss_one (ps_if (pt_cmpR op_ne (pe_callB call_len_seq (by rfl) T.len PySem.boot_len (pa_cons (pv 2) pa_nil)) (pe_op op_add (pe_ix ix_kdict (pe_glob (v := .ref pa) rfl pm rfl) (pe_ix ix_tup (pv 2) pe_int (fun _ _ => rfl)) (fun _ _ => rfl)) pe_int) (nomark _))
            (pss_one (ps_ret pe_bl))
            (pss_one (ps_expr (pe_bm PySem.F.plainAttrs_list PySem.F.slot_list_extend PySem.F.type_list_extend mt_grow (pv 1) (pa_cons (pe_slice sl_tupA (pv 2) (po_some pe_int) po_none) pa_nil)))))))))))
      (pss_one (ps_ret pe_bl))), ?_⟩
    refine ⟨v, rfl, (by show 1 ≤ sizeLine; decide), fun l hl => ?_⟩
    refine ⟨fun m σ H' => ∃ xs ds pv, σ = [some v, some (.ref l), pv] ∧ H' l = some (.lst xs) ∧ DnAll (hid l H') xs ds ∧ Same H (hid l H') ∧ fineAll ds = true ∧ tmAll ds = tm d ∧ nodesAll ds = m ∧ m ≤ 1000000,
      ⟨nodes d, [v], [d], none, rfl, upd_same, ?_, ?_, ?_, ?_, ?_, hn⟩, ?_⟩
    · rw [hid_upd]
      exact .one (Dn.mono (Same.to_hid (Same.refl H) hl) hd)
    · rw [hid_upd]
      exact Same.to_hid (Same.refl H) hl
    · simp [fineAll, hf]
    · simp [tmAll]
    · simp [nodesAll]
    rintro m σ H' ⟨xs, ds, pv0, rfl, eL, dA, S, fA, tA, nA, mA⟩
    refine ⟨_, rfl, !xs.isEmpty, Or.inl ⟨xs, SqL.of eL, rfl⟩, ?_⟩
    rcases List.eq_nil_or_concat ds with rfl | ⟨ds, dl, rfl⟩
    · obtain rfl := nil_inv dA
      refine iteF ?_
      have k' := k H' (S.trans hid_sub)
      rw [← tA] at k'
      exact k'
    · rw [List.concat_eq_append] at dA fA tA nA
      obtain ⟨ys, y, rfl, dY, dy⟩ := unsnoc dA
      rw [fineAll_append] at fA
      rw [tmAll_append] at tA
      rw [nodesAll_append] at nA
      have fA : fineAll ds = true ∧ fine dl = true := by simpa [fineAll] using fA
      have tA : (tmAll ds && tm dl) = tm d := by simpa [tmAll] using tA
      have nA : nodesAll ds + nodes dl = m := by simpa [nodesAll] using nA
      have ne : (!(ys ++ [y]).isEmpty) = true := by simp
      rw [ne]
      refine iteT ?_
      refine ⟨fun σ' H2 => ∃ m', m' < m ∧ ∃ xs ds pv, σ' = [some v, some (.ref l), pv] ∧ H2 l = some (.lst xs) ∧ DnAll (hid l H2) xs ds ∧ Same H (hid l H2) ∧ fineAll ds = true ∧ tmAll ds = tm d ∧ nodesAll ds = m' ∧ m' ≤ 1000000, fun σ' H2 z => z, ?_⟩
      refine ⟨_, rfl, Or.inl ⟨rfl, _, SqL.of eL⟩, l, _, y, rfl, rfl, eL, by simp, ?_⟩
      rw [List.dropLast_concat]
      -- behind the pop
      have S1 : Same H (hid l (upd H' l (.lst ys))) := by rw [hid_upd]; exact S
      have e1 : upd H' l (.lst ys) l = some (.lst ys) := upd_same
      have dY1 : DnAll (hid l (upd H' l (.lst ys))) ys ds := by rw [hid_upd]; exact dY
      have dy1 : Dn (hid l (upd H' l (.lst ys))) y dl := by rw [hid_upd]; exact dy
      generalize upd H' l (.lst ys) = H1 at S1 e1 dY1 dy1
      have out : tm dl = false → Q (.bl false) H1 := fun e => by
        have k' := k H1 (S1.trans hid_sub)
        rw [← tA, e, Bool.and_false] at k'
        exact k'
      refine ⟨y, rfl, y, dl, rfl, Dn.mono hid_sub dy1, _, rfl, ?_⟩
      cases hT : isTupD dl with
      | false => exact iteT (out (isTup_false hT))
      | true =>
        obtain ⟨dt, rfl⟩ : ∃ dt, dl = .tuple dt := by cases dl <;> first | exact ⟨_, rfl⟩ | cases hT
        obtain ⟨a, zs, rfl, ha, dz⟩ := tup_inv dy1
        have ha1 : H1 a = some (.tup zs) := hid_sub _ _ ha
        refine iteF ⟨_, rfl, !zs.isEmpty, Or.inr (Or.inl ⟨zs, SqT.of ha1, rfl⟩), ?_⟩
        cases dt with
        | nil =>
          obtain rfl := nil_inv dz
          exact iteT (out (by simp [tm]))
        | cons d0 dr =>
          obtain ⟨z0, zs, rfl, h0, dz1⟩ := cons_inv dz
          refine iteF ⟨_, rfl, a, _, 0, _, rfl, rfl, SqT.of ha1, at_of (j := 0) rfl rfl, z0, d0, rfl, Dn.mono hid_sub h0, _, rfl, ?_⟩
          cases hS : isStrD d0 with
          | false => exact iteT (out (isStr_false hS))
          | true =>
            obtain ⟨wd, rfl⟩ : ∃ wd, d0 = .str wd := by cases d0 <;> first | exact ⟨_, rfl⟩ | cases hS
            obtain rfl := str_inv h0
            have fdr : fineAll dr = true := by
              have := fA.2
              simp only [fine, fineAll, Bool.and_eq_true] at this
              exact this.2
            have ndl : nodes (.tuple (.str wd :: dr)) = nodesAll dr + 2 := by
              simp only [nodes, nodesAll]
              omega
            obtain ⟨r, hr1, hr2⟩ := pn wd
            refine iteF ⟨_, rfl, a, _, 0, _, rfl, rfl, SqT.of ha1, at_of (j := 0) rfl rfl, wd, r, rfl, rfl, hr1, _, rfl, ?_⟩
            cases hp : parts wd with
            | none =>
              rw [hp] at hr2
              obtain rfl : r = none := by
                cases r with
                | none => rfl
                | some u => exact hr2.elim
              refine iteT ⟨_, rfl, .ref a, wd, dr, rfl, Dn.mono hid_sub (.tup ha dz), fdr, fun H2 S2 => ⟨_, rfl, ?_⟩⟩
              have e2 : H2 l = some (.lst ys) := S2 _ _ e1
              have S2' : Same (hid l H1) (hid l H2) := Same.less S2
              cases hL : leafB wd dr with
              | false =>
                refine iteT ?_
                have k' := k H2 ((S1.trans hid_sub).trans S2)
                rw [← tA, tm_leaf hp, hL, Bool.and_false] at k'
                exact k'
              | true =>
                refine iteF ⟨nodesAll ds, by omega, ys, ds, _, rfl, e2, DnAll.mono S2' dY1, S1.trans S2', fA.1, ?_, rfl, by omega⟩
                rw [← tA, tm_leaf hp, hL, Bool.and_true]
            | some n =>
              rw [hp] at hr2
              obtain ⟨u, rfl, ru⟩ : ∃ u, r = some u ∧ RelV (.int (n : Int)) u := by
                cases r with
                | none => exact hr2.elim
                | some u => exact ⟨u, rfl, hr2⟩
              refine iteF ⟨_, rfl, a, _, rfl, Or.inr (SqT.of ha1), ?_⟩
              refine ⟨_, rfl, a, _, 0, _, rfl, rfl, SqT.of ha1, at_of (j := 0) rfl rfl, pa, wd, .int (n : Int), rfl, rfl, ⟨es, en, u, PD.at_, PD.lit, hr1, ru⟩, (n : Int), 1, rfl, rfl, rfl, _, rfl, ?_⟩
              have elen : decide (V.int (((.str wd : V) :: zs).length : Int) = V.int ((n : Int) + 1)) = decide (dr.length = n) := by
                have := dz1.length
                by_cases c : dr.length = n
                · rw [decide_eq_true c]
                  exact decide_eq_true (congrArg V.int (by rw [List.length_cons]; omega))
                · rw [decide_eq_false c]
                  refine decide_eq_false fun e => c ?_
                  have := V.int.inj e
                  rw [List.length_cons] at this
                  omega
              rw [elen]
              cases hl2 : decide (dr.length = n) with
              | false =>
                refine iteT (out ?_)
                rw [tm_parts hp, hl2, Bool.false_and]
              | true =>
                have lenb := len_nodes ds
                have lend := len_nodes dr
                have lz := dz1.length
                have ly := dY1.length
                have cut : cutV (.str wd :: zs) (some 1) none = zs := by
                  unfold cutV
                  rw [HT.sIx_none, show HT.sIx ((.str wd : V) :: zs).length 0 (some 1) = 1 from sIx1 zs.length]
                  rw [List.length_cons]
                  show List.take (zs.length + 1 - 1) zs = zs
                  rw [Nat.add_sub_cancel, List.take_length]
                refine iteF ⟨_, rfl, Or.inl ⟨rfl, _, SqL.of e1⟩, _, rfl, 1, rfl, a, _, rfl, SqT.of ha1, fun z => ?_, fun _ p hp' => ?_⟩
                · have := z.1
                  rw [show HT.sIx ((.str wd : V) :: zs).length 0 (some 1) = 1 from sIx1 zs.length] at this
                  omega
                · rw [cut]
                  have lp : l ≠ p := ne_of_none e1 hp'
                  have e2 : upd H1 p (.tup zs) l = some (.lst ys) := (upd_ne lp).trans e1
                  refine ⟨l, p, ys, zs, rfl, rfl, e2, upd_same, ?_, ?_⟩
                  · rw [ly, lz]
                    exact Nat.le_trans (by omega : ds.length + dr.length ≤ 1000000) (by decide)
                  · have S3 : Same (hid l H1) (hid l (upd (upd H1 p (.tup zs)) l (.lst (ys ++ zs)))) := by
                      rw [hid_upd]
                      exact Same.less (Same.new hp')
                    refine ⟨nodesAll ds + nodesAll dr, by omega, ys ++ zs, ds ++ dr, _, rfl, upd_same, DnAll.mono S3 (dY1.append dz1), S1.trans S3, ?_, ?_, ?_, by omega⟩
                    · rw [fineAll_append, fA.1, fdr]
                      rfl
                    · rw [tmAll_append, ← tA, tm_parts hp, hl2, Bool.true_and]
                    · rw [nodesAll_append]
def spotB : PyData → Bool | .tuple ds => ds.all (cntB 0) | _ => false
theorem _root_.KA.DnAll.at {H : Hp} {xs : List V} {ds : List PyData} {i : Nat} {x : V} (r : DnAll H xs ds) (h : xs[i]? = some x) : ∃ d, ds[i]? = some d ∧ Dn H x d := by
  have lt : i < ds.length := by
    have := (List.getElem?_eq_some_iff.mp h).1
    have := r.length
    omega
  obtain ⟨v, hv, hd⟩ := r.get (List.getElem?_eq_getElem lt)
  rw [h] at hv
  cases hv
  exact ⟨_, List.getElem?_eq_getElem lt, hd⟩
end
end KP
set_option Elab.async false
set_option linter.unusedVariables false
set_option maxRecDepth 100000
set_option maxHeartbeats 1000000
/-! The law's own defs: the purse and what is drawn from it. -/
namespace KP
open PySem PySem.Spec PyProof.Rows L2 KA
abbrev sCell : Stmt := top 23
abbrev sPurse : Stmt := top 24
abbrev sTake : Stmt := top 25
abbrev sForms : Stmt := top 26
abbrev sWord : Stmt := top 27
abbrev sTm : Stmt := top 28
abbrev sLaw : Stmt := top 33

/-- a purse at p, from which at most n were mixed -/
def Purse (H : Hp) (p : Addr) (n : Nat) : Prop := ∃ a b c : Int, H p = some (.lst [.int a, .int b, .int c]) ∧ 0 ≤ a ∧ 0 ≤ b ∧ b < 2147483629 ∧ 0 ≤ c ∧ c ≤ (n : Int)
theorem Purse.more {H : Hp} {p : Addr} {n m : Nat} (h : Purse H p n) (l : n ≤ m) : Purse H p m := by
  obtain ⟨a, b, c, e, h1, h2, h3, h4, h5⟩ := h
  exact ⟨a, b, c, e, h1, h2, h3, h4, by omega⟩
theorem Purse.mono {H H' : Hp} {p : Addr} {n : Nat} (h : Purse H p n) (S : Same H H') : Purse H' p n := by
  obtain ⟨a, b, c, e, r⟩ := h
  exact ⟨a, b, c, S _ _ e, r⟩
def maxN : Nat := 1000000000

def spCell (K : PySem.W.Frag) : Sp := fun vs H Q _ => ∃ (a : Addr) (ns : List Int) (j : Nat), vs = [.ref a, .int (j : Int)] ∧ SqL K H a (ns.map V.int) ∧ ∀ z, Q (.int z) H
def spPurse : Sp := fun vs H Q _ => ∃ z, vs = [.int z] ∧ ∀ p H', H p = none → Same H H' → Purse H' p 0 → Q (.ref p) H'
def spTake : Sp := fun vs H Q _ => ∃ (p : Addr) (n : Nat) (m : Int), vs = [.ref p, .int m] ∧ Purse H p n ∧ n ≤ maxN ∧ 0 < m ∧ m < 1073741824 ∧ ∀ r H', 0 ≤ r → r < m → Purse H' p (n + 1) → Same (hid p H) (hid p H') → Q (.int r) H'
section
variable {P : Program} {w : World} {K : PySem.W.Frag} {mg : Str → Option Value} {base : Heap}
theorem scCell : FnScope ["_law_script", "_law_k"] ["_law_script", "_law_k"] (defScope sCell) := ⟨rfl, rfl, rfl, by decide +kernel, rfl, by decide +kernel, by decide +kernel⟩
theorem ok_cell {f : Addr} {fd : FuncData} (F : Fun K "_law_cell" "_law_cell" sCell f fd) (T : Txt K w mg) : FnOk P w K mg base CX0 1 f fd ["_law_script", "_law_k"] (spCell K) := by
  refine F.ok scCell (fun vs H Q E h => ?_) (fun cdv A outer s H vs Q E hr h => ?_)
  · obtain ⟨a, ns, j, rfl, _⟩ := h
    rfl
  · obtain ⟨a, ns, j, rfl, hS, k⟩ := h
    refine ⟨_, pss_cons (ps_if (pt_cmpR op_lt (pv 1) (pe_callB call_len_seq (by rfl) T.len PySem.boot_len (pa_cons (pv 0) pa_nil)) (nomark _)) (pss_one (ps_ret (pe_ix ix_list (pv 0) (pv 1) (fun _ _ => rfl)))) pss_nil)
      (pss_one (ps_ret (pe_op op_add (pe_op op_mul pe_int (pv 1)) pe_int))), ?_⟩
    refine ⟨_, rfl, _, rfl, a, _, rfl, Or.inl hS, _, _, rfl, rfl, _, rfl, ?_⟩
    refine ite2 (fun h => ?_) (fun h => ?_)
    · have lt := of_decide_eq_true h
      rw [List.length_map] at lt
      have lt : j < ns.length := by omega
      refine ⟨_, rfl, _, rfl, a, _, _, _, rfl, rfl, hS, at_of (j := j) rfl (by rw [List.getElem?_map, List.getElem?_eq_getElem lt]; rfl), k _⟩
    · exact ⟨_, rfl, _, _, rfl, rfl, Or.inl ⟨by decide, by decide⟩, _, _, rfl, rfl, k _⟩
theorem scPurse : FnScope ["_law_cell_here"] ["_law_cell_here"] (defScope sPurse) := ⟨rfl, rfl, rfl, by decide +kernel, rfl, by decide +kernel, by decide +kernel⟩
theorem ok_purse {f : Addr} {fd : FuncData} (F : Fun K "_law_purse" "_law_purse" sPurse f fd) (T : Txt K w mg) : FnOk P w K mg base CX0 1 f fd ["_law_cell_here"] spPurse := by
  refine F.ok scPurse (fun vs H Q E h => ?_) (fun cdv A outer s H vs Q E hr h => ?_)
  · obtain ⟨z, rfl, _⟩ := h
    rfl
  · obtain ⟨z, rfl, k⟩ := h
    refine ⟨_, pss_one (ps_ret (pe_lst (pa_cons (pe_callB (call_max2 rfl) (by rfl) T.max (by decide +kernel) (pa_cons pe_int (pa_cons (pe_op op_sub (pv 0) (pe_op op_pow pe_int pe_int)) pa_nil)))
      (pa_cons (pe_op op_mod (pv 0) pe_int) (pa_cons pe_int pa_nil))))), ?_⟩
    refine ⟨_, rfl, 10, 18, rfl, rfl, ⟨by decide, by decide, by decide⟩, _, _, rfl, rfl, 0, _, rfl, _, rfl, z, 2147483629, rfl, rfl, (by show (0 : Int) < 2147483629; decide), (by show 3 ≤ sizeLine; decide), fun p hp => ?_⟩
    refine k p _ hp (Same.new hp) ⟨_, _, 0, upd_same, ?_, Int.emod_nonneg _ (by decide), Int.emod_lt_of_pos _ (by decide), Int.le_refl _, Int.le_refl _⟩
    split <;> omega
theorem scTake : FnScope ["_law_purse_here", "_law_many", "_law_digit", "_law_one", "_law_other"] ["_law_purse_here", "_law_many"] (defScope sTake) := ⟨rfl, rfl, rfl, by decide +kernel, rfl, by decide +kernel, by decide +kernel⟩
theorem ok_take {f : Addr} {fd : FuncData} (F : Fun K "_law_take" "_law_take" sTake f fd) (T : Txt K w mg) : FnOk P w K mg base CX0 1 f fd ["_law_purse_here", "_law_many"] spTake := by
  refine F.ok scTake (fun vs H Q E h => ?_) (fun cdv A outer s H vs Q E hr h => ?_)
  · obtain ⟨p, n, m, rfl, _⟩ := h
    rfl
  · obtain ⟨p, n, m, rfl, ⟨a, b, c, e, ha, hb, hb2, hc, hc2⟩, hn, hm, hm2, k⟩ := h
    refine ⟨_, pss_cons (ps_if (pt_cmpR op_gt (pe_ix ix_list (pv 0) pe_int (fun _ _ => rfl)) pe_int (nomark _))
        (pss_cons (ps_set (i := 2) scTake.nd rfl (Or.inl rfl) (pe_op op_mod (pe_ix ix_list (pv 0) pe_int (fun _ _ => rfl)) (pv 1)))
        (pss_cons (ps_asg (pe_op op_fdiv (pe_ix ix_list (pv 0) pe_int (fun _ _ => rfl)) (pv 1)) (pg_sub (pv 0) pe_int set_list))
        (pss_one (ps_ret (pv 2))))) pss_nil)
      (pss_cons (ps_asg (pe_op op_add (pe_ix ix_list (pv 0) pe_int (fun _ _ => rfl)) pe_int) (pg_sub (pv 0) pe_int set_list))
      (pss_cons (ps_set (i := 3) scTake.nd rfl (Or.inl rfl) (pe_op op_mod (pe_op op_pow (pe_op op_add (pe_op op_add (pe_ix ix_list (pv 0) pe_int (fun _ _ => rfl)) (pe_op op_mul pe_int (pe_ix ix_list (pv 0) pe_int (fun _ _ => rfl)))) pe_int) pe_int) pe_int))
      (pss_cons (ps_set (i := 4) scTake.nd rfl (Or.inl rfl) (pe_op op_mod (pe_op op_pow (pe_op op_add (pe_op op_mul (pe_ix ix_list (pv 0) pe_int (fun _ _ => rfl)) (pe_ix ix_list (pv 0) pe_int (fun _ _ => rfl))) pe_int) pe_int) pe_int))
      (pss_one (ps_ret (pe_op op_mod (pe_op op_fdiv (pe_op op_add (pe_op op_mul (pv 3) pe_int) (pv 4)) pe_int) (pv 1))))))), ?_⟩
    have sL : ∀ {H' : Hp} {xs : List V}, H' p = some (.lst xs) → SqL K H' p xs := fun h => SqL.of h
    refine ⟨_, rfl, p, _, 0, _, rfl, rfl, sL e, at_of (j := 0) rfl rfl, _, _, rfl, rfl, _, rfl, ?_⟩
    refine ite2 (fun h => ?_) (fun h => ?_)
    · have pos : 0 < a := of_decide_eq_true h
      refine ⟨_, rfl, p, _, 0, _, rfl, rfl, sL e, at_of (j := 0) rfl rfl, _, rfl, a, m, rfl, rfl, hm, ?_⟩
      refine ⟨_, rfl, p, _, 0, _, rfl, rfl, sL e, at_of (j := 0) rfl rfl, _, rfl, a, m, rfl, rfl, ⟨hm, hm2⟩, ?_⟩
      refine ⟨_, rfl, p, _, 0, 0, rfl, rfl, e, rfl, ?_⟩
      refine ⟨_, rfl, ?_⟩
      refine k _ _ (Int.emod_nonneg _ (by omega)) (Int.emod_lt_of_pos _ hm) ⟨a / m, b, c, upd_same, Int.ediv_nonneg ha (by omega), hb, hb2, hc, by omega⟩ ?_
      rw [hid_upd]
      exact Same.refl _
    · have e1 : upd H p (.lst [.int a, .int b, .int (c + 1)]) p = some (.lst [.int a, .int b, .int (c + 1)]) := upd_same
      have S1 : Same (hid p H) (hid p (upd H p (.lst [.int a, .int b, .int (c + 1)]))) := by rw [hid_upd]; exact Same.refl _
      refine ⟨_, rfl, p, _, 2, _, rfl, rfl, sL e, at_of (j := 2) rfl rfl, c, 1, rfl, rfl, ?_⟩
      refine ⟨_, rfl, p, _, 2, 2, rfl, rfl, e, rfl, ?_⟩
      have hcN : c + 1 ≤ 1000000001 := by
        unfold maxN at hn
        omega
      have m0 : 0 ≤ b * (c + 1) := Int.mul_nonneg hb (by omega)
      have m1 : b * (c + 1) ≤ 2147483629 * 1000000001 := Int.mul_le_mul (by omega) (by omega) (by omega) (by omega)
      have q1 : (b + 6113 * (c + 1) + 31).natAbs < 2 ^ 64 := by omega
      have q2 : (b * (c + 1) + 89753).natAbs < 2 ^ 64 := by
        generalize b * (c + 1) = t at m0 m1
        omega
      refine ⟨_, rfl, p, _, 1, _, rfl, rfl, sL e1, at_of (j := 1) rfl rfl, _, rfl, p, _, 2, _, rfl, rfl, sL e1, at_of (j := 2) rfl rfl, 6113, c + 1, rfl, rfl, Or.inl ⟨by decide, by decide⟩, b, _, rfl, rfl, _, _, rfl, rfl, _, 5, rfl, rfl, ⟨by decide, by decide, q1⟩, _, _, rfl, rfl, (by show (0 : Int) < 2147483647; decide), ?_⟩
      refine ⟨_, rfl, p, _, 1, _, rfl, rfl, sL e1, at_of (j := 1) rfl rfl, _, rfl, p, _, 2, _, rfl, rfl, sL e1, at_of (j := 2) rfl rfl, b, c + 1, rfl, rfl, Or.inl ⟨by omega, by omega⟩, _, _, rfl, rfl, _, 3, rfl, rfl, ⟨by decide, by decide, q2⟩, _, _, rfl, rfl, (by show (0 : Int) < 2147483587; decide), ?_⟩
      refine ⟨_, rfl, _, _, rfl, rfl, Or.inr ⟨by decide, by decide⟩, _, rfl, _, _, rfl, rfl, _, 8, rfl, rfl, ⟨by decide, by decide⟩, _, rfl, _, m, rfl, rfl, hm, ?_⟩
      exact k _ _ (Int.emod_nonneg _ (by omega)) (Int.emod_lt_of_pos _ hm) ⟨a, b, c + 1, e1, ha, hb, hb2, by omega, by omega⟩ S1
end
end KP
set_option Elab.async false
set_option linter.unusedVariables false
set_option maxRecDepth 100000
set_option maxHeartbeats 1000000
namespace KP
open PySem PySem.Spec PyProof.Rows L2 KA
/-! ### what stands behind each word -/
def formsA : List (Key × V) := [(.inr "at", .str "n"), (.inr "kind", .str "h"), (.inr "all", .str "tt"), (.inr "fun", .str "tt"), (.inr "app", .str "tt"), (.inr "name", .str "w"), (.inr "thing", .str "w"), (.inr "maker", .str "wn")]
def formsB : List (Key × V) := [(.inr "eater", .str "wh"), (.inr "same", .str "ttt"), (.inr "self", .str "tt"), (.inr "put", .str "ttt")]
def formsK : List (Key × V) := formsA ++ formsB
theorem formsA_eq : mergeK [] formsA = formsA := by decide +kernel
theorem formsB_eq : mergeK [] formsB = formsB := by decide +kernel
theorem formsK_eq : mergeK [] (formsA ++ formsB) = formsK := by decide +kernel
theorem paired_append {α β : Type} {F : α → β → Prop} : ∀ {xs zs : List α} {ys ws : List β}, Paired F xs ys → Paired F zs ws → Paired F (xs ++ zs) (ys ++ ws)
  | _, _, _, _, .nil, s => s
  | _, _, _, _, .cons r t, s => .cons r (paired_append t s)
theorem paired_map {α β : Type} {F G : α → β → Prop} (f : ∀ a b, F a b → G a b) : ∀ {xs : List α} {ys : List β}, Paired F xs ys → Paired G xs ys
  | _, _, .nil => .nil
  | _, _, .cons r t => .cons (f _ _ r) (paired_map f t)
def spForms : Sp := fun vs H Q _ => vs = [] ∧ ∀ p H', H p = none → Same H H' → H' p = some (.dK formsK) → Q (.ref p) H'
section
variable {X : Cx} {k j : Nat} {x : Str} {sp : Sp} {dvs : List V} {p pos : Pos}
theorem pe_c0 (c : C8.Cal X.prog X.w X.K X.mg X.base k x sp dvs) (hr : Room j X.A) (hk : k ≤ j) (hg : Gl X x) (hdb : (x == ("__debug__" : Str)) = false := by decide) : PE X (.Call (.Name x p) [] [] pos) (tCall sp dvs C8.E0 tNil) := by
  obtain ⟨f, fd, ps, ds, F, hm, kp, b, d⟩ := c.ex
  exact pe_call0 F (hr.mono hk) hg hm kp b d pass0 hdb
end
section
variable {P : Program} {w : World} {K : PySem.W.Frag} {mg : Str → Option Value} {base : Heap}
theorem scForms : FnScope ["_law_forms_here", "_law_more"] [] (defScope sForms) := ⟨rfl, rfl, rfl, by decide +kernel, rfl, by decide +kernel, by decide +kernel⟩
theorem ok_forms {f : Addr} {fd : FuncData} (F : Fun K "_law_forms" "_law_forms" sForms f fd) (T : Txt K w mg) : FnOk P w K mg base CX0 1 f fd [] spForms := by
  refine F.ok scForms (fun vs H Q E h => ?_) (fun cdv A outer s H vs Q E hr h => ?_)
  · obtain ⟨rfl, _⟩ := h
    rfl
  · obtain ⟨rfl, k⟩ := h
    refine ⟨_, pss_cons (ps_set (i := 0) scForms.nd rfl (Or.inl rfl) (pe_disp (pps_cons pe_str pe_str (pps_cons pe_str pe_str (pps_cons pe_str pe_str (pps_cons pe_str pe_str (pps_cons pe_str pe_str (pps_cons pe_str pe_str (pps_cons pe_str pe_str (pps_cons pe_str pe_str pps_nil)))))))) (by rfl) (by rfl) (fun z => by cases z) (by decide)))
      (pss_cons (ps_set (i := 1) scForms.nd rfl (Or.inl rfl) (pe_disp (pps_cons pe_str pe_str (pps_cons pe_str pe_str (pps_cons pe_str pe_str (pps_cons pe_str pe_str pps_nil)))) (by rfl) (by rfl) (fun z => by cases z) (by decide)))
      (pss_one (ps_ret (pe_callTy (call_dictP rfl) (by rfl) T.dict (by decide +kernel) (pa_cons (pe_op op_cat (LiI.pe_listItems rfl (pv 0) (by rfl) T.list (by decide +kernel)) (LiI.pe_listItems rfl (pv 1) (by rfl) T.list (by decide +kernel))) pa_nil))))), ?_⟩
    refine fun a ha => ⟨upd_same, formsA, rfl, by decide, ?_⟩
    rw [formsA_eq, upd_upd]
    have S1 : Same H (upd H a (.dK formsA)) := Same.new ha
    refine fun b hb => ⟨upd_same, formsB, rfl, by decide, ?_⟩
    rw [formsB_eq, upd_upd]
    have S2 : Same (upd H a (.dK formsA)) (upd (upd H a (.dK formsA)) b (.dK formsB)) := Same.new hb
    have ea : upd (upd H a (.dK formsA)) b (.dK formsB) a = some (.dK formsA) := S2 _ _ upd_same
    have eb : upd (upd H a (.dK formsA)) b (.dK formsB) b = some (.dK formsB) := upd_same
    have S12 := S1.trans S2
    generalize upd (upd H a (.dK formsA)) b (.dK formsB) = H2 at ea eb S12
    refine ⟨_, rfl, a, formsA, rfl, ea, fun H3 p3 ts3 S3 n3 m3 o3 e3 r3 => ?_⟩
    refine ⟨_, rfl, b, formsB, rfl, S3 _ _ eb, fun H4 p4 ts4 S4 n4 m4 o4 e4 r4 => ?_⟩
    refine ⟨p3, p4, _, _, rfl, rfl, S4 _ _ e3, e4, ?_, fun q hq => ?_⟩
    · rw [List.length_map, List.length_map, Paired.length r3, Paired.length r4]
      decide
    have S5 : Same H4 (upd H4 q (.lst (ts3.map V.ref ++ ts4.map V.ref))) := Same.new hq
    refine ⟨q, ts3 ++ ts4, formsA ++ formsB, rfl, ?_, ?_, fun z hz => ?_⟩
    · rw [List.map_append]
      exact SqL.of upd_same
    · exact paired_append (paired_map (fun t kv e => SqT.of (S5 _ _ (S4 _ _ e))) r3) (paired_map (fun t kv e => SqT.of (S5 _ _ e)) r4)
    · rw [formsK_eq]
      have S15 := ((S12.trans S3).trans S4).trans S5
      exact k z _ (S15.free hz) (S15.trans (Same.new hz)) upd_same
end
end KP
set_option Elab.async false
set_option linter.unusedVariables false
set_option maxRecDepth 100000
set_option maxHeartbeats 1000000
namespace KP
open PySem PySem.Spec PyProof.Rows L2 KA
/-! ### a name drawn -/
theorem fold_codes (cs : List Nat) : ∀ acc : Array Nat, (((cs.map fun c => (⟨#[c]⟩ : Str)).foldl (fun acc p => acc ++ (Str.ofString "").cps ++ p.cps) acc)).toList = acc.toList ++ cs := by
  have e0 : (Str.ofString "").cps = #[] := by decide +kernel
  rw [e0]
  induction cs with
  | nil => intro acc; simp
  | cons c cs ih =>
    intro acc
    rw [List.map_cons, List.foldl_cons, ih]
    simp
theorem join_codes (cs : List Nat) : (Txt.join (Str.ofString "") (cs.map fun c => (⟨#[c]⟩ : Str))).cps.toList = cs := by
  cases cs with
  | nil => decide +kernel
  | cons c cs =>
    show (((cs.map fun c => (⟨#[c]⟩ : Str)).foldl (fun acc p => acc ++ (Str.ofString "").cps ++ p.cps) (#[c] : Array Nat))).toList = c :: cs
    rw [fold_codes]
    rfl
theorem sum_ones (cs : List Nat) : ((cs.map fun c => (⟨#[c]⟩ : Str)).map (·.length)).sum = cs.length := by
  induction cs with
  | nil => rfl
  | cons c cs ih =>
    rw [List.map_cons, List.map_cons, List.sum_cons, ih, List.length_cons]
    show 1 + cs.length = cs.length + 1
    omega
theorem letter_at {r : Int} (h0 : 0 ≤ r) (h1 : r < 26) : ∃ c, atI letters.cps.toList r = some c ∧ letterB c = true := by
  obtain ⟨j, rfl⟩ : ∃ j : Nat, r = (j : Int) := ⟨r.toNat, by omega⟩
  have len : letters.cps.toList.length = 26 := by decide +kernel
  have lt : j < letters.cps.toList.length := by rw [len]; omega
  refine ⟨letters.cps.toList[j], atI_nat (List.getElem?_eq_getElem lt), ?_⟩
  rw [← in_letters]
  exact decide_eq_true (List.getElem_mem lt)
theorem inV_no (x : Str) : inV (.str x) [.str "all", .str "fun", .str "same", .str "self", .str "put"] = noNames.any fun y => y == x := rfl
theorem Same.hidMut {p D : Addr} {G H : Hp} {o : HO} (h : Same G (hid p H)) (n : G D = none) : Same G (hid p (upd H D o)) := fun b u e => by
  have e' := h b u e
  obtain ⟨n1, e2⟩ := hid_some e'
  rw [hid_ne n1, upd_ne (ne_of_none e n)]
  exact e2
theorem hid_none {p D : Addr} {H : Hp} (h : H D = none) : hid p H D = none := by
  by_cases e : D = p
  · rw [e, hid_at]
  · rw [hid_ne e, h]
theorem q_ok : ∀ y ∈ noNames, nameX ((("q" : Str)) ++ y) = true := by decide +kernel
theorem q_len : ∀ y ∈ noNames, ("q" : Str).length + y.length ≤ 8 := by decide +kernel
def spWord : Sp := fun vs H Q _ => ∃ (p : Addr) (n : Nat), vs = [.ref p] ∧ Purse H p n ∧ n + 10 ≤ maxN ∧ ∀ x H', nameX x = true → Purse H' p (n + 10) → Same (hid p H) (hid p H') → Q (.str x) H'
section
variable {P : Program} {w : World} {K : PySem.W.Frag} {mg : Str → Option Value} {base : Heap}
theorem scWord : FnScope ["_law_purse_here", "_law_letters", "_law_word_here", "_law_k"] ["_law_purse_here"] (defScope sWord) := ⟨rfl, rfl, rfl, by decide +kernel, rfl, by decide +kernel, by decide +kernel⟩
theorem ok_word {f : Addr} {fd : FuncData} (F : Fun K "_law_word" "_law_word" sWord f fd) (T : Txt K w mg) (CT : C8.Cal P w K mg base 1 "_law_take" spTake []) : FnOk P w K mg base CX0 2 f fd ["_law_purse_here"] spWord := by
  refine F.ok scWord (fun vs H Q E h => ?_) (fun cdv A outer s H vs Q E hr h => ?_)
  · obtain ⟨p, n, rfl, _⟩ := h
    rfl
  · obtain ⟨p, n, rfl, hp, hn, k⟩ := h
    refine ⟨_, pss_cons (ps_set (i := 1) scWord.nd rfl (Or.inr rfl) pe_str)
      (pss_cons (ps_set (i := 2) scWord.nd rfl (Or.inl rfl) (pe_join pe_str (pe_lc (own := [("_law_k", 3)]) (g := gName 3) (tt := tYes) rfl scWord.nd
          (pi_range1 (by rfl) T.range (pa_cons (pe_op op_add pe_int (C8.pe_c CT hr (by decide) rfl (pa_cons (pv 0) (pa_cons pe_int pa_nil)))) pa_nil))
          (blkOk_by (N := ["_law_purse_here", "_law_letters", "_law_word_here", "_law_k"]) (sc := defScope sWord) (by decide +kernel))
          (fun _ _ _ _ _ => pg_name (i := 3) scWord.nd rfl (Or.inl rfl)) (fun _ _ _ _ _ => pts_nil) (fun _ _ _ _ _ => pe_ix ix_str (pv 1) (C8.pe_c CT hr (by decide) rfl (pa_cons (pv 0) (pa_cons pe_int pa_nil))) (fun _ _ => rfl)))))
      (pss_one (ps_ret (pe_ifExp (pt_cmpR op_in_seq (pv 2) (pe_tup (pa_cons pe_str (pa_cons pe_str (pa_cons pe_str (pa_cons pe_str (pa_cons pe_str pa_nil)))))) rfl) (pe_op op_add_str pe_str (pv 2)) (pv 2))))), ?_⟩
    refine ⟨⟨_, rfl⟩, .ref p, rfl, p, n, 8, rfl, hp, by omega, by decide, by decide, fun r H1 r0 r1 p1 S1 => ?_⟩
    refine ⟨1, r, rfl, rfl, 1 + r, rfl, by omega, by omega, fun D hD => ?_⟩
    have pD : p ≠ D := by
      obtain ⟨_, _, _, e, _⟩ := p1
      exact ne_of_none e hD
    refine lc_range (lo := 0) (n := (1 + r).toNat) (fun i H' => ∃ cs : List Nat, H' D = some (.lst (cs.map fun c => V.str ⟨#[c]⟩)) ∧ cs.length = i ∧ cs.all letterB = true ∧ Purse H' p (n + 1 + i) ∧ Same (hid p H1) (hid p H')) ?_ ?_ ?_
    · refine ⟨[], upd_same, rfl, rfl, p1.mono (Same.new hD), Same.less (Same.new hD)⟩
    · rintro i H' hi ⟨cs, eD, el, eA, pp, S⟩
      refine ⟨rfl, yes (iteT ?_)⟩
      refine ⟨.str letters, rfl, .ref p, rfl, p, n + 1 + i, 26, rfl, pp, by omega, by decide, by decide, fun t H2 t0 t1 p2 S2 => ?_⟩
      obtain ⟨c, hc, lc⟩ := letter_at t0 t1
      refine ⟨letters, t, c, rfl, rfl, by decide +kernel, hc, cs.map fun c => V.str ⟨#[c]⟩, ?_, ?_, cs ++ [c], ?_, ?_, ?_, ?_, ?_⟩
      · exact hid_sub _ _ (S2 _ _ (by rw [hid_ne pD.symm]; exact eD))
      · rw [List.length_map, el]
        exact Nat.lt_of_lt_of_le hi (Nat.le_trans (by omega : (1 + r).toNat ≤ 8) (by decide))
      · rw [upd_same, List.map_append]
        rfl
      · rw [List.length_append, el]
        rfl
      · rw [List.all_append, eA]
        simp [lc]
      · obtain ⟨a, b, c', e, q⟩ := p2
        refine ⟨a, b, c', by rw [upd_ne pD]; exact e, ?_⟩
        have : ((n + 1 + i + 1 : Nat) : Int) = ((n + 1 + (i + 1) : Nat) : Int) := by omega
        rw [← this]
        exact q
      · exact Same.hidMut (S.trans S2) (hid_none hD)
    · rintro H' ⟨cs, eD, el, eA, pp, S⟩
      refine ⟨Str.ofString "", D, cs.map fun c => ⟨#[c]⟩, rfl, rfl, Or.inl ?_, ?_, ?_⟩
      · rw [List.map_map]
        exact SqL.of eD
      · rw [sum_ones, List.length_map]
        have : (Str.ofString "").length = 0 := by decide +kernel
        rw [this]
        omega
      · have S0 : Same (hid p H) (hid p H') := S1.trans S
        have el : cs.length = (1 + r).toNat := el
        have codes := join_codes cs
        have len : (Txt.join (Str.ofString "") (cs.map fun c => (⟨#[c]⟩ : Str))).length = cs.length := by
          show (Txt.join (Str.ofString "") (cs.map fun c => (⟨#[c]⟩ : Str))).cps.size = cs.length
          rw [← Array.length_toList, codes]
        generalize Txt.join (Str.ofString "") (cs.map fun c => (⟨#[c]⟩ : Str)) = x at codes len
        have pn : Purse H' p (n + 10) := pp.more (by omega)
        refine ⟨_, rfl, (by show 5 ≤ sizeLine; decide), fun q hq => ⟨q, _, rfl, Or.inr (SqT.of upd_same), rfl, rfl, _, rfl, ?_⟩⟩
        have S3 : Same (hid p H) (hid p (upd H' q (.tup [.str "all", .str "fun", .str "same", .str "self", .str "put"]))) := S0.trans (Same.less (Same.new hq))
        have p3 : Purse (upd H' q (.tup [.str "all", .str "fun", .str "same", .str "self", .str "put"])) p (n + 10) := pn.mono (Same.new hq)
        refine ite2 (fun c => ?_) (fun c => ?_)
        · have c : (noNames.any fun y => y == x) = true := c
          obtain ⟨y, hy, ey⟩ := List.any_eq_true.mp c
          obtain rfl : y = x := eq_of_beq ey
          exact ⟨_, rfl, "q", y, rfl, rfl, Nat.le_trans (q_len y hy) (by decide), k _ _ (q_ok y hy) p3 S3⟩
        · have c : ¬ (noNames.any fun y => y == x) = true := c
          have c : (noNames.any fun y => y == x) = false := Bool.eq_false_iff.mpr c
          refine ⟨_, rfl, k x _ ?_ p3 S3⟩
          unfold nameX
          rw [c, codes, eA, len, el]
          rw [decide_eq_true (by omega : 1 ≤ (1 + r).toNat), decide_eq_true (by omega : (1 + r).toNat ≤ 8)]
          rfl
end
end KP
set_option Elab.async false
set_option linter.unusedVariables false
set_option maxRecDepth 100000
set_option maxHeartbeats 1000000
namespace KP
open PySem PySem.Spec PyProof.Rows L2 KA
/-! ### how large data is when it is shown -/
mutual
def wt : PyData → Nat
  | .int _ => 40
  | .str _ => 220
  | .list ds => wtAll ds + 4
  | .tuple ds => wtAll ds + 4
  | .dict kvs => wtKv kvs + 4
  | _ => 5
def wtAll : List PyData → Nat
  | [] => 0
  | d :: ds => wt d + 2 + wtAll ds
def wtKv : List (PyData × PyData) → Nat
  | [] => 0
  | (k, v) :: r => wt k + wt v + 4 + wtKv r
end
theorem join_len (ts : List Str) : (Str.join ", " ts).length ≤ (ts.map (·.length)).sum + 2 * ts.length := by
  rw [← StrLaws.glued_eq_join, size_glued]
  have e : (Str.ofString ", ").length = 2 := by decide +kernel
  rw [e]
  omega
theorem len_app (x y : Str) : (x ++ y).length = x.length + y.length := by
  show (x.cps ++ y.cps).size = _
  exact Array.size_append
theorem int_len {i : Int} (h : -(10 ^ 31) ≤ i ∧ i ≤ 10 ^ 31) : (Str.ofString (toString i)).length ≤ 40 := by
  have b : i.natAbs < 10 ^ 32 := by omega
  have l := int_text_length_le10 (k := 32) (by decide) b
  rw [PySem.ofString_length]
  omega
theorem log2_small {i : Int} (h : -(10 ^ 31) ≤ i ∧ i ≤ 10 ^ 31) : i.natAbs.log2 < 1920 := by
  by_cases h0 : i.natAbs = 0
  · rw [h0]
    decide
  · rw [Nat.log2_lt h0]
    exact Nat.lt_of_lt_of_le (by omega : i.natAbs < 2 ^ 110) (Nat.pow_le_pow_right (by decide) (by decide))
mutual
theorem shown_le : ∀ d : PyData, fine d = true → d.shown.length ≤ wt d ∧ d.showable = true
  | .none, _ => by
    rw [PyData.shown_none]
    exact ⟨by decide +kernel, rfl⟩
  | .bool b, _ => by
    rw [PyData.shown_bool]
    exact ⟨by cases b <;> decide +kernel, rfl⟩
  | .int i, h => by
    have h' : -(10 ^ 31) ≤ i ∧ i ≤ 10 ^ 31 := by simpa [fine] using h
    rw [PyData.shown_int]
    exact ⟨int_len h', by simpa [PyData.showable] using log2_small h'⟩
  | .str x, h => by
    have h' : x.length ≤ 20 ∧ ∀ c ∈ x.cps.toList, c < 128 := by simpa only [fine, Bool.and_eq_true, decide_eq_true_eq, List.all_eq_true] using h
    rw [PyData.shown_str]
    have := StrLaws.reprText_len x fun c hc => Nat.lt_of_lt_of_le (h'.2 c hc) (by decide)
    have e : wt (.str x) = 220 := rfl
    exact ⟨by omega, rfl⟩
  | .list ds, h => by
    have h' : fineAll ds = true := by simpa only [fine] using h
    obtain ⟨h1, h2⟩ := shownAll_le ds h'
    rw [PyData.shown_list, len_app, len_app]
    have j := join_len (PyData.shownAll ds)
    rw [PyData.shownAll_length] at j
    have e1 : (Str.ofString "[").length = 1 := by decide +kernel
    have e2 : (Str.ofString "]").length = 1 := by decide +kernel
    rw [e1, e2]
    exact ⟨by simp only [wt]; omega, by simpa only [PyData.showable] using h2⟩
  | .tuple ds, h => by
    have h' : fineAll ds = true := by simpa only [fine] using h
    obtain ⟨h1, h2⟩ := shownAll_le ds h'
    rw [PyData.shown_tuple, len_app, len_app]
    have j := join_len (PyData.shownAll ds)
    rw [PyData.shownAll_length] at j
    have e1 : (Str.ofString "(").length = 1 := by decide +kernel
    have e2 : (Str.ofString (if (ds.length == 1) = true then ",)" else ")")).length ≤ 2 := by
      split <;> decide +kernel
    rw [e1]
    exact ⟨by simp only [wt]; omega, by simpa only [PyData.showable] using h2⟩
  | .dict kvs, h => by
    have h' : fineKv kvs = true := by simpa only [fine] using h
    obtain ⟨h1, h2, h3⟩ := shownKv_le kvs h'
    rw [PyData.shown_dict, len_app, len_app]
    have j := join_len (PyData.shownKv kvs)
    rw [h3] at j
    have e1 : (Str.ofString "{").length = 1 := by decide +kernel
    have e2 : (Str.ofString "}").length = 1 := by decide +kernel
    rw [e1, e2]
    exact ⟨by simp only [wt]; omega, by simpa only [PyData.showable] using h2⟩
theorem shownAll_le : ∀ ds : List PyData, fineAll ds = true → ((PyData.shownAll ds).map (·.length)).sum + 2 * ds.length ≤ wtAll ds ∧ PyData.showableAll ds = true
  | [], _ => ⟨by simp [PyData.shownAll_nil], rfl⟩
  | d :: ds, h => by
    have h' : fine d = true ∧ fineAll ds = true := by simpa only [fineAll, Bool.and_eq_true] using h
    obtain ⟨a1, a2⟩ := shown_le d h'.1
    obtain ⟨b1, b2⟩ := shownAll_le ds h'.2
    rw [PyData.shownAll_cons, List.map_cons, List.sum_cons]
    refine ⟨?_, by simp only [PyData.showableAll, a2, b2, Bool.and_self]⟩
    simp only [wtAll, List.length_cons]
    omega
theorem shownKv_le : ∀ kvs : List (PyData × PyData), fineKv kvs = true → ((PyData.shownKv kvs).map (·.length)).sum + 2 * kvs.length ≤ wtKv kvs ∧ PyData.showableKv kvs = true ∧ (PyData.shownKv kvs).length = kvs.length
  | [], _ => ⟨by simp [PyData.shownKv_nil], rfl, by simp [PyData.shownKv_nil]⟩
  | (k, v) :: r, h => by
    have h' : (fine k = true ∧ fine v = true) ∧ fineKv r = true := by simpa only [fineKv, Bool.and_eq_true] using h
    obtain ⟨a1, a2⟩ := shown_le k h'.1.1
    obtain ⟨b1, b2⟩ := shown_le v h'.1.2
    obtain ⟨c1, c2, c3⟩ := shownKv_le r h'.2
    rw [PyData.shownKv_cons, List.map_cons, List.sum_cons, len_app, len_app]
    have e1 : (Str.ofString ": ").length = 2 := by decide +kernel
    rw [e1]
    refine ⟨?_, by simp only [PyData.showableKv, a2, b2, c2, Bool.and_self], by rw [List.length_cons, List.length_cons, c3]⟩
    simp only [wtKv, List.length_cons]
    omega
end
mutual
theorem nodes_wt : ∀ d : PyData, nodes d ≤ wt d
  | .none => by simp [nodes, wt]
  | .bool b => by simp [nodes, wt]
  | .int i => by simp [nodes, wt]
  | .str x => by simp [nodes, wt]
  | .list ds => by simp [nodes, wt]
  | .dict ds => by simp [nodes, wt]
  | .tuple ds => by
    have := nodesAll_wt ds
    simp only [nodes, wt]
    omega
theorem nodesAll_wt : ∀ ds : List PyData, nodesAll ds ≤ wtAll ds
  | [] => Nat.le_refl _
  | d :: ds => by
    have := nodes_wt d
    have := nodesAll_wt ds
    simp only [nodesAll, wtAll]
    omega
end
/-- small data: how deep, how large -/
def Bd (dp sz : Nat) (d : PyData) : Prop := fine d = true ∧ d.depth ≤ dp ∧ wt d ≤ sz
def BdAll (dp sz : Nat) (ds : List PyData) : Prop := fineAll ds = true ∧ PyData.depthAll ds ≤ dp ∧ wtAll ds ≤ sz
theorem Bd.mono {a b c e : Nat} {d : PyData} (h : Bd a b d) (h1 : a ≤ c) (h2 : b ≤ e) : Bd c e d := ⟨h.1, Nat.le_trans h.2.1 h1, Nat.le_trans h.2.2 h2⟩
theorem BdAll.mono {a b c e : Nat} {d : List PyData} (h : BdAll a b d) (h1 : a ≤ c) (h2 : b ≤ e) : BdAll c e d := ⟨h.1, Nat.le_trans h.2.1 h1, Nat.le_trans h.2.2 h2⟩
theorem BdAll.nil {a b : Nat} : BdAll a b [] := ⟨rfl, Nat.zero_le _, Nat.zero_le _⟩
theorem wtAll_append : ∀ ds es : List PyData, wtAll (ds ++ es) = wtAll ds + wtAll es
  | [], es => by simp [wtAll]
  | d :: ds, es => by simp only [List.cons_append, wtAll, wtAll_append ds es]; omega
theorem depthAll_append : ∀ ds es : List PyData, PyData.depthAll (ds ++ es) = max (PyData.depthAll ds) (PyData.depthAll es)
  | [], es => by simp [PyData.depthAll]
  | d :: ds, es => by simp only [List.cons_append, PyData.depthAll, depthAll_append ds es]; omega
theorem BdAll.append {a b c : Nat} {ds es : List PyData} (h : BdAll a b ds) (g : BdAll a c es) : BdAll a (b + c) (ds ++ es) := by
  obtain ⟨h1, h2, h3⟩ := h
  obtain ⟨g1, g2, g3⟩ := g
  refine ⟨by rw [fineAll_append, h1, g1]; rfl, by rw [depthAll_append]; omega, by rw [wtAll_append]; omega⟩
theorem BdAll.cons {a b c : Nat} {d : PyData} {ds : List PyData} (h : Bd a b d) (g : BdAll a c ds) : BdAll a (b + 2 + c) (d :: ds) := by
  obtain ⟨h1, h2, h3⟩ := h
  obtain ⟨g1, g2, g3⟩ := g
  refine ⟨by simp only [fineAll, h1, g1, Bool.and_self], by simp only [PyData.depthAll]; omega, by simp only [wtAll]; omega⟩
theorem BdAll.one {a b : Nat} {d : PyData} (h : Bd a b d) : BdAll a (b + 2) [d] := BdAll.cons (c := 0) h BdAll.nil
theorem Bd.tup {a b : Nat} {ds : List PyData} (h : BdAll a b ds) : Bd (a + 1) (b + 4) (.tuple ds) :=
  ⟨by simpa only [fine] using h.1, by simp only [PyData.depth]; exact Nat.succ_le_succ h.2.1, by simp only [wt]; exact Nat.add_le_add_right h.2.2 4⟩
theorem Bd.lst {a b : Nat} {ds : List PyData} (h : BdAll a b ds) : Bd (a + 1) (b + 4) (.list ds) :=
  ⟨by simpa only [fine] using h.1, by simp only [PyData.depth]; exact Nat.succ_le_succ h.2.1, by simp only [wt]; exact Nat.add_le_add_right h.2.2 4⟩
theorem Bd.int {i : Int} (h : -(10 ^ 31) ≤ i ∧ i ≤ 10 ^ 31) : Bd 0 40 (.int i) := ⟨by simpa [fine] using h, Nat.le_refl _, Nat.le_refl _⟩
theorem name_fine {x : Str} (h : nameX x = true) : fine (.str x) = true := by
  unfold nameX at h
  simp only [Bool.and_eq_true, decide_eq_true_eq, List.all_eq_true] at h
  obtain ⟨_, ⟨_, h1⟩, h2⟩ := h
  simp only [fine, Bool.and_eq_true, decide_eq_true_eq, List.all_eq_true]
  refine ⟨by omega, fun c hc => ?_⟩
  have := h2 c hc
  unfold letterB at this
  simp only [Bool.and_eq_true, decide_eq_true_eq] at this
  omega
theorem Bd.str {x : Str} (h : fine (.str x) = true) : Bd 0 220 (.str x) := ⟨h, Nat.le_refl _, Nat.le_refl _⟩
end KP
set_option Elab.async false
set_option linter.unusedVariables false
set_option maxRecDepth 100000
set_option maxHeartbeats 1000000
namespace KP
open PySem PySem.Spec PyProof.Rows L2 KA
/-- a def under its name, every parameter given -/
structure Dfn (K : PySem.W.Frag) (mg : Str → Option Value) (x : Str) (st : Stmt) (f : Addr) (fd : FuncData) (ps : List Str) : Prop where
  fn : Fun K x x st f fd
  mgf : mg x = some (.ref f)
  b : Binds K fd ps []
theorem Dfn.cal {P : Program} {w : World} {K : PySem.W.Frag} {mg : Str → Option Value} {base : Heap} {x : Str} {st : Stmt} {f : Addr} {fd : FuncData} {ps : List Str} {k : Nat} {sp : Sp} (D : Dfn K mg x st f fd ps) (F : FnOk P w K mg base CX0 k f fd ps sp) :
    C8.Cal P w K mg base k x sp [] := ⟨f, fd, ps, [], F, D.mgf, D.fn.kp, D.b, .nil⟩
/-! ### a walk over a text -/
theorem for_str {x : Str} {g : TG} {tb : TS} {D : Ends} {σ : L2.St} {H : Hp} (Pv : Nat → L2.St → Hp → Prop) (h0 : Pv 0 σ H)
    (hs : ∀ (i c : Nat) (σ : L2.St) (H : Hp), x.cps[i]? = some c → Pv i σ H → g (.str ⟨#[c]⟩) σ H fun σ2 H2 => tb { D with nx := Pv (i + 1), ct := Pv (i + 1), bk := D.nx } σ2 H2) (hd : ∀ σ H, Pv x.cps.size σ H → D.nx σ H) :
    ∃ W : Nat → Nat → L2.St → Hp → Prop, (∃ m, W 0 m σ H) ∧ ∀ i m σ H, W i m σ H →
      ((Its x).stop i H ∧ D.nx σ H) ∨ ((Its x).go i H ∧ ∃ N : L2.St → Hp → Prop, (∀ σ' H', N σ' H' → ∃ m', m' < m ∧ W (i + 1) m' σ' H') ∧ ∀ v H', (Its x).yld i H v H' → g v σ H' fun σ2 H2 => tb { D with nx := N, ct := N, bk := D.nx } σ2 H2) := by
  refine ⟨fun i m σ H => m = x.cps.size - i ∧ i ≤ x.cps.size ∧ Pv i σ H, ⟨_, rfl, Nat.zero_le _, h0⟩, ?_⟩
  rintro i m σ H ⟨rfl, hi, p⟩
  by_cases lt : i < x.cps.size
  · refine Or.inr ⟨lt, Pv (i + 1), fun σ' H' p' => ⟨x.cps.size - (i + 1), by omega, rfl, lt, p'⟩, ?_⟩
    rintro v H' ⟨rfl, c, hc, rfl⟩
    exact hs i c σ _ hc p
  · obtain rfl : i = x.cps.size := by omega
    exact Or.inl ⟨Nat.le_refl _, hd σ H p⟩
/-! ### words and what stands behind them -/
def wl : List Str := ["at", "at", "kind", "name", "thing", "maker", "eater", "all", "fun", "app", "app", "same", "self", "put"]
theorem wl_split : Txt.split (Str.ofString "at at kind name thing maker eater all fun app app same self put") (Str.ofString " ") = wl := by decide +kernel
def leaves : List (Str × List Nat) := [("at", [110]), ("kind", [104]), ("name", [119]), ("thing", [119]), ("maker", [119, 110]), ("eater", [119, 104])]
def parted : List (Str × List Nat) := [("all", [116, 116]), ("fun", [116, 116]), ("app", [116, 116]), ("same", [116, 116, 116]), ("self", [116, 116]), ("put", [116, 116, 116])]
theorem draw7 : ∀ j < 7, ∃ e ∈ leaves, wl[j]? = some e.1 := by decide +kernel
theorem draw14 : ∀ j < 14, ∃ e ∈ leaves ++ parted, wl[j]? = some e.1 := by decide +kernel
theorem form_of : ∀ e ∈ leaves ++ parted, valV formsK (.inr e.1) = some (.str ⟨e.2.toArray⟩) ∧ e.2.length ≤ 3 ∧ ∀ c ∈ e.2, c = 110 ∨ c = 104 ∨ c = 119 ∨ c = 116 := by decide +kernel
theorem leaf_not : ∀ e ∈ leaves, ∀ c ∈ e.2, c ≠ 116 := by decide +kernel
def tst (c : Nat) (d : PyData) : Bool := if c = 110 then cntB 0 d else if c = 104 then wholeB 0 5 d else if c = 119 then nameB d else tm d
def tstAll : List Nat → List PyData → Bool
  | [], [] => true
  | c :: cs, d :: ds => tst c d && tstAll cs ds
  | _, _ => false
theorem tstAll_snoc : ∀ {cs : List Nat} {ds : List PyData} {c : Nat} {d : PyData}, tstAll cs ds = true → tst c d = true → tstAll (cs ++ [c]) (ds ++ [d]) = true
  | [], [], c, d, _, h => by simp [tstAll, h]
  | a :: cs, b :: ds, c, d, h, h' => by
    have h : tst a b = true ∧ tstAll cs ds = true := by simpa [tstAll] using h
    have ih := tstAll_snoc h.2 h'
    simp only [List.cons_append, tstAll, h.1, ih, Bool.and_self]
  | [], _ :: _, _, _, h, _ => by simp [tstAll] at h
  | _ :: _, [], _, _, h, _ => by simp [tstAll] at h
theorem tst_parts : ∀ {n : Nat} {ds : List PyData}, tstAll (List.replicate n 116) ds = true → ds.length = n ∧ tmAll ds = true
  | 0, [], _ => ⟨rfl, rfl⟩
  | 0, _ :: _, h => by simp [tstAll] at h
  | n + 1, [], h => by simp [List.replicate_succ, tstAll] at h
  | n + 1, d :: ds, h => by
    rw [List.replicate_succ] at h
    have h : tst 116 d = true ∧ tstAll (List.replicate n 116) ds = true := by simpa only [tstAll, Bool.and_eq_true] using h
    obtain ⟨h1, h2⟩ := tst_parts h.2
    have h3 : tm d = true := h.1
    exact ⟨by rw [List.length_cons, h1], by simp only [tmAll, h3, h2, Bool.and_self]⟩
theorem parted_rep : ∀ e ∈ parted, ∃ n, n ≤ 3 ∧ e.2 = List.replicate n 116 ∧ parts e.1 = some n := by decide +kernel
theorem leaf_none : ∀ e ∈ leaves, parts e.1 = none := by decide +kernel
theorem one {c : Nat} : ∀ {ds : List PyData}, tstAll [c] ds = true → ∃ d, ds = [d] ∧ tst c d = true
  | [d], h => ⟨d, rfl, by simpa [tstAll] using h⟩
  | [], h => by simp [tstAll] at h
  | _ :: _ :: _, h => by simp [tstAll] at h
theorem two {a b : Nat} : ∀ {ds : List PyData}, tstAll [a, b] ds = true → ∃ d e, ds = [d, e] ∧ tst a d = true ∧ tst b e = true
  | [d, e], h => ⟨d, e, rfl, by simpa [tstAll] using h⟩
  | [], h => by simp [tstAll] at h
  | [_], h => by simp [tstAll] at h
  | _ :: _ :: _ :: _, h => by simp [tstAll] at h
theorem built {e : Str × List Nat} {ds : List PyData} (he : e ∈ leaves ++ parted) (h : tstAll e.2 ds = true) : tm (.tuple (.str e.1 :: ds)) = true := by
  rcases List.mem_append.mp he with he | he
  · rw [tm_leaf (leaf_none e he)]
    have he' : e = ((("at" : Str), [110]) : Str × List Nat) ∨ e = ((("kind" : Str), [104]) : Str × List Nat) ∨ e = ((("name" : Str), [119]) : Str × List Nat) ∨ e = ((("thing" : Str), [119]) : Str × List Nat) ∨ e = ((("maker" : Str), [119, 110]) : Str × List Nat) ∨ e = ((("eater" : Str), [119, 104]) : Str × List Nat) := by
      unfold leaves at he
      simpa only [List.mem_cons, List.not_mem_nil, or_false] using he
    rcases he' with rfl | rfl | rfl | rfl | rfl | rfl
    · obtain ⟨d, rfl, h1⟩ := one h
      exact h1
    · obtain ⟨d, rfl, h1⟩ := one h
      exact h1
    · obtain ⟨d, rfl, h1⟩ := one h
      exact h1
    · obtain ⟨d, rfl, h1⟩ := one h
      exact h1
    · obtain ⟨d, d', rfl, h1, h2⟩ := two h
      have h1 : nameB d = true := h1
      have h2 : cntB 0 d' = true := h2
      show (nameB d && cntB 0 d') = true
      rw [h1, h2]
      rfl
    · obtain ⟨d, d', rfl, h1, h2⟩ := two h
      have h1 : nameB d = true := h1
      have h2 : wholeB 0 5 d' = true := h2
      show (nameB d && (true && wholeB 0 5 d')) = true
      rw [h1, h2]
      rfl
  · obtain ⟨n, _, hr, hp⟩ := parted_rep e he
    rw [hr] at h
    obtain ⟨h1, h2⟩ := tst_parts h
    rw [tm_parts hp, h1, h2, decide_eq_true rfl]
    rfl
end KP
set_option Elab.async false
set_option linter.unusedVariables false
set_option maxRecDepth 100000
set_option maxHeartbeats 2000000
namespace KP
open PySem PySem.Spec PyProof.Rows L2 KA
/-! ### data without lists and dicts -/
mutual
def flatD : PyData → Bool
  | .tuple ds => flatAll ds
  | .list _ => false
  | .dict _ => false
  | _ => true
def flatAll : List PyData → Bool
  | [] => true
  | d :: ds => flatD d && flatAll ds
end
theorem cnt_flat {lo : Int} {d : PyData} (h : cntB lo d = true) : flatD d = true := by cases d <;> first | rfl | cases h
theorem whole_flat {lo hi : Int} {d : PyData} (h : wholeB lo hi d = true) : flatD d = true := by cases d <;> first | rfl | cases h
theorem name_flat {d : PyData} (h : nameB d = true) : flatD d = true := by cases d <;> first | rfl | cases h
theorem leaf_flat {wd : Str} : ∀ {ds : List PyData}, leafB wd ds = true → flatAll ds = true
  | [x], h => by
    have h : (if wd = "at" then cntB 0 x else if wd = "kind" then wholeB 0 5 x else (decide (wd = "name") || decide (wd = "thing")) && nameB x) = true := h
    have f : flatD x = true := by
      split at h
      · exact cnt_flat h
      · split at h
        · exact whole_flat h
        · exact name_flat (Bool.and_eq_true_iff.mp h).2
    simp only [flatAll, f, Bool.and_self]
  | [x, y], h => by
    have h : (nameB x && (if wd = "maker" then cntB 0 y else decide (wd = "eater") && wholeB 0 5 y)) = true := h
    obtain ⟨h1, h2⟩ := Bool.and_eq_true_iff.mp h
    have f : flatD y = true := by
      split at h2
      · exact cnt_flat h2
      · exact whole_flat (Bool.and_eq_true_iff.mp h2).2
    simp only [flatAll, name_flat h1, f, Bool.and_self]
  | [], h => by cases h
  | _ :: _ :: _ :: _, h => by cases h
mutual
theorem tm_flat : ∀ d : PyData, tm d = true → flatD d = true
  | .tuple [], h => by simp [tm] at h
  | .tuple (d :: ds), h => by
    cases hS : isStrD d with
    | false =>
      rw [isStr_false hS] at h
      cases h
    | true =>
      obtain ⟨wd, rfl⟩ : ∃ wd, d = .str wd := by cases d <;> first | exact ⟨_, rfl⟩ | cases hS
      cases hp : parts wd with
      | none =>
        rw [tm_leaf hp] at h
        simp only [flatD, flatAll, leaf_flat h, Bool.and_self]
      | some n =>
        rw [tm_parts hp] at h
        simp only [flatD, flatAll, tmAll_flat ds (Bool.and_eq_true_iff.mp h).2, Bool.and_self]
  | .none, h => by simp [tm] at h
  | .bool _, h => by simp [tm] at h
  | .int _, h => by simp [tm] at h
  | .str _, h => by simp [tm] at h
  | .list _, h => by simp [tm] at h
  | .dict _, h => by simp [tm] at h
theorem tmAll_flat : ∀ ds : List PyData, tmAll ds = true → flatAll ds = true
  | [], _ => rfl
  | d :: ds, h => by
    have h : tm d = true ∧ tmAll ds = true := by simpa only [tmAll, Bool.and_eq_true] using h
    simp only [flatAll, tm_flat d h.1, tmAll_flat ds h.2, Bool.and_self]
end
mutual
theorem flat_off {l : Addr} {H : Hp} {zs : List V} (e : H l = some (.lst zs)) : ∀ {v : V} {d : PyData}, Dn H v d → flatD d = true → Dn (hid l H) v d
  | _, _, .non, _ => .non
  | _, _, .bl b, _ => .bl b
  | _, _, .int i, _ => .int i
  | _, _, .str x, _ => .str x
  | _, _, .lst _ _, h => by simp [flatD] at h
  | _, _, .dic _ _ _, h => by simp [flatD] at h
  | _, _, .tup (a := a) h1 h2, h => .tup (by
      rw [hid_ne fun z => by
        rw [z, e] at h1
        cases h1]
      exact h1) (flatAll_off e h2 (by simpa only [flatD] using h))
theorem flatAll_off {l : Addr} {H : Hp} {zs : List V} (e : H l = some (.lst zs)) : ∀ {vs : List V} {ds : List PyData}, DnAll H vs ds → flatAll ds = true → DnAll (hid l H) vs ds
  | _, _, .nil, _ => .nil
  | _, _, .cons h1 h2, h => by
    simp only [flatAll, Bool.and_eq_true] at h
    exact .cons (flat_off e h1 h.1) (flatAll_off e h2 h.2)
end
/-- between two turns of the term's walk over its form -/
structure InvTm (p l q : Addr) (H : Hp) (k n : Nat) (below : Int) (e : Str × List Nat) (i : Nat) (H' : Hp) (xs : List V) (ds : List PyData) : Prop where
  at_ : H' l = some (.lst (.str e.1 :: xs))
  all : DnAll (hid l (hid p H')) xs ds
  len : ds.length = i
  tst : tstAll (e.2.take i) ds = true
  bd : BdAll k (i * (250 * 4 ^ k + 2)) ds
  purse : Purse H' p (n + 1 + i * (10 * 4 ^ k))
  same : Same (hid p H) (hid p H')
def PvTm (p l q : Addr) (H : Hp) (k n : Nat) (below : Int) (e : Str × List Nat) (i : Nat) (σ : L2.St) (H' : Hp) : Prop :=
  ∃ xs ds lt, σ = [some (.ref p), some (.int (k : Int)), some (.int below), some (.ref q), some (.str e.1), some (.ref l), lt] ∧ InvTm p l q H k n below e i H' xs ds
theorem iteP {c A B : Prop} [Decidable c] (h : c) (a : A) : if c then A else B := by
  rw [if_pos h]
  exact a
theorem iteN {c A B : Prop} [Decidable c] (h : ¬ c) (b : B) : if c then A else B := by
  rw [if_neg h]
  exact b
def spTm (lim : Nat) : Sp := fun vs H Q _ => ∃ (p : Addr) (n k : Nat) (below : Int), vs = [.ref p, .int (k : Int), .int below] ∧ Purse H p n ∧ k < lim ∧ 0 < below ∧ below ≤ 1000 ∧ n + 40 * 4 ^ k ≤ maxN ∧
  ∀ v d H', Dn (hid p H') v d → tm d = true → Bd (k + 1) (1000 * 4 ^ k) d → Purse H' p (n + 40 * 4 ^ k) → Same (hid p H) (hid p H') → Q v H'
section
variable {P : Program} {w : World} {K : PySem.W.Frag} {mg : Str → Option Value} {base : Heap}
abbrev psTm : List Str := ["_law_purse_here", "_law_depth", "_law_below"]
theorem scTm : FnScope ["_law_purse_here", "_law_depth", "_law_below", "_law_words", "_law_word_here", "_law_found", "_law_letter"] psTm (defScope sTm) := ⟨rfl, rfl, rfl, by decide +kernel, rfl, by decide +kernel, by decide +kernel⟩
/-- the list l grew by one thing -/
theorem grown {p l : Addr} {H' : Hp} {xs : List V} {ds : List PyData} {x : V} {d : PyData} {h0 : V} (lp : l ≠ p) (e : H' l = some (.lst (h0 :: xs))) (a : DnAll (hid l (hid p H')) xs ds) (b : Dn (hid l (hid p H')) x d) :
    upd H' l (.lst (h0 :: xs ++ [x])) l = some (.lst (h0 :: (xs ++ [x]))) ∧ DnAll (hid l (hid p (upd H' l (.lst (h0 :: xs ++ [x]))))) (xs ++ [x]) (ds ++ [d]) := by
  have S : Same (hid l (hid p H')) (hid l (hid p (upd H' l (.lst (h0 :: xs ++ [x]))))) := fun b o z => by
    obtain ⟨n1, z1⟩ := hid_some z
    obtain ⟨n2, z2⟩ := hid_some z1
    rw [hid_ne n1, hid_ne n2, upd_ne n1]
    exact z2
  exact ⟨upd_same, (DnAll.mono S a).snoc (Dn.mono S b)⟩
/-- one thing more behind the word -/
theorem InvTm.grow {p l q : Addr} {H H' H2 : Hp} {k n i c : Nat} {below : Int} {e : Str × List Nat} {xs : List V} {ds : List PyData} {x : V} {d : PyData} (I : InvTm p l q H k n below e i H' xs ds) (lp : l ≠ p) (lH : H l = none) (le : e.2.length ≤ 3) (hc : e.2[i]? = some c)
    (S : Same (hid p H') (hid p H2)) (hd : Dn (hid p H2) x d) (fl : flatD d = true) (t : KP.tst c d = true) (b : Bd k (250 * 4 ^ k) d) (hp : Purse H2 p (n + 1 + i * (10 * 4 ^ k) + 10 * 4 ^ k)) :
    H2 l = some (.lst (.str e.1 :: xs)) ∧ ((.str e.1 : V) :: xs).length < sizeLine ∧ InvTm p l q H k n below e (i + 1) (upd H2 l (.lst (.str e.1 :: xs ++ [x]))) (xs ++ [x]) (ds ++ [d]) := by
  have e2 : hid p H2 l = some (.lst (.str e.1 :: xs)) := S _ _ (by rw [hid_ne lp]; exact I.at_)
  have e3 := hid_sub _ _ e2
  have lt : i < e.2.length := (List.getElem?_eq_some_iff.mp hc).1
  have g := grown lp e3 (DnAll.mono (Same.less S) I.all) (flat_off e2 hd fl)
  refine ⟨e3, ?_, g.1, g.2, by rw [List.length_append, I.len]; rfl, ?_, ?_, ?_, Same.hidMut (I.same.trans S) (hid_none lH)⟩
  · have := I.all.length
    rw [List.length_cons, this, I.len]
    exact Nat.lt_of_lt_of_le (by omega : i + 1 < 5) (by decide)
  · rw [take_snoc hc]
    exact tstAll_snoc I.tst t
  · exact (I.bd.append (BdAll.one b)).mono (Nat.le_refl _) (Nat.le_of_eq (Nat.succ_mul i _).symm)
  · obtain ⟨a, b', c', z, r⟩ := hp
    refine ⟨a, b', c', by rw [upd_ne lp.symm]; exact z, ?_⟩
    have key : ∀ X : Nat, n + 1 + (i + 1) * X = n + 1 + i * X + X := fun X => by rw [Nat.add_mul, Nat.one_mul]; omega
    rw [key]
    exact r
theorem ite_both {c : Prop} [Decidable c] {t1 t2 : TE} {σ1 σ2 : L2.St} {H1 H2 : Hp} {Q : VK} (M : V → Hp → Prop) (hQ : ∀ v H, M v H → Q v H) (h1 : c → ∀ Q' : VK, (∀ v H, M v H → Q' v H) → t1 σ1 H1 Q') (h2 : ¬ c → ∀ Q' : VK, (∀ v H, M v H → Q' v H) → t2 σ2 H2 Q') :
    if c then t1 σ1 H1 Q else t2 σ2 H2 Q := ite2 (fun h => h1 h Q hQ) fun h => h2 h Q hQ
theorem ok_tm {f : Addr} {fd : FuncData} (D : Dfn K mg "_law_term" sTm f fd psTm) (T : Txt K w mg) (CT : C8.Cal P w K mg base 1 "_law_take" spTake []) (CW : C8.Cal P w K mg base 2 "_law_word" spWord []) (CF : C8.Cal P w K mg base 1 "_law_forms" spForms []) :
    ∀ lim : Nat, FnOk P w K mg base CX0 (3 + lim) f fd psTm (spTm lim)
  | 0 => ⟨fun vs H Q E h => by obtain ⟨p, n, k, b, rfl, _⟩ := h; rfl, fun A outer s H args us vs Q E hr e0 bt rv h => by obtain ⟨p, n, k, b, _, _, h0, _⟩ := h; omega⟩
  | lim + 1 => by
    have CM : C8.Cal P w K mg base (3 + lim) "_law_term" (spTm lim) [] := D.cal (ok_tm D T CT CW CF lim)
    refine D.fn.ok (k := 3 + lim) scTm (fun vs H Q E h => ?_) (fun cdv A outer s H vs Q E hr h => ?_)
    · obtain ⟨p, n, k, b, rfl, _⟩ := h
      rfl
    · obtain ⟨p, n, k, below, rfl, hp, hk, b0, b1, hn, go⟩ := h
      have hu := hu_of hr
      refine ⟨_, pss_cons (ps_set (i := 3) scTm.nd rfl (Or.inl rfl) (pe_split pe_str pe_str))
        (pss_cons (ps_set (i := 4) scTm.nd rfl (Or.inl rfl) (pe_ifExp (pt_cmpR op_eq (pv 1) pe_int (nomark _)) (pe_ix ix_list (pv 3) (C8.pe_c CT hr (by omega) rfl (pa_cons (pv 0) (pa_cons pe_int pa_nil))) (fun _ _ => rfl))
          (pe_ix ix_list (pv 3) (C8.pe_c CT hr (by omega) rfl (pa_cons (pv 0) (pa_cons pe_int pa_nil))) (fun _ _ => rfl))))
        (pss_cons (ps_set (i := 5) scTm.nd rfl (Or.inl rfl) (pe_lst (pa_cons (pv 4) pa_nil)))
        (pss_cons (ps_for PassesOwn.never rfl (pi_str (pe_dget hu (pe_c0 CF hr (by omega) rfl) (pv 4) (fun _ _ => rfl))) (pg_name (i := 6) scTm.nd rfl (Or.inl rfl))
          (pss_cons (ps_if (pt_cmpR op_eq (pv 6) pe_str (nomark _)) (pss_one (ps_expr (pe_bm PySem.F.plainAttrs_list PySem.F.slot_list_append PySem.F.type_list_append mt_append (pv 5)
              (pa_cons (C8.pe_c CT hr (by omega) rfl (pa_cons (pv 0) (pa_cons (pe_ix ix_list (pe_lst (pa_cons (pv 2) (pa_cons pe_int pa_nil))) (pe_callTy call_int1 (by rfl) T.int (by decide +kernel) (pa_cons (pe_cmpR op_eq (pv 4) pe_str (nomark _)) pa_nil)) (fun _ _ => rfl)) pa_nil))) pa_nil)))) pss_nil)
          (pss_cons (ps_if (pt_cmpR op_eq (pv 6) pe_str (nomark _)) (pss_one (ps_expr (pe_bm PySem.F.plainAttrs_list PySem.F.slot_list_append PySem.F.type_list_append mt_append (pv 5) (pa_cons (C8.pe_c CT hr (by omega) rfl (pa_cons (pv 0) (pa_cons pe_int pa_nil))) pa_nil)))) pss_nil)
          (pss_cons (ps_if (pt_cmpR op_eq (pv 6) pe_str (nomark _)) (pss_one (ps_expr (pe_bm PySem.F.plainAttrs_list PySem.F.slot_list_append PySem.F.type_list_append mt_append (pv 5) (pa_cons (C8.pe_c CW hr (by omega) rfl (pa_cons (pv 0) pa_nil)) pa_nil)))) pss_nil)
          (pss_one (ps_if (pt_cmpR op_eq (pv 6) pe_str (nomark _)) (pss_one (ps_expr (pe_bm PySem.F.plainAttrs_list PySem.F.slot_list_append PySem.F.type_list_append mt_append (pv 5) (pa_cons (C8.pe_c CM hr (by omega) rfl (pa_cons (pv 0) (pa_cons (pe_op op_sub (pv 1) pe_int) (pa_cons (pv 2) pa_nil)))) pa_nil)))) pss_nil))))))
        (pss_one (ps_ret (pe_tupleOf (by rfl) T.tuple (pv 5))))))), ?_⟩
      refine ⟨⟨_, rfl⟩, _, _, rfl, rfl, by decide +kernel, by decide +kernel, fun q hq => ?_⟩
      rw [wl_split]
      have hp1 : Purse (upd H q (.lst (wl.map V.str))) p n := hp.mono (Same.new hq)
      have S1 : Same (hid p H) (hid p (upd H q (.lst (wl.map V.str)))) := Same.less (Same.new hq)
      have eq1 : upd H q (.lst (wl.map V.str)) q = some (.lst (wl.map V.str)) := upd_same
      have qp : q ≠ p := by
        obtain ⟨_, _, _, e, _⟩ := hp
        exact (ne_of_none e hq).symm
      generalize upd H q (.lst (wl.map V.str)) = H1 at hp1 S1 eq1
      have c1 : 0 < 4 ^ k := Nat.pow_pos (by decide)
      -- the word
      refine ⟨_, rfl, rfl, _, rfl, ?_⟩
      refine ite_both (fun v H2 => ∃ e : Str × List Nat, v = .str e.1 ∧ e ∈ leaves ++ parted ∧ (k = 0 → e ∈ leaves) ∧ Purse H2 p (n + 1) ∧ Same (hid p H) (hid p H2)) ?_ (fun h Q' hQ' => ?_) (fun h Q' hQ' => ?_)
      rotate_left
      · have h : k = 0 := by
          have := V.int.inj (of_decide_eq_true h)
          omega
        refine ⟨_, rfl, .ref p, rfl, p, n, 7, rfl, hp1, by omega, by decide, by decide, fun r H2 r0 r1 p2 S2 => ?_⟩
        obtain ⟨j, rfl⟩ : ∃ j : Nat, r = (j : Int) := ⟨r.toNat, by omega⟩
        obtain ⟨e, he0, hw⟩ := draw7 j (by omega)
        exact ⟨q, _, _, _, rfl, rfl, SqL.of (hid_sub _ _ (S2 _ _ (by rw [hid_ne qp]; exact eq1))), at_of (j := j) (v := .str e.1) rfl (by rw [List.getElem?_map, hw]; rfl),
          hQ' _ _ ⟨e, rfl, List.mem_append_left _ he0, fun _ => he0, p2, S1.trans S2⟩⟩
      · have h : ¬ k = 0 := fun z => h (decide_eq_true (congrArg V.int (by rw [z]; rfl)))
        refine ⟨_, rfl, .ref p, rfl, p, n, 14, rfl, hp1, by omega, by decide, by decide, fun r H2 r0 r1 p2 S2 => ?_⟩
        obtain ⟨j, rfl⟩ : ∃ j : Nat, r = (j : Int) := ⟨r.toNat, by omega⟩
        obtain ⟨e, he, hw⟩ := draw14 j (by omega)
        exact ⟨q, _, _, _, rfl, rfl, SqL.of (hid_sub _ _ (S2 _ _ (by rw [hid_ne qp]; exact eq1))), at_of (j := j) (v := .str e.1) rfl (by rw [List.getElem?_map, hw]; rfl),
          hQ' _ _ ⟨e, rfl, he, fun z => absurd z h, p2, S1.trans S2⟩⟩
      · clear hp1 S1 eq1 H1
        rintro v H1 ⟨e, rfl, he, hl, hp1, S1⟩
        obtain ⟨ef, elen, echars⟩ := form_of e he
        refine ⟨_, rfl, (by show 1 ≤ sizeLine; decide), fun l hl0 => ?_⟩
        have lH : H l = none := by
          cases z : H l with
          | none => rfl
          | some o =>
            have lp : l ≠ p := fun y => by
              obtain ⟨_, _, _, w, _⟩ := hp1
              rw [y, w] at hl0
              cases hl0
            have := hid_sub _ _ (S1 l o (by rw [hid_ne lp]; exact z))
            rw [hl0] at this
            cases this
        have lp : l ≠ p := fun y => by
          obtain ⟨_, _, _, w, _⟩ := hp1
          rw [y, w] at hl0
          cases hl0
        refine ⟨rfl, fun fp H3 fn S3 fe => ⟨_, rfl, fp, .str ⟨e.2.toArray⟩, rfl, ef ▸ (DGet.k (k := Sum.inr e.1) fe : DGet H3 fp (.str e.1) (valV formsK (Sum.inr e.1))), ⟨e.2.toArray⟩, rfl, for_str (PvTm p l q H k n below e) ?_ ?_ ?_⟩⟩
        · refine ⟨[], [], none, rfl, S3 _ _ upd_same, .nil, rfl, by simp [tstAll], BdAll.nil, ?_, ?_⟩
          · exact (hp1.mono ((Same.new hl0).trans S3)).more (by omega)
          · exact S1.trans (Same.less ((Same.new hl0).trans S3))
        · rintro i c σ H4 hc ⟨xs, ds, lt, rfl, I⟩
          have hc : e.2[i]? = some c := by simpa using hc
          have cm : c ∈ e.2 := List.mem_of_getElem? hc
          have i3 : i < 3 := Nat.lt_of_lt_of_le (List.getElem?_eq_some_iff.mp hc).1 elen
          have iC : i * (10 * 4 ^ k) ≤ 2 * (10 * 4 ^ k) := Nat.mul_le_mul_right _ (by omega)
          rcases echars c cm with rfl | rfl | rfl | rfl
          · refine ⟨_, rfl, rfl, _, rfl, iteP (by decide +kernel) ?_⟩
            refine ⟨_, rfl, Or.inl ⟨rfl, _, SqL.of I.at_⟩, .ref p, rfl, _, rfl, (by show 2 ≤ sizeLine; decide), fun z hz => ⟨_, rfl, rfl, Or.inr ⟨_, rfl, ?_⟩⟩⟩
            have pick : ∀ b : Bool, ∃ m : Int, 0 < m ∧ m ≤ 1000 ∧ atI [V.int below, V.int 5] (if b = true then 1 else 0) = some (.int m) := fun b => by
              cases b with
              | true => exact ⟨5, by decide, by decide, rfl⟩
              | false => exact ⟨below, b0, b1, rfl⟩
            obtain ⟨m, m0, m1, hm⟩ := pick (decide (V.str e.1 = V.str "maker"))
            refine ⟨z, _, _, .int m, rfl, rfl, SqL.of upd_same, hm, p, _, m, rfl, I.purse.mono (Same.new hz), by omega, m0, by omega, fun r H5 r0 r1 p5 S5 => ?_⟩
            obtain ⟨a1, a2, a3⟩ := I.grow (x := .int r) (d := .int r) lp lH elen hc ((Same.less (Same.new hz)).trans S5) (.int r) rfl (by show decide (0 ≤ r) = true; exact decide_eq_true r0) ((Bd.int (by omega)).mono (Nat.zero_le _) (by omega)) (p5.more (by omega))
            exact ⟨l, _, _, rfl, rfl, a1, a2, ⟨_, rfl, rfl, _, rfl, iteN (by decide +kernel) ⟨_, rfl, rfl, _, rfl, iteN (by decide +kernel) ⟨_, rfl, rfl, _, rfl, iteN (by decide +kernel) ⟨_, _, _, rfl, a3⟩⟩⟩⟩⟩
          · refine ⟨_, rfl, rfl, _, rfl, iteN (by decide +kernel) ?_⟩
            refine ⟨_, rfl, rfl, _, rfl, iteP (by decide +kernel) ?_⟩
            refine ⟨_, rfl, Or.inl ⟨rfl, _, SqL.of I.at_⟩, .ref p, rfl, p, _, 6, rfl, I.purse, by omega, by decide, by decide, fun r H5 r0 r1 p5 S5 => ?_⟩
            obtain ⟨a1, a2, a3⟩ := I.grow (x := .int r) (d := .int r) lp lH elen hc S5 (.int r) rfl (by show (decide (0 ≤ r) && decide (r ≤ 5)) = true; rw [decide_eq_true r0, decide_eq_true (by omega : r ≤ 5)]; rfl) ((Bd.int (by omega)).mono (Nat.zero_le _) (by omega)) (p5.more (by omega))
            exact ⟨l, _, _, rfl, rfl, a1, a2, ⟨_, rfl, rfl, _, rfl, iteN (by decide +kernel) ⟨_, rfl, rfl, _, rfl, iteN (by decide +kernel) ⟨_, _, _, rfl, a3⟩⟩⟩⟩
          · refine ⟨_, rfl, rfl, _, rfl, iteN (by decide +kernel) ⟨_, rfl, rfl, _, rfl, iteN (by decide +kernel) ?_⟩⟩
            refine ⟨_, rfl, rfl, _, rfl, iteP (by decide +kernel) ?_⟩
            refine ⟨_, rfl, Or.inl ⟨rfl, _, SqL.of I.at_⟩, .ref p, rfl, p, _, rfl, I.purse, by omega, fun x H5 nx p5 S5 => ?_⟩
            obtain ⟨a1, a2, a3⟩ := I.grow (x := .str x) (d := .str x) lp lH elen hc S5 (.str x) rfl nx ((Bd.str (name_fine nx)).mono (Nat.zero_le _) (by omega)) (p5.more (by omega))
            exact ⟨l, _, _, rfl, rfl, a1, a2, ⟨_, rfl, rfl, _, rfl, iteN (by decide +kernel) ⟨_, _, _, rfl, a3⟩⟩⟩
          · have k0 : k ≠ 0 := fun z => leaf_not e (hl z) 116 cm rfl
            obtain ⟨k', rfl⟩ : ∃ k', k = k' + 1 := ⟨k - 1, by omega⟩
            have pw : 4 ^ (k' + 1) = 4 * 4 ^ k' := by rw [Nat.pow_succ, Nat.mul_comm]
            refine ⟨_, rfl, rfl, _, rfl, iteN (by decide +kernel) ⟨_, rfl, rfl, _, rfl, iteN (by decide +kernel) ⟨_, rfl, rfl, _, rfl, iteN (by decide +kernel) ?_⟩⟩⟩
            refine ⟨_, rfl, rfl, _, rfl, iteP (by decide +kernel) ?_⟩
            refine ⟨_, rfl, Or.inl ⟨rfl, _, SqL.of I.at_⟩, .ref p, rfl, _, rfl, _, _, rfl, rfl, _, rfl, p, _, k', below, ?_, I.purse, by omega, b0, b1, by omega, fun x d H5 dx tx bx p5 S5 => ?_⟩
            · show [V.ref p, V.int (((k' + 1 : Nat) : Int) - 1), V.int below] = _
              rw [show (((k' + 1 : Nat) : Int) - 1) = (k' : Int) by omega]
            obtain ⟨a1, a2, a3⟩ := I.grow lp lH elen hc S5 dx (tm_flat d tx) tx (bx.mono (Nat.le_refl _) (by omega)) (p5.more (by omega))
            exact ⟨l, _, _, rfl, rfl, a1, a2, _, _, _, rfl, a3⟩
        · rintro σ H4 ⟨xs, ds, lt, rfl, I⟩
          have I2 := I.tst
          have sz : (⟨e.2.toArray⟩ : Str).cps.size = e.2.length := by simp
          rw [sz, List.take_length] at I2
          refine ⟨_, rfl, Or.inl ⟨l, _, rfl, SqL.of I.at_, fun z hz => ?_⟩⟩
          have S6 : Same (hid p H4) (hid p (upd H4 z (.tup (.str e.1 :: xs)))) := Same.less (Same.new hz)
          have zp : z ≠ p := fun y => by
            obtain ⟨_, _, _, w, _⟩ := I.purse
            rw [y, w] at hz
            cases hz
          have lenb : ds.length ≤ 3 := by
            rw [I.len, sz]
            exact elen
          have bl : (⟨e.2.toArray⟩ : Str).cps.size * (250 * 4 ^ k + 2) ≤ 3 * (250 * 4 ^ k + 2) := Nat.mul_le_mul_right _ (by rw [sz]; exact elen)
          have cl : (⟨e.2.toArray⟩ : Str).cps.size * (10 * 4 ^ k) ≤ 3 * (10 * 4 ^ k) := Nat.mul_le_mul_right _ (by rw [sz]; exact elen)
          refine go _ (.tuple (.str e.1 :: ds)) _ (.tup (by rw [hid_ne zp, upd_same]) (.cons (.str _) (DnAll.mono (fun b o y => S6 _ _ (hid_sub _ _ y)) I.all))) (built he I2) ?_ ((I.purse.mono (Same.new hz)).more (by omega)) (I.same.trans S6)
          refine (Bd.tup (BdAll.cons (b := 220) ?_ I.bd)).mono (Nat.le_refl _) (by omega)
          exact (Bd.str (by
            have : ∀ e ∈ leaves ++ parted, fine (.str e.1) = true := by decide +kernel
            exact this e he)).mono (Nat.zero_le _) (Nat.le_refl _)
end
end KP
set_option Elab.async false
set_option linter.unusedVariables false
set_option maxRecDepth 100000
set_option maxHeartbeats 1000000
namespace KP
open PySem PySem.Spec PyProof.Rows L2 KA
/-! ### the refusal of what is no term -/
def clsB : Stmt → List Stmt | .ClassDef (body := b) .. => b | _ => []
abbrev sInit : Stmt := (clsB (top 4)).headD (.Pass ⟨0, 0, 0, 0⟩)
abbrev sWant : Stmt := top 19
abbrev sApplied : Stmt := top 20
abbrev sOpened : Stmt := top 21
abbrev sGiven : Stmt := top 7
abbrev sHead : Stmt := top 8
structure NoT (K : PySem.W.Frag) (mg : Str → Option Value) (C U fI : Addr) (fdI : FuncData) : Prop where
  oex : OexC K C
  up : UpC K U
  gU : mg "PaperError" = some (.ref U)
  gC : mg "NoTerm" = some (.ref C)
  iC : PySem.W.findIn K (.ref C) "__init__" = some (some (.ref fI))
  tI : PySem.W.typeIn K (.ref fI) = some (.type "function")
  noF : PySem.W.findIn K (.ref C) "found" = some none
  fn : Fun K "__init__" "NoTerm.__init__" sInit fI fdI
  b : Binds K fdI ["self", "found"] []
  xf : XfC K C
  te : PySem.W.exmOne K (.ref C) (.ref C) = some true
def spErr (C : Addr) : Sp := fun vs H Q _ => ∃ a v, vs = [.ref a, v] ∧ H a = some (exo a C none) ∧ ∀ dx, H dx = none → dx ≠ a → Q .non (upd (upd H dx (exd dx [("found", v)])) a (exo a C (some dx)))
theorem gone_same {H : Hp} {a d : Addr} {u e u' x : HO} (ha : H a = none) (hd : H d = none) : Same H (upd (del (upd (upd (upd H a u) d e) a u') a) d x) := fun b o z => by
  have na : b ≠ a := ne_of_none z ha
  have nd : b ≠ d := ne_of_none z hd
  rw [upd_ne nd, del_ne na, upd_ne na, upd_ne nd, upd_ne na]
  exact z
section
variable {P : Program} {w : World} {K : PySem.W.Frag} {mg : Str → Option Value} {base : Heap} {C U fI : Addr} {fdI : FuncData}
theorem scInit : FnScope ["self", "found"] ["self", "found"] (defScope sInit) := ⟨rfl, rfl, rfl, by decide +kernel, rfl, by decide +kernel, by decide +kernel⟩
theorem ok_init (Z : NoT K mg C U fI fdI) : FnOk P w K mg base CX0 1 fI fdI ["self", "found"] (spErr C) := by
  refine Z.fn.ok scInit (fun vs H Q E h => ?_) (fun cdv A outer s H vs Q E hr h => ?_)
  · obtain ⟨a, v, rfl, _⟩ := h
    rfl
  · obtain ⟨a, v, rfl, ha, k⟩ := h
    refine ⟨_, pss_cons (ps_expr (pe_upinit Z.up rfl Z.gU (pa_cons (pv 0) (pa_cons pe_str pa_nil)))) (pss_one (ps_ost (pv 0) (pv 1))), ?_⟩
    refine ⟨_, rfl, a, C, _, rfl, (by decide), Z.oex, ha, ?_⟩
    exact ⟨v, rfl, .ref a, rfl, a, C, rfl, Z.oex, Z.noF, Or.inl ⟨ha, fun dx n ne => k dx n ne⟩⟩
/-- what is refused, where it is no term -/
def spWant (C : Addr) : Sp := fun vs H Q E => ∃ v d, vs = [v] ∧ Dn H v d ∧ okT d ∧ (tm d = true → ∀ H', Same H H' → Q .non H') ∧ (tm d = false → ∀ dx H', Same H H' → H' dx = some (.xd [("found", v)]) → E (.ref C) (some dx) H')
theorem scWant : FnScope ["thing"] ["thing"] (defScope sWant) := ⟨rfl, rfl, rfl, by decide +kernel, rfl, by decide +kernel, by decide +kernel⟩
theorem ok_want {f : Addr} {fd : FuncData} (F : Fun K "want_term" "want_term" sWant f fd) (Z : NoT K mg C U fI fdI) (CT : C8.Cal P w K mg base 4 "is_term" (sp1 okT tm) []) : FnOk P w K mg base (L2.CX P w) 5 f fd ["thing"] (spWant C) := by
  refine F.okX scWant (fun vs H Q E h => ?_) (fun cdv A outer s H vs Q E hr h => ?_)
  · obtain ⟨v, d, rfl, _⟩ := h
    rfl
  · obtain ⟨v, d, rfl, hd, ok, yes, no⟩ := h
    refine ⟨_, pss_one (ps_if (pt_not (pt_val (C8.pe_c CT hr (by decide) rfl (pa_cons (pv 0) pa_nil)))) (pss_one (ps_raise rfl (takes_of rfl rfl rfl rfl) (pmk_oex Z.oex Z.iC Z.tI (ok_init Z) (hr.mono (by decide)) Z.b .nil pass0 rfl Z.gC (pa_cons (pv 0) pa_nil)))) pss_nil), ?_⟩
    refine ⟨v, rfl, v, d, rfl, hd, ok, fun H1 S1 => ⟨_, rfl, ?_⟩⟩
    cases ht : tm d with
    | true => exact iteF (yes ht H1 S1)
    | false =>
      refine iteT ⟨v, rfl, (by show 1 ≤ 1000; decide), fun a ha => ⟨a, v, rfl, upd_same, fun dx hdx ne => ⟨rfl, dx, [("found", v)], upd_same, ?_, ?_, ?_⟩⟩⟩
      · rw [upd_ne ne, upd_same]
      · rw [upd_ne ne] at hdx
        exact hdx
      · rw [upd_ne ne] at hdx
        exact no ht dx _ (S1.trans (gone_same ha hdx)) upd_same
end
end KP
set_option Elab.async false
set_option linter.unusedVariables false
set_option maxRecDepth 100000
set_option maxHeartbeats 1000000
namespace KP
open PySem PySem.Spec PyProof.Rows L2 KA
theorem call_isSeq {X : Cx} : CallR X (.builtin "isinstance") (fun xs H Q => ∃ x tp d, xs = [x, .ref tp] ∧ H tp = some (.tup [.ty "list", .ty "tuple"]) ∧ Dn H x d ∧ Q (.bl (isLstD d || isTupD d)) H) := by
  intro pins s σ H xs us Q I r h
  obtain ⟨x, tp, d, rfl, ht, hd, q⟩ := h
  refine call_isiT pins s σ H _ us Q I r ⟨x, tp, _, _, [.type "list", .type "tuple"], _, rfl, ht, .cons (.ty _) (.cons (.ty _) .nil), hd.ty, ?_, q⟩
  have h1 := kit_ty (K := X.K) (is_lst d)
  have h2 := kit_ty (K := X.K) (is_tup d)
  unfold PySem.W.kitAny
  rw [h1]
  cases isLstD d with
  | true => rfl
  | false =>
    simp only [PySem.W.kitAny, h2]
    cases isTupD d <;> rfl
/-! ### terms given -/
def appsD (h : PyData) : List PyData → PyData
  | [] => h
  | d :: ds => appsD (.tuple [.str "app", h, d]) ds
theorem appsD_snoc : ∀ (ds : List PyData) (h d : PyData), appsD h (ds ++ [d]) = .tuple [.str "app", appsD h ds, d]
  | [], h, d => rfl
  | e :: ds, h, d => appsD_snoc ds (.tuple [.str "app", h, e]) d
/-- at a list or a tuple of data -/
def SeqD (H : Hp) (v : V) (ds : List PyData) : Prop := ∃ a xs, v = .ref a ∧ (H a = some (.lst xs) ∨ H a = some (.tup xs)) ∧ DnAll H xs ds
theorem SeqD.mono {H H' : Hp} {v : V} {ds : List PyData} (S : Same H H') (h : SeqD H v ds) : SeqD H' v ds := by
  obtain ⟨a, xs, rfl, h, d⟩ := h
  exact ⟨a, xs, rfl, h.elim (fun h => .inl (S _ _ h)) fun h => .inr (S _ _ h), DnAll.mono S d⟩
def spGiven : Sp := fun vs H Q _ => ∃ v u d ds, vs = [v, u] ∧ Dn H v d ∧ SeqD H u ds ∧ ∀ r H', Same H H' → Dn H' r (appsD d ds) → Q r H'
/-- one app more -/
theorem app_new {H : Hp} {v u : V} {d e : PyData} {Q : VK} (hv : Dn H v d) (hu : Dn H u e) (q : ∀ r H', Same H H' → Dn H' r (.tuple [.str "app", d, e]) → Q r H') : ∀ a, H a = none → Q (.ref a) (upd H a (.tup [.str "app", v, u])) := fun a ha => by
  have n : Same H (upd H a (.tup [.str "app", v, u])) := Same.new ha
  exact q _ _ n (.tup upd_same (.cons (.str _) (.cons (Dn.mono n hv) (.one (Dn.mono n hu)))))
section
variable {P : Program} {w : World} {K : PySem.W.Frag} {mg : Str → Option Value} {base : Heap}
theorem scGiven : FnScope ["head", "some", "made", "term"] ["head", "some"] (defScope sGiven) := ⟨rfl, rfl, rfl, by decide +kernel, rfl, by decide +kernel, by decide +kernel⟩
theorem ok_given {f : Addr} {fd : FuncData} (F : Fun K "given_all" "given_all" sGiven f fd) : FnOk P w K mg base CX0 1 f fd ["head", "some"] spGiven := by
  refine F.ok scGiven (fun vs H Q E h => ?_) (fun cdv A outer s H vs Q E hr h => ?_)
  · obtain ⟨v, u, d, ds, rfl, _⟩ := h
    rfl
  · obtain ⟨v, u, d, ds, rfl, hv, ⟨a, xs, rfl, ha, dx⟩, k⟩ := h
    have lx := dx.length
    have step : ∀ {σ : L2.St} {H1 : Hp} {i : Nat} {x : V} {D : Ends}, xs[i]? = some x → (∃ m t, σ = [some v, some (.ref a), some m, t] ∧ Same H H1 ∧ Dn H1 m (appsD d (ds.take i))) →
        (∀ σ' H', (∃ m t, σ' = [some v, some (.ref a), some m, t] ∧ Same H H' ∧ Dn H' m (appsD d (ds.take (i + 1)))) → D.nx σ' H') →
        tAsg (tTup (tCons (tC (.str "app")) (tCons (tVar 2) (tCons (tVar 3) tNil)))) (gName 2) D (σ.set 3 (some x)) H1 := by
      rintro σ H1 i x D hx ⟨m, t, rfl, S, dm⟩ nx
      obtain ⟨e, he, de⟩ := dx.at hx
      refine ⟨m, rfl, x, rfl, (by show 3 ≤ sizeLine; decide), app_new dm (Dn.mono S de) fun r H2 S2 dr => nx _ _ ⟨r, some x, rfl, S.trans S2, ?_⟩⟩
      rw [take_snoc he, appsD_snoc]
      exact dr
    rcases ha with ha | ha
    · refine ⟨_, pss_cons (ps_set (i := 2) scGiven.nd rfl (Or.inl rfl) (pv 0)) (pss_cons (ps_for PassesOwn.never rfl (pi_list (pv 1)) (pg_name (i := 3) scGiven.nd rfl (Or.inl rfl))
        (pss_one (ps_set (i := 2) scGiven.nd rfl (Or.inl rfl) (pe_tup (pa_cons pe_str (pa_cons (pv 2) (pa_cons (pv 3) pa_nil))))))) (pss_one (ps_ret (pv 2)))), ?_⟩
      refine ⟨v, rfl, .ref a, rfl, a, rfl, ⟨xs, SqL.of ha⟩, for_list (K := K) (a := a) (xs := xs) (fun i σ H' => ∃ m t, σ = [some v, some (.ref a), some m, t] ∧ Same H H' ∧ Dn H' m (appsD d (ds.take i))) ⟨v, none, rfl, Same.refl H, hv⟩ (fun i σ H' _ q => by obtain ⟨_, _, _, S, _⟩ := q; exact SqL.of (S _ _ ha)) (fun i x σ H' hx q => step hx q fun _ _ z => z) ?_⟩
      rintro σ H' ⟨m, t, rfl, S, dm⟩
      rw [List.take_of_length_le (by omega)] at dm
      exact ⟨m, rfl, k m H' S dm⟩
    · refine ⟨_, pss_cons (ps_set (i := 2) scGiven.nd rfl (Or.inl rfl) (pv 0)) (pss_cons (ps_for PassesOwn.never rfl (pi_tup (pv 1)) (pg_name (i := 3) scGiven.nd rfl (Or.inl rfl))
        (pss_one (ps_set (i := 2) scGiven.nd rfl (Or.inl rfl) (pe_tup (pa_cons pe_str (pa_cons (pv 2) (pa_cons (pv 3) pa_nil))))))) (pss_one (ps_ret (pv 2)))), ?_⟩
      refine ⟨v, rfl, .ref a, rfl, a, rfl, ⟨xs, SqT.of ha⟩, for_tup (K := K) (a := a) (xs := xs) (fun i σ H' => ∃ m t, σ = [some v, some (.ref a), some m, t] ∧ Same H H' ∧ Dn H' m (appsD d (ds.take i))) ⟨v, none, rfl, Same.refl H, hv⟩ (fun i σ H' _ q => by obtain ⟨_, _, _, S, _⟩ := q; exact SqT.of (S _ _ ha)) (fun i x σ H' hx q => step hx q fun _ _ z => z) ?_⟩
      rintro σ H' ⟨m, t, rfl, S, dm⟩
      rw [List.take_of_length_le (by omega)] at dm
      exact ⟨m, rfl, k m H' S dm⟩
end
end KP
set_option Elab.async false
set_option linter.unusedVariables false
set_option maxRecDepth 100000
set_option maxHeartbeats 1000000
namespace KP
open PySem PySem.Spec PyProof.Rows L2 KA
/-! ### a term opened -/
inductive Op : PyData → PyData → List PyData → Prop
  | done {d : PyData} : (∀ f a, d ≠ .tuple [.str "app", f, a]) → Op d d []
  | app {f a h : PyData} {l : List PyData} : Op f h l → Op (.tuple [.str "app", f, a]) h (l ++ [a])
theorem tm_inv {d : PyData} (h : tm d = true) : ∃ wd ds, d = .tuple (.str wd :: ds) := by
  cases hT : isTupD d with
  | false =>
    rw [isTup_false hT] at h
    cases h
  | true =>
    obtain ⟨ds, rfl⟩ : ∃ ds, d = .tuple ds := by cases d <;> first | exact ⟨_, rfl⟩ | cases hT
    cases ds with
    | nil => simp [tm] at h
    | cons e ds =>
      cases hS : isStrD e with
      | false =>
        rw [isStr_false hS] at h
        cases h
      | true =>
        obtain ⟨wd, rfl⟩ : ∃ wd, e = .str wd := by cases e <;> first | exact ⟨_, rfl⟩ | cases hS
        exact ⟨wd, ds, rfl⟩
theorem tm_app {ds : List PyData} (h : tm (.tuple (.str "app" :: ds)) = true) : ∃ f a, ds = [f, a] ∧ tm f = true ∧ tm a = true := by
  rw [tm_parts (wd := "app") (n := 2) (by decide +kernel)] at h
  simp only [Bool.and_eq_true, decide_eq_true_eq] at h
  obtain ⟨h1, h2⟩ := h
  match ds, h1, h2 with
  | [f, a], _, h2 =>
    simp only [tmAll, Bool.and_eq_true] at h2
    exact ⟨f, a, rfl, h2.1, h2.2.1⟩
theorem op_other {wd : Str} {ds : List PyData} {h : PyData} {l : List PyData} (ne : wd ≠ "app") (o : Op (.tuple (.str wd :: ds)) h l) : h = .tuple (.str wd :: ds) ∧ l = [] := by
  cases o with
  | done _ => exact ⟨rfl, rfl⟩
  | app _ => exact absurd rfl ne
theorem op_app {f a h : PyData} {l : List PyData} (o : Op (.tuple [.str "app", f, a]) h l) : ∃ l', l = l' ++ [a] ∧ Op f h l' := by
  cases o with
  | done n => exact absurd rfl (n f a)
  | app o => exact ⟨_, rfl, o⟩
theorem op_ex : ∀ (n : Nat) (d : PyData), d.depth ≤ n → tm d = true → ∃ h l, Op d h l ∧ l.length ≤ n
  | n, d, hd, ht => by
    obtain ⟨wd, ds, rfl⟩ := tm_inv ht
    by_cases e : wd = "app"
    · subst e
      obtain ⟨f, a, rfl, tf, ta⟩ := tm_app ht
      cases n with
      | zero =>
        simp only [PyData.depth] at hd
        omega
      | succ n =>
        obtain ⟨h, l, o, hl⟩ := op_ex n f (by simp only [PyData.depth, PyData.depthAll] at hd; omega) tf
        exact ⟨h, l ++ [a], .app o, by rw [List.length_append]; exact Nat.succ_le_succ hl⟩
    · refine ⟨_, [], .done fun f a z => e ?_, Nat.zero_le _⟩
      have := PyData.tuple.inj z
      exact PyData.str.inj (List.cons.inj this).1
theorem dn_rev {H : Hp} : ∀ {xs : List V} {ds : List PyData}, DnAll H xs ds → DnAll H xs.reverse ds.reverse
  | _, _, .nil => .nil
  | _, _, .cons h t => by
    rw [List.reverse_cons, List.reverse_cons]
    exact (dn_rev t).snoc h
def spHead : Sp := fun vs H Q _ => ∃ v d h l, vs = [v] ∧ Dn H v d ∧ tm d = true ∧ Op d h l ∧ l.length ≤ 1000 ∧
  ∀ t q hv xs H', Same H H' → H q = none → H' t = some (.tup [hv, .ref q]) → H' q = some (.lst xs) → Dn (hid q H') hv h → DnAll (hid q H') xs l → Q (.ref t) H'
section
variable {P : Program} {w : World} {K : PySem.W.Frag} {mg : Str → Option Value} {base : Heap}
theorem scHead : FnScope ["term", "head", "given"] ["term"] (defScope sHead) := ⟨rfl, rfl, rfl, by decide +kernel, rfl, by decide +kernel, by decide +kernel⟩
theorem ok_head {f : Addr} {fd : FuncData} (F : Fun K "head_and_given" "head_and_given" sHead f fd) : FnOk P w K mg base CX0 1 f fd ["term"] spHead := by
  refine F.ok scHead (fun vs H Q E h => ?_) (fun cdv A outer s H vs Q E hr h => ?_)
  · obtain ⟨v, d, h, l, rfl, _⟩ := h
    rfl
  · obtain ⟨v, d, h, l, rfl, hd, ht, ho, hl, k⟩ := h
    refine ⟨_, pss_cons (ps_set (i := 1) scHead.nd rfl (Or.inl rfl) (pv 0)) (pss_cons (ps_set (i := 2) scHead.nd rfl (Or.inl rfl) (pe_lst pa_nil))
      (pss_cons (ps_while PassesOwn.never (pt_cmpR op_eq (pe_ix ix_tup (pv 1) pe_int (fun _ _ => rfl)) pe_str (nomark _))
        (pss_cons (ps_expr (pe_bm PySem.F.plainAttrs_list PySem.F.slot_list_append PySem.F.type_list_append mt_append (pv 2) (pa_cons (pe_ix ix_tup (pv 1) pe_int (fun _ _ => rfl)) pa_nil)))
          (pss_one (ps_set (i := 1) scHead.nd rfl (Or.inl rfl) (pe_ix ix_tup (pv 1) pe_int (fun _ _ => rfl))))))
      (pss_cons (ps_expr (pe_bm0 PySem.F.plainAttrs_list PySem.F.slot_list_reverse PySem.F.type_list_reverse mt_reverse (pv 2)))
      (pss_one (ps_ret (pe_tup (pa_cons (pv 1) (pa_cons (pv 2) pa_nil)))))))), ?_⟩
    refine ⟨v, rfl, Nat.zero_le _, fun q hq => ?_⟩
    refine ⟨fun m σ H' => ∃ hv d' xs l' gs, σ = [some v, some hv, some (.ref q)] ∧ H' q = some (.lst xs) ∧ Same H (hid q H') ∧ Dn (hid q H') hv d' ∧ tm d' = true ∧ Op d' h l' ∧ l = l' ++ gs.reverse ∧ DnAll (hid q H') xs gs ∧ m = l'.length,
      ⟨l.length, v, d, [], l, [], rfl, upd_same, ?_, ?_, ht, ho, (by simp), .nil, rfl⟩, ?_⟩
    · rw [hid_upd]
      exact Same.to_hid (Same.refl H) hq
    · rw [hid_upd]
      exact Dn.mono (Same.to_hid (Same.refl H) hq) hd
    rintro m σ H' ⟨hv, d', xs, l', gs, rfl, eq, S, dv, tv, ov, el, dx, rfl⟩
    obtain ⟨wd, ds, rfl⟩ := tm_inv tv
    obtain ⟨a, zs, rfl, ha, dz⟩ := tup_inv dv
    obtain ⟨z0, zr, rfl, h0, dr⟩ := cons_inv dz
    obtain rfl := str_inv h0
    have ha' : H' a = some (.tup (.str wd :: zr)) := hid_sub _ _ ha
    refine ⟨.ref a, rfl, a, _, 0, _, rfl, rfl, SqT.of ha', at_of (j := 0) rfl rfl, rfl, _, rfl, ?_⟩
    by_cases e : wd = "app"
    · subst e
      obtain ⟨f, b, rfl, tf, tb⟩ := tm_app tv
      obtain ⟨z1, zr, rfl, d1, dr⟩ := cons_inv dr
      obtain ⟨z2, zr, rfl, d2, dr⟩ := cons_inv dr
      obtain rfl := nil_inv dr
      obtain ⟨l2, rfl, o2⟩ := op_app ov
      rw [decide_eq_true rfl]
      refine iteT ⟨fun σ' H2 => ∃ m', m' < (l2 ++ [b]).length ∧ ∃ hv d' xs l' gs, σ' = [some v, some hv, some (.ref q)] ∧ H2 q = some (.lst xs) ∧ Same H (hid q H2) ∧ Dn (hid q H2) hv d' ∧ tm d' = true ∧ Op d' h l' ∧ l = l' ++ gs.reverse ∧ DnAll (hid q H2) xs gs ∧ m' = l'.length, fun σ' H2 z => z, ?_⟩
      have lx := dx.length
      have ll := congrArg List.length el
      simp only [List.length_append, List.length_reverse, List.length_singleton] at ll
      refine ⟨.ref q, rfl, Or.inl ⟨rfl, _, SqL.of eq⟩, .ref a, rfl, a, _, 2, _, rfl, rfl, SqT.of ha', at_of (j := 2) rfl rfl, q, xs, z2, rfl, rfl, eq, small1000 (by omega), ?_⟩
      have aq : a ≠ q := (hid_some ha).1
      refine ⟨.ref a, rfl, a, _, 1, _, rfl, rfl, SqT.of ((upd_ne aq).trans ha'), at_of (j := 1) rfl rfl, ?_⟩
      refine ⟨l2.length, by rw [List.length_append, List.length_singleton]; omega, z1, f, xs ++ [z2], l2, gs ++ [b], rfl, upd_same, ?_, ?_, tf, o2, ?_, ?_, rfl⟩
      · rw [hid_upd]
        exact S
      · rw [hid_upd]
        exact d1
      · rw [el, List.reverse_append]
        simp
      · rw [hid_upd]
        exact dx.snoc d2
    · obtain ⟨rfl, rfl⟩ := op_other e ov
      have en : decide (V.str wd = V.str (Str.ofString "app")) = false := decide_eq_false fun z => e (V.str.inj z)
      rw [en]
      refine iteF ⟨.ref q, rfl, Or.inl ⟨rfl, _, SqL.of eq⟩, q, xs, rfl, rfl, eq, ?_⟩
      refine ⟨.ref a, rfl, .ref q, rfl, (by show 2 ≤ sizeLine; decide), fun t ht => ?_⟩
      have e1 : upd H' q (.lst xs.reverse) q = some (.lst xs.reverse) := upd_same
      have tq : t ≠ q := fun z => by
        rw [z, upd_same] at ht
        cases ht
      have S2 : Same (hid q H') (hid q (upd (upd H' q (.lst xs.reverse)) t (.tup [.ref a, .ref q]))) := fun c o z => by
        obtain ⟨nc, zc⟩ := hid_some z
        have hc : upd H' q (.lst xs.reverse) c = some o := (upd_ne nc).trans zc
        rw [hid_ne nc, upd_ne (ne_of_none hc ht)]
        exact hc
      have rev : DnAll (hid q H') xs.reverse gs.reverse := dn_rev dx
      have el2 : l = gs.reverse := by rw [el]; rfl
      exact k t q (.ref a) xs.reverse _ (fun c o z => hid_sub _ _ (S2 _ _ (S c o z))) hq upd_same ((upd_ne tq.symm).trans e1) (Dn.mono S2 dv) (DnAll.mono S2 (el2 ▸ rev))
end
end KP
set_option Elab.async false
set_option linter.unusedVariables false
set_option maxRecDepth 100000
set_option maxHeartbeats 1000000
namespace KP
open PySem PySem.Spec PyProof.Rows L2 KA
/-! ### applied and opened, with their refusals -/
def itemsD : PyData → List PyData
  | .list ds => ds
  | .tuple ds => ds
  | _ => []
def badD : List PyData → Option PyData
  | [] => none
  | d :: ds => if tm d = true then badD ds else some d
theorem lst_inv {H : Hp} {v : V} {ds : List PyData} (h : Dn H v (.list ds)) : ∃ a xs, v = .ref a ∧ H a = some (.lst xs) ∧ DnAll H xs ds := by
  cases h with
  | lst e c => exact ⟨_, _, rfl, e, c⟩
/-- what is refused, if anything -/
def dueA (d e : PyData) : Option PyData := if tm d = true then (if isLstD e || isTupD e then badD (itemsD e) else some e) else some d
theorem badD_all : ∀ {ds : List PyData}, tmAll ds = true → badD ds = none
  | [], _ => rfl
  | d :: ds, h => by
    simp only [tmAll, Bool.and_eq_true] at h
    show (if tm d = true then badD ds else some d) = none
    rw [if_pos h.1, badD_all h.2]
theorem badD_none : ∀ {ds : List PyData}, badD ds = none → tmAll ds = true
  | [], _ => rfl
  | d :: ds, h => by
    have h : (if tm d = true then badD ds else some d) = none := h
    cases t : tm d with
    | true =>
      rw [if_pos t] at h
      simp only [tmAll, t, badD_none h, Bool.and_self]
    | false =>
      rw [t, if_neg Bool.false_ne_true] at h
      cases h
theorem badD_at : ∀ {ds : List PyData} {i : Nat} {d : PyData}, ds[i]? = some d → badD (ds.take i) = none → tm d = false → badD ds = some d
  | [], _, _, h, _, _ => by cases h
  | e :: ds, 0, d, h, _, t => by
    cases h
    show (if tm e = true then badD ds else some e) = some e
    rw [t, if_neg Bool.false_ne_true]
  | e :: ds, i + 1, d, h, n, t => by
    have n : (if tm e = true then badD (ds.take i) else some e) = none := n
    cases te : tm e with
    | true =>
      rw [if_pos te] at n
      show (if tm e = true then badD ds else some e) = some d
      rw [if_pos te]
      exact badD_at (i := i) h n t
    | false =>
      rw [te, if_neg Bool.false_ne_true] at n
      cases n
theorem badD_snoc : ∀ {ds : List PyData} {d : PyData}, badD ds = none → tm d = true → badD (ds ++ [d]) = none
  | [], d, _, t => by
    show (if tm d = true then badD [] else some d) = none
    rw [if_pos t]
    rfl
  | e :: ds, d, n, t => by
    have n : (if tm e = true then badD ds else some e) = none := n
    cases te : tm e with
    | true =>
      rw [if_pos te] at n
      show (if tm e = true then badD (ds ++ [d]) else some e) = none
      rw [if_pos te]
      exact badD_snoc n t
    | false =>
      rw [te, if_neg Bool.false_ne_true] at n
      cases n
def spApplied (C : Addr) : Sp := fun vs H Q E => ∃ v u d e, vs = [v, u] ∧ Dn H v d ∧ Dn H u e ∧ okT d ∧ (∀ g ∈ itemsD e, okT g) ∧ (dueA d e = none → ∀ r H', Same H H' → Dn H' r (appsD d (itemsD e)) → Q r H') ∧
  (∀ g, dueA d e = some g → ∀ dx x H', Same H H' → H' dx = some (.xd [("found", x)]) → Dn H' x g → E (.ref C) (some dx) H')
def spOpened (C : Addr) : Sp := fun vs H Q E => ∃ v d, vs = [v] ∧ Dn H v d ∧ okT d ∧
  ((tm d = true ∧ ∃ h l, Op d h l ∧ l.length ≤ 1000 ∧ ∀ t q hv xs H', Same H H' → H q = none → H' t = some (.tup [hv, .ref q]) → H' q = some (.lst xs) → Dn (hid q H') hv h → DnAll (hid q H') xs l → Q (.ref t) H') ∨
    (tm d = false ∧ ∀ dx H', Same H H' → H' dx = some (.xd [("found", v)]) → E (.ref C) (some dx) H'))
section
variable {P : Program} {w : World} {K : PySem.W.Frag} {mg : Str → Option Value} {base : Heap} {C U fI fW : Addr} {fdI fdW : FuncData}
theorem scOpened : FnScope ["term"] ["term"] (defScope sOpened) := ⟨rfl, rfl, rfl, by decide +kernel, rfl, by decide +kernel, by decide +kernel⟩
theorem ok_opened {f : Addr} {fd : FuncData} (F : Fun K "opened" "opened" sOpened f fd) (W : FnOk P w K mg base (L2.CX P w) 5 fW fdW ["thing"] (spWant C)) (mW : mg "want_term" = some (.ref fW)) (kW : PySem.W.keepIn K (.ref fW) = true) (bW : Binds K fdW ["thing"] [])
    (CH : C8.Cal P w K mg base 1 "head_and_given" spHead []) : FnOk P w K mg base (L2.CX P w) 6 f fd ["term"] (spOpened C) := by
  refine F.okX scOpened (fun vs H Q E h => ?_) (fun cdv A outer s H vs Q E hr h => ?_)
  · obtain ⟨v, d, rfl, _⟩ := h
    rfl
  · obtain ⟨v, d, rfl, hd, ok, h⟩ := h
    refine ⟨_, pss_cons (ps_expr (pe_callS W (hr.mono (by decide)) rfl mW kW bW (fun σ => passAt (takes_of rfl rfl rfl rfl) σ) (pa_cons (pv 0) pa_nil)))
      (pss_one (ps_ret (C8.pe_c CH hr (by decide) rfl (pa_cons (pv 0) pa_nil)))), ?_⟩
    rcases h with ⟨t, h, l, o, ll, k⟩ | ⟨t, k⟩
    · refine ⟨v, rfl, v, d, rfl, hd, ok, fun _ H1 S1 => ?_, fun z => ?_⟩
      · exact ⟨v, rfl, v, d, h, l, rfl, Dn.mono S1 hd, t, o, ll, fun t q hv xs H' S n e1 e2 d1 d2 => k t q hv xs H' (S1.trans S) (S1.free n) e1 e2 d1 d2⟩
      · rw [t] at z
        cases z
    · refine ⟨v, rfl, v, d, rfl, hd, ok, fun z => ?_, fun _ dx H1 S1 e => k dx H1 S1 e⟩
      rw [t] at z
      cases z
theorem scApplied : FnScope ["head", "some", "term"] ["head", "some"] (defScope sApplied) := ⟨rfl, rfl, rfl, by decide +kernel, rfl, by decide +kernel, by decide +kernel⟩
theorem ok_applied {f : Addr} {fd : FuncData} (F : Fun K "applied" "applied" sApplied f fd) (T : Txt K w mg) (Z : NoT K mg C U fI fdI) (W : FnOk P w K mg base (L2.CX P w) 5 fW fdW ["thing"] (spWant C)) (mW : mg "want_term" = some (.ref fW)) (kW : PySem.W.keepIn K (.ref fW) = true) (bW : Binds K fdW ["thing"] [])
    (CG : C8.Cal P w K mg base 1 "given_all" spGiven []) : FnOk P w K mg base (L2.CX P w) 6 f fd ["head", "some"] (spApplied C) := by
  refine F.okX scApplied (fun vs H Q E h => ?_) (fun cdv A outer s H vs Q E hr h => ?_)
  · obtain ⟨v, u, d, e, rfl, _⟩ := h
    rfl
  · obtain ⟨v, u, d, e, rfl, hd, he, ok, oks, told, bad⟩ := h
    cases ht : tm d with
    | false =>
      refine ⟨_, pss_cons (ps_expr (pe_callS W (hr.mono (by decide)) rfl mW kW bW (fun σ => passAt (takes_of rfl rfl rfl rfl) σ) (pa_cons (pv 0) pa_nil)))
        (pss_cons (ps_if (pt_not (pt_val (pe_callB call_isSeq (by rfl) T.isi (by decide +kernel) (pa_cons (pv 1) (pa_cons (pe_tup (pa_cons (pe_bltn (v := .ty "list") rfl T.list (by decide +kernel) rfl) (pa_cons (pe_bltn (v := .ty "tuple") rfl T.tuple (by decide +kernel) rfl) pa_nil))) pa_nil)))))
          (pss_one (ps_raise rfl (takes_of rfl rfl rfl rfl) (pmk_oex Z.oex Z.iC Z.tI (ok_init Z) (hr.mono (by decide)) Z.b .nil pass0 rfl Z.gC (pa_cons (pv 1) pa_nil)))) pss_nil)
        (pss_cons (ps_for (passes_of rfl) rfl (pi_list (pv 1)) (pg_name (i := 2) scApplied.nd rfl (Or.inl rfl)) (pss_one (ps_expr (pe_callS W (hr.mono (by decide)) rfl mW kW bW (fun σ => passAt (takes_of rfl rfl rfl rfl) σ) (pa_cons (pv 2) pa_nil)))))
        (pss_one (ps_ret (C8.pe_c CG hr (by decide) rfl (pa_cons (pv 0) (pa_cons (pv 1) pa_nil))))))), ?_⟩
      refine ⟨v, rfl, v, d, rfl, hd, ok, fun z => ?_, fun _ dx H1 S1 e1 => ?_⟩
      · rw [ht] at z
        cases z
      · exact bad d (by unfold dueA; rw [ht]; rfl) dx v H1 S1 e1 (Dn.mono S1 hd)
    | true =>
      cases e with
      | list ds =>
        refine ⟨_, pss_cons (ps_expr (pe_callS W (hr.mono (by decide)) rfl mW kW bW (fun σ => passAt (takes_of rfl rfl rfl rfl) σ) (pa_cons (pv 0) pa_nil)))
        (pss_cons (ps_if (pt_not (pt_val (pe_callB call_isSeq (by rfl) T.isi (by decide +kernel) (pa_cons (pv 1) (pa_cons (pe_tup (pa_cons (pe_bltn (v := .ty "list") rfl T.list (by decide +kernel) rfl) (pa_cons (pe_bltn (v := .ty "tuple") rfl T.tuple (by decide +kernel) rfl) pa_nil))) pa_nil)))))
          (pss_one (ps_raise rfl (takes_of rfl rfl rfl rfl) (pmk_oex Z.oex Z.iC Z.tI (ok_init Z) (hr.mono (by decide)) Z.b .nil pass0 rfl Z.gC (pa_cons (pv 1) pa_nil)))) pss_nil)
        (pss_cons (ps_for (passes_of rfl) rfl (pi_list (pv 1)) (pg_name (i := 2) scApplied.nd rfl (Or.inl rfl)) (pss_one (ps_expr (pe_callS W (hr.mono (by decide)) rfl mW kW bW (fun σ => passAt (takes_of rfl rfl rfl rfl) σ) (pa_cons (pv 2) pa_nil)))))
        (pss_one (ps_ret (C8.pe_c CG hr (by decide) rfl (pa_cons (pv 0) (pa_cons (pv 1) pa_nil))))))), ?_⟩
        refine ⟨v, rfl, v, d, rfl, hd, ok, fun _ H1 S1 => ?_, fun z => ?_⟩
        · refine ⟨u, rfl, (by show 2 ≤ sizeLine; decide), fun tp ntp => ⟨u, tp, _, rfl, upd_same, Dn.mono (S1.trans (Same.new ntp)) he, _, rfl, iteF ?_⟩⟩
          have S2 := S1.trans (Same.new (o := .tup [.ty "list", .ty "tuple"]) ntp)
          obtain ⟨a, xs, rfl, ha, dx⟩ := lst_inv he
          have lx := dx.length
          refine ⟨.ref a, rfl, a, rfl, ⟨xs, SqL.of (S2 _ _ ha)⟩, for_list (K := K) (a := a) (xs := xs) (fun i σ H' => ∃ t, σ = [some v, some (.ref a), t] ∧ Same H H' ∧ badD (ds.take i) = none) ⟨none, rfl, S2, rfl⟩ (fun i σ H' _ q => by obtain ⟨_, _, S, _⟩ := q; exact SqL.of (S _ _ ha)) ?_ ?_⟩
          · rintro i x σ H3 hx ⟨t, rfl, S3, bn⟩
            obtain ⟨g, hg, dg⟩ := dx.at hx
            refine ⟨x, rfl, x, g, rfl, Dn.mono S3 dg, oks g (List.mem_of_getElem? hg), fun tg H4 S4 => ⟨some x, rfl, S3.trans S4, ?_⟩, fun tg dd H4 S4 e4 => ?_⟩
            · rw [take_snoc hg]
              exact badD_snoc bn tg
            · exact bad g (by unfold dueA; rw [if_pos ht]; exact badD_at hg bn tg) dd x H4 (S3.trans S4) e4 (Dn.mono (S3.trans S4) dg)
          · rintro σ H3 ⟨t, rfl, S3, bn⟩
            rw [List.take_of_length_le (by omega)] at bn
            refine ⟨v, rfl, .ref a, rfl, v, .ref a, d, ds, rfl, Dn.mono S3 hd, SeqD.mono S3 ⟨a, xs, rfl, Or.inl ha, dx⟩, fun r H4 S4 dr => ?_⟩
            exact told (by unfold dueA; rw [if_pos ht]; exact bn) r H4 (S3.trans S4) dr
        · rw [ht] at z
          cases z
      | tuple ds =>
        refine ⟨_, pss_cons (ps_expr (pe_callS W (hr.mono (by decide)) rfl mW kW bW (fun σ => passAt (takes_of rfl rfl rfl rfl) σ) (pa_cons (pv 0) pa_nil)))
        (pss_cons (ps_if (pt_not (pt_val (pe_callB call_isSeq (by rfl) T.isi (by decide +kernel) (pa_cons (pv 1) (pa_cons (pe_tup (pa_cons (pe_bltn (v := .ty "list") rfl T.list (by decide +kernel) rfl) (pa_cons (pe_bltn (v := .ty "tuple") rfl T.tuple (by decide +kernel) rfl) pa_nil))) pa_nil)))))
          (pss_one (ps_raise rfl (takes_of rfl rfl rfl rfl) (pmk_oex Z.oex Z.iC Z.tI (ok_init Z) (hr.mono (by decide)) Z.b .nil pass0 rfl Z.gC (pa_cons (pv 1) pa_nil)))) pss_nil)
        (pss_cons (ps_for (passes_of rfl) rfl (pi_tup (pv 1)) (pg_name (i := 2) scApplied.nd rfl (Or.inl rfl)) (pss_one (ps_expr (pe_callS W (hr.mono (by decide)) rfl mW kW bW (fun σ => passAt (takes_of rfl rfl rfl rfl) σ) (pa_cons (pv 2) pa_nil)))))
        (pss_one (ps_ret (C8.pe_c CG hr (by decide) rfl (pa_cons (pv 0) (pa_cons (pv 1) pa_nil))))))), ?_⟩
        refine ⟨v, rfl, v, d, rfl, hd, ok, fun _ H1 S1 => ?_, fun z => ?_⟩
        · refine ⟨u, rfl, (by show 2 ≤ sizeLine; decide), fun tp ntp => ⟨u, tp, _, rfl, upd_same, Dn.mono (S1.trans (Same.new ntp)) he, _, rfl, iteF ?_⟩⟩
          have S2 := S1.trans (Same.new (o := .tup [.ty "list", .ty "tuple"]) ntp)
          obtain ⟨a, xs, rfl, ha, dx⟩ := tup_inv he
          have lx := dx.length
          refine ⟨.ref a, rfl, a, rfl, ⟨xs, SqT.of (S2 _ _ ha)⟩, for_tup (K := K) (a := a) (xs := xs) (fun i σ H' => ∃ t, σ = [some v, some (.ref a), t] ∧ Same H H' ∧ badD (ds.take i) = none) ⟨none, rfl, S2, rfl⟩ (fun i σ H' _ q => by obtain ⟨_, _, S, _⟩ := q; exact SqT.of (S _ _ ha)) ?_ ?_⟩
          · rintro i x σ H3 hx ⟨t, rfl, S3, bn⟩
            obtain ⟨g, hg, dg⟩ := dx.at hx
            refine ⟨x, rfl, x, g, rfl, Dn.mono S3 dg, oks g (List.mem_of_getElem? hg), fun tg H4 S4 => ⟨some x, rfl, S3.trans S4, ?_⟩, fun tg dd H4 S4 e4 => ?_⟩
            · rw [take_snoc hg]
              exact badD_snoc bn tg
            · exact bad g (by unfold dueA; rw [if_pos ht]; exact badD_at hg bn tg) dd x H4 (S3.trans S4) e4 (Dn.mono (S3.trans S4) dg)
          · rintro σ H3 ⟨t, rfl, S3, bn⟩
            rw [List.take_of_length_le (by omega)] at bn
            refine ⟨v, rfl, .ref a, rfl, v, .ref a, d, ds, rfl, Dn.mono S3 hd, SeqD.mono S3 ⟨a, xs, rfl, Or.inr ha, dx⟩, fun r H4 S4 dr => ?_⟩
            exact told (by unfold dueA; rw [if_pos ht]; exact bn) r H4 (S3.trans S4) dr
        · rw [ht] at z
          cases z
      | none =>
        refine ⟨_, pss_cons (ps_expr (pe_callS W (hr.mono (by decide)) rfl mW kW bW (fun σ => passAt (takes_of rfl rfl rfl rfl) σ) (pa_cons (pv 0) pa_nil)))
        (pss_cons (ps_if (pt_not (pt_val (pe_callB call_isSeq (by rfl) T.isi (by decide +kernel) (pa_cons (pv 1) (pa_cons (pe_tup (pa_cons (pe_bltn (v := .ty "list") rfl T.list (by decide +kernel) rfl) (pa_cons (pe_bltn (v := .ty "tuple") rfl T.tuple (by decide +kernel) rfl) pa_nil))) pa_nil)))))
          (pss_one (ps_raise rfl (takes_of rfl rfl rfl rfl) (pmk_oex Z.oex Z.iC Z.tI (ok_init Z) (hr.mono (by decide)) Z.b .nil pass0 rfl Z.gC (pa_cons (pv 1) pa_nil)))) pss_nil)
        (pss_cons (ps_for (passes_of rfl) rfl (pi_list (pv 1)) (pg_name (i := 2) scApplied.nd rfl (Or.inl rfl)) (pss_one (ps_expr (pe_callS W (hr.mono (by decide)) rfl mW kW bW (fun σ => passAt (takes_of rfl rfl rfl rfl) σ) (pa_cons (pv 2) pa_nil)))))
        (pss_one (ps_ret (C8.pe_c CG hr (by decide) rfl (pa_cons (pv 0) (pa_cons (pv 1) pa_nil))))))), ?_⟩
        refine ⟨v, rfl, v, d, rfl, hd, ok, fun _ H1 S1 => ?_, fun z => ?_⟩
        · refine ⟨u, rfl, (by show 2 ≤ sizeLine; decide), fun tp ntp => ⟨u, tp, _, rfl, upd_same, Dn.mono (S1.trans (Same.new ntp)) he, _, rfl, iteT ⟨u, rfl, (by show 1 ≤ 1000; decide), fun a ha => ⟨a, u, rfl, upd_same, fun dx hdx ne => ⟨rfl, dx, [("found", u)], upd_same, ?_, ?_, ?_⟩⟩⟩⟩⟩
          · rw [upd_ne ne, upd_same]
          · rw [upd_ne ne] at hdx
            exact hdx
          · rw [upd_ne ne] at hdx
            have S2 := S1.trans (Same.new (o := .tup [.ty "list", .ty "tuple"]) ntp)
            have S3 := S2.trans (gone_same (u := exo a C none) (e := exd dx [("found", u)]) (u' := exo a C (some dx)) (x := .xd [("found", u)]) ha hdx)
            exact bad _ (by unfold dueA; rw [if_pos ht]; rfl) dx u _ S3 upd_same (Dn.mono S3 he)
        · rw [ht] at z
          cases z
      | bool b =>
        refine ⟨_, pss_cons (ps_expr (pe_callS W (hr.mono (by decide)) rfl mW kW bW (fun σ => passAt (takes_of rfl rfl rfl rfl) σ) (pa_cons (pv 0) pa_nil)))
        (pss_cons (ps_if (pt_not (pt_val (pe_callB call_isSeq (by rfl) T.isi (by decide +kernel) (pa_cons (pv 1) (pa_cons (pe_tup (pa_cons (pe_bltn (v := .ty "list") rfl T.list (by decide +kernel) rfl) (pa_cons (pe_bltn (v := .ty "tuple") rfl T.tuple (by decide +kernel) rfl) pa_nil))) pa_nil)))))
          (pss_one (ps_raise rfl (takes_of rfl rfl rfl rfl) (pmk_oex Z.oex Z.iC Z.tI (ok_init Z) (hr.mono (by decide)) Z.b .nil pass0 rfl Z.gC (pa_cons (pv 1) pa_nil)))) pss_nil)
        (pss_cons (ps_for (passes_of rfl) rfl (pi_list (pv 1)) (pg_name (i := 2) scApplied.nd rfl (Or.inl rfl)) (pss_one (ps_expr (pe_callS W (hr.mono (by decide)) rfl mW kW bW (fun σ => passAt (takes_of rfl rfl rfl rfl) σ) (pa_cons (pv 2) pa_nil)))))
        (pss_one (ps_ret (C8.pe_c CG hr (by decide) rfl (pa_cons (pv 0) (pa_cons (pv 1) pa_nil))))))), ?_⟩
        refine ⟨v, rfl, v, d, rfl, hd, ok, fun _ H1 S1 => ?_, fun z => ?_⟩
        · refine ⟨u, rfl, (by show 2 ≤ sizeLine; decide), fun tp ntp => ⟨u, tp, _, rfl, upd_same, Dn.mono (S1.trans (Same.new ntp)) he, _, rfl, iteT ⟨u, rfl, (by show 1 ≤ 1000; decide), fun a ha => ⟨a, u, rfl, upd_same, fun dx hdx ne => ⟨rfl, dx, [("found", u)], upd_same, ?_, ?_, ?_⟩⟩⟩⟩⟩
          · rw [upd_ne ne, upd_same]
          · rw [upd_ne ne] at hdx
            exact hdx
          · rw [upd_ne ne] at hdx
            have S2 := S1.trans (Same.new (o := .tup [.ty "list", .ty "tuple"]) ntp)
            have S3 := S2.trans (gone_same (u := exo a C none) (e := exd dx [("found", u)]) (u' := exo a C (some dx)) (x := .xd [("found", u)]) ha hdx)
            exact bad _ (by unfold dueA; rw [if_pos ht]; rfl) dx u _ S3 upd_same (Dn.mono S3 he)
        · rw [ht] at z
          cases z
      | int i =>
        refine ⟨_, pss_cons (ps_expr (pe_callS W (hr.mono (by decide)) rfl mW kW bW (fun σ => passAt (takes_of rfl rfl rfl rfl) σ) (pa_cons (pv 0) pa_nil)))
        (pss_cons (ps_if (pt_not (pt_val (pe_callB call_isSeq (by rfl) T.isi (by decide +kernel) (pa_cons (pv 1) (pa_cons (pe_tup (pa_cons (pe_bltn (v := .ty "list") rfl T.list (by decide +kernel) rfl) (pa_cons (pe_bltn (v := .ty "tuple") rfl T.tuple (by decide +kernel) rfl) pa_nil))) pa_nil)))))
          (pss_one (ps_raise rfl (takes_of rfl rfl rfl rfl) (pmk_oex Z.oex Z.iC Z.tI (ok_init Z) (hr.mono (by decide)) Z.b .nil pass0 rfl Z.gC (pa_cons (pv 1) pa_nil)))) pss_nil)
        (pss_cons (ps_for (passes_of rfl) rfl (pi_list (pv 1)) (pg_name (i := 2) scApplied.nd rfl (Or.inl rfl)) (pss_one (ps_expr (pe_callS W (hr.mono (by decide)) rfl mW kW bW (fun σ => passAt (takes_of rfl rfl rfl rfl) σ) (pa_cons (pv 2) pa_nil)))))
        (pss_one (ps_ret (C8.pe_c CG hr (by decide) rfl (pa_cons (pv 0) (pa_cons (pv 1) pa_nil))))))), ?_⟩
        refine ⟨v, rfl, v, d, rfl, hd, ok, fun _ H1 S1 => ?_, fun z => ?_⟩
        · refine ⟨u, rfl, (by show 2 ≤ sizeLine; decide), fun tp ntp => ⟨u, tp, _, rfl, upd_same, Dn.mono (S1.trans (Same.new ntp)) he, _, rfl, iteT ⟨u, rfl, (by show 1 ≤ 1000; decide), fun a ha => ⟨a, u, rfl, upd_same, fun dx hdx ne => ⟨rfl, dx, [("found", u)], upd_same, ?_, ?_, ?_⟩⟩⟩⟩⟩
          · rw [upd_ne ne, upd_same]
          · rw [upd_ne ne] at hdx
            exact hdx
          · rw [upd_ne ne] at hdx
            have S2 := S1.trans (Same.new (o := .tup [.ty "list", .ty "tuple"]) ntp)
            have S3 := S2.trans (gone_same (u := exo a C none) (e := exd dx [("found", u)]) (u' := exo a C (some dx)) (x := .xd [("found", u)]) ha hdx)
            exact bad _ (by unfold dueA; rw [if_pos ht]; rfl) dx u _ S3 upd_same (Dn.mono S3 he)
        · rw [ht] at z
          cases z
      | str x =>
        refine ⟨_, pss_cons (ps_expr (pe_callS W (hr.mono (by decide)) rfl mW kW bW (fun σ => passAt (takes_of rfl rfl rfl rfl) σ) (pa_cons (pv 0) pa_nil)))
        (pss_cons (ps_if (pt_not (pt_val (pe_callB call_isSeq (by rfl) T.isi (by decide +kernel) (pa_cons (pv 1) (pa_cons (pe_tup (pa_cons (pe_bltn (v := .ty "list") rfl T.list (by decide +kernel) rfl) (pa_cons (pe_bltn (v := .ty "tuple") rfl T.tuple (by decide +kernel) rfl) pa_nil))) pa_nil)))))
          (pss_one (ps_raise rfl (takes_of rfl rfl rfl rfl) (pmk_oex Z.oex Z.iC Z.tI (ok_init Z) (hr.mono (by decide)) Z.b .nil pass0 rfl Z.gC (pa_cons (pv 1) pa_nil)))) pss_nil)
        (pss_cons (ps_for (passes_of rfl) rfl (pi_list (pv 1)) (pg_name (i := 2) scApplied.nd rfl (Or.inl rfl)) (pss_one (ps_expr (pe_callS W (hr.mono (by decide)) rfl mW kW bW (fun σ => passAt (takes_of rfl rfl rfl rfl) σ) (pa_cons (pv 2) pa_nil)))))
        (pss_one (ps_ret (C8.pe_c CG hr (by decide) rfl (pa_cons (pv 0) (pa_cons (pv 1) pa_nil))))))), ?_⟩
        refine ⟨v, rfl, v, d, rfl, hd, ok, fun _ H1 S1 => ?_, fun z => ?_⟩
        · refine ⟨u, rfl, (by show 2 ≤ sizeLine; decide), fun tp ntp => ⟨u, tp, _, rfl, upd_same, Dn.mono (S1.trans (Same.new ntp)) he, _, rfl, iteT ⟨u, rfl, (by show 1 ≤ 1000; decide), fun a ha => ⟨a, u, rfl, upd_same, fun dx hdx ne => ⟨rfl, dx, [("found", u)], upd_same, ?_, ?_, ?_⟩⟩⟩⟩⟩
          · rw [upd_ne ne, upd_same]
          · rw [upd_ne ne] at hdx
            exact hdx
          · rw [upd_ne ne] at hdx
            have S2 := S1.trans (Same.new (o := .tup [.ty "list", .ty "tuple"]) ntp)
            have S3 := S2.trans (gone_same (u := exo a C none) (e := exd dx [("found", u)]) (u' := exo a C (some dx)) (x := .xd [("found", u)]) ha hdx)
            exact bad _ (by unfold dueA; rw [if_pos ht]; rfl) dx u _ S3 upd_same (Dn.mono S3 he)
        · rw [ht] at z
          cases z
      | dict kvs =>
        refine ⟨_, pss_cons (ps_expr (pe_callS W (hr.mono (by decide)) rfl mW kW bW (fun σ => passAt (takes_of rfl rfl rfl rfl) σ) (pa_cons (pv 0) pa_nil)))
        (pss_cons (ps_if (pt_not (pt_val (pe_callB call_isSeq (by rfl) T.isi (by decide +kernel) (pa_cons (pv 1) (pa_cons (pe_tup (pa_cons (pe_bltn (v := .ty "list") rfl T.list (by decide +kernel) rfl) (pa_cons (pe_bltn (v := .ty "tuple") rfl T.tuple (by decide +kernel) rfl) pa_nil))) pa_nil)))))
          (pss_one (ps_raise rfl (takes_of rfl rfl rfl rfl) (pmk_oex Z.oex Z.iC Z.tI (ok_init Z) (hr.mono (by decide)) Z.b .nil pass0 rfl Z.gC (pa_cons (pv 1) pa_nil)))) pss_nil)
        (pss_cons (ps_for (passes_of rfl) rfl (pi_list (pv 1)) (pg_name (i := 2) scApplied.nd rfl (Or.inl rfl)) (pss_one (ps_expr (pe_callS W (hr.mono (by decide)) rfl mW kW bW (fun σ => passAt (takes_of rfl rfl rfl rfl) σ) (pa_cons (pv 2) pa_nil)))))
        (pss_one (ps_ret (C8.pe_c CG hr (by decide) rfl (pa_cons (pv 0) (pa_cons (pv 1) pa_nil))))))), ?_⟩
        refine ⟨v, rfl, v, d, rfl, hd, ok, fun _ H1 S1 => ?_, fun z => ?_⟩
        · refine ⟨u, rfl, (by show 2 ≤ sizeLine; decide), fun tp ntp => ⟨u, tp, _, rfl, upd_same, Dn.mono (S1.trans (Same.new ntp)) he, _, rfl, iteT ⟨u, rfl, (by show 1 ≤ 1000; decide), fun a ha => ⟨a, u, rfl, upd_same, fun dx hdx ne => ⟨rfl, dx, [("found", u)], upd_same, ?_, ?_, ?_⟩⟩⟩⟩⟩
          · rw [upd_ne ne, upd_same]
          · rw [upd_ne ne] at hdx
            exact hdx
          · rw [upd_ne ne] at hdx
            have S2 := S1.trans (Same.new (o := .tup [.ty "list", .ty "tuple"]) ntp)
            have S3 := S2.trans (gone_same (u := exo a C none) (e := exd dx [("found", u)]) (u' := exo a C (some dx)) (x := .xd [("found", u)]) ha hdx)
            exact bad _ (by unfold dueA; rw [if_pos ht]; rfl) dx u _ S3 upd_same (Dn.mono S3 he)
        · rw [ht] at z
          cases z
end
end KP
set_option Elab.async false
set_option linter.unusedVariables false
set_option maxRecDepth 100000
set_option maxHeartbeats 1000000
namespace KA
open PySem PySem.Spec PyProof.Rows L2
/-- a call of a def that is promised where nothing is being shown -/
theorem pe_callG {X : Cx} {k : Nat} {f : Addr} {fd : FuncData} {ps : List Str} {sp : Sp} {x : Str} {p pos : Pos} {e : Expr} {es : List Expr} {t : TA} (F : FnG X.prog X.w X.K X.mg X.base CX0 k f fd ps sp) (quiet : X.A.guards = some []) (room : Room k X.A) (glob : Gl X x) (is : X.mg x = some (.ref f))
    (kept : PySem.W.keepIn X.K (.ref f) = true) (bind : Binds X.K fd ps []) (args : PA X (e :: es) t) (nd : (x == ("__debug__" : Str)) = false := by decide) (st : starEach (e :: es) X.env = (false, eval e X.env) :: starEach es X.env := by rfl) (plain : (backTo pos (starEach es X.env)).any (·.1) = false := by rfl) :
    PE X (.Call (.Name x p) (e :: es) [] pos) (tCall sp [] C8.E0 t) := by
  refine ⟨fun pins s σ H Q I want => ?_⟩
  refine wpAny_Call_Name_kw (ld_glob I glob is ?_ nd)
  refine PySem.W.callWith_K (h₀ := X.base) I.ok.mod.kin kept (thn (args.run pos pins s σ H _ I want) ?_) st plain
  rintro us t1 ⟨vs, G, J, rv, q⟩
  rw [List.append_nil] at q
  have many : us.length = ps.length := by rw [← rv.length]; exact F.len _ _ _ _ q
  have bt := bind t1 us J.kIn (by rw [List.append_nil]; exact many)
  rw [List.append_nil] at bt
  refine ⟨J.kIn, wpAny_call (codeAny_mono (F.run X.A X.stack t1 G ⟨us, []⟩ us vs Q _ quiet room J.env0 bt rv q) fun r t2 z => ?_)⟩
  cases r with
  | error er => exact False.elim z
  | ok fl =>
    cases fl with
    | ret u => exact J.after z
    | next => exact False.elim z
    | brk => exact False.elim z
    | cont => exact False.elim z
end KA
namespace KP
open PySem PySem.Spec PyProof.Rows L2 KA
abbrev sLApp : Stmt := top 29
abbrev sLOp : Stmt := top 30
abbrev sLCau : Stmt := top 31
abbrev sLNo : Stmt := top 32
def spLOp (lim : Nat) : Sp := fun vs H Q _ => ∃ v d h l, vs = [v] ∧ Dn H v d ∧ tm d = true ∧ Op d h l ∧ l.length < lim ∧ lim ≤ 1000 ∧ ∀ r H', Same H H' → Dn H' r (.tuple [h, .list l]) → Q r H'
def spCaught : Sp := fun vs H Q _ => ∃ v u d e g, vs = [v, u] ∧ Dn H v d ∧ Dn H u e ∧ okT d ∧ (∀ g ∈ itemsD e, okT g) ∧ dueA d e = some g ∧ ∀ r H', Same H H' → Dn H' r (.tuple [.str "term", g]) → Q r H'
section
variable {P : Program} {w : World} {K : PySem.W.Frag} {mg : Str → Option Value} {base : Heap} {C U fI fA fO : Addr} {fdI fdA fdO : FuncData}
theorem scLApp : FnScope ["_law_head", "_law_some", "_law_found", "_law_part"] ["_law_head", "_law_some"] (defScope sLApp) := ⟨rfl, rfl, rfl, by decide +kernel, rfl, by decide +kernel, by decide +kernel⟩
theorem ok_lapp {f : Addr} {fd : FuncData} (D : Dfn K mg "_law_applied" sLApp f fd ["_law_head", "_law_some"]) : FnOk P w K mg base CX0 1 f fd ["_law_head", "_law_some"] (fun vs H Q E => ∃ v u d ds, vs = [v, u] ∧ Dn H v d ∧ Dn H u (.list ds) ∧ ∀ r H', Same H H' → Dn H' r (appsD d ds) → Q r H') := by
  refine D.fn.ok scLApp (fun vs H Q E h => ?_) (fun cdv A outer s H vs Q E hr h => ?_)
  · obtain ⟨v, u, d, ds, rfl, _⟩ := h
    rfl
  · obtain ⟨v, u, d, ds, rfl, hv, hu, k⟩ := h
    obtain ⟨a, xs, rfl, ha, dx⟩ := lst_inv hu
    have lx := dx.length
    refine ⟨_, pss_cons (ps_set (i := 2) scLApp.nd rfl (Or.inl rfl) (pv 0)) (pss_cons (ps_for PassesOwn.never rfl (pi_list (pv 1)) (pg_name (i := 3) scLApp.nd rfl (Or.inl rfl))
        (pss_one (ps_set (i := 2) scLApp.nd rfl (Or.inl rfl) (pe_tup (pa_cons pe_str (pa_cons (pv 2) (pa_cons (pv 3) pa_nil))))))) (pss_one (ps_ret (pv 2)))), ?_⟩
    refine ⟨v, rfl, .ref a, rfl, a, rfl, ⟨xs, SqL.of ha⟩, for_list (K := K) (a := a) (xs := xs) (fun i σ H' => ∃ m t, σ = [some v, some (.ref a), some m, t] ∧ Same H H' ∧ Dn H' m (appsD d (ds.take i))) ⟨v, none, rfl, Same.refl H, hv⟩ (fun i σ H' _ q => by obtain ⟨_, _, _, S, _⟩ := q; exact SqL.of (S _ _ ha)) ?_ ?_⟩
    · rintro i x σ H1 hx ⟨m, t, rfl, S, dm⟩
      obtain ⟨e, he, de⟩ := dx.at hx
      refine ⟨m, rfl, x, rfl, (by show 3 ≤ sizeLine; decide), fun b hb => ?_⟩
      have n := Same.new (o := .tup [.str "app", m, x]) hb
      refine ⟨.ref b, some x, rfl, S.trans n, ?_⟩
      rw [take_snoc he, appsD_snoc]
      exact .tup upd_same (.cons (.str _) (.cons (Dn.mono n dm) (.one (Dn.mono (S.trans n) de))))
    · rintro σ H' ⟨m, t, rfl, S, dm⟩
      rw [List.take_of_length_le (by omega)] at dm
      exact ⟨m, rfl, k m H' S dm⟩
theorem scLOp : FnScope ["_law_term_here", "_law_head", "_law_some"] ["_law_term_here"] (defScope sLOp) := ⟨rfl, rfl, rfl, by decide +kernel, rfl, by decide +kernel, by decide +kernel⟩
theorem ok_lop {f : Addr} {fd : FuncData} (D : Dfn K mg "_law_opened" sLOp f fd ["_law_term_here"]) : ∀ lim : Nat, FnOk P w K mg base CX0 (1 + lim) f fd ["_law_term_here"] (spLOp lim)
  | 0 => ⟨fun vs H Q E h => by obtain ⟨v, d, hh, l, rfl, _⟩ := h; rfl, fun A outer s H args us vs Q E hr e0 bt rv h => by obtain ⟨v, d, hh, l, _, _, _, _, h0, _⟩ := h; exact absurd h0 (Nat.not_lt_zero _)⟩
  | lim + 1 => by
    have CR : C8.Cal P w K mg base (1 + lim) "_law_opened" (spLOp lim) [] := D.cal (ok_lop D lim)
    refine D.fn.ok (k := 1 + lim) scLOp (fun vs H Q E h => ?_) (fun cdv A outer s H vs Q E hr h => ?_)
    · obtain ⟨v, d, hh, l, rfl, _⟩ := h
      rfl
    · obtain ⟨v, d, hh, l, rfl, hd, ht, ho, hl, lm, k⟩ := h
      refine ⟨_, pss_cons (ps_if (pt_cmpR op_ne (pe_ix ix_tup (pv 0) pe_int (fun _ _ => rfl)) pe_str (nomark _)) (pss_one (ps_ret (pe_tup (pa_cons (pv 0) (pa_cons (pe_lst pa_nil) pa_nil))))) pss_nil)
        (pss_cons (ps_asg (C8.pe_c CR hr (by omega) rfl (pa_cons (pe_ix ix_tup (pv 0) pe_int (fun _ _ => rfl)) pa_nil)) (pg_tup rfl (pgs_cons (pg_name (i := 1) scLOp.nd rfl (Or.inl rfl)) (pgs_cons (pg_name (i := 2) scLOp.nd rfl (Or.inl rfl)) pgs_nil))))
        (pss_one (ps_ret (pe_tup (pa_cons (pv 1) (pa_cons (pe_op op_cat (pv 2) (pe_lst (pa_cons (pe_ix ix_tup (pv 0) pe_int (fun _ _ => rfl)) pa_nil))) pa_nil)))))), ?_⟩
      obtain ⟨wd, ds, rfl⟩ := tm_inv ht
      obtain ⟨a, zs, rfl, ha, dz⟩ := tup_inv hd
      obtain ⟨z0, zr, rfl, h0, dr⟩ := cons_inv dz
      obtain rfl := str_inv h0
      refine ⟨.ref a, rfl, a, _, 0, _, rfl, rfl, SqT.of ha, at_of (j := 0) rfl rfl, rfl, _, rfl, ?_⟩
      by_cases e : wd = "app"
      · subst e
        obtain ⟨f, b, rfl, tf, tb⟩ := tm_app ht
        obtain ⟨z1, zr, rfl, d1, dr⟩ := cons_inv dr
        obtain ⟨z2, zr, rfl, d2, dr⟩ := cons_inv dr
        obtain rfl := nil_inv dr
        obtain ⟨l2, rfl, o2⟩ := op_app ho
        rw [List.length_append, List.length_singleton] at hl
        rw [decide_eq_true rfl]
        refine iteF ⟨.ref a, rfl, a, _, 1, _, rfl, rfl, SqT.of ha, at_of (j := 1) rfl rfl, z1, f, hh, l2, rfl, d1, tf, o2, by omega, by omega, fun r H1 S1 dr1 => ?_⟩
        obtain ⟨p, ws, rfl, hp, dw⟩ := tup_inv dr1
        obtain ⟨w1, ws, rfl, dh, dw⟩ := cons_inv dw
        obtain ⟨w2, ws, rfl, dl, dw⟩ := cons_inv dw
        obtain rfl := nil_inv dw
        obtain ⟨q, xs, rfl, hq, dx⟩ := lst_inv dl
        have lx := dx.length
        refine ⟨p, _, rfl, SqT.of hp, rfl, _, _, rfl, _, _, rfl, rfl, ?_⟩
        refine ⟨w1, rfl, .ref q, rfl, .ref a, rfl, a, _, 2, _, rfl, rfl, SqT.of (S1 _ _ ha), at_of (j := 2) rfl rfl, (by show 1 ≤ sizeLine; decide), fun b2 hb2 => ?_⟩
        have n2 : Same H1 (upd H1 b2 (.lst [z2])) := Same.new hb2
        refine ⟨q, b2, xs, [z2], rfl, rfl, n2 _ _ hq, upd_same, ?_, fun b3 hb3 => ?_⟩
        · rw [lx]
          exact Nat.le_trans (by show l2.length + 1 ≤ 1000; omega) (by decide)
        have n3 := n2.trans (Same.new (o := .lst (xs ++ [z2])) hb3)
        have e3 : upd (upd H1 b2 (.lst [z2])) b3 (.lst (xs ++ [z2])) b3 = some (.lst (xs ++ [z2])) := upd_same
        generalize upd (upd H1 b2 (.lst [z2])) b3 (.lst (xs ++ [z2])) = H3 at n3 e3
        refine ⟨(by show 2 ≤ sizeLine; decide), fun t ht => ?_⟩
        have n4 := n3.trans (Same.new (o := .tup [w1, .ref b3]) ht)
        exact k _ _ (S1.trans n4) (.tup upd_same (.cons (Dn.mono n4 dh) (.one (.lst ((Same.new ht) _ _ e3) ((DnAll.mono n4 dx).snoc (Dn.mono (S1.trans n4) d2))))))
      · obtain ⟨rfl, rfl⟩ := op_other e ho
        have en : decide (V.str wd = V.str (Str.ofString "app")) = false := decide_eq_false fun z => e (V.str.inj z)
        rw [en]
        refine iteT ⟨.ref a, rfl, Nat.zero_le _, fun q hq => ⟨(by show 2 ≤ sizeLine; decide), fun t ht => ?_⟩⟩
        have n := (Same.new (o := .lst []) hq).trans (Same.new (o := .tup [.ref a, .ref q]) ht)
        exact k _ _ n (.tup upd_same (.cons (Dn.mono n hd) (.one (.lst ((Same.new ht) _ _ upd_same) .nil))))
theorem scLCau : FnScope ["_law_head", "_law_some", "e"] ["_law_head", "_law_some"] (defScope sLCau) := ⟨rfl, rfl, rfl, by decide +kernel, rfl, by decide +kernel, by decide +kernel⟩
theorem ok_lcau {f : Addr} {fd : FuncData} (D : Dfn K mg "_law_caught" sLCau f fd ["_law_head", "_law_some"]) (Z : NoT K mg C U fI fdI) (FA : FnOk P w K mg base (L2.CX P w) 6 fA fdA ["head", "some"] (spApplied C)) (mA : mg "applied" = some (.ref fA)) (kA : PySem.W.keepIn K (.ref fA) = true) (bA : Binds K fdA ["head", "some"] []) :
    FnOk P w K mg base CX0 7 f fd ["_law_head", "_law_some"] spCaught := by
  refine D.fn.ok scLCau (fun vs H Q E h => ?_) (fun cdv A outer s H vs Q E hr h => ?_)
  · obtain ⟨v, u, d, e, g, rfl, _⟩ := h
    rfl
  · obtain ⟨v, u, d, e, g, rfl, hv, hu, ok, oks, due, k⟩ := h
    refine ⟨_, pss_one (ps_try_first (i := 2) rfl rfl scLCau.nd rfl rfl ⟨rfl, by decide, .inl Z.gC⟩
      (fun W pn xe tk _ => pss_one (ps_ret (pe_tup (pa_cons pe_str (pa_cons (pe_callS FA (hr.mono (by decide)) rfl mA kA bA (fun σ => passAt tk σ) (pa_cons (pv 0) (pa_cons (pv 1) pa_nil))) pa_nil)))))
      (fun a oe cls d pn hz hf => pss_one (ps_ret (pe_tup (pa_cons pe_str (pa_cons (pe_xf Z.xf Z.noF hz hf (pv 2)) pa_nil)))))), ?_⟩
    refine ⟨v, rfl, u, rfl, v, u, d, e, rfl, hv, hu, ok, oks, fun z => ?_, fun g' hg dx x H1 S1 e1 dg => ?_⟩
    · rw [due] at z
      cases z
    · rw [due] at hg
      cases hg
      refine ⟨Z.te, fun a ha => ⟨_, rfl, rfl, rfl, dx, _, x, rfl, e1, rfl, (by show 2 ≤ sizeLine; decide), fun t ht => ?_⟩⟩
      have n := Same.new (o := .tup [.str "term", x]) ht
      exact k _ _ (S1.trans n) (.tup upd_same (.cons (.str _) (.one (Dn.mono n dg))))
end
end KP
set_option Elab.async false
set_option linter.unusedVariables false
set_option maxRecDepth 100000
set_option maxHeartbeats 1000000
namespace KP
open PySem PySem.Spec PyProof.Rows L2 KA
def spNo : Sp := fun vs H Q _ => ∃ v d g, vs = [v, .bl g] ∧ Dn H v d ∧ okT d ∧ Bd 90 400000 d ∧ tm d = false ∧
  ((g = false ∧ ∀ H', Same H H' → Q (.bl true) H') ∨ (g = true ∧ ∃ l xs ds, v = .ref l ∧ H l = some (.lst xs) ∧ d = .list ds ∧ ds.length ≤ 10 ∧ DnAll (hid l H) xs ds ∧ ∀ H', Same (hid l H) (hid l H') → Q (.bl true) H'))
section
variable {P : Program} {w : World} {K : PySem.W.Frag} {mg : Str → Option Value} {base : Heap} {C U fI fO : Addr} {fdI fdO : FuncData}
theorem scLNo : FnScope ["_law_thing", "_law_grows", "_law_found", "e"] ["_law_thing", "_law_grows"] (defScope sLNo) := ⟨rfl, rfl, rfl, by decide +kernel, rfl, by decide +kernel, by decide +kernel⟩
theorem ok_lno {f : Addr} {fd : FuncData} (F : Fun K "_law_no_opened" "_law_no_opened" sLNo f fd) (T : Txt K w mg) (Z : NoT K mg C U fI fdI) (FO : FnOk P w K mg base (L2.CX P w) 6 fO fdO ["term"] (spOpened C)) (mO : mg "opened" = some (.ref fO)) (kO : PySem.W.keepIn K (.ref fO) = true) (bO : Binds K fdO ["term"] []) :
    FnG P w K mg base CX0 7 f fd ["_law_thing", "_law_grows"] spNo := by
  refine fnG (k := 6) F scLNo (fun vs H Q E h => ?_) (fun cdv A outer s H vs Q E g hr h => ?_)
  · obtain ⟨v, d, g, rfl, _⟩ := h
    rfl
  · obtain ⟨v, d, b, rfl, hv, ok, bd, nt, h⟩ := h
    have hu : (A.deeper (envOfC "_law_no_opened" (defScope sLNo) s.heap.objs.size f cdv)).units + 200 < cLine := by have := hr.un; omega
    have hg : (cxOf CX0 P w K mg base ["_law_thing", "_law_grows", "_law_found", "e"] "_law_no_opened" (defScope sLNo) f cdv A outer s H E).nox.A.guards = some [] := g
    refine ⟨_, PSs.nox (pss_cons (ps_set (i := 2) scLNo.nd rfl (Or.inl rfl) pe_non)
      (pss_cons (ps_try_first (i := 3) rfl rfl scLNo.nd rfl rfl ⟨rfl, by decide, .inl Z.gC⟩
        (fun W pn xe tk _ => pss_one (ps_expr (pe_callS FO hr rfl mO kO bO (fun σ => passAt tk σ) (pa_cons (pv 0) pa_nil))))
        (fun a oe cls d pn hz hf => pss_one (ps_set (i := 2) scLNo.nd rfl (Or.inl rfl) (pe_lst (pa_cons (pe_xf Z.xf Z.noF hz hf (pv 3)) pa_nil)))))
      (pss_cons (ps_if (pt_val (pv 1)) (pss_one (ps_expr (pe_bm PySem.F.plainAttrs_list PySem.F.slot_list_append PySem.F.type_list_append mt_append (pv 0) (pa_cons pe_int pa_nil)))) pss_nil)
      (pss_one (ps_ret (pe_and (pe_cmpR op_notN (pv 2) pe_non rfl) (pe_one (pe_cmpR op_eq (pe_callB (call_repr hg hu) (by rfl) T.repr (by decide +kernel) (pa_cons (pe_ix ix_list (pv 2) pe_int (fun _ _ => rfl)) pa_nil)) (pe_callB (call_repr hg hu) (by rfl) T.repr (by decide +kernel) (pa_cons (pv 0) pa_nil)) (nomark _))))))))), ?_⟩
    refine ⟨v, rfl, v, d, rfl, hv, ok, Or.inr ⟨nt, fun dx H1 S1 e1 => ?_⟩⟩
    refine ⟨Z.te, fun a ha => ⟨_, rfl, rfl, rfl, dx, _, v, rfl, e1, rfl, (by show 1 ≤ sizeLine; decide), fun t ht => ?_⟩⟩
    have n := Same.new (o := .lst [v]) ht
    have et : upd H1 t (.lst [v]) t = some (.lst [v]) := upd_same
    have S2 := S1.trans n
    generalize upd H1 t (.lst [v]) = H2 at et S2
    have sh := fun (d : PyData) (B : Bd 92 500000 d) => shown_le d B.1
    have sz : ∀ d : PyData, Bd 92 500000 d → d.shown.length ≤ sizeLine := fun d B => Nat.le_trans (shown_le d B.1).1 (Nat.le_trans B.2.2 (by decide))
    have fn : decide (V.ref t = V.non) = false := decide_eq_false fun z => by cases z
    rcases h with ⟨rfl, k⟩ | ⟨rfl, l, xs, ds, rfl, hl, rfl, ld, dl, k⟩
    · have B : Bd 92 500000 d := bd.mono (by decide) (by decide)
      have dv := Dn.mono S2 hv
      have dp : d.depth ≤ 100 := Nat.le_trans bd.2.1 (by decide)
      refine ⟨_, rfl, _, rfl, iteF ⟨_, rfl, rfl, _, rfl, ?_⟩⟩
      rw [fn]
      refine iteT ⟨.ref t, rfl, t, [v], 0, v, rfl, rfl, SqL.of et, at_of (j := 0) rfl rfl, v, d, rfl, dv, (sh d B).2, sz d B, dp, v, rfl, v, d, rfl, dv, (sh d B).2, sz d B, dp, rfl, ?_⟩
      rw [decide_eq_true rfl]
      exact k H2 S2
    · have el := S2 _ _ hl
      have lx := dl.length
      have lt : t ≠ l := fun z => by
        rw [z] at et
        rw [el] at et
        have q := HO.lst.inj (Option.some.inj et)
        have n2 := ne_of_none (S1 _ _ hl) ht
        exact n2 z.symm
      refine ⟨_, rfl, _, rfl, iteT ⟨_, rfl, Or.inl ⟨rfl, _, SqL.of el⟩, l, xs, .int 0, rfl, rfl, el, small1000 (by omega), ?_⟩⟩
      have e3 : upd H2 l (.lst (xs ++ [.int 0])) l = some (.lst (xs ++ [.int 0])) := upd_same
      have t3 : upd H2 l (.lst (xs ++ [.int 0])) t = some (.lst [.ref l]) := (upd_ne lt).trans et
      have S3 : Same (hid l H) (hid l (upd H2 l (.lst (xs ++ [.int 0])))) := by
        rw [hid_upd]
        exact Same.less S2
      have d3 : Dn (upd H2 l (.lst (xs ++ [.int 0]))) (.ref l) (.list (ds ++ [.int 0])) := .lst e3 ((DnAll.mono hid_sub (DnAll.mono S3 dl)).snoc (.int 0))
      generalize upd H2 l (.lst (xs ++ [.int 0])) = H3 at t3 S3 d3
      have B0 : BdAll 89 400000 ds := by
        obtain ⟨b1, b2, b3⟩ := bd
        simp only [PyData.depth] at b2
        simp only [wt] at b3
        exact ⟨by simpa only [fine] using b1, by omega, by omega⟩
      have B : Bd 92 500000 (.list (ds ++ [.int 0])) := (Bd.lst (B0.append (BdAll.one ((Bd.int (i := 0) (by decide)).mono (Nat.zero_le _) (Nat.le_refl _))))).mono (by decide) (by decide)
      have dp : (PyData.list (ds ++ [.int 0])).depth ≤ 100 := Nat.le_trans B.2.1 (by decide)
      refine ⟨_, rfl, rfl, _, rfl, ?_⟩
      rw [fn]
      refine iteT ⟨.ref t, rfl, t, [.ref l], 0, .ref l, rfl, rfl, SqL.of t3, at_of (j := 0) rfl rfl, .ref l, _, rfl, d3, (sh _ B).2, sz _ B, dp, .ref l, rfl, .ref l, _, rfl, d3, (sh _ B).2, sz _ B, dp, rfl, ?_⟩
      rw [decide_eq_true rfl]
      exact k H3 S3
end
end KP
set_option Elab.async false
set_option linter.unusedVariables false
set_option maxRecDepth 100000
set_option maxHeartbeats 1000000
namespace KP
open PySem PySem.Spec PyProof.Rows L2 KA
/-! ### data of the law -/
def bdB (a b : Nat) (d : PyData) : Bool := fine d && decide (d.depth ≤ a) && decide (wt d ≤ b)
theorem bdB_of {a b : Nat} {d : PyData} (h : bdB a b d = true) : Bd a b d := by
  unfold bdB at h
  simp only [Bool.and_eq_true, decide_eq_true_eq] at h
  exact ⟨h.1.1, h.1.2, h.2⟩
theorem str_ok {x : Str} (h : fine (.str x) = true) : (PyData.str x).canLay0 = true := by
  have h' : x.length ≤ 20 ∧ ∀ c ∈ x.cps.toList, c < 128 := by simpa only [fine, Bool.and_eq_true, decide_eq_true_eq, List.all_eq_true] using h
  show (x.cps.all (· < 0x110000)) = true
  rw [Array.all_eq_true_iff_forall_mem]
  intro c hc
  exact decide_eq_true (Nat.lt_trans (h'.2 c (by simpa using hc)) (by decide))
mutual
theorem lay_flat : ∀ d : PyData, flatD d = true → fine d = true → d.canLay0 = true
  | .none, _, _ => rfl
  | .bool _, _, _ => rfl
  | .int _, _, _ => rfl
  | .str x, _, h => str_ok h
  | .list _, h, _ => by simp [flatD] at h
  | .dict _, h, _ => by simp [flatD] at h
  | .tuple ds, h, f => by
    have := lay_flatAll ds (by simpa only [flatD] using h) (by simpa only [fine] using f)
    simpa only [PyData.canLay0] using this
theorem lay_flatAll : ∀ ds : List PyData, flatAll ds = true → fineAll ds = true → PyData.canLayAll0 ds = true
  | [], _, _ => rfl
  | d :: ds, h, f => by
    have h : flatD d = true ∧ flatAll ds = true := by simpa only [flatAll, Bool.and_eq_true] using h
    have f : fine d = true ∧ fineAll ds = true := by simpa only [fineAll, Bool.and_eq_true] using f
    simp only [PyData.canLayAll0, lay_flat d h.1 f.1, lay_flatAll ds h.2 f.2, Bool.and_self]
end
theorem tm_apps : ∀ {ds : List PyData} {h : PyData}, tm h = true → tmAll ds = true → tm (appsD h ds) = true
  | [], h, th, _ => th
  | d :: ds, h, th, t => by
    have t : tm d = true ∧ tmAll ds = true := by simpa only [tmAll, Bool.and_eq_true] using t
    refine tm_apps (ds := ds) (h := .tuple [.str "app", h, d]) ?_ t.2
    rw [tm_parts (wd := "app") (n := 2) (by decide +kernel)]
    simp only [tmAll, th, t.1]
    rfl
theorem bd_apps {a c : Nat} : ∀ {ds : List PyData} {h : PyData} {b m : Nat}, Bd (a + m) b h → (∀ d ∈ ds, Bd a c d) → Bd (a + m + ds.length) (b + ds.length * (c + 230)) (appsD h ds)
  | [], h, b, m, bh, _ => bh.mono (Nat.le_add_right _ _) (Nat.le_add_right _ _)
  | d :: ds, h, b, m, bh, bd => by
    have b1 : Bd (a + m + 1) (b + c + 230) (.tuple [.str "app", h, d]) := (Bd.tup (BdAll.cons ((Bd.str (x := "app") (by decide +kernel)).mono (Nat.zero_le _) (Nat.le_refl _)) (BdAll.cons bh (BdAll.one ((bd d List.mem_cons_self).mono (Nat.le_add_right _ _) (Nat.le_refl _)))))).mono (Nat.le_refl _) (by omega)
    have := bd_apps (a := a) (c := c) (ds := ds) (m := m + 1) b1 fun e he => bd e (List.mem_cons_of_mem _ he)
    refine this.mono ?_ ?_
    · rw [List.length_cons]
      omega
    · rw [List.length_cons, Nat.succ_mul]
      omega
theorem ok_of {a b : Nat} {d : PyData} (h : Bd a b d) (hb : b ≤ 1000000) : okT d := ⟨h.1, Nat.le_trans (nodes_wt d) (Nat.le_trans h.2.2 hb)⟩
/-- none of these is a term -/
def noneL (hd : PyData) : List PyData := [.none, .int 7, .tuple [.str "at"], .tuple [], .str "at", .dict [], .tuple [.str "kind", .int 6], .tuple [.str "at", .bool true], .tuple [.str "all", hd]]
def oddL : List PyData := [.none, .str "terms", .int 7, .dict [], .bool true]
theorem none_no {hd : PyData} : ∀ g ∈ noneL hd, tm g = false := by
  intro g h
  simp only [noneL, List.mem_cons, List.not_mem_nil, or_false] at h
  rcases h with rfl | rfl | rfl | rfl | rfl | rfl | rfl | rfl | rfl
  · decide +kernel
  · decide +kernel
  · decide +kernel
  · decide +kernel
  · decide +kernel
  · decide +kernel
  · decide +kernel
  · decide +kernel
  · rw [tm_parts (wd := "all") (n := 2) (by decide +kernel)]
    rfl
theorem none_bd {hd : PyData} {a b : Nat} (h : Bd a b hd) : ∀ g ∈ noneL hd, Bd (a + 2) (b + 700) g := by
  intro g hg
  have sm : ∀ g, bdB 1 300 g = true → Bd (a + 2) (b + 700) g := fun g z => (bdB_of z).mono (by omega) (by omega)
  simp only [noneL, List.mem_cons, List.not_mem_nil, or_false] at hg
  rcases hg with rfl | rfl | rfl | rfl | rfl | rfl | rfl | rfl | rfl
  · exact sm _ (by decide +kernel)
  · exact sm _ (by decide +kernel)
  · exact sm _ (by decide +kernel)
  · exact sm _ (by decide +kernel)
  · exact sm _ (by decide +kernel)
  · exact sm _ (by decide +kernel)
  · exact sm _ (by decide +kernel)
  · exact sm _ (by decide +kernel)
  · exact (Bd.tup (BdAll.cons ((Bd.str (x := "all") (by decide +kernel)).mono (Nat.zero_le _) (Nat.le_refl _)) (BdAll.one h))).mono (by omega) (by omega)
theorem odd_no : ∀ g ∈ oddL, (isLstD g || isTupD g) = false := by
  intro g h
  simp only [oddL, List.mem_cons, List.not_mem_nil, or_false] at h
  rcases h with rfl | rfl | rfl | rfl | rfl <;> rfl
theorem badD_put : ∀ {A : List PyData} {g : PyData} {B : List PyData}, tmAll A = true → tm g = false → badD (A ++ g :: B) = some g
  | [], g, B, _, t => by
    show (if tm g = true then badD B else some g) = some g
    rw [t, if_neg Bool.false_ne_true]
  | d :: A, g, B, h, t => by
    have h : tm d = true ∧ tmAll A = true := by simpa only [tmAll, Bool.and_eq_true] using h
    show (if tm d = true then badD (A ++ g :: B) else some d) = some g
    rw [if_pos h.1]
    exact badD_put h.2 t
theorem tmAll_take : ∀ {ds : List PyData} (n : Nat), tmAll ds = true → tmAll (ds.take n) = true
  | _, 0, _ => rfl
  | [], _ + 1, _ => rfl
  | d :: ds, n + 1, h => by
    have h : tm d = true ∧ tmAll ds = true := by simpa only [tmAll, Bool.and_eq_true] using h
    simp only [List.take_succ_cons, tmAll, h.1, tmAll_take n h.2, Bool.and_self]
theorem due_first {a b : PyData} (h : tm a = false) : dueA a b = some a := by
  unfold dueA
  rw [h]
  rfl
theorem due_odd {a b : PyData} (h : tm a = true) (z : (isLstD b || isTupD b) = false) : dueA a b = some b := by
  unfold dueA
  rw [if_pos h, z]
  rfl
theorem due_lst {a g : PyData} {ds : List PyData} (h : tm a = true) (z : badD ds = some g) : dueA a (.list ds) = some g := by
  unfold dueA
  rw [if_pos h]
  exact z
theorem due_tup {a g : PyData} {ds : List PyData} (h : tm a = true) (z : badD ds = some g) : dueA a (.tuple ds) = some g := by
  unfold dueA
  rw [if_pos h]
  exact z
theorem due_fine {a : PyData} {ds : List PyData} (h : tm a = true) (z : tmAll ds = true) : dueA a (.list ds) = none ∧ dueA a (.tuple ds) = none := by
  unfold dueA
  rw [if_pos h, if_pos h]
  exact ⟨badD_all z, badD_all z⟩
end KP
set_option Elab.async false
set_option linter.unusedVariables false
set_option maxRecDepth 100000
set_option maxHeartbeats 2000000
namespace KP
open PySem PySem.Spec PyProof.Rows L2 KA
theorem op_all {d h : PyData} {l : List PyData} (o : Op d h l) : tm d = true → fine d = true → (tm h = true ∧ tmAll l = true) ∧ (fine h = true ∧ fineAll l = true) ∧ h.depth ≤ d.depth ∧ PyData.depthAll l ≤ d.depth := by
  induction o with
  | done n => exact fun t f => ⟨⟨t, rfl⟩, ⟨f, rfl⟩, Nat.le_refl _, Nat.zero_le _⟩
  | @app f a h l o ih =>
    intro t fn
    obtain ⟨f', a', e, tf, ta⟩ := tm_app t
    cases e
    have fn' : fine f = true ∧ fine a = true := by
      simp only [fine, fineAll, Bool.and_eq_true] at fn
      exact ⟨fn.2.1, fn.2.2.1⟩
    obtain ⟨⟨h1, h2⟩, ⟨h3, h4⟩, h5, h6⟩ := ih tf fn'.1
    have dd : (PyData.tuple [.str "app", f, a]).depth = max f.depth a.depth + 1 := by
      simp only [PyData.depth, PyData.depthAll]
      omega
    refine ⟨⟨h1, ?_⟩, ⟨h3, ?_⟩, by omega, ?_⟩
    · rw [tmAll_append]
      simp only [tmAll, h2, ta, Bool.and_self]
    · rw [fineAll_append]
      simp only [fineAll, h4, fn'.2, Bool.and_self]
    · rw [depthAll_append]
      simp only [PyData.depthAll]
      omega
theorem told_shaped {d h : PyData} {l : List PyData} (o : Op d h l) (t : tm d = true) (f : fine d = true) (dp : d.depth ≤ 60) : SeqAt.shaped (.tuple [h, .list l]) = true := by
  obtain ⟨⟨h1, h2⟩, ⟨h3, h4⟩, h5, h6⟩ := op_all o t f
  unfold SeqAt.shaped
  have c1 := lay_flat h (tm_flat h h1) h3
  have c2 := lay_flatAll l (tmAll_flat l h2) h4
  rw [Bool.and_eq_true]
  refine ⟨?_, decide_eq_true ?_⟩
  · simp only [PyData.canLay0, PyData.canLayAll0, c1, c2, Bool.and_self]
  · simp only [PyData.depth, PyData.depthAll]
    omega
theorem passF {X : Cx} {σ : L2.St} : PassesAt (L2.CX X.prog X.w) X σ (fun _ _ _ => False) := fun _ _ _ _ _ _ c => by
  obtain ⟨_, _, _, _, _, _, _, _, _, _, _, _, z⟩ := c
  exact z.elim
def forB : Stmt → List Stmt | .For _ _ b _ _ => b | _ => []
abbrev sOut : List Stmt := forB ((defBody sLaw).headD (.Pass ⟨0, 0, 0, 0⟩))
abbrev sTold : List Stmt := forB ((sOut.drop 8).headD (.Pass ⟨0, 0, 0, 0⟩))
abbrev sRows : List Stmt := forB ((sOut.drop 15).headD (.Pass ⟨0, 0, 0, 0⟩))
abbrev nLaw : List Str := ["_law_script", "_law_k", "_law_purse_here", "_law_head", "_law_many", "_law_turn", "_law_some", "_law_due", "_law_handed", "_law_shown", "_law_told", "_law_none", "_law_at", "_law_spoilt", "_law_odd", "_law_rows", "_law_first", "_law_second", "_law_thing", "_law_grown"]
theorem scLaw : FnScope nLaw ["_law_script"] (defScope sLaw) := ⟨rfl, rfl, rfl, by decide +kernel, rfl, by decide +kernel, by decide +kernel⟩
section
variable {P : Program} {w : World} {K : PySem.W.Frag} {mg : Str → Option Value} {base : Heap} {C U fI fO : Addr} {fdI fdO : FuncData}
theorem law_told {f : Addr} {cdv : Value} {A : Around} {outer : List Env} {s : Shared} {H0 : Hp} {E : XK} (T : Txt K w mg) (FO : FnOk P w K mg base (L2.CX P w) 6 fO fdO ["term"] (spOpened C)) (mO : mg "opened" = some (.ref fO)) (kO : PySem.W.keepIn K (.ref fO) = true) (bO : Binds K fdO ["term"] [])
    (CL : C8.Cal P w K mg base 66 "_law_opened" (spLOp 65) []) (hr : Room 89 (A.deeper (envOfC "law" (defScope sLaw) s.heap.objs.size f cdv))) :
    ∃ t, PSs (cxOf CX0 P w K mg base nLaw "law" (defScope sLaw) f cdv A outer s H0 E).nox sTold t ∧
      ∀ (D : Ends) (H : Hp) (x0 x1 x2 x4 x5 x6 x8 x9 y10 x11 x12 x13 x14 x15 x16 x17 x18 x19 : Option V) (hv dv : V) (hd dd h : PyData) (l : List PyData), Dn H hv hd → Dn H dv dd → okT dd → tm dd = true → dd.depth ≤ 60 → Op dd h l → l.length ≤ 60 →
        (∀ H' z10, Same H H' → D.nx [x0, x1, x2, some hv, x4, x5, x6, some dv, x8, x9, z10, x11, x12, x13, x14, x15, x16, x17, x18, x19] H') →
        t D [x0, x1, x2, some hv, x4, x5, x6, some dv, x8, x9, y10, x11, x12, x13, x14, x15, x16, x17, x18, x19] H := by
  have hu : (A.deeper (envOfC "law" (defScope sLaw) s.heap.objs.size f cdv)).units + 64 < cLine := by have := hr.un; omega
  refine ⟨_, pss_cons (ps_set (i := 10) scLaw.nd rfl (Or.inl rfl) (pe_callS FO (hr.mono (by decide)) rfl mO kO bO (fun σ => passF) (pa_cons (pv 7) pa_nil)))
    (pss_cons (ps_if (PW.pt (pw_or (pt_not (pt_val (pe_isD is_tup (pv 10) T.isi T.tuple (by decide +kernel)))) (pw_or (pt_cmpR (KA.op_neD hu) (pv 10) (C8.pe_c CL hr (by decide) rfl (pa_cons (pv 7) pa_nil)) (nomark _))
        (pw_or1 (pt_not (pt_val (pe_isD is_lst (pe_ix ix_tup (pv 10) pe_int (fun _ _ => rfl)) T.isi T.list (by decide +kernel)))))))) (pss_one (ps_ret pe_bl)) pss_nil)
    (pss_one (ps_expr (pe_bm PySem.F.plainAttrs_list PySem.F.slot_list_append PySem.F.type_list_append mt_append (pe_ix ix_tup (pv 10) pe_int (fun _ _ => rfl)) (pa_cons (pv 3) pa_nil))))), fun D H x0 x1 x2 x4 x5 x6 x8 x9 y10 x11 x12 x13 x14 x15 x16 x17 x18 x19 hv dv hd dd h l dh ddv ok t dp o ll k => ?_⟩
  refine ⟨dv, rfl, dv, dd, rfl, ddv, ok, Or.inl ⟨t, h, l, o, Nat.le_trans ll (by decide), fun tt q w1 xs H1 S1 nq et eq d1 d2 => ?_⟩⟩
  have dt : Dn H1 (.ref tt) (.tuple [h, .list l]) := .tup et (.cons (Dn.mono hid_sub d1) (.one (.lst eq (DnAll.mono hid_sub d2))))
  refine ⟨_, rfl, .ref tt, _, rfl, dt, _, rfl, iteF ⟨.ref tt, rfl, dv, rfl, dv, dd, h, l, rfl, Dn.mono S1 ddv, t, o, by omega, by decide, fun r H2 S2 dr => ?_⟩⟩
  have sh := told_shaped o t ok.1 dp
  have rf : PyData.eqv (.tuple [h, .list l]) (.tuple [h, .list l]) = true := SeqAt.eqv_refl _ (SeqAt.canLay_of_shaped sh)
  refine ⟨_, _, Dn.mono S2 dt, dr, sh, sh, _, rfl, ?_⟩
  rw [rf]
  have et2 := S2 _ _ et
  have eq2 := S2 _ _ eq
  refine iteF ⟨_, rfl, tt, _, 1, _, rfl, rfl, SqT.of et2, at_of (j := 1) rfl rfl, .ref q, .list l, rfl, .lst eq2 (DnAll.mono S2 (DnAll.mono hid_sub d2)), _, rfl, ?_⟩
  have lx := d2.length
  refine iteF ⟨_, rfl, tt, _, 1, _, rfl, rfl, SqT.of et2, at_of (j := 1) rfl rfl, Or.inl ⟨rfl, _, SqL.of eq2⟩, hv, rfl, q, xs, hv, rfl, rfl, eq2, small1000 (by omega), ?_⟩
  exact k _ _ (Same.mut (S1.trans S2) nq)
/-- a row that is refused -/
def RowOk (r : PyData) : Prop := ∃ a b g, r = .tuple [a, b, g] ∧ dueA a b = some g ∧ okT a ∧ (∀ x ∈ itemsD b, okT x) ∧ Bd 80 400000 g
theorem law_rows {f : Addr} {cdv : Value} {A : Around} {outer : List Env} {s : Shared} {H0 : Hp} {E : XK} (T : Txt K w mg) (CC : C8.Cal P w K mg base 7 "_law_caught" spCaught []) (g : A.guards = some []) (hr : Room 89 (A.deeper (envOfC "law" (defScope sLaw) s.heap.objs.size f cdv))) :
    ∃ t, PSs (cxOf CX0 P w K mg base nLaw "law" (defScope sLaw) f cdv A outer s H0 E).nox sRows t ∧
      ∀ (D : Ends) (H : Hp) (x0 x1 x2 x3 x4 x5 x6 x7 x8 x9 x10 x11 x12 x13 x14 x15 x19 : Option V) (a b c : V) (da db dc : PyData), Dn H a da → Dn H b db → Dn H c dc → dueA da db = some dc → okT da → (∀ x ∈ itemsD db, okT x) → Bd 80 400000 dc →
        (∀ H', Same H H' → D.nx [x0, x1, x2, x3, x4, x5, x6, x7, x8, x9, x10, x11, x12, x13, x14, x15, some a, some b, some c, x19] H') →
        t D [x0, x1, x2, x3, x4, x5, x6, x7, x8, x9, x10, x11, x12, x13, x14, x15, some a, some b, some c, x19] H := by
  have hu : (A.deeper (envOfC "law" (defScope sLaw) s.heap.objs.size f cdv)).units + 200 < cLine := by have := hr.un; omega
  have hg : (cxOf CX0 P w K mg base nLaw "law" (defScope sLaw) f cdv A outer s H0 E).nox.A.guards = some [] := g
  refine ⟨_, pss_one (ps_if (pt_cmpR op_ne (pe_callB (call_repr hg hu) (by rfl) T.repr (by decide +kernel) (pa_cons (C8.pe_c CC hr (by decide) rfl (pa_cons (pv 16) (pa_cons (pv 17) pa_nil))) pa_nil))
      (pe_callB (call_repr hg hu) (by rfl) T.repr (by decide +kernel) (pa_cons (pe_tup (pa_cons pe_str (pa_cons (pv 18) pa_nil))) pa_nil)) (nomark _)) (pss_one (ps_ret pe_bl)) pss_nil), fun D H x0 x1 x2 x3 x4 x5 x6 x7 x8 x9 x10 x11 x12 x13 x14 x15 x19 a b c da db dc ha hb hc due ok oks bd k => ?_⟩
  have B : Bd 81 500000 (.tuple [.str "term", dc]) := (Bd.tup (BdAll.cons ((Bd.str (x := "term") (by decide +kernel)).mono (Nat.zero_le _) (Nat.le_refl _)) (BdAll.one bd))).mono (by decide) (by decide)
  have sh := shown_le _ B.1
  have sz : (PyData.tuple [.str "term", dc]).shown.length ≤ sizeLine := Nat.le_trans sh.1 (Nat.le_trans B.2.2 (by decide))
  have dp : (PyData.tuple [.str "term", dc]).depth ≤ 100 := Nat.le_trans B.2.1 (by decide)
  refine ⟨a, rfl, b, rfl, a, b, da, db, dc, rfl, ha, hb, ok, oks, due, fun r H1 S1 dr => ?_⟩
  refine ⟨r, _, rfl, dr, sh.2, sz, dp, c, rfl, (by show 2 ≤ sizeLine; decide), fun t ht => ?_⟩
  have n := Same.new (o := .tup [.str "term", c]) ht
  refine ⟨.ref t, _, rfl, .tup upd_same (.cons (.str _) (.one (Dn.mono (S1.trans n) hc))), sh.2, sz, dp, rfl, _, rfl, ?_⟩
  rw [decide_eq_true rfl]
  exact iteF (k _ (S1.trans n))
end
end KP
set_option Elab.async false
set_option linter.unusedVariables false
set_option maxRecDepth 100000
set_option maxHeartbeats 2000000
namespace KP
open PySem PySem.Spec PyProof.Rows L2 KA
/-! ### what evaluates to data, while all that stands (but the purse at p, which isn't touched) stays -/
def EvD (p : Addr) (te : TE) (σ : L2.St) (H : Hp) (d : PyData) : Prop := ∀ H1, Same H H1 → ∀ Q : VK, (∀ v H2, Same H1 H2 → Dn (hid p H2) v d → Q v H2) → te σ H1 Q
def EvDs (p : Addr) (ta : TA) (σ : L2.St) (H : Hp) (ds : List PyData) : Prop := ∀ H1, Same H H1 → ∀ Q : List V → Hp → Prop, (∀ vs H2, Same H1 H2 → DnAll (hid p H2) vs ds → Q vs H2) → ta σ H1 Q
def EvL (p : Addr) (te : TE) (σ : L2.St) (H : Hp) (ds : List PyData) : Prop := ∀ H1, Same H H1 → ∀ Q : VK, (∀ l xs H2, H1 l = none → l ≠ p → Same H1 H2 → H2 l = some (.lst xs) → DnAll (hid l (hid p H2)) xs ds → Q (.ref l) H2) → te σ H1 Q
section
variable {p : Addr} {σ : L2.St} {H : Hp} {te tb : TE} {ta : TA} {d : PyData} {ds es : List PyData} {v : V} {i : Nat}
theorem evd_c (h : ∀ H, Dn H v d) : EvD p (tC v) σ H d := fun H1 S Q q => q v H1 (Same.refl H1) (h _)
theorem evd_str {x : Str} : EvD p (tC (.str x)) σ H (.str x) := evd_c fun _ => .str x
theorem evd_int {z : Int} : EvD p (tC (.int z)) σ H (.int z) := evd_c fun _ => .int z
theorem evd_bl {b : Bool} : EvD p (tC (.bl b)) σ H (.bool b) := evd_c fun _ => .bl b
theorem evd_non : EvD p (tC .non) σ H .none := evd_c fun _ => .non
theorem evd_var (h : σ[i]? = some (some v)) (dn : Dn (hid p H) v d) : EvD p (tVar i) σ H d := fun H1 S Q q => ⟨v, h, q v H1 (Same.refl H1) (Dn.mono (Same.less S) dn)⟩
theorem evds_nil : EvDs p tNil σ H [] := fun H1 S Q q => q [] H1 (Same.refl H1) .nil
theorem evds_cons (h : EvD p te σ H d) (g : EvDs p ta σ H ds) : EvDs p (tCons te ta) σ H (d :: ds) := fun H1 S Q q =>
  h H1 S _ fun v H2 S2 dv => g H2 (S.trans S2) _ fun vs H3 S3 dvs => q (v :: vs) H3 (S2.trans S3) (.cons (Dn.mono (Same.less S3) dv) dvs)
theorem off {H1 : Hp} {o : HO} {q : Addr} (hp : H p = some o) (S : Same H H1) (n : H1 q = none) : q ≠ p := fun e => by
  rw [e, S _ _ hp] at n
  cases n
theorem evd_tup {o : HO} (hp : H p = some o) (g : EvDs p ta σ H ds) (len : ds.length ≤ 1000 := by simp) : EvD p (tTup ta) σ H (.tuple ds) := fun H1 S Q q =>
  g H1 S _ fun vs H2 S2 dv => ⟨by rw [dv.length]; exact Nat.le_trans len (by decide), fun a ha => by
    have ap := off hp (S.trans S2) ha
    have n : Same H2 (upd H2 a (.tup vs)) := Same.new ha
    exact q _ _ (S2.trans n) (.tup (by rw [hid_ne ap, upd_same]) (DnAll.mono (Same.less n) dv))⟩
theorem evl_lst {o : HO} (hp : H p = some o) (g : EvDs p ta σ H ds) (len : ds.length ≤ 1000 := by simp) : EvL p (tLst ta) σ H ds := fun H1 S Q q =>
  g H1 S _ fun vs H2 S2 dv => ⟨by rw [dv.length]; exact Nat.le_trans len (by decide), fun a ha => by
    have ap := off hp (S.trans S2) ha
    have n : Same H2 (upd H2 a (.lst vs)) := Same.new ha
    refine q a vs _ (S2.free ha) ap (S2.trans n) upd_same (DnAll.mono (fun b o e => ?_) dv)
    obtain ⟨n1, e1⟩ := hid_some e
    have nb : b ≠ a := ne_of_none e1 ha
    rw [hid_ne nb, hid_ne n1, upd_ne nb]
    exact e1⟩
theorem evd_lst {o : HO} (hp : H p = some o) (g : EvDs p ta σ H ds) (len : ds.length ≤ 1000 := by simp) : EvD p (tLst ta) σ H (.list ds) := fun H1 S Q q =>
  evl_lst hp g len H1 S Q fun l xs H2 n lp S2 e dv => q _ _ S2 (.lst (by rw [hid_ne lp]; exact e) (DnAll.mono (fun b o z => (hid_some z).2) dv))
end
theorem st_name {i : Nat} {v : V} {σ : L2.St} {H : Hp} {Q : L2.St → Hp → Prop} (h : Q (σ.set i (some v)) H) : gName i v σ H Q := h
theorem st_seq {t u : TS} {D : Ends} {σ : L2.St} {H : Hp} (h : t { D with nx := u D } σ H) : tSeq t u D σ H := h
theorem st_asg {te : TE} {g : TG} {D : Ends} {σ : L2.St} {H : Hp} (h : te σ H fun x H1 => g x σ H1 D.nx) : tAsg te g D σ H := h
theorem st_drop {te : TE} {D : Ends} {σ : L2.St} {H : Hp} (h : te σ H fun _ H1 => D.nx σ H1) : tDrop te D σ H := h
section
variable {K : PySem.W.Frag} {p : Addr} {σ : L2.St} {H : Hp} {te tu : TE} {ds es : List PyData} {o : HO}
theorem evd_neg {i : Int} : EvD p (tUn (rU fun i => .int (-i)) (tC (.int i))) σ H (.int (-i)) := fun H1 S Q q => ⟨i, rfl, q _ _ (Same.refl H1) (.int _)⟩
theorem evd_pow : EvD p (tOp (rI CPow fun i j => .int (i ^ j.toNat)) (tC (.int 10)) (tC (.int 29))) σ H (.int (10 ^ 29)) := fun H1 S Q q => ⟨10, 29, rfl, rfl, ⟨by decide, by decide, by decide⟩, q _ _ (Same.refl H1) (.int _)⟩
theorem evd_dic0 (hp : H p = some o) : EvD p tDNewK σ H (.dict []) := fun H1 S Q q => fun a ha => by
  have n : Same H1 (upd H1 a (.dK [])) := Same.new ha
  have lp := off hp S ha
  exact q _ _ n (.dic (by rw [hid_ne lp, upd_same]) .nil .nil)
theorem evl_cat {l0 : Addr} {xs0 : List V} (hp : H p = some o) (hl0 : H l0 = some (.lst xs0)) (d0 : DnAll (hid p H) xs0 ds) (hte : ∀ (H1 : Hp) (Q : VK), Q (.ref l0) H1 → te σ H1 Q) (g : EvL p tu σ H es) (len : ds.length + es.length ≤ 1000) : EvL p (tOp rCat te tu) σ H (ds ++ es) := fun H1 S Q q =>
  hte H1 _ (g H1 S _ fun l xs H2 hl lp S2 e dx => by
    refine ⟨l0, l, xs0, xs, rfl, rfl, S2 _ _ (S _ _ hl0), e, ?_, fun b hb => ?_⟩
    · rw [d0.length, dx.length]
      exact Nat.le_trans len (by decide)
    have bp := off hp (S.trans S2) hb
    have bl := off e (Same.refl H2) hb
    refine q b _ _ (S2.free hb) bp (S2.trans (Same.new hb)) upd_same ?_
    have k : ∀ c o, (hid p H2) c = some o → (hid b (hid p (upd H2 b (.lst (xs0 ++ xs))))) c = some o := fun c o z => by
      obtain ⟨n1, e1⟩ := hid_some z
      have nb : c ≠ b := ne_of_none e1 hb
      rw [hid_ne nb, hid_ne n1, upd_ne nb]
      exact e1
    exact (DnAll.mono (fun c o z => k c o (Same.less (S.trans S2) c o z)) d0).append (DnAll.mono (fun c o z => k c o (hid_some z).2) dx))
end
section
variable {K : PySem.W.Frag}
/-- an item of a list of data, by a number drawn -/
theorem pick {l : Addr} {p : Addr} {xs : List V} {ds : List PyData} {H H1 : Hp} {m : Nat} {r : Int} {Q : V → Prop} (lp : l ≠ p) (e : H l = some (.lst xs)) (dx : DnAll (hid l (hid p H)) xs ds) (S : Same (hid p H) (hid p H1)) (h0 : 0 ≤ r) (h1 : r < m) (len : ds.length = m) :
    SqL K H1 l xs ∧ ∃ v d, atI xs r = some v ∧ d ∈ ds ∧ Dn (hid p H1) v d := by
  obtain ⟨j, rfl⟩ : ∃ j : Nat, r = (j : Int) := ⟨r.toNat, by omega⟩
  have lx := dx.length
  have jl : j < xs.length := by omega
  have hj := List.getElem?_eq_getElem jl
  obtain ⟨g, hg, dg⟩ := dx.at hj
  exact ⟨SqL.of (hid_sub _ _ (S _ _ (by rw [hid_ne lp]; exact e))), _, g, at_of (j := j) rfl hj, List.mem_of_getElem? hg, Dn.mono S (Dn.mono hid_sub dg)⟩
end
end KP
set_option Elab.async false
set_option linter.unusedVariables false
set_option maxRecDepth 100000
set_option maxHeartbeats 4000000
namespace KP
open PySem PySem.Spec PyProof.Rows L2 KA
theorem sql_mono {K : PySem.W.Frag} {H H' : Hp} {a : Addr} {xs : List V} (S : Same H H') (h : SqL K H a xs) : SqL K H' a xs := by
  rcases h with (h | ⟨ob, h⟩) | h
  · exact Or.inl (Or.inl (S _ _ h))
  · exact Or.inl (Or.inr ⟨ob, S _ _ h⟩)
  · exact Or.inr h
theorem bd_all {a c : Nat} : ∀ {ds : List PyData}, (∀ d ∈ ds, Bd a c d) → BdAll a (ds.length * (c + 2)) ds
  | [], _ => BdAll.nil
  | d :: ds, h => (BdAll.cons (h d List.mem_cons_self) (bd_all fun e he => h e (List.mem_cons_of_mem _ he))).mono (Nat.le_refl _) (by rw [List.length_cons, Nat.succ_mul]; omega)
theorem st_op {r : R2} {ta tb : TE} {σ : L2.St} {H : Hp} {Q : VK} (h : ta σ H fun x H1 => tb σ H1 fun y H2 => r x y H2 Q) : tOp r ta tb σ H Q := h
theorem cutV_to {xs : List V} {j : Nat} (h : j ≤ xs.length) : cutV xs none (some (j : Int)) = xs.take j := by
  unfold cutV
  rw [HT.sIx_none, HT.sIx_nat, List.drop_zero, Nat.sub_zero, Nat.min_eq_left h]
theorem cutV_from {xs : List V} {j : Nat} (h : j ≤ xs.length) : cutV xs (some (j : Int)) none = xs.drop j := by
  unfold cutV
  rw [HT.sIx_none, HT.sIx_nat, Nat.min_eq_left h, List.take_of_length_le]
  rw [List.length_drop]
  exact Nat.le_refl _
section
variable {K : PySem.W.Frag} {p : Addr} {σ : L2.St} {H : Hp} {te tu : TE} {ds es : List PyData} {o : HO}
theorem evl_slice {lo hi : Option Int} {tl th : TO} {i : Nat} {D : Addr} {xs ys : List V} (hp : H p = some o) (h : σ[i]? = some (some (.ref D))) (eD : H D = some (.lst xs)) (cut : cutV xs lo hi = ys) (dy : DnAll (hid p H) ys ds) (hl : ∀ (H : Hp) (Q : Option Int → Hp → Prop), Q lo H → tl σ H Q) (hh : ∀ (H : Hp) (Q : Option Int → Hp → Prop), Q hi H → th σ H Q) :
    EvL p (tSl (rSlL K) (tVar i) tl th) σ H ds := fun H1 S Q q => ⟨.ref D, h, hl _ _ (hh _ _ ⟨D, xs, rfl, SqL.of (S _ _ eD), fun b hb => by
  rw [cut]
  have bp := off hp S hb
  refine q b ys _ hb bp (Same.new hb) upd_same (DnAll.mono (fun c o z => ?_) (DnAll.mono (Same.less S) dy))
  obtain ⟨n1, e1⟩ := hid_some z
  have nb : c ≠ b := ne_of_none e1 hb
  rw [hid_ne nb, hid_ne n1, upd_ne nb]
  exact e1⟩)⟩
theorem evl_cat2 (hp : H p = some o) (h : EvL p te σ H ds) (g : EvL p tu σ H es) (len : ds.length + es.length ≤ 1000) : EvL p (tOp rCat te tu) σ H (ds ++ es) := fun H1 S Q q =>
  h H1 S _ fun l xs H2 nl lp S2 e dx => g H2 (S.trans S2) _ fun l2 ys H3 nl2 l2p S3 e2 dy => by
    refine ⟨l, l2, xs, ys, rfl, rfl, S3 _ _ e, e2, ?_, fun b hb => ?_⟩
    · rw [dx.length, dy.length]
      exact Nat.le_trans len (by decide)
    have bp := off hp ((S.trans S2).trans S3) hb
    refine q b _ _ ((S2.trans S3).free hb) bp ((S2.trans S3).trans (Same.new hb)) upd_same ?_
    have k : ∀ c o, (hid p H3) c = some o → (hid b (hid p (upd H3 b (.lst (xs ++ ys))))) c = some o := fun c o z => by
      obtain ⟨n1, e1⟩ := hid_some z
      have nb : c ≠ b := ne_of_none e1 hb
      rw [hid_ne nb, hid_ne n1, upd_ne nb]
      exact e1
    exact (DnAll.mono (fun c o z => k c o (Same.less S3 c o (hid_some z).2)) dx).append (DnAll.mono (fun c o z => k c o (hid_some z).2) dy)
theorem evd_tupleof {i : Nat} {D : Addr} {xs : List V} (hp : H p = some o) (h : σ[i]? = some (some (.ref D))) (eD : H D = some (.lst xs)) (dx : DnAll (hid p H) xs ds) :
    EvD p (tCB (fun xs H Q => ∃ p ys, xs = [.ref p] ∧ ((SqL K H p ys ∧ ∀ l, H l = none → Q (.ref l) (upd H l (.tup ys))) ∨ (SqT K H p ys ∧ Q (.ref p) H))) (tCons (tVar i) tNil)) σ H (.tuple ds) := fun H1 S Q q => by
  refine ⟨.ref D, h, D, xs, rfl, Or.inl ⟨SqL.of (S _ _ eD), fun b hb => ?_⟩⟩
  have n : Same H1 (upd H1 b (.tup xs)) := Same.new hb
  have bp := off hp S hb
  exact q _ _ n (.tup (by rw [hid_ne bp, upd_same]) (DnAll.mono (Same.less (S.trans n)) dx))
end
theorem odd_bd : ∀ g ∈ oddL, Bd 1 300 g := fun g hg => bdB_of (List.all_eq_true.mp (by decide +kernel : oddL.all (bdB 1 300) = true) g hg)
theorem items_odd {g : PyData} (h : (isLstD g || isTupD g) = false) : itemsD g = [] := by
  cases g <;> first | rfl | cases h
def spLaw (K : PySem.W.Frag) : Sp := fun vs H Q _ => ∃ (a : Addr) (ns : List Int), vs = [.ref a] ∧ SqL K H a (ns.map V.int) ∧ ns.length ≤ 63 ∧ ∀ H', Q (.bl true) H'
def spLApp : Sp := fun vs H Q _ => ∃ v u d ds, vs = [v, u] ∧ Dn H v d ∧ Dn H u (.list ds) ∧ ∀ r H', Same H H' → Dn H' r (appsD d ds) → Q r H'
/-- what the law calls -/
structure Calls (P : Program) (w : World) (K : PySem.W.Frag) (mg : Str → Option Value) (base : Heap) (C : Addr) : Prop where
  cell : C8.Cal P w K mg base 1 "_law_cell" (spCell K) []
  purse : C8.Cal P w K mg base 1 "_law_purse" spPurse []
  take : C8.Cal P w K mg base 1 "_law_take" spTake []
  term : C8.Cal P w K mg base 8 "_law_term" (spTm 5) []
  lapp : C8.Cal P w K mg base 1 "_law_applied" spLApp []
  lop : C8.Cal P w K mg base 66 "_law_opened" (spLOp 65) []
  caught : C8.Cal P w K mg base 7 "_law_caught" spCaught []
  applied : ∃ f fd, FnOk P w K mg base (L2.CX P w) 6 f fd ["head", "some"] (spApplied C) ∧ mg "applied" = some (.ref f) ∧ PySem.W.keepIn K (.ref f) = true ∧ Binds K fd ["head", "some"] []
  opened : ∃ f fd, FnOk P w K mg base (L2.CX P w) 6 f fd ["term"] (spOpened C) ∧ mg "opened" = some (.ref f) ∧ PySem.W.keepIn K (.ref f) = true ∧ Binds K fd ["term"] []
  no : ∃ f fd, FnG P w K mg base CX0 7 f fd ["_law_thing", "_law_grows"] spNo ∧ mg "_law_no_opened" = some (.ref f) ∧ PySem.W.keepIn K (.ref f) = true ∧ Binds K fd ["_law_thing", "_law_grows"] []
section
variable {P : Program} {w : World} {K : PySem.W.Frag} {mg : Str → Option Value} {base : Heap} {C : Addr}
theorem ok_law {f : Addr} {fd : FuncData} (F : Fun K "law" "law" sLaw f fd) (T : Txt K w mg) (Y : Calls P w K mg base C) : FnG P w K mg base CX0 90 f fd ["_law_script"] (spLaw K) := by
  refine fnG (k := 89) F scLaw (fun vs H Q E h => ?_) (fun cdv A outer s H vs Q E g hr h => ?_)
  · obtain ⟨a, ns, rfl, _⟩ := h
    rfl
  · obtain ⟨a, ns, rfl, hS, hl, fin⟩ := h
    obtain ⟨fA, fdA, FA, mA, kA, bA⟩ := Y.applied
    obtain ⟨fO, fdO, FO, mO, kO, bO⟩ := Y.opened
    obtain ⟨fN, fdN, FN, mN, kN, bN⟩ := Y.no
    have hu : (A.deeper (envOfC "law" (defScope sLaw) s.heap.objs.size f cdv)).units + 200 < cLine := by have := hr.un; omega
    have hu64 : (A.deeper (envOfC "law" (defScope sLaw) s.heap.objs.size f cdv)).units + 64 < cLine := by omega
    have hg : (cxOf CX0 P w K mg base nLaw "law" (defScope sLaw) f cdv A outer s H E).nox.A.guards = some [] := g
    obtain ⟨tt, htt, toldB⟩ := law_told (P := P) (K := K) (base := base) (f := f) (cdv := cdv) (A := A) (outer := outer) (s := s) (H0 := H) (E := E) T FO mO kO bO Y.lop hr
    obtain ⟨tr, htr, rowsB⟩ := law_rows (P := P) (K := K) (base := base) (f := f) (cdv := cdv) (A := A) (outer := outer) (s := s) (H0 := H) (E := E) T Y.caught g hr
    refine ⟨_, PSs.nox (pss_cons (ps_for PassesOwn.never rfl (pi_range1 (by rfl) T.range (pa_cons (pe_callB (call_max2 rfl) (by rfl) T.max (by decide +kernel) (pa_cons pe_int (pa_cons (pe_callB (call_min2 rfl) (by rfl) T.min (by decide +kernel) (pa_cons pe_int (pa_cons (pe_callB call_len_seq (by rfl) T.len PySem.boot_len (pa_cons (pv 0) pa_nil)) pa_nil))) pa_nil))) pa_nil)) (pg_name (i := 1) scLaw.nd rfl (Or.inl rfl))
        (pss_cons (ps_set (i := 2) scLaw.nd rfl (Or.inr rfl) (C8.pe_c Y.purse hr (by decide) rfl (pa_cons (C8.pe_c Y.cell hr (by decide) rfl (pa_cons (pv 0) (pa_cons (pv 1) pa_nil))) pa_nil)))
        (pss_cons (ps_set (i := 3) scLaw.nd rfl (Or.inl rfl) (C8.pe_c Y.term hr (by decide) rfl (pa_cons (pv 2) (pa_cons (C8.pe_c Y.take hr (by decide) rfl (pa_cons (pv 2) (pa_cons pe_int pa_nil))) (pa_cons pe_int pa_nil)))))
        (pss_cons (ps_set (i := 4) scLaw.nd rfl (Or.inl rfl) (pe_ix ix_list (pe_lst (pa_cons (C8.pe_c Y.take hr (by decide) rfl (pa_cons (pv 2) (pa_cons pe_int pa_nil))) (pa_cons pe_int pa_nil))) (pe_callTy call_int1 (by rfl) T.int (by decide +kernel) (pa_cons (pe_cmpR op_eq (C8.pe_c Y.take hr (by decide) rfl (pa_cons (pv 2) (pa_cons pe_int pa_nil))) pe_int (nomark _)) pa_nil)) (fun _ _ => rfl)))
        (pss_cons (ps_setLc (i := 6) (own := [("_law_turn", 5)]) (g := gName 5) (tt := tYes) rfl scLaw.nd rfl rfl (sw_true rfl rfl rfl (by decide +kernel)) (pi_range1 (by rfl) T.range (pa_cons (pv 4) pa_nil)) (blkOk_by (N := nLaw) (sc := defScope sLaw) (by decide +kernel))
            (fun _ _ _ _ _ => pg_name (i := 5) scLaw.nd rfl (Or.inl rfl)) (fun _ _ _ _ _ => pts_nil) (fun _ _ _ _ _ => C8.pe_c Y.term hr (by decide) rfl (pa_cons (pv 2) (pa_cons (C8.pe_c Y.take hr (by decide) rfl (pa_cons (pv 2) (pa_cons pe_int pa_nil))) (pa_cons pe_int pa_nil)))))
        (pss_cons (ps_set (i := 7) scLaw.nd rfl (Or.inl rfl) (C8.pe_c Y.lapp hr (by decide) rfl (pa_cons (pv 3) (pa_cons (pv 6) pa_nil))))
        (pss_cons (ps_set (i := 8) scLaw.nd rfl (Or.inl rfl) (pe_ix ix_list (pe_lst (pa_cons (pe_callTy call_list_of (by rfl) T.list (by decide +kernel) (pa_cons (pv 6) pa_nil)) (pa_cons (pe_callTy call_tuple_of (by rfl) T.tuple (by decide +kernel) (pa_cons (pv 6) pa_nil)) pa_nil))) (C8.pe_c Y.take hr (by decide) rfl (pa_cons (pv 2) (pa_cons pe_int pa_nil))) (fun _ _ => rfl)))
        (pss_cons (ps_set (i := 9) scLaw.nd rfl (Or.inl rfl) (pe_callB (call_repr hg hu) (by rfl) T.repr (by decide +kernel) (pa_cons (pv 8) pa_nil)))
        (pss_cons (ps_if (PW.pt (pw_or (pt_cmpR (KA.op_neD hu64) (pe_callS FA (hr.mono (by decide)) rfl mA kA bA (fun σ => passF) (pa_cons (pv 3) (pa_cons (pv 8) pa_nil))) (pv 7) (nomark _))
            (pw_or1 (pt_cmpR op_ne (pe_callB (call_repr hg hu) (by rfl) T.repr (by decide +kernel) (pa_cons (pv 8) pa_nil)) (pv 9) (nomark _))))) (pss_one (ps_ret pe_bl)) pss_nil)
        (pss_cons (ps_for PassesOwn.never rfl (pi_range1 (by rfl) T.range (pa_cons pe_int pa_nil)) (pg_name (i := 5) scLaw.nd rfl (Or.inl rfl)) htt)
        (pss_cons (ps_set (i := 11) scLaw.nd rfl (Or.inl rfl) (pe_ix ix_list (pe_lst (pa_cons pe_non (pa_cons pe_int (pa_cons (pe_tup (pa_cons pe_str pa_nil)) (pa_cons (pe_tup pa_nil) (pa_cons pe_str (pa_cons pe_dnewK (pa_cons (pe_tup (pa_cons pe_str (pa_cons pe_int pa_nil))) (pa_cons (pe_tup (pa_cons pe_str (pa_cons pe_bl pa_nil))) (pa_cons (pe_tup (pa_cons pe_str (pa_cons (pv 3) pa_nil))) pa_nil))))))))))
            (C8.pe_c Y.take hr (by decide) rfl (pa_cons (pv 2) (pa_cons pe_int pa_nil))) (fun _ _ => rfl)))
        (pss_cons (ps_set (i := 12) scLaw.nd rfl (Or.inl rfl) (C8.pe_c Y.take hr (by decide) rfl (pa_cons (pv 2) (pa_cons (pe_op op_add (pe_callB call_len_seq (by rfl) T.len PySem.boot_len (pa_cons (pv 6) pa_nil)) pe_int) pa_nil))))
        (pss_cons (ps_set (i := 13) scLaw.nd rfl (Or.inl rfl) (pe_op op_cat (pe_op op_cat (pe_op op_cat (pe_slice sl_list (pv 6) po_none (po_some (pv 12))) (pe_lst (pa_cons (pv 11) pa_nil))) (pe_slice sl_list (pv 6) (po_some (pv 12)) po_none)) (pe_lst (pa_cons pe_non pa_nil))))
        (pss_cons (ps_set (i := 14) scLaw.nd rfl (Or.inl rfl) (pe_ix ix_list (pe_lst (pa_cons pe_non (pa_cons pe_str (pa_cons pe_int (pa_cons pe_dnewK (pa_cons pe_bl pa_nil)))))) (C8.pe_c Y.take hr (by decide) rfl (pa_cons (pv 2) (pa_cons pe_int pa_nil))) (fun _ _ => rfl)))
        (pss_cons (ps_set (i := 15) scLaw.nd rfl (Or.inl rfl) (pe_lst (pa_cons (pe_tup (pa_cons (pv 11) (pa_cons (pv 14) (pa_cons (pv 11) pa_nil)))) (pa_cons (pe_tup (pa_cons (pv 3) (pa_cons (pv 14) (pa_cons (pv 14) pa_nil)))) (pa_cons (pe_tup (pa_cons (pv 3) (pa_cons (pv 13) (pa_cons (pv 11) pa_nil)))) (pa_cons (pe_tup (pa_cons (pv 11) (pa_cons (pv 13) (pa_cons (pv 11) pa_nil)))) pa_nil))))))
        (pss_cons (ps_set (i := 15) scLaw.nd rfl (Or.inl rfl) (pe_op op_cat (pv 15) (pe_lst (pa_cons (pe_tup (pa_cons (pv 3) (pa_cons (pe_callTy call_tuple_of (by rfl) T.tuple (by decide +kernel) (pa_cons (pv 13) pa_nil)) (pa_cons (pv 11) pa_nil)))) (pa_cons (pe_tup (pa_cons (pv 11) (pa_cons (pv 6) (pa_cons (pv 11) pa_nil))))
            (pa_cons (pe_tup (pa_cons (pv 11) (pa_cons (pe_lst (pa_cons (pe_tup (pa_cons (pv 11) pa_nil)) pa_nil)) (pa_cons (pv 11) pa_nil)))) pa_nil))))))
        (pss_cons (ps_for PassesOwn.never rfl (pi_list (pv 15)) (pg_tup rfl (pgs_cons (pg_name (i := 16) scLaw.nd rfl (Or.inl rfl)) (pgs_cons (pg_name (i := 17) scLaw.nd rfl (Or.inl rfl)) (pgs_cons (pg_name (i := 18) scLaw.nd rfl (Or.inl rfl)) pgs_nil)))) htr)
        (pss_cons (ps_set (i := 19) scLaw.nd rfl (Or.inl rfl) (pe_lst (pa_cons (pv 7) pa_nil)))
        (pss_one (ps_if (PW.pt (pw_or (pt_not (pt_val (pe_callG FN hg (hr.mono (by decide)) rfl mN kN bN (pa_cons (pv 11) (pa_cons pe_bl pa_nil))))) (pw_or1 (pt_not (pt_val (pe_callG FN hg (hr.mono (by decide)) rfl mN kN bN (pa_cons (pv 19) (pa_cons pe_bl pa_nil)))))))) (pss_one (ps_ret pe_bl)) pss_nil)))))))))))))))))))) (pss_one (ps_ret pe_bl))), ?_⟩
    have small : ∀ j : Int, -(2 ^ 62) ≤ (if (if j < 10 then j else 10) > 2 then (if j < 10 then j else 10) else 2) ∧ (if (if j < 10 then j else 10) > 2 then (if j < 10 then j else 10) else 2) < 2 ^ 62 := fun j => by
      split <;> split <;> constructor <;> omega
    have small := small ((ns.map V.int).length : Int)
    refine ⟨_, rfl, a, _, rfl, Or.inl hS, _, _, rfl, _, _, rfl, _, rfl, small.1, small.2, ?_⟩
    clear small
    generalize (if (if (((ns.map V.int).length : Nat) : Int) < 10 then (((ns.map V.int).length : Nat) : Int) else 10) > 2 then (if (((ns.map V.int).length : Nat) : Int) < 10 then (((ns.map V.int).length : Nat) : Int) else 10) else 2) = m
    refine for_range (lo := 0) (n := m.toNat) (fun i σ H' => ∃ x1 x2 x3 x4 x5 x6 x7 x8 x9 x10 x11 x12 x13 x14 x15 x16 x17 x18 x19, σ = [some (.ref a), x1, x2, x3, x4, x5, x6, x7, x8, x9, x10, x11, x12, x13, x14, x15, x16, x17, x18, x19] ∧ Same H H') ⟨none, none, none, none, none, none, none, none, none, none, none, none, none, none, none, none, none, none, none, rfl, Same.refl H⟩ ?_ ?_
    · rintro i σ H1 hi ⟨x1, x2, x3, x4, x5, x6, x7, x8, x9, x10, x11, x12, x13, x14, x15, x16, x17, x18, x19, rfl, S1⟩
      refine st_name ?_
      refine ⟨.ref a, rfl, _, rfl, a, ns, i, by rw [Int.zero_add]; rfl, sql_mono S1 hS, fun z => ?_⟩
      refine ⟨z, rfl, fun p H2 np S2 p2 => ?_⟩
      refine st_name ?_
      have S12 : Same H1 (hid p H2) := Same.to_hid S2 np
      -- the head
      refine ⟨.ref p, rfl, .ref p, rfl, p, 0, 4, rfl, p2, by decide, by decide, by decide, fun r H3 r0 r1 p3 S3 => ?_⟩
      obtain ⟨k, rfl⟩ : ∃ k : Nat, r = (k : Int) := ⟨r.toNat, by omega⟩
      have k64 : 4 ^ k ≤ 64 := Nat.le_trans (Nat.pow_le_pow_right (by decide) (by omega : k ≤ 3)) (by decide)
      refine ⟨p, 0 + 1, k, 9, rfl, p3, by omega, by decide, by decide, Nat.le_trans (by omega : 0 + 1 + 40 * 4 ^ k ≤ 3000) (by decide), fun hv hd H4 dh th bh0 p4 S4 => ?_⟩
      have bh : Bd 4 64000 hd := bh0.mono (by omega) (by omega)
      have p4 : Purse H4 p 3000 := p4.more (by omega)
      have S14 := (S12.trans S3).trans S4
      -- how many
      refine ⟨.ref p, rfl, p, 3000, 7, rfl, p4, by decide, by decide, by decide, fun m1 H5 m10 m11 p5 S5 => ⟨(by show 2 ≤ sizeLine; decide), fun l0 hl0 => ?_⟩⟩
      have n0 : Same H5 (upd H5 l0 (.lst [.int m1, .int 12])) := Same.new hl0
      have e0 : upd H5 l0 (.lst [.int m1, .int 12]) l0 = some (.lst [.int m1, .int 12]) := upd_same
      obtain ⟨_, _, _, pe5, _⟩ := id p5
      have l0p : l0 ≠ p := off pe5 (Same.refl H5) hl0
      have p5 := p5.mono n0
      have S15 := (S14.trans S5).trans (Same.less (p := p) n0)
      have dh5 := Dn.mono (S5.trans (Same.less (p := p) n0)) dh
      generalize upd H5 l0 (.lst [.int m1, .int 12]) = H5' at e0 p5 S15 dh5
      refine ⟨.ref p, rfl, p, 3001, 8, rfl, p5, by decide, by decide, by decide, fun m2 H6 m20 m21 p6 S6 => ⟨rfl, Or.inr ⟨_, rfl, ?_⟩⟩⟩
      have pickM : ∀ b : Bool, ∃ M : Int, 0 ≤ M ∧ M ≤ 12 ∧ atI [V.int m1, V.int 12] (if b = true then 1 else 0) = some (.int M) := fun b => by
        cases b with
        | true => exact ⟨12, by decide, by decide, rfl⟩
        | false => exact ⟨m1, m10, by omega, rfl⟩
      obtain ⟨M, M0, M1, hM⟩ := pickM (decide (V.int m2 = V.int 0))
      refine ⟨l0, _, _, .int M, rfl, rfl, SqL.of (hid_sub _ _ (S6 _ _ (by rw [hid_ne l0p]; exact e0))), hM, st_name ?_⟩
      have S16 := S15.trans S6
      have dh6 := Dn.mono S6 dh5
      dsimp only
      refine st_seq (st_asg ?_)
      -- some terms
      refine ⟨.int M, rfl, M, rfl, by omega, by omega, fun D hD => ?_⟩
      have pD : p ≠ D := by
        obtain ⟨_, _, _, e, _⟩ := p6
        exact ne_of_none e hD
      refine lc_range (lo := 0) (n := M.toNat) (fun i H' => ∃ xs ds, H' D = some (.lst xs) ∧ DnAll (hid p H') xs ds ∧ ds.length = i ∧ tmAll ds = true ∧ (∀ d ∈ ds, Bd 3 16000 d) ∧ Purse H' p (3002 + 700 * i) ∧ Same (hid p H6) (hid p H')) ⟨[], [], upd_same, .nil, rfl, rfl, (fun d h => nomatch h), p6.mono (Same.new hD), Same.less (Same.new hD)⟩ ?_ ?_
      · rintro i' H7 hi' ⟨xs, ds, eD, dx, ld, td, bds, p7, S7⟩
        refine ⟨rfl, yes (iteT ?_)⟩
        refine ⟨.ref p, rfl, .ref p, rfl, p, _, 3, rfl, p7, Nat.le_trans (by omega : 3002 + 700 * i' ≤ 20000) (by decide), by decide, by decide, fun r H8 r0 r1 p8 S8 => ?_⟩
        obtain ⟨k', rfl⟩ : ∃ k : Nat, r = (k : Int) := ⟨r.toNat, by omega⟩
        have k16 : 4 ^ k' ≤ 16 := Nat.le_trans (Nat.pow_le_pow_right (by decide) (by omega : k' ≤ 2)) (by decide)
        refine ⟨p, _, k', 9, rfl, p8, by omega, by decide, by decide, Nat.le_trans (by omega : 3002 + 700 * i' + 1 + 40 * 4 ^ k' ≤ 30000) (by decide), fun v d H9 dv tv bv p9 S9 => ?_⟩
        have S89 := S8.trans S9
        have eD9 : H9 D = some (.lst xs) := hid_sub _ _ (S89 _ _ (by rw [hid_ne pD.symm]; exact eD))
        have lx := dx.length
        refine ⟨xs, eD9, small1000 (by omega), xs ++ [v], ds ++ [d], upd_same, ?_, ?_, ?_, ?_, ?_, ?_⟩
        · have S' : Same (hid D (hid p H9)) (hid p (upd H9 D (.lst (xs ++ [v])))) := fun b o z => by
            obtain ⟨n1, z1⟩ := hid_some z
            obtain ⟨n2, z2⟩ := hid_some z1
            rw [hid_ne n2, upd_ne n1]
            exact z2
          have eD' : hid p H9 D = some (.lst xs) := by rw [hid_ne pD.symm]; exact eD9
          have old : DnAll (hid D (hid p H9)) xs ds := flatAll_off eD' (DnAll.mono S89 dx) (tmAll_flat ds td)
          exact DnAll.mono S' (old.snoc (flat_off eD' dv (tm_flat d tv)))
        · rw [List.length_append, ld]
          rfl
        · rw [tmAll_append]
          simp only [tmAll, td, tv, Bool.and_self]
        · intro e he
          rcases List.mem_append.mp he with he | he
          · exact bds e he
          · rw [List.mem_singleton.mp he]
            exact bv.mono (by omega) (by omega)
        · obtain ⟨qa, qb, qc, e, q⟩ := p9.more (m := 3002 + 700 * (i' + 1)) (by omega)
          exact ⟨qa, qb, qc, by rw [upd_ne pD]; exact e, q⟩
        · exact Same.hidMut (S7.trans S89) (hid_none hD)
      · rintro H7 ⟨xs, ds, eD, dx, ld, td, bds, p7, S7⟩
        have p7 : Purse H7 p 12000 := p7.more (by omega)
        have S17 := S16.trans S7
        have dh7 := Dn.mono S7 dh6
        have ld12 : ds.length ≤ 12 := by omega
        have lx := dx.length
        refine st_name ?_
        dsimp only
        refine st_seq (st_asg ?_)
        -- the head given them
        have tdd := tm_apps th td
        refine ⟨hv, rfl, .ref D, rfl, hv, .ref D, hd, ds, rfl, Dn.mono hid_sub dh7, .lst eD (DnAll.mono hid_sub dx), fun dv H8 S8 ddv0 => ?_⟩
        have bdd : Bd 16 260000 (appsD hd ds) := (bd_apps (a := 3) (c := 16000) (m := 1) bh bds).mono (by omega) (by omega)
        have p8 := p7.mono S8
        obtain ⟨_, _, _, pe8, _⟩ := id p8
        have ddv := flat_off pe8 ddv0 (tm_flat _ tdd)
        have S8' := Same.less (p := p) S8
        have S18 := S17.trans S8'
        have dh8 := Dn.mono S8' dh7
        have dx8 := DnAll.mono S8' dx
        have eD8 := S8 _ _ eD
        clear eD dx dh7 p7 S8
        generalize hdd : appsD hd ds = dd at tdd bdd ddv
        refine st_name ?_
        dsimp only
        refine st_seq (st_asg ?_)
        -- handed in as a list or a tuple
        refine ⟨.ref D, rfl, D, xs, rfl, Or.inl (SqL.of eD8), fun l1 hl1 => ?_⟩
        have n1 : Same H8 (upd H8 l1 (.lst xs)) := Same.new hl1
        refine ⟨.ref D, rfl, D, xs, rfl, Or.inl ⟨SqL.of (n1 _ _ eD8), fun l2 hl2 => ⟨(by show 2 ≤ sizeLine; decide), fun l3 hl3 => ?_⟩⟩⟩
        have n2 : Same (upd H8 l1 (.lst xs)) (upd (upd H8 l1 (.lst xs)) l2 (.tup xs)) := Same.new hl2
        have n3 : Same (upd (upd H8 l1 (.lst xs)) l2 (.tup xs)) (upd (upd (upd H8 l1 (.lst xs)) l2 (.tup xs)) l3 (.lst [.ref l1, .ref l2])) := Same.new hl3
        have e1 := n3 _ _ (n2 l1 _ upd_same)
        have e2 := n3 l2 _ upd_same
        have e3 : upd (upd (upd H8 l1 (.lst xs)) l2 (.tup xs)) l3 (.lst [.ref l1, .ref l2]) l3 = some (.lst [.ref l1, .ref l2]) := upd_same
        have n := (n1.trans n2).trans n3
        have l1p : l1 ≠ p := off pe8 (Same.refl H8) hl1
        have l2p : l2 ≠ p := off pe8 n1 hl2
        have l3p : l3 ≠ p := off pe8 (n1.trans n2) hl3
        generalize upd (upd (upd H8 l1 (.lst xs)) l2 (.tup xs)) l3 (.lst [.ref l1, .ref l2]) = H9 at e1 e2 e3 n
        clear n1 n2 n3
        refine ⟨.ref p, rfl, p, _, 2, rfl, p8.mono n, by decide, by decide, by decide, fun r H10 r0 r1 p10 S10 => ?_⟩
        have S810 := (Same.less (p := p) n).trans S10
        have e1 := S10 l1 _ (by rw [hid_ne l1p]; exact e1)
        have e2 := S10 l2 _ (by rw [hid_ne l2p]; exact e2)
        have e3 := hid_sub _ _ (S10 l3 _ (by rw [hid_ne l3p]; exact e3))
        have dx10 := DnAll.mono S810 dx8
        have pickH : ∃ u e, atI [V.ref l1, V.ref l2] r = some u ∧ (e = .list ds ∨ e = .tuple ds) ∧ Dn (hid p H10) u e := by
          by_cases r2 : r = 0
          · subst r2
            exact ⟨_, _, rfl, Or.inl rfl, .lst e1 dx10⟩
          · obtain rfl : r = 1 := by omega
            exact ⟨_, _, rfl, Or.inr rfl, .tup e2 dx10⟩
        obtain ⟨u, e, au, ek, du⟩ := pickH
        refine ⟨l3, _, _, u, rfl, rfl, SqL.of e3, au, st_name ?_⟩
        have S110 := S18.trans S810
        have dh10 := Dn.mono S810 dh8
        have ddv10 := Dn.mono S810 ddv
        have eD10 := hid_sub _ _ (S810 D _ (by rw [hid_ne pD.symm]; exact eD8))
        clear e1 e2 e3 n S10 S810 dh8 ddv dx8 eD8 p8 au
        have bde : Bd 4 200000 e := by
          have ball : BdAll 3 (ds.length * 16002) ds := bd_all bds
          rcases ek with rfl | rfl
          · exact (Bd.lst ball).mono (by decide) (by omega)
          · exact (Bd.tup ball).mono (by decide) (by omega)
        have she := shown_le e bde.1
        have sze : e.shown.length ≤ sizeLine := Nat.le_trans she.1 (Nat.le_trans bde.2.2 (by decide))
        have dpe : e.depth ≤ 100 := Nat.le_trans bde.2.1 (by decide)
        dsimp only
        refine st_seq (st_asg ?_)
        refine ⟨u, rfl, u, e, rfl, Dn.mono hid_sub du, she.2, sze, dpe, st_name ?_⟩
        have okh : okT hd := ok_of bh (by decide)
        have oke : ∀ g ∈ itemsD e, okT g := by
          rcases ek with rfl | rfl <;> exact fun g hg => ok_of (bds g hg) (by decide)
        have ite : itemsD e = ds := by rcases ek with rfl | rfl <;> rfl
        have due0 : dueA hd e = none := by
          rcases ek with rfl | rfl
          · exact (due_fine th td).1
          · exact (due_fine th td).2
        dsimp only
        refine ⟨hv, rfl, u, rfl, hv, u, hd, e, rfl, Dn.mono hid_sub dh10, Dn.mono hid_sub du, okh, oke, fun _ r H11 S11 dr => ?_, fun g hg => ?_⟩
        · rw [ite, hdd] at dr
          have shd : SeqAt.shaped dd = true := by
            unfold SeqAt.shaped
            rw [lay_flat dd (tm_flat dd tdd) bdd.1, decide_eq_true (Nat.le_trans bdd.2.1 (by decide))]
            rfl
          have rf : PyData.eqv dd dd = true := SeqAt.eqv_refl dd (SeqAt.canLay_of_shaped shd)
          refine ⟨dv, rfl, dd, dd, dr, Dn.mono S11 (Dn.mono hid_sub ddv10), shd, shd, _, rfl, ?_⟩
          rw [rf]
          refine iteF ⟨u, rfl, u, e, rfl, Dn.mono S11 (Dn.mono hid_sub du), she.2, sze, dpe, _, rfl, rfl, _, rfl, ?_⟩
          rw [decide_eq_true rfl]
          refine iteF ?_
          -- told twice
          obtain ⟨hh, ol, oo, oll⟩ := op_ex 16 dd bdd.2.1 tdd
          have okd : okT dd := ok_of bdd (by decide)
          have p11 := p10.mono S11
          have S111 := S110.trans (Same.less (p := p) S11)
          have dh11 := Dn.mono (Same.less (p := p) S11) dh10
          have ddv11 := Dn.mono (Same.less (p := p) S11) ddv10
          have dx11 := DnAll.mono (Same.less (p := p) S11) dx10
          have eD11 := S11 _ _ eD10
          clear dr S11 S110 dh10 ddv10 dx10 eD10 p10 du dh6 p6 S16 S7
          refine ⟨2, rfl, by decide, by decide, for_range (lo := 0) (n := (2 : Int).toNat) (fun i' σ H' => ∃ t5 t10, σ = [some (.ref a), some (.int (0 + (i : Int))), some (.ref p), some hv, some (.int M), t5, some (.ref D), some dv, some u, some (.str e.shown), t10, x11, x12, x13, x14, x15, x16, x17, x18, x19] ∧ Same H11 H') ⟨x5, x10, rfl, Same.refl H11⟩ ?_ ?_⟩
          · rintro i' σ H12 hi' ⟨t5, t10, rfl, S12⟩
            refine st_name ?_
            exact toldB _ H12 _ _ _ _ _ _ _ _ _ _ _ _ _ _ _ _ _ _ hv dv hd dd hh ol (Dn.mono S12 (Dn.mono hid_sub dh11)) (Dn.mono S12 (Dn.mono hid_sub ddv11)) okd tdd (Nat.le_trans bdd.2.1 (by decide)) oo (Nat.le_trans oll (by decide)) fun H' z10 S' => ⟨_, _, rfl, S12.trans S'⟩
          · rintro σ H12 ⟨t5, t10, rfl, S12⟩
            have p12 := p11.mono S12
            have S112 := S111.trans (Same.less (p := p) S12)
            have dh12 := Dn.mono (Same.less (p := p) S12) dh11
            have ddv12 := Dn.mono (Same.less (p := p) S12) ddv11
            have dx12 := DnAll.mono (Same.less (p := p) S12) dx11
            have eD12 := S12 _ _ eD11
            clear dh11 ddv11 dx11 eD11 p11 S111 S12
            obtain ⟨_, _, _, pe12, _⟩ := id p12
            -- what is no term
            have E12 : EvL p _ [some (.ref a), some (.int (0 + (i : Int))), some (.ref p), some hv, some (.int M), t5, some (.ref D), some dv, some u, some (.str e.shown), t10, x11, x12, x13, x14, x15, x16, x17, x18, x19] H12 (noneL hd) := evl_lst (p := p) (len := by show 9 ≤ 1000; decide) pe12 (evds_cons evd_non (evds_cons (evd_int (z := 7)) (evds_cons (evd_tup pe12 (evds_cons (evd_str (x := "at")) evds_nil)) (evds_cons (evd_tup pe12 evds_nil) (evds_cons (evd_str (x := "at")) (evds_cons (evd_dic0 pe12)
              (evds_cons (evd_tup pe12 (evds_cons (evd_str (x := "kind")) (evds_cons (evd_int (z := 6)) evds_nil))) (evds_cons (evd_tup pe12 (evds_cons (evd_str (x := "at")) (evds_cons (evd_bl (b := true)) evds_nil))) (evds_cons (evd_tup pe12 (evds_cons (evd_str (x := "all")) (evds_cons (evd_var (i := 3) rfl dh12) evds_nil))) evds_nil)))))))))
            dsimp only
            refine st_seq (st_asg (st_op (E12 H12 (Same.refl H12) _ fun l4 ys H13 nl4 l4p S13 el4 dl4 => ?_)))
            refine ⟨.ref p, rfl, p, _, 9, rfl, p12.mono S13, by decide, by decide, by decide, fun r H14 r0 r1 p14 S14 => ?_⟩
            obtain ⟨sq, nv, nd, an, nm, dn14⟩ := pick (m := 9) (Q := fun _ => True) l4p el4 dl4 S14 r0 r1 rfl
            refine ⟨l4, _, _, _, rfl, rfl, sq, an, st_name ?_⟩
            have nno := none_no nd nm
            have nbd := none_bd bh nd nm
            have Sa := (Same.less (p := p) S13).trans S14
            have S114 := S112.trans Sa
            have dh14 := Dn.mono Sa dh12
            have ddv14 := Dn.mono Sa ddv12
            have dx14 := DnAll.mono Sa dx12
            have eD14 := hid_sub _ _ (Sa D _ (by rw [hid_ne pD.symm]; exact eD12))
            clear dh12 ddv12 dx12 eD12 p12 S112 E12 Sa S14 sq an dl4 el4 S13 pe12
            dsimp only
            refine st_seq (st_asg ?_)
            refine ⟨.ref p, rfl, .ref D, rfl, D, xs, rfl, Or.inl (SqL.of eD14), _, 1, rfl, rfl, p, _, _, rfl, p14, by decide, by omega, by omega, fun r H15 r0 r1 p15 S15 => st_name ?_⟩
            obtain ⟨j, rfl⟩ : ∃ j : Nat, r = (j : Int) := ⟨r.toNat, by omega⟩
            have jl : j ≤ xs.length := by omega
            have Sb := S15
            have S115 := S114.trans Sb
            have dh15 := Dn.mono Sb dh14
            have ddv15 := Dn.mono Sb ddv14
            have dx15 := DnAll.mono Sb dx14
            have dn15 := Dn.mono Sb dn14
            have eD15 := hid_sub _ _ (Sb D _ (by rw [hid_ne pD.symm]; exact eD14))
            clear dh14 ddv14 dx14 dn14 eD14 p14 S114 Sb S15
            obtain ⟨_, _, _, pe15, _⟩ := id p15
            -- spoilt
            have Es : EvL p _ [some (.ref a), some (.int (0 + (i : Int))), some (.ref p), some hv, some (.int M), t5, some (.ref D), some dv, some u, some (.str e.shown), t10, some nv, some (.int (j : Int)), x13, x14, x15, x16, x17, x18, x19] H15 (((ds.take j ++ [nd]) ++ ds.drop j) ++ [.none]) :=
              evl_cat2 pe15 (evl_cat2 pe15 (evl_cat2 pe15 (evl_slice (K := K) (i := 6) (lo := none) (hi := some (j : Int)) (tl := tNoPart) (th := tPart (tVar 12)) pe15 rfl eD15 (cutV_to jl) (dx15.take j) (fun _ _ z => z) (fun _ _ z => ⟨_, rfl, _, rfl, z⟩)) (evl_lst pe15 (evds_cons (evd_var (i := 11) rfl dn15) evds_nil)) (by rw [List.length_take]; show _ + 1 ≤ _; omega))
                (evl_slice (K := K) (i := 6) (lo := some (j : Int)) (hi := none) (tl := tPart (tVar 12)) (th := tNoPart) pe15 rfl eD15 (cutV_from jl) (dx15.drop j) (fun _ _ z => ⟨_, rfl, _, rfl, z⟩) (fun _ _ z => z)) (by rw [List.length_append, List.length_take, List.length_drop]; show _ + 1 + _ ≤ _; omega))
                (evl_lst pe15 (evds_cons evd_non evds_nil)) (by rw [List.length_append, List.length_append, List.length_take, List.length_drop]; show _ + 1 + _ + 1 ≤ _; omega)
            dsimp only
            refine st_seq (st_asg (Es H15 (Same.refl H15) _ fun l5 zs H16 nl5 l5p S16 el5 dl5 => st_name ?_))
            have bsp : badD (((ds.take j ++ [nd]) ++ ds.drop j) ++ [.none]) = some nd := by
              rw [List.append_assoc, List.append_assoc]
              exact badD_put (tmAll_take j td) nno
            have osp : ∀ g ∈ ((ds.take j ++ [nd]) ++ ds.drop j) ++ [PyData.none], okT g := fun g hg => by
              rw [List.append_assoc, List.append_assoc] at hg
              rcases List.mem_append.mp hg with hg | hg
              · exact ok_of (bds g (List.mem_of_mem_take hg)) (by decide)
              rcases List.mem_append.mp hg with hg | hg
              · rw [List.mem_singleton.mp hg]
                exact ok_of nbd (by decide)
              rcases List.mem_append.mp hg with hg | hg
              · exact ok_of (bds g (List.mem_of_mem_drop hg)) (by decide)
              · rw [List.mem_singleton.mp hg]
                exact ⟨rfl, by simp [nodes]⟩
            generalize ((ds.take j ++ [nd]) ++ ds.drop j) ++ [PyData.none] = sp at bsp osp dl5
            have p16 := p15.mono S16
            obtain ⟨_, _, _, pe16, _⟩ := id p16
            have Sb := Same.less (p := p) S16
            have S116 := S115.trans Sb
            have dh16 := Dn.mono Sb dh15
            have ddv16 := Dn.mono Sb ddv15
            have dx16 := DnAll.mono Sb dx15
            have dn16 := Dn.mono Sb dn15
            have eD16 := S16 _ _ eD15
            have ds16 : DnAll (hid p H16) zs sp := DnAll.mono hid_sub dl5
            clear dh15 ddv15 dx15 dn15 eD15 p15 S115 Sb S16 Es dl5 pe15
            -- what is neither a list nor a tuple
            have Eo : EvL p _ [some (.ref a), some (.int (0 + (i : Int))), some (.ref p), some hv, some (.int M), t5, some (.ref D), some dv, some u, some (.str e.shown), t10, some nv, some (.int (j : Int)), some (.ref l5), x14, x15, x16, x17, x18, x19] H16 oddL :=
              evl_lst (p := p) (len := by show 5 ≤ 1000; decide) pe16 (evds_cons evd_non (evds_cons (evd_str (x := "terms")) (evds_cons (evd_int (z := 7)) (evds_cons (evd_dic0 pe16) (evds_cons (evd_bl (b := true)) evds_nil)))))
            dsimp only
            refine st_seq (st_asg (st_op (Eo H16 (Same.refl H16) _ fun l6 ws H17 nl6 l6p S17' el6 dl6 => ?_)))
            refine ⟨.ref p, rfl, p, _, 5, rfl, p16.mono S17', by decide, by decide, by decide, fun r H18 r0 r1 p18 S18' => ?_⟩
            obtain ⟨sq, ov, od, ao, om, do18⟩ := pick (m := 5) (Q := fun _ => True) l6p el6 dl6 S18' r0 r1 rfl
            refine ⟨l6, _, _, _, rfl, rfl, sq, ao, st_name ?_⟩
            have ono := odd_no od om
            have obd : Bd 1 300 od := odd_bd od om
            have Sa := (Same.less (p := p) S17').trans S18'
            have S118 := S116.trans Sa
            have dh18 := Dn.mono Sa dh16
            have ddv18 := Dn.mono Sa ddv16
            have dx18 := DnAll.mono Sa dx16
            have dn18 := Dn.mono Sa dn16
            have ds18 := DnAll.mono Sa ds16
            have eD18' := Sa D _ (by rw [hid_ne pD.symm]; exact eD16)
            have el18' := Sa l5 _ (by rw [hid_ne l5p]; exact el5)
            have eD18 := hid_sub _ _ eD18'
            have el18 := hid_sub _ _ el18'
            clear dh16 ddv16 dx16 dn16 ds16 eD16 el5 p16 S116 Eo Sa S17' S18' sq ao dl6 el6 pe16
            obtain ⟨_, _, _, pe18, _⟩ := id p18
            -- the rows
            have ER : EvL p _ [some (.ref a), some (.int (0 + (i : Int))), some (.ref p), some hv, some (.int M), t5, some (.ref D), some dv, some u, some (.str e.shown), t10, some nv, some (.int (j : Int)), some (.ref l5), some ov, x15, x16, x17, x18, x19] H18 [.tuple [nd, od, nd], .tuple [hd, od, od], .tuple [hd, .list sp, nd], .tuple [nd, .list sp, nd]] :=
              evl_lst (p := p) pe18 (evds_cons (evd_tup pe18 (evds_cons (evd_var (i := 11) rfl dn18) (evds_cons (evd_var (i := 14) rfl do18) (evds_cons (evd_var (i := 11) rfl dn18) evds_nil)))) (evds_cons (evd_tup pe18 (evds_cons (evd_var (i := 3) rfl dh18) (evds_cons (evd_var (i := 14) rfl do18) (evds_cons (evd_var (i := 14) rfl do18) evds_nil))))
                (evds_cons (evd_tup pe18 (evds_cons (evd_var (i := 3) rfl dh18) (evds_cons (evd_var (i := 13) rfl (.lst el18' ds18)) (evds_cons (evd_var (i := 11) rfl dn18) evds_nil)))) (evds_cons (evd_tup pe18 (evds_cons (evd_var (i := 11) rfl dn18) (evds_cons (evd_var (i := 13) rfl (.lst el18' ds18)) (evds_cons (evd_var (i := 11) rfl dn18) evds_nil)))) evds_nil))))
            dsimp only
            refine st_seq (st_asg (ER H18 (Same.refl H18) _ fun l7 rs H19 nl7 l7p S19 el7 dl7 => st_name ?_))
            have p19 := p18.mono S19
            obtain ⟨_, _, _, pe19, _⟩ := id p19
            have Sb := Same.less (p := p) S19
            have S119 := S118.trans Sb
            have dh19 := Dn.mono Sb dh18
            have ddv19 := Dn.mono Sb ddv18
            have dx19 := DnAll.mono Sb dx18
            have dn19 := Dn.mono Sb dn18
            have ds19 := DnAll.mono Sb ds18
            have eD19' := Sb _ _ eD18'
            have el19 := S19 _ _ el18
            clear dh18 ddv18 dx18 dn18 ds18 eD18 eD18' el18 el18' p18 S118 ER S19 do18 Sb pe18
            have ER2 := evl_cat (te := tVar 15) (σ := [some (.ref a), some (.int (0 + (i : Int))), some (.ref p), some hv, some (.int M), t5, some (.ref D), some dv, some u, some (.str e.shown), t10, some nv, some (.int (j : Int)), some (.ref l5), some ov, some (.ref l7), x16, x17, x18, x19]) pe19 el7 (DnAll.mono hid_sub dl7) (fun H1 Q q => ⟨_, rfl, q⟩)
              (evl_lst (p := p) pe19 (evds_cons (evd_tup pe19 (evds_cons (evd_var (i := 3) rfl dh19) (evds_cons (evd_tupleof (K := K) (i := 13) pe19 rfl el19 ds19) (evds_cons (evd_var (i := 11) rfl dn19) evds_nil)))) (evds_cons (evd_tup pe19 (evds_cons (evd_var (i := 11) rfl dn19) (evds_cons (evd_var (i := 6) rfl (.lst eD19' dx19)) (evds_cons (evd_var (i := 11) rfl dn19) evds_nil))))
                (evds_cons (evd_tup pe19 (evds_cons (evd_var (i := 11) rfl dn19) (evds_cons (evd_lst pe19 (evds_cons (evd_tup pe19 (evds_cons (evd_var (i := 11) rfl dn19) evds_nil)) evds_nil)) (evds_cons (evd_var (i := 11) rfl dn19) evds_nil)))) evds_nil)))) (by simp)
            dsimp only
            refine st_seq (st_asg ?_)
            refine ER2 H19 (Same.refl H19) _ fun l8 qs H20 nl8 l8p S20 el8 dl8 => st_name ?_
            have nok : okT nd := ok_of nbd (by decide)
            have gN : Bd 80 400000 nd := nbd.mono (by decide) (by decide)
            have gO : Bd 80 400000 od := obd.mono (by decide) (by decide)
            have ito : ∀ x ∈ itemsD od, okT x := by
              rw [items_odd ono]
              exact fun x hx => nomatch hx
            have dn20 := Dn.mono S20 (Dn.mono hid_sub dn19)
            have ddv20 := Dn.mono S20 (Dn.mono hid_sub ddv19)
            have S120 : Same H1 H20 := (S119.trans hid_sub).trans S20
            have rok : ∀ r ∈ [.tuple [nd, od, nd], .tuple [hd, od, od], .tuple [hd, .list sp, nd], .tuple [nd, .list sp, nd]] ++ [PyData.tuple [hd, .tuple sp, nd], .tuple [nd, .list ds, nd], .tuple [nd, .list [.tuple [nd]], nd]], RowOk r := by
              intro r hr'
              simp only [List.cons_append, List.nil_append, List.mem_cons, List.not_mem_nil, or_false] at hr'
              rcases hr' with rfl | rfl | rfl | rfl | rfl | rfl | rfl
              · exact ⟨nd, od, nd, rfl, due_first nno, nok, ito, gN⟩
              · exact ⟨hd, od, od, rfl, due_odd th ono, okh, ito, gO⟩
              · exact ⟨hd, .list sp, nd, rfl, due_lst th bsp, okh, osp, gN⟩
              · exact ⟨nd, .list sp, nd, rfl, due_first nno, nok, osp, gN⟩
              · exact ⟨hd, .tuple sp, nd, rfl, due_tup th bsp, okh, osp, gN⟩
              · exact ⟨nd, .list ds, nd, rfl, due_first nno, nok, fun g hg => ok_of (bds g hg) (by decide), gN⟩
              · refine ⟨nd, .list [.tuple [nd]], nd, rfl, due_first nno, nok, fun g hg => ?_, gN⟩
                rw [List.mem_singleton.mp hg]
                exact ok_of (Bd.tup (BdAll.one nbd)) (by decide)
            have dq : DnAll H20 qs ([.tuple [nd, od, nd], .tuple [hd, od, od], .tuple [hd, .list sp, nd], .tuple [nd, .list sp, nd]] ++ [PyData.tuple [hd, .tuple sp, nd], .tuple [nd, .list ds, nd], .tuple [nd, .list [.tuple [nd]], nd]]) := DnAll.mono hid_sub (DnAll.mono hid_sub dl8)
            clear ER2 dl8 dl7 dh19 ddv19 dx19 dn19 ds19 eD19' el19 S119 S20 pe19 p19
            generalize [.tuple [nd, od, nd], .tuple [hd, od, od], .tuple [hd, .list sp, nd], .tuple [nd, .list sp, nd]] ++ [PyData.tuple [hd, .tuple sp, nd], .tuple [nd, .list ds, nd], .tuple [nd, .list [.tuple [nd]], nd]] = RR at rok dq
            refine ⟨.ref l8, rfl, l8, rfl, ⟨_, SqL.of el8⟩, for_list (K := K) (a := l8) (xs := qs) (fun i' σ H' => ∃ y16 y17 y18, σ = [some (.ref a), some (.int (0 + (i : Int))), some (.ref p), some hv, some (.int M), t5, some (.ref D), some dv, some u, some (.str e.shown), t10, some nv, some (.int (j : Int)), some (.ref l5), some ov, some (.ref l8), y16, y17, y18, x19] ∧ Same H20 H') ⟨x16, x17, x18, rfl, Same.refl H20⟩ (fun i' σ H' _ q => by obtain ⟨_, _, _, _, S⟩ := q; exact SqL.of (S _ _ el8)) ?_ ?_⟩
            · rintro i' x σ H21 hx ⟨y16, y17, y18, rfl, S21⟩
              obtain ⟨r, hr', dr⟩ := dq.at hx
              obtain ⟨da, db, dc, rfl, due, oka, okb, bg⟩ := rok r (List.mem_of_getElem? hr')
              obtain ⟨tp, vs, rfl, ht, dvs⟩ := tup_inv (Dn.mono S21 dr)
              obtain ⟨va, vs, rfl, q1, dvs⟩ := cons_inv dvs
              obtain ⟨vb, vs, rfl, q2, dvs⟩ := cons_inv dvs
              obtain ⟨vc, vs, rfl, q3, dvs⟩ := cons_inv dvs
              obtain rfl := nil_inv dvs
              refine ⟨tp, _, rfl, SqT.of ht, rfl, _, _, rfl, _, _, rfl, _, _, rfl, rfl, ?_⟩
              exact rowsB _ H21 _ _ _ _ _ _ _ _ _ _ _ _ _ _ _ _ _ va vb vc da db dc q1 q2 q3 due oka okb bg fun H' S' => ⟨_, _, _, rfl, S21.trans S'⟩
            · rintro σ H21 ⟨y16, y17, y18, rfl, S21⟩
              have dn21 := Dn.mono S21 dn20
              have ddv21 := Dn.mono S21 ddv20
              dsimp only
              refine st_seq (st_asg ?_)
              refine ⟨dv, rfl, (by show 1 ≤ sizeLine; decide), fun lg hlg => st_name ?_⟩
              have ng : Same H21 (upd H21 lg (.lst [dv])) := Same.new hlg
              have eg : upd H21 lg (.lst [dv]) lg = some (.lst [dv]) := upd_same
              have Sg : Same H21 (hid lg (upd H21 lg (.lst [dv]))) := Same.to_hid ng hlg
              generalize upd H21 lg (.lst [dv]) = H22 at ng eg Sg
              dsimp only
              refine ⟨nv, rfl, nv, nd, false, rfl, Dn.mono ng dn21, nok, nbd.mono (by decide) (by decide), nno, Or.inl ⟨rfl, fun H23 S23 => ⟨_, rfl, ?_⟩⟩⟩
              have eg3 := S23 _ _ eg
              have ddv23 := Dn.mono (ng.trans S23) ddv21
              have bg : Bd 90 400000 (.list [dd]) := (Bd.lst (BdAll.one bdd)).mono (by decide) (by decide)
              refine iteF ⟨.ref lg, rfl, .ref lg, .list [dd], true, rfl, .lst eg3 (.one ddv23), ok_of bg (by decide), bg, (by simp [tm]), Or.inr ⟨rfl, lg, [dv], [dd], rfl, eg3, rfl, (by show 1 ≤ 10; decide), .one (flat_off eg3 ddv23 (tm_flat dd tdd)), fun H24 S24 => ⟨_, rfl, ?_⟩⟩⟩
              refine iteF ⟨_, _, _, _, _, _, _, _, _, _, _, _, _, _, _, _, _, _, _, rfl, ?_⟩
              exact S1.trans ((S120.trans S21).trans (((Sg.trans (Same.less S23)).trans S24).trans hid_sub))
        · rw [due0] at hg
          cases hg
    · rintro σ H1 ⟨x1, x2, x3, x4, x5, x6, x7, x8, x9, x10, x11, x12, x13, x14, x15, x16, x17, x18, x19, rfl, S1⟩
      exact fin H1
end
end KP
set_option Elab.async false
set_option linter.unusedVariables false
set_option maxRecDepth 100000
set_option maxHeartbeats 2000000
namespace KP
open PySem PySem.Spec PyProof.Rows L2 KA
/-! ### what stands behind the top -/
structure DefAt (K : PySem.W.Frag) (x : Str) (st : Stmt) (f : Addr) (fd : FuncData) : Prop where
  at_ : PySem.W.nsIn K mainGlobals x = some (some (.ref f))
  fn : Fun K x x st f fd
theorem defAt {K : PySem.W.Frag} {x : Str} {st : Stmt} {f : Addr} {oc : Value} {od an : Option Addr} {osl : Array (Option Value)} {kV doc pm cdv ct : Value} (a : PySem.W.nsIn K mainGlobals x = some (some (.ref f))) (l : K.lookup f = some ⟨oc, od, .func (PySem.W.fnOf x x (defArgs st) (defBody st) (defScope st) .none kV doc pm an cdv ct), osl⟩)
    (c : PySem.W.codeIn K cdv x = true) (k : PySem.W.keepIn K (.ref f) = true) : ∃ f fd, DefAt K x st f fd := ⟨_, _, a, fun_mk l c k⟩
structure Facts (K : PySem.W.Frag) (w : World) : Prop where
  whole : ∃ f fd, DefAt K "is_whole" sWhole f fd
  name : ∃ f fd, DefAt K "is_name" sName f fd
  leaf : ∃ f fd, DefAt K "_is_leaf" sLeaf f fd
  term : ∃ f fd, DefAt K "is_term" sTerm f fd
  want : ∃ f fd, DefAt K "want_term" sWant f fd
  applied : ∃ f fd, DefAt K "applied" sApplied f fd
  opened : ∃ f fd, DefAt K "opened" sOpened f fd
  given : ∃ f fd, DefAt K "given_all" sGiven f fd
  headg : ∃ f fd, DefAt K "head_and_given" sHead f fd
  cell : ∃ f fd, DefAt K "_law_cell" sCell f fd
  purse : ∃ f fd, DefAt K "_law_purse" sPurse f fd
  take : ∃ f fd, DefAt K "_law_take" sTake f fd
  forms : ∃ f fd, DefAt K "_law_forms" sForms f fd
  word : ∃ f fd, DefAt K "_law_word" sWord f fd
  tm : ∃ f fd, DefAt K "_law_term" sTm f fd
  lapp : ∃ f fd, DefAt K "_law_applied" sLApp f fd
  lop : ∃ f fd, DefAt K "_law_opened" sLOp f fd
  lcau : ∃ f fd, DefAt K "_law_caught" sLCau f fd
  lno : ∃ f fd, DefAt K "_law_no_opened" sLNo f fd
  law : ∃ f fd, DefAt K "law" sLaw f fd
  count : ∃ f fd, PySem.W.nsIn K mainGlobals "is_count" = some (some (.ref f)) ∧ FunD K "is_count" "is_count" (defArgs sCount) (defBody sCount) (defScope sCount) [.int 0] [] f fd
  isi : PySem.W.nsIn K mainGlobals "isinstance" = some none
  int : PySem.W.nsIn K mainGlobals "int" = some none
  bool : PySem.W.nsIn K mainGlobals "bool" = some none
  str : PySem.W.nsIn K mainGlobals "str" = some none
  tuple : PySem.W.nsIn K mainGlobals "tuple" = some none
  list : PySem.W.nsIn K mainGlobals "list" = some none
  dict : PySem.W.nsIn K mainGlobals "dict" = some none
  len : PySem.W.nsIn K mainGlobals "len" = some none
  all : PySem.W.nsIn K mainGlobals "all" = some none
  max : PySem.W.nsIn K mainGlobals "max" = some none
  min : PySem.W.nsIn K mainGlobals "min" = some none
  range : PySem.W.nsIn K mainGlobals "range" = some none
  zip : PySem.W.nsIn K mainGlobals "zip" = some none
  repr : PySem.W.nsIn K mainGlobals "repr" = some none
  letters : ∃ u, PySem.W.nsIn K mainGlobals "LETTERS" = some (some u) ∧ RelV (.str KP.letters) u
  most : ∃ u, PySem.W.nsIn K mainGlobals "MOST_LETTERS" = some (some u) ∧ RelV (.int 8) u
  highest : ∃ u, PySem.W.nsIn K mainGlobals "HIGHEST" = some (some u) ∧ RelV (.int 5) u
  no : ∃ a o its n, PySem.W.nsIn K mainGlobals "NO_NAMES" = some (some (.ref a)) ∧ K.lookup a = some o ∧ o.cls = .type "tuple" ∧ o.data = .seq its n ∧ its.size ≤ sizeLine ∧ Vals (noNames.map V.str) its.toList
  parted : ∃ a es n, PySem.W.nsIn K mainGlobals "PARTED" = some (some (.ref a)) ∧ KDict K w a es n ∧ ∀ z, ∃ r, PySem.W.nsIn K a z = some r ∧ RelO ((parts z).map fun n => V.int (n : Int)) r
  not : ∃ C U fI fdI, PySem.W.nsIn K mainGlobals "PaperError" = some (some (.ref U)) ∧ PySem.W.nsIn K mainGlobals "NoTerm" = some (some (.ref C)) ∧ OexC K C ∧ UpC K U ∧ PySem.W.findIn K (.ref C) "__init__" = some (some (.ref fI)) ∧ PySem.W.typeIn K (.ref fI) = some (.type "function") ∧
    PySem.W.findIn K (.ref C) "found" = some none ∧ Fun K "__init__" "NoTerm.__init__" sInit fI fdI ∧ XfC K C ∧ PySem.W.exmOne K (.ref C) (.ref C) = some true
section
variable {P : Program} {w : World} {K : PySem.W.Frag} {h : Heap} {mg : Str → Option Value}
theorem Facts.txt (Z : Facts K w) (X : K.In h) (G : h.Ns mainGlobals mg) : Txt K w mg where
  isi := PySem.W.mg_none_of X G Z.isi
  int := PySem.W.mg_none_of X G Z.int
  bool := PySem.W.mg_none_of X G Z.bool
  str := PySem.W.mg_none_of X G Z.str
  tuple := PySem.W.mg_none_of X G Z.tuple
  list := PySem.W.mg_none_of X G Z.list
  dict := PySem.W.mg_none_of X G Z.dict
  len := PySem.W.mg_none_of X G Z.len
  all := PySem.W.mg_none_of X G Z.all
  max := PySem.W.mg_none_of X G Z.max
  min := PySem.W.mg_none_of X G Z.min
  range := PySem.W.mg_none_of X G Z.range
  zip := PySem.W.mg_none_of X G Z.zip
  repr := PySem.W.mg_none_of X G Z.repr
  letters := by
    obtain ⟨u, e, r⟩ := Z.letters
    exact ⟨u, PySem.W.mg_of X G e, r⟩
  most := by
    obtain ⟨u, e, r⟩ := Z.most
    exact ⟨u, PySem.W.mg_of X G e, r⟩
  highest := by
    obtain ⟨u, e, r⟩ := Z.highest
    exact ⟨u, PySem.W.mg_of X G e, r⟩
  no := by
    obtain ⟨a, o, its, n, e, r⟩ := Z.no
    exact ⟨a, o, its, n, PySem.W.mg_of X G e, r⟩
  parted := by
    obtain ⟨a, es, n, e, r⟩ := Z.parted
    exact ⟨a, es, n, PySem.W.mg_of X G e, r⟩
theorem DefAt.dfn {x : Str} {st : Stmt} {f : Addr} {fd : FuncData} {ps : List Str} (D : DefAt K x st f fd) (X : K.In h) (G : h.Ns mainGlobals mg)
    (b : ∀ (kV doc pm : Value) (an : Option Addr) (cdv ct : Value) (us : List Value), us.length = ps.length → bindArgs (PySem.W.fnOf x x (defArgs st) (defBody st) (defScope st) .none kV doc pm an cdv ct) ⟨us, []⟩ = pure (ps.zip us)) : Dfn K mg x st f fd ps :=
  ⟨D.fn, PySem.W.mg_of X G D.at_, D.fn.binds b⟩
theorem all_mk {fa : Addr} (X : K.In h) (G : h.Ns mainGlobals mg) (hfa : mg "law" = some (.ref fa)) (Z : Facts K w) :
    ∃ fd : FuncData, (∀ (s : Shared) (v : Value), BindsTo s fd ⟨[v], []⟩ [("_law_script", v)]) ∧ ∀ base : Heap, K.In base → base.Ns mainGlobals mg → FnG P w K mg base CX0 90 fa fd ["_law_script"] (spLaw K) := by
  have T := Z.txt X G
  obtain ⟨f_whole, d_whole, D_whole⟩ := Z.whole
  obtain ⟨f_name, d_name, D_name⟩ := Z.name
  obtain ⟨f_leaf, d_leaf, D_leaf⟩ := Z.leaf
  obtain ⟨f_term, d_term, D_term⟩ := Z.term
  obtain ⟨f_want, d_want, D_want⟩ := Z.want
  obtain ⟨f_applied, d_applied, D_applied⟩ := Z.applied
  obtain ⟨f_opened, d_opened, D_opened⟩ := Z.opened
  obtain ⟨f_given, d_given, D_given⟩ := Z.given
  obtain ⟨f_headg, d_headg, D_headg⟩ := Z.headg
  obtain ⟨f_cell, d_cell, D_cell⟩ := Z.cell
  obtain ⟨f_purse, d_purse, D_purse⟩ := Z.purse
  obtain ⟨f_take, d_take, D_take⟩ := Z.take
  obtain ⟨f_forms, d_forms, D_forms⟩ := Z.forms
  obtain ⟨f_word, d_word, D_word⟩ := Z.word
  obtain ⟨f_tm, d_tm, D_tm⟩ := Z.tm
  obtain ⟨f_lapp, d_lapp, D_lapp⟩ := Z.lapp
  obtain ⟨f_lop, d_lop, D_lop⟩ := Z.lop
  obtain ⟨f_lcau, d_lcau, D_lcau⟩ := Z.lcau
  obtain ⟨f_lno, d_lno, D_lno⟩ := Z.lno
  obtain ⟨f_law, d_law, D_law⟩ := Z.law
  obtain ⟨f6, d6, e6, D6⟩ := Z.count
  obtain ⟨C, U, fI, fdI, eU, eC, oex, up, iC, tI, noF, FI, xf, te⟩ := Z.not
  have e := hfa.symm.trans (PySem.W.mg_of X G D_law.at_)
  cases e
  have m6 := PySem.W.mg_of X G e6
  obtain ⟨ds0, v0, b0⟩ := D6.binds1 (ps := ["thing", "low"]) 1 0 (by simp) rfl fun _ _ _ _ _ _ _ us its hu hi => match us, its, hu, hi with | [_], [_], _, _ => ⟨_, rfl, rfl⟩
  obtain ⟨ds1, v1, b1⟩ := D6.binds1 (ps := ["thing", "low"]) 2 1 (by simp) rfl fun _ _ _ _ _ _ _ us its hu hi => match us, its, hu, hi with | [_, _], [_], _, _ => ⟨_, rfl, rfl⟩
  have bI : Binds K fdI ["self", "found"] [] := FI.binds fun _ _ _ _ _ _ us hl => match us, hl with | [_, _], _ => rfl
  have NT : NoT K mg C U fI fdI := ⟨oex, up, PySem.W.mg_of X G eU, PySem.W.mg_of X G eC, iC, tI, noF, FI, bI, xf, te⟩
  have N_whole : Dfn K mg "is_whole" sWhole f_whole d_whole ["thing", "low", "high"] := D_whole.dfn X G fun _ _ _ _ _ _ us hl => match us, hl with | [_, _, _], _ => rfl
  have N_name : Dfn K mg "is_name" sName f_name d_name ["thing"] := D_name.dfn X G fun _ _ _ _ _ _ us hl => match us, hl with | [_], _ => rfl
  have N_leaf : Dfn K mg "_is_leaf" sLeaf f_leaf d_leaf ["thing"] := D_leaf.dfn X G fun _ _ _ _ _ _ us hl => match us, hl with | [_], _ => rfl
  have N_term : Dfn K mg "is_term" sTerm f_term d_term ["thing"] := D_term.dfn X G fun _ _ _ _ _ _ us hl => match us, hl with | [_], _ => rfl
  have N_want : Dfn K mg "want_term" sWant f_want d_want ["thing"] := D_want.dfn X G fun _ _ _ _ _ _ us hl => match us, hl with | [_], _ => rfl
  have N_applied : Dfn K mg "applied" sApplied f_applied d_applied ["head", "some"] := D_applied.dfn X G fun _ _ _ _ _ _ us hl => match us, hl with | [_, _], _ => rfl
  have N_opened : Dfn K mg "opened" sOpened f_opened d_opened ["term"] := D_opened.dfn X G fun _ _ _ _ _ _ us hl => match us, hl with | [_], _ => rfl
  have N_given : Dfn K mg "given_all" sGiven f_given d_given ["head", "some"] := D_given.dfn X G fun _ _ _ _ _ _ us hl => match us, hl with | [_, _], _ => rfl
  have N_headg : Dfn K mg "head_and_given" sHead f_headg d_headg ["term"] := D_headg.dfn X G fun _ _ _ _ _ _ us hl => match us, hl with | [_], _ => rfl
  have N_cell : Dfn K mg "_law_cell" sCell f_cell d_cell ["_law_script", "_law_k"] := D_cell.dfn X G fun _ _ _ _ _ _ us hl => match us, hl with | [_, _], _ => rfl
  have N_purse : Dfn K mg "_law_purse" sPurse f_purse d_purse ["_law_cell_here"] := D_purse.dfn X G fun _ _ _ _ _ _ us hl => match us, hl with | [_], _ => rfl
  have N_take : Dfn K mg "_law_take" sTake f_take d_take ["_law_purse_here", "_law_many"] := D_take.dfn X G fun _ _ _ _ _ _ us hl => match us, hl with | [_, _], _ => rfl
  have N_forms : Dfn K mg "_law_forms" sForms f_forms d_forms [] := D_forms.dfn X G fun _ _ _ _ _ _ us hl => match us, hl with | [], _ => rfl
  have N_word : Dfn K mg "_law_word" sWord f_word d_word ["_law_purse_here"] := D_word.dfn X G fun _ _ _ _ _ _ us hl => match us, hl with | [_], _ => rfl
  have N_tm : Dfn K mg "_law_term" sTm f_tm d_tm psTm := D_tm.dfn X G fun _ _ _ _ _ _ us hl => match us, hl with | [_, _, _], _ => rfl
  have N_lapp : Dfn K mg "_law_applied" sLApp f_lapp d_lapp ["_law_head", "_law_some"] := D_lapp.dfn X G fun _ _ _ _ _ _ us hl => match us, hl with | [_, _], _ => rfl
  have N_lop : Dfn K mg "_law_opened" sLOp f_lop d_lop ["_law_term_here"] := D_lop.dfn X G fun _ _ _ _ _ _ us hl => match us, hl with | [_], _ => rfl
  have N_lcau : Dfn K mg "_law_caught" sLCau f_lcau d_lcau ["_law_head", "_law_some"] := D_lcau.dfn X G fun _ _ _ _ _ _ us hl => match us, hl with | [_, _], _ => rfl
  have N_lno : Dfn K mg "_law_no_opened" sLNo f_lno d_lno ["_law_thing", "_law_grows"] := D_lno.dfn X G fun _ _ _ _ _ _ us hl => match us, hl with | [_, _], _ => rfl
  have N_law : Dfn K mg "law" sLaw fa d_law ["_law_script"] := D_law.dfn X G fun _ _ _ _ _ _ us hl => match us, hl with | [_], _ => rfl
  obtain ⟨oc, od, kV, doc, pm, an, cdv, ct, osl, e19, _⟩ := D_law.fn.ex
  refine ⟨d_law, fun s v => by rw [e19]; exact .of_eq rfl, fun base _ _ => ?_⟩
  have C6 := ok_count (P := P) (w := w) (base := base) D6 T
  have c60 : C8.Cal P w K mg base 1 "is_count" spCount [.int 0] := ⟨f6, d6, _, ds0, C6, m6, D6.kp, b0, v0⟩
  have c61 : C8.Cal P w K mg base 1 "is_count" spCount [] := ⟨f6, d6, _, ds1, C6, m6, D6.kp, b1, v1⟩
  have c1 := N_whole.cal (P := P) (w := w) (base := base) (ok_whole N_whole.fn T c61)
  have c2 := N_name.cal (P := P) (w := w) (base := base) (ok_name N_name.fn T)
  have c3 := N_leaf.cal (P := P) (w := w) (base := base) (ok_leaf N_leaf.fn T c60 c1 c2)
  have c4 := N_term.cal (P := P) (w := w) (base := base) (ok_term N_term.fn T c3)
  have W := ok_want (P := P) (w := w) (base := base) N_want.fn NT c4
  have cG := N_given.cal (P := P) (w := w) (base := base) (ok_given N_given.fn)
  have cH := N_headg.cal (P := P) (w := w) (base := base) (ok_head N_headg.fn)
  have FA := ok_applied (P := P) (w := w) (base := base) N_applied.fn T NT W N_want.mgf N_want.fn.kp N_want.b cG
  have FO := ok_opened (P := P) (w := w) (base := base) N_opened.fn W N_want.mgf N_want.fn.kp N_want.b cH
  have c7 := N_cell.cal (P := P) (w := w) (base := base) (ok_cell N_cell.fn T)
  have c8 := N_purse.cal (P := P) (w := w) (base := base) (ok_purse N_purse.fn T)
  have c9 := N_take.cal (P := P) (w := w) (base := base) (ok_take N_take.fn T)
  have c10 := N_forms.cal (P := P) (w := w) (base := base) (ok_forms N_forms.fn T)
  have c11 := N_word.cal (P := P) (w := w) (base := base) (ok_word N_word.fn T c9)
  have c12 : C8.Cal P w K mg base 8 "_law_term" (spTm 5) [] := N_tm.cal (P := P) (w := w) (base := base) (ok_tm N_tm T c9 c11 c10 5)
  have c13 : C8.Cal P w K mg base 1 "_law_applied" spLApp [] := N_lapp.cal (P := P) (w := w) (base := base) (ok_lapp N_lapp)
  have c14 : C8.Cal P w K mg base 66 "_law_opened" (spLOp 65) [] := N_lop.cal (P := P) (w := w) (base := base) (ok_lop N_lop 65)
  have c15 := N_lcau.cal (P := P) (w := w) (base := base) (ok_lcau N_lcau NT FA N_applied.mgf N_applied.fn.kp N_applied.b)
  have FN := ok_lno (P := P) (w := w) (base := base) N_lno.fn T NT FO N_opened.mgf N_opened.fn.kp N_opened.b
  exact ok_law (C := C) N_law.fn T ⟨c7, c8, c9, c12, c13, c14, c15, ⟨_, _, FA, N_applied.mgf, N_applied.fn.kp, N_applied.b⟩, ⟨_, _, FO, N_opened.mgf, N_opened.fn.kp, N_opened.b⟩, ⟨_, _, FN, N_lno.mgf, N_lno.fn.kp, N_lno.b⟩⟩
theorem exm_self {C : Addr} (b : PySem.W.subIn K (.ref C) (.type "BaseException") = some true) (i : (PySem.W.clsIn K C).isSome = true) (t : PySem.W.typeIn K (.ref C) = some (.type "type")) (s : PySem.W.subIn K (.ref C) (.ref C) = some true) : PySem.W.exmOne K (.ref C) (.ref C) = some true := by
  unfold PySem.W.exmOne PySem.W.kitCls
  rw [b]
  show (if ((PySem.W.clsIn K C).isSome && PySem.W.typeIn K (.ref C) == some (.type "type")) = true then PySem.W.subIn K (.ref C) (.ref C) else none) = some true
  rw [t, s, i]
  simp
theorem cls_there {C : Addr} {nm q N bs bm sn sub ab col dd k0 k1 k2 k3 k5 : _} {t : String} (l : K.lookup C = some (excClassObj nm q C N bs bm true sn sub ab col dd k0 k1 k2 k3 k5 t)) : (PySem.W.clsIn K C).isSome = true := by
  unfold PySem.W.clsIn
  rw [l] <;> rfl
theorem not_mk {C U fI : Addr} {nm q N bs bm sn sub ab col dd k0 k1 k2 k3 k5 : _} {oc : Value} {od an : Option Addr} {osl : Array (Option Value)} {kV doc pm cdv ct : Value}
    (eU : PySem.W.nsIn K mainGlobals "PaperError" = some (some (.ref U))) (eC : PySem.W.nsIn K mainGlobals "NoTerm" = some (some (.ref C)))
    (lC : K.lookup C = some (excClassObj nm q C N bs bm true sn sub ab col dd k0 k1 k2 k3 k5 "ValueError.__new__")) (rv : PySem.HandSPX.refsVE bm = true) (sa : PySem.W.findIn K (.ref C) "__setattr__" = some (some (.builtin "object.__setattr__"))) (exC : PySem.W.subIn K (.ref C) (.type "BaseException") = some true)
    (tyC : PySem.W.typeIn K (.ref C) = some (.type "type")) (kC : PySem.W.keepIn K (.ref C) = true) (kU : PySem.W.keepIn K (.ref U) = true) (spU : PySem.W.specialIn K (.ref U) "__getattribute__" = some (some (.builtin "type.__getattribute__"))) (rdU : PySem.W.readsIn K U (.type "type") = true)
    (fcU : PySem.W.findCls K (.ref U) (.type "type") "__init__" = some (.val (.builtin "ValueError.__init__"))) (iC : PySem.W.findIn K (.ref C) "__init__" = some (some (.ref fI))) (tI : PySem.W.typeIn K (.ref fI) = some (.type "function")) (noF : PySem.W.findIn K (.ref C) "found" = some none)
    (lI : K.lookup fI = some ⟨oc, od, .func (PySem.W.fnOf "__init__" "NoTerm.__init__" (defArgs sInit) (defBody sInit) (defScope sInit) .none kV doc pm an cdv ct), osl⟩) (cI : PySem.W.codeIn K cdv "NoTerm.__init__" = true) (kI : PySem.W.keepIn K (.ref fI) = true)
    (ga : PySem.W.findIn K (.ref C) "__getattribute__" = some (some (.builtin "BaseException.__getattribute__"))) (gg : PySem.W.findIn K (.ref C) "__getattr__" = some none) (hdC : PySem.W.hasDictIn K C = true) (suC : PySem.W.subIn K (.ref C) (.ref C) = some true) :
    ∃ C U fI fdI, PySem.W.nsIn K mainGlobals "PaperError" = some (some (.ref U)) ∧ PySem.W.nsIn K mainGlobals "NoTerm" = some (some (.ref C)) ∧ OexC K C ∧ UpC K U ∧ PySem.W.findIn K (.ref C) "__init__" = some (some (.ref fI)) ∧ PySem.W.typeIn K (.ref fI) = some (.type "function") ∧
      PySem.W.findIn K (.ref C) "found" = some none ∧ Fun K "__init__" "NoTerm.__init__" sInit fI fdI ∧ XfC K C ∧ PySem.W.exmOne K (.ref C) (.ref C) = some true :=
  ⟨C, U, fI, _, eU, eC, ⟨⟨_, _, _, _, _, _, _, _, _, _, _, _, _, _, _, lC, rv⟩, sa, exC, tyC, kC⟩, ⟨kU, spU, _, rdU, fcU⟩, iC, tI, noF, fun_mk lI cI kI, ⟨ga, gg, exC, hdC⟩, exm_self exC (cls_there lC) tyC suC⟩
end
section
variable {K : PySem.W.Frag} {w : World}
theorem glo_mk {x : Str} {u : Value} {v : V} (e : PySem.W.nsIn K mainGlobals x = some (some u)) (r : RelV v u) : ∃ u, PySem.W.nsIn K mainGlobals x = some (some u) ∧ RelV v u := ⟨u, e, r⟩
theorem no_mk {a : Addr} {dd : Option Addr} {its : Array Value} {n : Nat} {sl : Array (Option Value)} (e : PySem.W.nsIn K mainGlobals "NO_NAMES" = some (some (.ref a))) (l : K.lookup a = some ⟨.type "tuple", dd, .seq its n, sl⟩) (s : its.size ≤ sizeLine) (v : Vals (noNames.map V.str) its.toList) :
    ∃ a o its n, PySem.W.nsIn K mainGlobals "NO_NAMES" = some (some (.ref a)) ∧ K.lookup a = some o ∧ o.cls = .type "tuple" ∧ o.data = .seq its n ∧ its.size ≤ sizeLine ∧ Vals (noNames.map V.str) its.toList := ⟨a, _, its, n, e, l, rfl, rfl, s, v⟩
theorem count_mk {f T : Addr} {oc : Value} {od an td : Option Addr} {kV doc pm cdv ct tc : Value} {osl tsl : Array (Option Value)} {its : Array Value} {n : Nat} (e : PySem.W.nsIn K mainGlobals "is_count" = some (some (.ref f)))
    (l : K.lookup f = some ⟨oc, od, .func (PySem.W.fnOf "is_count" "is_count" (defArgs sCount) (defBody sCount) (defScope sCount) (.ref T) kV doc pm an cdv ct), osl⟩) (c : PySem.W.codeIn K cdv "is_count" = true) (k : PySem.W.keepIn K (.ref f) = true)
    (lT : K.lookup T = some ⟨tc, td, .seq its n, tsl⟩) (v : Vals [.int 0] its.toList) :
    ∃ f fd, PySem.W.nsIn K mainGlobals "is_count" = some (some (.ref f)) ∧ FunD K "is_count" "is_count" (defArgs sCount) (defBody sCount) (defScope sCount) [.int 0] [] f fd :=
  ⟨f, _, e, ⟨_, _, _, _, _, _, _, _, _, _, rfl, l, c, Or.inr ⟨by simp, T, _, its.toList, n, rfl, lT, rfl, v⟩, Or.inl rfl⟩, k⟩
theorem parted_z {a : Addr} {c : Value} {d : Option Addr} {n : Nat} {sl : Array (Option Value)} {h1 h2 h3 h4 h5 h6 : Int} {k1 k2 k3 k4 k5 k6 v1 v2 v3 v4 v5 v6 : Tok}
    (l : K.lookup a = some ⟨c, d, .dict #[⟨h1, .str "all" k1, .int 2 v1⟩, ⟨h2, .str "fun" k2, .int 2 v2⟩, ⟨h3, .str "app" k3, .int 2 v3⟩, ⟨h4, .str "same" k4, .int 3 v4⟩, ⟨h5, .str "self" k5, .int 2 v5⟩, ⟨h6, .str "put" k6, .int 3 v6⟩] n, sl⟩) :
    ∀ z, ∃ r, PySem.W.nsIn K a z = some r ∧ RelO ((parts z).map fun n => V.int (n : Int)) r := by
  intro z
  have y : ∀ {s : Str} {t : Tok}, s = z → (Value.str s t).isStr z = true := fun h => by
    subst h
    show (_ == _) = true
    simp
  have no : ∀ {s : Str} {t : Tok}, z ≠ s → (Value.str s t).isStr z = false := fun h => by
    show (_ == _) = false
    exact beq_eq_false_iff_ne.mpr fun e => h e.symm
  have pos : ∀ {h : Int} {s : Str} {t : Tok} {v : Value} {r : List DictEntry}, s = z → List.find? (fun x : DictEntry => x.key.isStr z) (⟨h, .str s t, v⟩ :: r) = some ⟨h, .str s t, v⟩ := fun e => List.find?_cons_of_pos (y e)
  have neg : ∀ {h : Int} {s : Str} {t : Tok} {v : Value} {r : List DictEntry}, z ≠ s → List.find? (fun x : DictEntry => x.key.isStr z) (⟨h, .str s t, v⟩ :: r) = List.find? (fun x : DictEntry => x.key.isStr z) r := fun e => List.find?_cons_of_neg (by
    show ¬ (Value.str _ _).isStr z = true
    rw [no e]
    exact Bool.false_ne_true)
  unfold PySem.W.nsIn
  rw [l]
  dsimp only
  by_cases c1 : z = "all"
  · rw [pos c1.symm]
    refine ⟨_, rfl, ?_⟩
    rw [c1]
    exact ⟨_, rfl⟩
  rw [neg c1]
  by_cases c2 : z = "fun"
  · rw [pos c2.symm]
    refine ⟨_, rfl, ?_⟩
    rw [c2]
    exact ⟨_, rfl⟩
  rw [neg c2]
  by_cases c3 : z = "app"
  · rw [pos c3.symm]
    refine ⟨_, rfl, ?_⟩
    rw [c3]
    exact ⟨_, rfl⟩
  rw [neg c3]
  by_cases c4 : z = "same"
  · rw [pos c4.symm]
    refine ⟨_, rfl, ?_⟩
    rw [c4]
    exact ⟨_, rfl⟩
  rw [neg c4]
  by_cases c5 : z = "self"
  · rw [pos c5.symm]
    refine ⟨_, rfl, ?_⟩
    rw [c5]
    exact ⟨_, rfl⟩
  rw [neg c5]
  by_cases c6 : z = "put"
  · rw [pos c6.symm]
    refine ⟨_, rfl, ?_⟩
    rw [c6]
    exact ⟨_, rfl⟩
  rw [neg c6]
  have e : parts z = none := by
    unfold parts
    rw [if_neg c1, if_neg c2, if_neg c3, if_neg c4, if_neg c5, if_neg c6]
  rw [e]
  exact ⟨none, rfl, trivial⟩
theorem parted_mk {a : Addr} {n : Nat} {h1 h2 h3 h4 h5 h6 : Int} {k1 k2 k3 k4 k5 k6 v1 v2 v3 v4 v5 v6 : Tok} (e : PySem.W.nsIn K mainGlobals "PARTED" = some (some (.ref a)))
    (l : K.lookup a = some ⟨.type "dict", none, .dict #[⟨h1, .str "all" k1, .int 2 v1⟩, ⟨h2, .str "fun" k2, .int 2 v2⟩, ⟨h3, .str "app" k3, .int 2 v3⟩, ⟨h4, .str "same" k4, .int 3 v4⟩, ⟨h5, .str "self" k5, .int 2 v5⟩, ⟨h6, .str "put" k6, .int 3 v6⟩] n, #[]⟩)
    (k : PySem.W.KeysLit w.params (#[(⟨h1, .str "all" k1, .int 2 v1⟩ : DictEntry), ⟨h2, .str "fun" k2, .int 2 v2⟩, ⟨h3, .str "app" k3, .int 2 v3⟩, ⟨h4, .str "same" k4, .int 3 v4⟩, ⟨h5, .str "self" k5, .int 2 v5⟩, ⟨h6, .str "put" k6, .int 3 v6⟩] : Array DictEntry).toList) (lo : (a == sysModules) = false) :
    ∃ a es n, PySem.W.nsIn K mainGlobals "PARTED" = some (some (.ref a)) ∧ KDict K w a es n ∧ ∀ z, ∃ r, PySem.W.nsIn K a z = some r ∧ RelO ((parts z).map fun n => V.int (n : Int)) r := ⟨a, _, n, e, ⟨l, k, lo⟩, parted_z l⟩
end
end KP
set_option Elab.async false
set_option maxRecDepth 100000
open PySem PySem.W PyProof.Rows in
set_option maxRecDepth 100000 in
set_option maxHeartbeats 0 in
theorem PySem.Challenge.cw_kernelpapers_k05_heads_given_several_holds : PySem.Challenge.rw_kernelpapers_k05_heads_given_several.Holds := by
  w_on; o_law; k_head; (case hw => w_witness2)
  k_fill
  refine KA.walkG (l := PySem.Challenge.rw_kernelpapers_k05_heads_given_several) (n := 63) (k := 90) (x := "_law_script") (sp := KP.spLaw) rfl (by decide) rfl ⟨rfl, by decide, by decide⟩ (fun w h Y => PySem.W.kIn_of Y) ?F ?G
  case G => exact fun K H a ns hl _ hS => ⟨a, ns, rfl, hS, hl, fun _ => rfl⟩
  case F =>
    intro w mg fa h KX G hmg
    refine KP.all_mk KX G hmg ?Z
    clear hmg
    constructor
    case letters =>
      refine KP.glo_mk (by k_is) ?_
      exact ⟨_, rfl⟩
    case most =>
      refine KP.glo_mk (by k_is) ?_
      exact ⟨_, rfl⟩
    case highest =>
      refine KP.glo_mk (by k_is) ?_
      exact ⟨_, rfl⟩
    case no =>
      refine KP.no_mk (by k_is) (by k_is) ?s ?v
      (case s => decide)
      (case v => exact .cons ⟨_, rfl⟩ (.cons ⟨_, rfl⟩ (.cons ⟨_, rfl⟩ (.cons ⟨_, rfl⟩ (.cons ⟨_, rfl⟩ .nil)))))
    case parted =>
      refine KP.parted_mk (by k_is) (by k_is) ?k ?lo
      (case k => k_keys)
      (case lo => rfl)
    case count =>
      refine KP.count_mk (by k_is) (by k_is) (by k_is) (by k_is) (by k_is) ?v
      exact .cons ⟨_, rfl⟩ .nil
    case not =>
      refine KP.not_mk (by k_is) (by k_is) (by k_is) ?rv (by k_is) (by k_is) (by k_is) (by k_is) (by k_is) (by k_is) (by k_is) (by k_is) (by k_is) (by k_is) (by k_is) (by k_is) (by k_is) (by k_is) (by k_is) (by k_is) (by k_is) (by k_is)
      (case rv => decide +kernel)
    all_goals first | k_is | exact KP.defAt (by k_is) (by k_is) (by k_is) (by k_is)
