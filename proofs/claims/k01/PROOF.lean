import PyProof.Rows.All
import Wide.All
import OpenK.AllK
import Wide.FinOn
import HandS.ForMost
import HandS.Defaults
import HandS.IsInst
import HandS.TupAny
import HandS.ListItems
import HandS.Flow
import HandS.Zip
import PyProof.AutoSeq1
import HandS.Zip0
import PyProof.Draws
import HandS.Codes
import HandS.More
import HandS.Style
import HandS.Conv
import PyProof.StrLawsRepr
import PySem.Challenge.RW_kernelpapers_k01_terms_of_anything
set_option Elab.async false
set_option maxRecDepth 100000
set_option maxHeartbeats 1000000
/-! Own ground: calls where nothing is being shown (guards), what data a value stands for, repr of it. -/
namespace KA
open PySem PySem.Spec PyProof.Rows L2

/-! ### a def's promise where no repr is under way -/
structure FnG (P : Program) (w : World) (K : PySem.W.Frag) (mg : Str → Option Value) (base : Heap) (CX : CXT) (k : Nat) (f : Addr) (fd : FuncData) (ps : List Str) (sp : Sp) : Prop where
  len : ∀ vs H Q E, sp vs H Q E → vs.length = ps.length
  run : ∀ (A : Around) (outer : List Env) (s : Shared) (H : Hp) (args : Args) (us : List Value) (vs : List V) (Q : VK) (E : XK), A.guards = some [] → Room k A → Env0 P w K mg base A outer s H →
    BindsTo s fd args (ps.zip us) → Vals vs us → sp vs H Q E → codeAny (model P w) A (.call (.ref f) args) (CR CX outer P w H s Q E) s

section
variable {P : Program} {w : World} {K : PySem.W.Frag} {mg : Str → Option Value} {base : Heap} {CX : CXT} {k : Nat}
/-- the body of a def, entered from one place -/
theorem enter {x qual : Str} {st : Stmt} {f : Addr} {fd : FuncData} {N ps : List Str} (F : Fun K x qual st f fd) (S : FnScope N ps (defScope st))
    {A : Around} {outer : List Env} {s : Shared} {H : Hp} {args : Args} {us : List Value} {vs : List V} {Q : VK} {E : XK} (room : Room (k + 1) A) (e0 : Env0 P w K mg base A outer s H) (bt : BindsTo s fd args (ps.zip us))
    (rv : Vals vs us) (many : vs.length = ps.length)
    (body : ∀ cdv : Value, ∃ t, PSs (cxOf CX P w K mg base N qual (defScope st) f cdv A outer s H E) (defBody st) t ∧ t { nx := fun _ H' => Q .non H', rt := Q } (start N vs) H) :
    codeAny (model P w) A (.call (.ref f) args) (CR CX outer P w H s Q E) s := by
  obtain ⟨oc, od, kV, doc, pm, an, cdv, ct, osl, rfl, lk, code⟩ := F.ex
  have here : ∀ b o, base.get? b = some o → s.heap.get? b = some o := fun b o e => (e0.bs b o e).1
  have kin : K.In s.heap := e0.mod.kin.keeps here
  have lim : s.heap.NoLimit := e0.mod.nolimit.keeps here
  have kinds : ∀ y ∈ ps.zip us, (defScope st).names.lookup y.1 = some .local ∨ ((defScope st).names.lookup y.1 = some .cell ∧ ((cellsFrom (s.heap.objs.size + 1) (defScope st).names []).lookup y.1).isSome = true) := by
    rintro ⟨n, v⟩ hy
    rcases S.par n (List.of_mem_zip hy).1 with q | q
    · exact Or.inl q
    · exact Or.inr ⟨q, PySem.W.cellsFrom_some _ _ _ (Or.inl q)⟩
  refine codeAny_call_function room.depth (kin _ _ lk) rfl S.co S.gen rfl (PySem.W.codeRec_of kin code) (bt _ _ _ _ ?_)
  refine wpAny_newFunctionEnv_cells S.kind kinds fun env he s1 x => ?_
  subst he
  refine ⟨lim.keeps x.toInCall.keep, codeAny_func ?_⟩
  obtain ⟨t, ht, hq⟩ := body cdv
  have I0 := inv_start (CX := CX) (E := E) S room.hd e0 many rv x
  refine wpAny_mono (ht.run [] s1 (start N vs) H _ I0 hq) (fun fl s' hs => ?_) fun e s' hs => hs
  have fin : ∀ {σ' : L2.St} {H' : Hp} {v : V} {u : Value}, Inv (cxOf CX P w K mg base N qual (defScope st) f cdv A outer s H E) [] σ' H' s' → RelV v u → Q v H' → CE outer P w H s Q u s' :=
    fun {_ H' v _} J r q => ⟨v, H', J.os, J.bare, J.base, J.hok, r, q⟩
  cases fl with
  | ret u => obtain ⟨v, σ', H', J, r, q⟩ := hs; exact fin J r q
  | next => obtain ⟨σ', H', J, q⟩ := hs; exact fin (v := V.non) (u := Value.none) J rfl q
  | brk => obtain ⟨_, _, _, q⟩ := hs; exact q.elim
  | cont => obtain ⟨_, _, _, q⟩ := hs; exact q.elim

theorem fnG {x qual : Str} {st : Stmt} {f : Addr} {fd : FuncData} {N ps : List Str} {sp : Sp} (F : Fun K x qual st f fd) (S : FnScope N ps (defScope st)) (len : ∀ vs H Q E, sp vs H Q E → vs.length = ps.length)
    (body : ∀ (cdv : Value) (A : Around) (outer : List Env) (s : Shared) (H : Hp) (vs : List V) (Q : VK) (E : XK), A.guards = some [] → Room k (A.deeper (envOfC qual (defScope st) s.heap.objs.size f cdv)) → sp vs H Q E →
      ∃ t, PSs (cxOf CX P w K mg base N qual (defScope st) f cdv A outer s H E) (defBody st) t ∧ t { nx := fun _ H' => Q .non H', rt := Q } (start N vs) H) : FnG P w K mg base CX (k + 1) f fd ps sp :=
  ⟨len, fun A outer s H args us vs Q E g room e0 bt rv h => enter F S room e0 bt rv (len _ _ _ _ h) fun cdv => body cdv A outer s H vs Q E g (room.deeper _) h⟩
end
end KA

namespace KA
open PySem PySem.Spec PyProof.Rows L2
/-! ### the law's own call, made where nothing is being shown -/
section
variable {P : Program} {w : World} {K : PySem.W.Frag} {mg mb : Str → Option Value} {k : Nat} {fa a : Addr} {fd : FuncData} {x : Str} {sp : Sp} {s : Shared} {vs : List Value} {ns : List Int}
/-- from a heap H that tracks at most the script -/
theorem law_from {H : Hp} (kin : K.In s.heap) (ng : s.heap.Ns mainGlobals mg) (nb : s.heap.Ns builtinsNs mb) (hb : ∀ x : Str, x ≠ "__name__" → mb x = bootBuiltins x) (lim : s.heap.NoLimit) (gens : s.gens = #[])
    (obj : s.heap.get? a = some { cls := .type "list", data := .seq vs.toArray }) (room : Room k callerA) (F : ∀ base : Heap, K.In base → base.Ns mainGlobals mg → FnG P w K mg base CX0 k fa fd [x] sp)
    (bt : ∀ (s : Shared) (u : Value), BindsTo s fd ⟨[u], []⟩ [(x, u)]) (only : Only H) (hok : HOk P w H s.heap) (atA : ∀ b, H b ≠ none → b = a) (offK : H a ≠ none → K.lookup a = none)
    (h : sp [.ref a] H (fun v _ => v = .bl true) fun _ _ _ => False) :
    codeAny (model P w) callerA (.call (.ref fa) ⟨[.ref a], []⟩) (fun r s' => r = .ok (.ret (.bool true)) ∧ OldK s.heap s'.heap ∧ s'.os = s.os ∧ AllBare s'.gens) s := by
  have low : ∀ {b : Addr} {o : Obj}, s.heap.get? b = some o → H b = none → (hidT s.heap H).get? b = some o := fun e n => hidT_get e n
  have free : ∀ {b : Addr} {o : Obj}, s.heap.get? b = some o → (∀ n, o.data ≠ .seq vs.toArray n) → H b = none := by
    intro b o e d
    cases q : H b with
    | none => rfl
    | some u =>
      obtain rfl : b = a := atA b (by rw [q]; simp)
      rw [obj] at e
      cases e
      exact absurd rfl (d _)
  have nsL : ∀ {b : Addr} {m : Str → Option Value}, s.heap.Ns b m → (hidT s.heap H).Ns b m := by
    rintro b m ⟨o, es, ep, e, d, r⟩
    exact ⟨o, es, ep, low e (free e fun n z => by rw [d] at z; cases z), d, r⟩
  have kinL : K.In (hidT s.heap H) := by
    intro b o e
    refine low (kin b o e) ?_
    cases q : H b with
    | none => rfl
    | some u =>
      obtain rfl : b = a := atA b (by rw [q]; simp)
      rw [offK (by rw [q]; simp)] at e
      cases e
  have md : Mod K mg (hidT s.heap H) := ⟨kinL, nsL ng, ⟨mb, nsL nb, hb⟩, by obtain ⟨mc, h1, h2⟩ := lim; exact ⟨mc, nsL h1, h2⟩⟩
  have e0 : Env0 P w K mg (hidT s.heap H) callerA [] s H :=
    ⟨rfl, md, fun b o e => of_hidT e, Nat.le_of_eq (hidT_size _ _), trivial, fun b z => absurd (show b ∈ ([] : List Addr) from z) (by simp), hok, .of_eq gens⟩
  have G := (F _ kinL (nsL ng)).run callerA [] s H ⟨[.ref a], []⟩ [.ref a] [.ref a] _ _ rfl room e0 (bt s (.ref a)) (.cons rfl .nil) h
  refine codeAny_mono G fun r s' z => ?_
  cases r with
  | error e => exact absurd z id
  | ok fl =>
    cases fl with
    | next => exact absurd z id
    | brk => exact absurd z id
    | cont => exact absurd z id
    | ret u =>
      obtain ⟨v, H', os, bare, un, hok', rv, q⟩ := z
      obtain rfl : v = .bl true := q
      obtain rfl : u = Value.bool true := rv
      refine ⟨rfl, OldK.of_keep fun b o e => ?_, os, bare⟩
      cases q : H b with
      | none => exact un.keep b o e q (fun z => absurd (show b ∈ ([] : List Addr) from z) (by simp)) (by simp)
      | some u =>
        obtain z | ⟨ob, xs, z⟩ := only b
        · rw [q] at z; cases z
        · obtain ⟨e1, _⟩ := hok b _ z
          obtain ⟨e2, _⟩ := hok' b _ (un.frzs b ob _ z)
          rw [e] at e1
          cases e1
          exact e2
theorem law_run (kin : K.In s.heap) (ng : s.heap.Ns mainGlobals mg) (nb : s.heap.Ns builtinsNs mb) (hb : ∀ x : Str, x ≠ "__name__" → mb x = bootBuiltins x) (lim : s.heap.NoLimit) (gens : s.gens = #[])
    (obj : s.heap.get? a = some { cls := .type "list", data := .seq vs.toArray }) (its : IntsAre vs ns) (many : ns.length ≤ sizeLine) (room : Room k callerA)
    (F : ∀ base : Heap, K.In base → base.Ns mainGlobals mg → FnG P w K mg base CX0 k fa fd [x] sp) (bt : ∀ (s : Shared) (u : Value), BindsTo s fd ⟨[u], []⟩ [(x, u)])
    (h : ∀ H : Hp, Only H → SqL K H a (ns.map V.int) → sp [.ref a] H (fun v _ => v = .bl true) fun _ _ _ => False) :
    codeAny (model P w) callerA (.call (.ref fa) ⟨[.ref a], []⟩) (fun r s' => r = .ok (.ret (.bool true)) ∧ OldK s.heap s'.heap ∧ s'.os = s.os ∧ AllBare s'.gens) s := by
  have rv := vals_ints its
  have len := its.length
  by_cases hk : K.lookup a = none
  · refine law_from (H := fun b => if b = a then some (.frz { cls := .type "list", data := .seq vs.toArray } (.lst (ns.map V.int))) else none) kin ng nb hb lim gens obj room F bt ?_ ?_ ?_ (fun _ => hk) ?_
    · intro b
      by_cases z : b = a
      · exact Or.inr ⟨_, _, if_pos z⟩
      · exact Or.inl (if_neg z)
    · intro b u z
      by_cases q : b = a
      · subst q
        simp only [if_true] at z
        cases z
        exact ⟨obj, by rw [List.length_map]; exact many, vs, _, rv, obj⟩
      · simp only [if_neg q] at z
        cases z
    · intro b z
      by_cases q : b = a
      · exact q
      · exact absurd (if_neg q) z
    · refine h _ (fun b => ?_) (Or.inl (Or.inr ⟨_, if_pos rfl⟩))
      by_cases z : b = a
      · exact Or.inr ⟨_, _, if_pos z⟩
      · exact Or.inl (if_neg z)
  · obtain ⟨o, hk⟩ := Option.ne_none_iff_exists'.mp hk
    have e := kin a o hk
    rw [obj] at e
    cases e
    have no : ∀ b : Addr, (fun _ : Addr => (none : Option HO)) b = none := fun _ => rfl
    refine law_from (H := fun _ => none) kin ng nb hb lim gens obj room F bt (fun b => Or.inl rfl) (fun b u z => by cases z) (fun b z => absurd rfl z) (fun z => absurd rfl z) ?_
    exact h _ (fun b => Or.inl rfl) (Or.inr ⟨_, vs.toArray, _, hk, rfl, rfl, rfl, by rw [List.size_toArray, len]; exact many, by simpa using rv⟩)
end
/-- the end of a law whose def is promised where nothing is being shown -/
theorem walkG {l : PySem.W.OpenLaw} {n k : Nat} {q : Program} {loose : List Str} {XP : (Str → Option Value) → Heap → Prop} {YP : World → Heap → Prop} {d : DefRec} {K : Params → PySem.W.Frag} {sp : PySem.W.Frag → Sp} {x : Str}
    (hn : l.most = some n) (small : n ≤ sizeLine) (hdf : d.params.defaults = []) (room : Room k callerA) (hY : ∀ (w : World) (h : Heap), YP w h → (K w.params).In h)
    (F : ∀ (w : World) (mg : Str → Option Value) (fa : Addr) (h : Heap), (K w.params).In h → h.Ns mainGlobals mg → mg d.name = some (.ref fa) →
      ∃ fd : FuncData, (∀ (s : Shared) (u : Value), BindsTo s fd ⟨[u], []⟩ [(x, u)]) ∧ ∀ base : Heap, (K w.params).In base → base.Ns mainGlobals mg → FnG l.prog w (K w.params) mg base CX0 k fa fd [x] (sp (K w.params)))
    (h : ∀ (K : PySem.W.Frag) (H : Hp) (a : Addr) (ns : List Int), ns.length ≤ n → Only H → SqL K H a (ns.map V.int) → sp K [.ref a] H (fun v _ => v = .bl true) fun _ _ _ => False) :
    PySem.W.WalkO q loose XP YP l.row.toRowW d [] (fun f vs => PySem.call f vs) := by
  refine Att.attach_call hn hdf fun w s₀ s₁ mg mb fa o pm cd doc a vs ns G Y ho hd hcd hmg obj its len gens => ?_
  have kin := hY w _ Y
  obtain ⟨fd, bt, F1⟩ := F w mg fa _ kin G.T.g hmg
  exact law_run kin G.T.g G.T.b G.T.builtins G.T.nolimit gens obj its (Nat.le_trans len small) room F1 bt fun H only sq => h (K w.params) H a ns len only sq
end KA
set_option Elab.async false
set_option linter.unusedVariables false
set_option maxRecDepth 100000
set_option maxHeartbeats 1000000
/-! What data a value stands for, where all of it is tracked; repr of such. -/
namespace KA
open PySem PySem.Spec PyProof.Rows L2

mutual
inductive Dn (H : Hp) : V → PyData → Prop
  | non : Dn H .non .none
  | bl (b : Bool) : Dn H (.bl b) (.bool b)
  | int (i : Int) : Dn H (.int i) (.int i)
  | str (x : Str) : Dn H (.str x) (.str x)
  | lst {a : Addr} {xs : List V} {ds : List PyData} : H a = some (.lst xs) → DnAll H xs ds → Dn H (.ref a) (.list ds)
  | tup {a : Addr} {xs : List V} {ds : List PyData} : H a = some (.tup xs) → DnAll H xs ds → Dn H (.ref a) (.tuple ds)
  | dic {a : Addr} {kvs : List (Key × V)} {ds : List (PyData × PyData)} : H a = some (.dK kvs) → DnAll H (kvs.map fun p => kV p.1) (ds.map (·.1)) → DnAll H (kvs.map (·.2)) (ds.map (·.2)) → Dn H (.ref a) (.dict ds)
inductive DnAll (H : Hp) : List V → List PyData → Prop
  | nil : DnAll H [] []
  | cons {v : V} {vs : List V} {d : PyData} {ds : List PyData} : Dn H v d → DnAll H vs ds → DnAll H (v :: vs) (d :: ds)
end

section
variable {H H' : Hp}
mutual
theorem Dn.mono (e : Same H H') : ∀ {v : V} {d : PyData}, Dn H v d → Dn H' v d
  | _, _, .non => .non
  | _, _, .bl b => .bl b
  | _, _, .int i => .int i
  | _, _, .str x => .str x
  | _, _, .lst h r => .lst (e _ _ h) (DnAll.mono e r)
  | _, _, .tup h r => .tup (e _ _ h) (DnAll.mono e r)
  | _, _, .dic h r r' => .dic (e _ _ h) (DnAll.mono e r) (DnAll.mono e r')
theorem DnAll.mono (e : Same H H') : ∀ {vs : List V} {ds : List PyData}, DnAll H vs ds → DnAll H' vs ds
  | _, _, .nil => .nil
  | _, _, .cons h r => .cons (Dn.mono e h) (DnAll.mono e r)
end
theorem DnAll.length : ∀ {vs : List V} {ds : List PyData}, DnAll H vs ds → vs.length = ds.length
  | _, _, .nil => rfl
  | _, _, .cons _ r => congrArg (· + 1) (DnAll.length r)
theorem DnAll.get : ∀ {vs : List V} {ds : List PyData} {i : Nat} {d : PyData}, DnAll H vs ds → ds[i]? = some d → ∃ v, vs[i]? = some v ∧ Dn H v d
  | _, _, _, _, .nil, e => by cases e
  | _, _, 0, _, .cons h _, e => by
    cases e
    exact ⟨_, rfl, h⟩
  | _, _, i + 1, d, .cons _ r, e => DnAll.get (i := i) (d := d) r e
theorem DnAll.append : ∀ {vs ws : List V} {ds es : List PyData}, DnAll H vs ds → DnAll H ws es → DnAll H (vs ++ ws) (ds ++ es)
  | _, _, _, _, .nil, s => s
  | _, _, _, _, .cons h r, s => .cons h (DnAll.append r s)
theorem DnAll.take : ∀ {vs : List V} {ds : List PyData} (n : Nat), DnAll H vs ds → DnAll H (vs.take n) (ds.take n)
  | _, _, 0, _ => .nil
  | _, _, _ + 1, .nil => .nil
  | _, _, n + 1, .cons h r => .cons h (DnAll.take n r)
theorem DnAll.drop : ∀ {vs : List V} {ds : List PyData} (n : Nat), DnAll H vs ds → DnAll H (vs.drop n) (ds.drop n)
  | _, _, 0, r => r
  | _, _, _ + 1, .nil => .nil
  | _, _, n + 1, .cons _ r => DnAll.drop n r
theorem DnAll.dropLast : ∀ {vs : List V} {ds : List PyData}, DnAll H vs ds → DnAll H vs.dropLast ds.dropLast := by
  intro vs ds r
  rw [List.dropLast_eq_take, List.dropLast_eq_take, r.length]
  exact r.take _
theorem DnAll.snoc {vs : List V} {ds : List PyData} {v : V} {d : PyData} (r : DnAll H vs ds) (h : Dn H v d) : DnAll H (vs ++ [v]) (ds ++ [d]) := r.append (.cons h .nil)
theorem DnAll.one {v : V} {d : PyData} (h : Dn H v d) : DnAll H [v] [d] := .cons h .nil
/-- a list whose items are data each -/
theorem DnAll.bools : ∀ bs : List Bool, DnAll H (bs.map V.bl) (bs.map PyData.bool)
  | [] => .nil
  | b :: bs => .cons (.bl b) (DnAll.bools bs)
end

section
variable {P : Program} {w : World} {H : Hp} {h : Heap}
theorem keys_read : ∀ {kvs : List (Key × V)} {vs : List (Key × Value)} {es : List DictEntry} {ds : List PyData}, KV kvs vs → PySem.Pairs (mixKind P w) es vs → DnAll H (kvs.map fun p => kV p.1) ds → Vals (kvs.map fun p => kV p.1) (es.map (·.key))
  | _, _, _, _, .nil, .nil, _ => .nil
  | _, _, _, _, .cons r t, .cons k _ t', .cons _ t'' => by
    refine .cons ?_ (keys_read t t' t'')
    have k' := k
    rw [mixKind_is, ← r.1] at k'
    obtain ⟨i, u, e1, e2⟩ | ⟨x, u, e1, e2⟩ := keyIs_shape k'
    · dsimp only
      rw [e1, e2]
      exact ⟨u, rfl⟩
    · dsimp only
      rw [e1, e2]
      exact ⟨u, rfl⟩
theorem vals_read : ∀ {kvs : List (Key × V)} {vs : List (Key × Value)} {es : List DictEntry}, KV kvs vs → PySem.Pairs (mixKind P w) es vs → Vals (kvs.map (·.2)) (es.map (·.val))
  | _, _, _, .nil, .nil => .nil
  | _, _, _, .cons r t, .cons _ e t' => by
    refine .cons ?_ (vals_read t t')
    dsimp only
    rw [e]
    exact r.2

mutual
/-- the heap reads so -/
theorem Dn.reads (ok : HOk P w H h) : ∀ {v : V} {d : PyData} {u : Value}, Dn H v d → RelV v u → ∃ as, Reads h u d as
  | _, _, _, .non, r => by
    cases r
    exact ⟨_, .none⟩
  | _, _, _, .bl b, r => by
    cases r
    exact ⟨_, .bool b⟩
  | _, _, _, .int i, r => by
    obtain ⟨t, rfl⟩ := r
    exact ⟨_, .int i t⟩
  | _, _, _, .str x, r => by
    obtain ⟨t, rfl⟩ := r
    exact ⟨_, .str x t⟩
  | _, _, _, .lst e q, r => by
    cases r
    obtain ⟨_, its, n, rv, ho⟩ := ok _ _ e
    obtain ⟨as, hr⟩ := DnAll.reads ok q rv
    exact ⟨_, .list ho rfl rfl hr⟩
  | _, _, _, .tup e q, r => by
    cases r
    obtain ⟨_, its, rv, o, ho, hc, n, hd⟩ := ok _ _ e
    obtain ⟨as, hr⟩ := DnAll.reads ok q rv
    exact ⟨_, .tuple ho hc hd hr⟩
  | _, _, _, .dic e q q', r => by
    cases r
    obtain ⟨_, _, vs, kv, o, es, ep, ho, hx, hd, _, hp, _⟩ := ok _ _ e
    obtain ⟨as, hr⟩ := DnAll.reads ok q (keys_read kv hp q)
    obtain ⟨bs, hr'⟩ := DnAll.reads ok q' (vals_read kv hp)
    exact ⟨_, .dict ho hx.1 hd hr hr'⟩
theorem DnAll.reads (ok : HOk P w H h) : ∀ {vs : List V} {ds : List PyData} {us : List Value}, DnAll H vs ds → Vals vs us → ∃ as, ReadsAll h us ds as
  | _, _, _, .nil, r => by
    cases r
    exact ⟨_, .nil⟩
  | _, _, _, .cons q t, .cons r r' => by
    obtain ⟨as, h1⟩ := Dn.reads ok q r
    obtain ⟨bs, h2⟩ := DnAll.reads ok t r'
    exact ⟨_, .cons h1 h2⟩
end

mutual
/-- how it is shown, piece by piece -/
theorem Dn.repr (ok : HOk P w H h) : ∀ {v : V} {d : PyData} {u : Value}, Dn H v d → RelV v u → d.showable = true → d.shown.length ≤ sizeLine → ∃ bs, ReadAtMost h d.depth bs ∧ ReprK P w bs h d.depth u d.shown
  | _, _, _, .non, r, _, _ => by
    cases r
    exact ReprK.of_reads (prog := P) (w := w) (Reads.none (h := h)) rfl (fun z => by cases z) (by decide +kernel)
  | _, _, _, .bl b, r, _, z => by
    cases r
    exact ReprK.of_reads (Reads.bool b) rfl (fun z => by cases z) z
  | _, _, _, .int i, r, s, z => by
    obtain ⟨t, rfl⟩ := r
    exact ReprK.of_reads (Reads.int i t) s (fun z => by cases z) z
  | _, _, _, .str x, r, s, z => by
    obtain ⟨t, rfl⟩ := r
    exact ReprK.of_reads (Reads.str x t) s (fun z => by cases z) z
  | _, _, _, .lst (a := a) (ds := ds) e q, r, s, z => by
    obtain ⟨as, hr⟩ := Dn.reads ok (.lst e q) r
    cases r
    obtain ⟨_, its, n, rv, ho⟩ := ok _ _ e
    have z' : (listText (PyData.shownAll ds)).length ≤ sizeLine := by simpa only [PyData.shown] using z
    obtain ⟨bs, hb, hk⟩ := DnAll.repr ok q rv (by simpa [PyData.showable] using s) (fun t m => Nat.le_trans (listText_mem_le m) z')
    have off : a ∉ bs := not_mem_of_deeper hr (by simp only [PyData.depth]; omega) hb
    refine ⟨a :: bs, ReadAtMost.cons hr (by simp only [PyData.depth]; omega) hb, ?_⟩
    simp only [PyData.depth, PyData.shown]
    cases its with
    | nil =>
      cases rv
      cases q
      simp only [PyData.shownAll, listText_nil]
      exact ReprK.listEmpty ho rfl rfl
    | cons x l => exact ReprK.list ho rfl rfl off (by simpa using hk.length_eq) (fun i y e => hk.item i y (by simpa using e))
  | _, _, _, .tup (a := a) (ds := ds) e q, r, s, z => by
    obtain ⟨as, hr⟩ := Dn.reads ok (.tup e q) r
    cases r
    obtain ⟨_, its, rv, o, ho, hc, n, hd⟩ := ok _ _ e
    have z' : (tupleText (PyData.shownAll ds)).length ≤ sizeLine := by simpa only [PyData.shown] using z
    obtain ⟨bs, hb, hk⟩ := DnAll.repr ok q rv (by simpa [PyData.showable] using s) (fun t m => Nat.le_trans (tupleText_mem_le m) z')
    have off : a ∉ bs := not_mem_of_deeper hr (by simp only [PyData.depth]; omega) hb
    refine ⟨a :: bs, ReadAtMost.cons hr (by simp only [PyData.depth]; omega) hb, ?_⟩
    simp only [PyData.depth, PyData.shown]
    exact ReprK.tuple ho hc hd off hk
  | _, _, _, .dic (a := a) (ds := ds) e q q', r, s, z => by
    obtain ⟨as, hr⟩ := Dn.reads ok (.dic e q q') r
    cases r
    obtain ⟨_, sys, vs, kv, o, es, ep, ho, hx, hd, _, hp, _⟩ := ok _ _ e
    have z' : (dictText (PyData.shownKv ds)).length ≤ sizeLine := by simpa only [PyData.shown] using z
    obtain ⟨s1, s2⟩ := PyData.showableKv_split ds (by simpa [PyData.showable] using s)
    obtain ⟨b1, hb1, k1⟩ := DnAll.repr ok q (keys_read kv hp q) s1 (fun t m => let ⟨p, hp, hl⟩ := PyData.shownKv_key_le ds t m; Nat.le_trans hl (Nat.le_trans (dictText_mem_le hp) z'))
    obtain ⟨b2, hb2, k2⟩ := DnAll.repr ok q' (vals_read kv hp) s2 (fun t m => let ⟨p, hp, hl⟩ := PyData.shownKv_val_le ds t m; Nat.le_trans hl (Nat.le_trans (dictText_mem_le hp) z'))
    have hb : ReadAtMost h (PyData.depthKv ds) (b1 ++ b2) := (hb1.mono (PyData.depthAll_keys_le ds)).append (hb2.mono (PyData.depthAll_vals_le ds))
    have off : a ∉ b1 ++ b2 := not_mem_of_deeper hr (by simp only [PyData.depth]; omega) hb
    refine ⟨a :: (b1 ++ b2), ReadAtMost.cons hr (by simp only [PyData.depth]; omega) hb, ?_⟩
    simp only [PyData.depth, PyData.shown, PyData.shownKv_eq]
    exact ReprK.dict ho hx.1 hd sys off (ReprEntriesK.of_two es.toList _ _ (k1.more_le (fun b m => List.mem_append_left _ m) (PyData.depthAll_keys_le ds)) (k2.more_le (fun b m => List.mem_append_right _ m) (PyData.depthAll_vals_le ds)))
theorem DnAll.repr (ok : HOk P w H h) : ∀ {vs : List V} {ds : List PyData} {us : List Value}, DnAll H vs ds → Vals vs us → PyData.showableAll ds = true → (∀ t ∈ PyData.shownAll ds, t.length ≤ sizeLine) →
    ∃ bs, ReadAtMost h (PyData.depthAll ds) bs ∧ ReprAllK P w bs h (PyData.depthAll ds) us (PyData.shownAll ds)
  | _, _, _, .nil, r, _, _ => by
    cases r
    exact ReprAllK.of_readsAll (prog := P) (w := w) (ReadsAll.nil (h := h)) rfl (fun z => by cases z) (fun t m => by simp [PyData.shownAll] at m)
  | _, _, _, .cons (d := d) (ds := ds) q t, .cons r r', s, z => by
    have s' : d.showable = true ∧ PyData.showableAll ds = true := by simpa [PyData.showableAll] using s
    obtain ⟨b1, hb1, k1⟩ := Dn.repr ok q r s'.1 (z _ (by simp only [PyData.shownAll]; exact List.mem_cons_self ..))
    obtain ⟨b2, hb2, k2⟩ := DnAll.repr ok t r' s'.2 (fun t m => z t (by simp only [PyData.shownAll]; exact List.mem_cons_of_mem _ m))
    refine ⟨b1 ++ b2, ?_, ?_⟩
    · simp only [PyData.depthAll]
      exact (hb1.mono (Nat.le_max_left _ _)).append (hb2.mono (Nat.le_max_right _ _))
    · simp only [PyData.depthAll, PyData.shownAll]
      exact .cons ((k1.more fun b m => List.mem_append_left _ m).level_le (Nat.le_max_left _ _)) (k2.more_le (fun b m => List.mem_append_right _ m) (Nat.le_max_right _ _))
end
end
end KA
set_option Elab.async false
set_option linter.unusedVariables false
set_option maxRecDepth 100000
set_option maxHeartbeats 1000000
/-! Rules of one's own: repr of data, a list grown by a tuple, == with what is empty. -/
namespace KA
open PySem PySem.Spec PyProof.Rows L2

section
variable {X : Cx}
/-- repr of data, where nothing is being shown -/
def rRepr : List V → Hp → VK → Prop := fun xs H Q => ∃ v d, xs = [v] ∧ Dn H v d ∧ d.showable = true ∧ d.shown.length ≤ sizeLine ∧ d.depth ≤ 100 ∧ Q (.str d.shown) H
theorem call_repr (hg : X.A.guards = some []) (hu : X.A.units + 200 < cLine) : CallR X (.builtin "repr") rRepr := by
  intro pins s σ H xs us Q I r h
  obtain ⟨v, d, rfl, hd, sh, sz, dp, q⟩ := h
  obtain ⟨u, rfl, ru⟩ := vals1 r
  have fin : ∀ h' tk, (∀ b o, s.heap.get? b = some o → h'.get? b = some o) → ∀ t, EP X pins σ Q (.str d.shown t) { s with heap := h', toks := tk } :=
    fun h' tk k t => ⟨.str d.shown, H, I.kept k, ⟨t, rfl⟩, q⟩
  cases hd with
  | non =>
    cases ru
    exact P.repr_of_none (fin s.heap _ (fun _ _ e => e) _)
  | bl b =>
    cases ru
    refine P.repr_of_bool ?_
    have z := fin s.heap (s.toks + 1) (fun _ _ e => e) s.toks
    rw [PyData.shown_bool] at z
    cases b <;> exact z
  | int i =>
    obtain ⟨t, rfl⟩ := ru
    exact P.repr_of_int (by simpa [PyData.showable] using sh) (fin s.heap _ (fun _ _ e => e) _)
  | str x =>
    obtain ⟨t, rfl⟩ := ru
    exact P.repr_of_str (fin s.heap _ (fun _ _ e => e) _) (by simpa only [PyData.shown] using sz)
  | @lst a xs ds e c =>
    obtain ⟨as, hr⟩ := Dn.reads I.hok (.lst e c) ru
    cases ru
    obtain ⟨_, its, n, rv, ho⟩ := I.hok _ _ e
    have z' : (listText (PyData.shownAll ds)).length ≤ sizeLine := by simpa only [PyData.shown] using sz
    obtain ⟨bs, hb, hk⟩ := DnAll.repr I.hok c rv (by simpa [PyData.showable] using sh) (fun t m => Nat.le_trans (listText_mem_le m) z')
    have off : a ∉ bs := not_mem_of_deeper hr (by simp only [PyData.depth]; omega) hb
    have dep : PyData.depthAll ds + 1 ≤ 100 := by simpa only [PyData.depth] using dp
    refine call_repr_slot (idr := "list.__repr__") (by omega) ⟨_, ho, rfl⟩ F.slot_list_repr.toG ?_
    simp only [PyData.shown] at fin
    cases its with
    | nil =>
      cases rv
      cases c
      simp only [PyData.shownAll, listText_nil] at fin
      exact call_list_repr_empty ⟨_, ho, rfl⟩ ho rfl ⟨_, _, rfl, fin s.heap _ (fun _ _ e => e) _⟩
    | cons y l =>
      exact call_list_reprK ho rfl rfl off (by simpa using hk.length_eq) (fun i y e => hk.item i y (by simpa using e)) (by exact hg) (fun b _ => Clear.nil b) (by show X.A.units + 1 + _ < cLine; omega) (fun _ _ e => e)
        (fun h' u tk k => ⟨_, _, rfl, fin h' tk k u⟩) z'
  | @tup a xs ds e c =>
    obtain ⟨as, hr⟩ := Dn.reads I.hok (.tup e c) ru
    cases ru
    obtain ⟨_, its, rv, o, ho, hc, n, hd⟩ := I.hok _ _ e
    have z' : (tupleText (PyData.shownAll ds)).length ≤ sizeLine := by simpa only [PyData.shown] using sz
    obtain ⟨bs, hb, hk⟩ := DnAll.repr I.hok c rv (by simpa [PyData.showable] using sh) (fun t m => Nat.le_trans (tupleText_mem_le m) z')
    have off : a ∉ bs := not_mem_of_deeper hr (by simp only [PyData.depth]; omega) hb
    have dep : PyData.depthAll ds + 1 ≤ 100 := by simpa only [PyData.depth] using dp
    refine call_repr_slot (idr := "tuple.__repr__") (by omega) ⟨o, ho, hc⟩ F.slot_tuple_repr ?_
    simp only [PyData.shown] at fin
    exact call_tuple_reprK ho hc hd off hk (by exact hg) (fun b _ => Clear.nil b) (by show X.A.units + 1 + _ < cLine; omega) (fun _ _ e => e) (fun h' u tk k => ⟨_, _, rfl, fin h' tk k u⟩) z'
  | @dic a kvs ds e c c' =>
    obtain ⟨as, hr⟩ := Dn.reads I.hok (.dic e c c') ru
    cases ru
    obtain ⟨_, sys, vs, kv, o, es, ep, ho, hx, hd, _, hp, _⟩ := I.hok _ _ e
    have z' : (dictText (PyData.shownKv ds)).length ≤ sizeLine := by simpa only [PyData.shown] using sz
    obtain ⟨s1, s2⟩ := PyData.showableKv_split ds (by simpa [PyData.showable] using sh)
    obtain ⟨b1, hb1, k1⟩ := DnAll.repr I.hok c (keys_read kv hp c) s1 (fun t m => let ⟨p, hp, hl⟩ := PyData.shownKv_key_le ds t m; Nat.le_trans hl (Nat.le_trans (dictText_mem_le hp) z'))
    obtain ⟨b2, hb2, k2⟩ := DnAll.repr I.hok c' (vals_read kv hp) s2 (fun t m => let ⟨p, hp, hl⟩ := PyData.shownKv_val_le ds t m; Nat.le_trans hl (Nat.le_trans (dictText_mem_le hp) z'))
    have hb : ReadAtMost s.heap (PyData.depthKv ds) (b1 ++ b2) := (hb1.mono (PyData.depthAll_keys_le ds)).append (hb2.mono (PyData.depthAll_vals_le ds))
    have off : a ∉ b1 ++ b2 := not_mem_of_deeper hr (by simp only [PyData.depth]; omega) hb
    have dep : PyData.depthKv ds + 1 ≤ 100 := by simpa only [PyData.depth] using dp
    refine call_repr_slot (idr := "dict.__repr__") (by omega) ⟨o, ho, hx.1⟩ F.slot_dict_repr ?_
    simp only [PyData.shown, PyData.shownKv_eq] at fin
    exact call_dict_reprK ho hx.1 hd sys off (ReprEntriesK.of_two es.toList _ _ (k1.more_le (fun b m => List.mem_append_left _ m) (PyData.depthAll_keys_le ds)) (k2.more_le (fun b m => List.mem_append_right _ m) (PyData.depthAll_vals_le ds)))
      (by exact hg) (fun b _ => Clear.nil b) (by show X.A.units + 1 + _ < cLine; omega) (fun _ _ e => e) (fun h' u tk k => ⟨_, _, rfl, fin h' tk k u⟩) (by rw [← PyData.shownKv_eq]; exact z')
theorem grow_meets (l : Addr) (us : Array Value) (n : Nat) (b : Addr) (ws : Array Value) (n2 : Nat) (dd : Option Addr) (sl : Array (Option Value)) (short : ¬(!us.isEmpty && Builtin.List.listTooLong (us.size + ws.size)) = true)
    (z1 : us.size ≤ sizeLine) (z2 : us.size + ws.size ≤ sizeLine + 1) : Meets (Builtin.«list.extend» ⟨[.ref l, .ref b], []⟩) (fun _ R s =>
      s.heap.get? l = some { cls := .type "list", dict := none, data := .seq us n, slots := #[] } ∧ s.heap.get? b = some { cls := .type "tuple", dict := dd, data := .seq ws n2, slots := sl } ∧
        R (.ok (.ret Value.none)) { s with heap := s.heap.update l (Obj.mapSeq fun x => x ++ ws), toks := s.toks }) :=
  .of_wp fun prog w A R s h => by
    obtain ⟨hp, g, d, tk, os⟩ := s
    obtain ⟨hl, hb, h⟩ := h
    have f1 := PySem.AutoSeq1.idx_int
    have f2 := PySem.AutoSeq1.sub_tuple_tuple
    have f3 := PySem.AutoSeq1.sub_list_list
    have f4 := PySem.AutoSeq1.sub_tuple_list
    have f5 := PySem.AutoSeq1.sub_list_tuple
    have z3 : (us ++ ws).size ≤ sizeLine + 1 := by rw [Array.size_append]; exact z2
    wp_walk using (wpAny_updateSeq hl rfl (hz := z1) (_hz' := z3)), PySem.AutoSeq1.wpAny_loadPart' hl, PySem.AutoSeq1.wpAny_loadPart' hb
    exact ⟨_, rfl, h⟩
/-- xs.extend(t), t a tuple that H tracks -/
def rGrow : V → List V → Hp → VK → Prop := fun x vs H Q => ∃ l b xs zs, x = .ref l ∧ vs = [.ref b] ∧ H l = some (.lst xs) ∧ H b = some (.tup zs) ∧ xs.length + zs.length ≤ sizeLine ∧ Q .non (upd H l (.lst (xs ++ zs)))
theorem mt_grow : MtM X "list.extend" rGrow := by
  intro pins s σ H x vs v us Q I rx rv h
  obtain ⟨l, b, xs, zs, rfl, rfl, hl, hb, sz, q⟩ := h
  cases rx
  obtain ⟨u, rfl, ru⟩ := rv.one
  cases ru
  obtain ⟨z, its, n, r, ll, e⟩ := I.lstM hl
  obtain ⟨_, its2, r2, ⟨cls, dd, data, sl⟩, e2, hc, n2, hd⟩ := I.hok _ _ hb
  simp only at hc hd
  subst hc hd
  have l1 := r.length
  have l2 := r2.length
  have many : its.toArray.size + its2.toArray.size ≤ sizeLine := by rw [List.size_toArray, List.size_toArray]; omega
  have long : ¬ (!its.toArray.isEmpty && Builtin.List.listTooLong (its.toArray.size + its2.toArray.size)) = true := by
    rw [notLongL many, Bool.and_false]
    exact Bool.false_ne_true
  refine call_meets F.slot_list_extend ⟨_, e, rfl⟩ F.entry_list_extend (F.args_list_extend_2 _ _) (grow_meets l its.toArray n b its2.toArray n2 dd sl long (by rw [List.size_toArray]; omega) (by omega)) ⟨e, e2, ?_⟩
  exact ⟨.non, _, I.lset (its' := its ++ its2) hl e (by simp) (r.append r2) (by rw [List.length_append]; omega), rfl, q⟩
end
end KA
namespace KA
open PySem PySem.Spec PyProof.Rows L2
section
variable {X : Cx}
/-- t == (), xs == []: only whether it is empty counts -/
def rEqE : R2 := fun x y H Q => ∃ a b xs, x = .ref a ∧ y = .ref b ∧ ((H a = some (.tup xs) ∧ H b = some (.tup [])) ∨ (H a = some (.lst xs) ∧ H b = some (.lst []))) ∧ Q (.bl xs.isEmpty) H
theorem op_eqE (hu : X.A.units + 1 < cLine) : OpR X (compareOp .Eq) rEqE := by
  intro pins s σ H x y v u Q I rx ry h
  obtain ⟨a, b, xs, rfl, rfl, h, q⟩ := h
  cases rx
  cases ry
  have fin : EP X pins σ Q (.bool xs.isEmpty) s := ⟨.bl xs.isEmpty, H, I, rfl, q⟩
  rcases h with ⟨ha, hb⟩ | ⟨ha, hb⟩
  · obtain ⟨_, its, r, o, ho, hc, hd⟩ := I.hok _ _ ha
    obtain ⟨_, its2, r2, o2, ho2, hc2, hd2⟩ := I.hok _ _ hb
    cases r2
    refine SeqAt.eq_tupleAt (e := fun _ => true) ⟨o, ho, hc, hd⟩ ⟨o2, ho2, hc2, hd2⟩ (by omega) (fun j h1 h2 => absurd h2 (by simp)) ?_
    cases r <;> simpa using fin
  · obtain ⟨_, its, n, r, ho⟩ := I.hok _ _ ha
    obtain ⟨_, its2, n2, r2, ho2⟩ := I.hok _ _ hb
    cases r2
    cases r with
    | nil => exact SeqAt.eq_listAt (e := fun _ => true) ⟨_, ho, rfl, _, rfl⟩ ⟨_, ho2, rfl, _, rfl⟩ rfl (by omega) (fun j h1 h2 => absurd h2 (by simp)) (by simpa using fin)
    | cons r t => exact SeqAt.eq_list_lengthsAt ⟨_, ho, rfl, _, rfl⟩ ⟨_, ho2, rfl, _, rfl⟩ (by simp) (by omega) (by simpa using fin)
def rNeE : R2 := fun x y H Q => ∃ a b xs, x = .ref a ∧ y = .ref b ∧ H a = some (.tup xs) ∧ H b = some (.tup []) ∧ Q (.bl (!xs.isEmpty)) H
theorem op_neE (hu : X.A.units + 1 < cLine) : OpR X (compareOp .NotEq) rNeE := by
  intro pins s σ H x y v u Q I rx ry h
  obtain ⟨a, b, xs, rfl, rfl, ha, hb, q⟩ := h
  cases rx
  cases ry
  have fin : EP X pins σ Q (.bool (!xs.isEmpty)) s := ⟨.bl (!xs.isEmpty), H, I, rfl, q⟩
  obtain ⟨_, its, r, o, ho, hc, hd⟩ := I.hok _ _ ha
  obtain ⟨_, its2, r2, o2, ho2, hc2, hd2⟩ := I.hok _ _ hb
  cases r2
  refine SeqAt.RcNeAt.tuples (e := fun _ => true) ⟨o, ho, hc, hd⟩ ⟨o2, ho2, hc2, hd2⟩ (by omega) (fun j h1 h2 => absurd h2 (by simp)) _ _ _ _ ?_
  cases r <;> simpa using fin
end
end KA
set_option Elab.async false
set_option linter.unusedVariables false
set_option maxRecDepth 100000
set_option maxHeartbeats 1000000
/-! A walk over zip of a text (of plain signs) and a tuple as long. -/
namespace KZ
open PySem
section
variable {prog : Program} {w : World} {A : Around} {E : Value → Shared → Prop} {s : Shared}
abbrev Sg : String := "str_ascii_iterator"
theorem next_item {z ti to i1 i2 l2 : Addr} {k1 k2 c : Nat} {x : Str} {t : Tok} {ys : Array Value} {y a b : Value} {Q : Value → Shared → Prop} (nz : ti ≠ z ∧ to ≠ z ∧ i1 ≠ z ∧ i2 ≠ z) (nt : to ≠ i1 ∧ to ≠ i2 ∧ i1 ≠ i2) (nl : l2 ≠ z ∧ l2 ≠ to ∧ l2 ≠ i1)
    (gz : IsZip s.heap z ti to .none) (gi : IsPair s.heap ti (.ref i1) (.ref i2)) (go : IsPair s.heap to a b) (g1 : s.heap.IsStrIter i1 Sg x t k1) (g2 : s.heap.IsTupleIter i2 l2 k2) (gl : s.heap.IsTuple l2 ys)
    (hc : x.cps[k1]? = some c) (hy : ys[k2]? = some y)
    (hQ : ∀ h' tk u, IsZip h' z ti to (rawInt s.heap.objs.size) → IsPair h' to (.str ⟨#[c]⟩ u) y → h'.IsStrIter i1 Sg x t (k1 + 1) → h'.IsTupleIter i2 l2 (k2 + 1) → IsPair h' s.heap.objs.size (.str ⟨#[c]⟩ u) y → h'.objs.size = s.heap.objs.size + 1 →
      (∀ c o, c ≠ z → c ≠ to → c ≠ i1 → c ≠ i2 → s.heap.get? c = some o → h'.get? c = some o) → Q (.ref s.heap.objs.size) { s with heap := h', toks := tk }) :
    wpAny (model prog w) A (Builtin.«zip.__next__» ⟨[.ref z], []⟩) (fun fin s' => ∃ v, fin = .done (.ret v) ∧ Q v s') E s := by
  obtain ⟨n1, n2, n3, n4⟩ := nz
  obtain ⟨n5, n6, n7⟩ := nt
  obtain ⟨n8, n9, n10⟩ := nl
  show wpAny _ _ (field (.ref z) 2 >>= _) _ _ _
  refine wpAny_bind (wpAny_field gz rfl (x := .bool false) rfl ?_)
  show wpAny _ _ (field (.ref z) 3 >>= _) _ _ _
  refine wpAny_bind (wpAny_field gz rfl (x := .ref ti) rfl ?_)
  refine wpAny_bind (wpAny_seqItems gi rfl ?_)
  show wpAny _ _ (Builtin.SmallTypes.ownedTupleIsFree (.ref z) >>= _) _ _ _
  refine wpAny_bind ?_
  unfold Builtin.SmallTypes.ownedTupleIsFree
  refine wpAny_bind (wpAny_field gz rfl (x := .none) rfl (wpAny_pure ?_))
  simp only [if_true]
  refine wpAny_bind (wpAny_rule ?_)
  refine wpAny_bind (wpAny_field gz rfl (x := .ref to) rfl ?_)
  refine wpAny_bind (wpAny_setField_rec gz (by simp) fun ha za sa => ?_)
  replace za : IsZip ha z ti to .ellipsis := za
  refine wpAny_bind ?_
  simp only [List.zipIdx_cons, List.zipIdx_nil, List.forIn_cons, List.forIn_nil]
  refine wpAny_bind (wpAny_bind (wpAny_onRaise ?_))
  show wpAny _ _ (Builtin.SmallTypes.nextOf (.ref i1) >>= _) _ _ _
  refine wpAny_bind (wpAny_nextOf_ascii_item (g1.extBut sa.extBut n3) hc fun hb b1 sb => wpAny_pure ?_)
  have ob : IsPair hb to a b := sb.extBut _ _ n5 (sa.extBut _ _ n2 go)
  refine wpAny_bind (wpAny_seqItems ob rfl ?_)
  refine wpAny_bind (wpAny_updateSeq_pair ob fun hd od sd => ?_)
  replace od : IsPair hd to (.str ⟨#[c]⟩ s.toks) b := od
  refine wpAny_bind (wpAny_letGo (wpAny_pure ?_))
  refine wpAny_bind (wpAny_bind (wpAny_onRaise ?_))
  show wpAny _ _ (Builtin.SmallTypes.nextOf (.ref i2) >>= _) _ _ _
  refine wpAny_bind (RZ.nextOf_tuple_item (((g2.extBut sa.extBut n4).extBut sb.extBut n7.symm).extBut sd.extBut n6.symm) (((gl.extBut sa.extBut n8).extBut sb.extBut n10).extBut sd.extBut n9) hy fun he b2 se => wpAny_pure ?_)
  have oe : IsPair he to (.str ⟨#[c]⟩ s.toks) b := se.extBut _ _ n6 od
  refine wpAny_bind (wpAny_seqItems oe rfl ?_)
  refine wpAny_bind (wpAny_updateSeq_pair oe fun hf of sf => ?_)
  replace of : IsPair hf to (.str ⟨#[c]⟩ s.toks) y := of
  refine wpAny_bind (wpAny_letGo (wpAny_pure (wpAny_pure ?_)))
  refine wpAny_bind (wpAny_seqItems of rfl ?_)
  refine wpAny_bind (wpAny_newTuple ?_)
  have sz : hf.objs.size = s.heap.objs.size := by rw [sf.1, se.1, sd.1, sb.1, sa.1]
  have zf : IsZip hf z ti to .ellipsis := sf.extBut _ _ n2.symm (se.extBut _ _ n4.symm (sd.extBut _ _ n2.symm (sb.extBut _ _ n3.symm za)))
  have kf : ∀ c o, c ≠ z → c ≠ to → c ≠ i1 → c ≠ i2 → s.heap.get? c = some o → hf.get? c = some o := fun c o c1 c2 c3 c4 e =>
    sf.extBut _ _ c2 (se.extBut _ _ c4 (sd.extBut _ _ c2 (sb.extBut _ _ c3 (sa.extBut _ _ c1 e))))
  have f1 : hf.IsStrIter i1 Sg x t (k1 + 1) := ((b1.extBut sd.extBut n5.symm).extBut se.extBut n7).extBut sf.extBut n5.symm
  have f2 : hf.IsTupleIter i2 l2 (k2 + 1) := b2.extBut sf.extBut n6.symm
  have zlt : z < hf.objs.size := Heap.lt_size zf
  show wpAny _ _ (Builtin.SmallTypes.ownedTupleHandOut (.ref z) (.ref hf.objs.size) >>= _) _ _ _
  refine wpAny_bind ?_
  unfold Builtin.SmallTypes.ownedTupleHandOut
  have zg : IsZip (hf.push { cls := .type "tuple", data := .seq #[.str ⟨#[c]⟩ s.toks, y] }) z ti to .ellipsis := Heap.get?_push_of_some _ zf
  refine wpAny_bind (wpAny_setField_rec zg (by simp) fun hg zh sh => ?_)
  replace zh : IsZip hg z ti to (rawInt hf.objs.size) := zh
  refine wpAny_setField_rec zh (by simp) fun hi zi si => ?_
  replace zi : IsZip hi z ti to (rawInt hf.objs.size) := zi
  have up : ∀ c o, c ≠ z → hf.get? c = some o → hi.get? c = some o := fun c o c1 e => si.extBut _ _ c1 (sh.extBut _ _ c1 (Heap.get?_push_of_some _ e))
  have pi : IsPair hi hf.objs.size (.str ⟨#[c]⟩ s.toks) y := si.extBut _ _ (Nat.ne_of_gt zlt) (sh.extBut _ _ (Nat.ne_of_gt zlt) (Heap.get?_push_size _ rfl))
  have ei : hi.objs.size = hf.objs.size + 1 := by rw [si.1, sh.1, Heap.size_push]
  rw [sz] at zi pi ei
  refine wpAny_pure ⟨_, rfl, ?_⟩
  show Q (.ref hf.objs.size) _
  rw [sz]
  obtain ⟨o1, p1, q1⟩ := f1
  exact hQ hi _ _ zi (up _ _ n2 of) ⟨o1, up _ _ n3 p1, q1⟩ (f2.at fun o e => up _ o n4 e) pi ei fun c o c1 c2 c3 c4 e => up c o c1 (kf c o c1 c2 c3 c4 e)
theorem next_end {z ti to i1 i2 : Addr} {k1 : Nat} {x : Str} {t : Tok} {a b : Value} {Q : Fin → Shared → Prop} (hh : A.handled = none) (n3 : i1 ≠ z)
    (gz : IsZip s.heap z ti to .none) (gi : IsPair s.heap ti (.ref i1) (.ref i2)) (go : IsPair s.heap to a b) (g1 : s.heap.IsStrIter i1 Sg x t k1) (hc : x.cps[k1]? = none)
    (hE : ∀ h' e, (∀ c o, c ≠ z → c ≠ to → c ≠ i1 → c ≠ i2 → s.heap.get? c = some o → h'.get? c = some o) → (∃ o, h'.get? e = some o ∧ o.cls = .type "StopIteration") → E (.ref e) { s with heap := h' }) :
    wpAny (model prog w) A (Builtin.«zip.__next__» ⟨[.ref z], []⟩) Q E s := by
  show wpAny _ _ (field (.ref z) 2 >>= _) _ _ _
  refine wpAny_bind (wpAny_field gz rfl (x := .bool false) rfl ?_)
  show wpAny _ _ (field (.ref z) 3 >>= _) _ _ _
  refine wpAny_bind (wpAny_field gz rfl (x := .ref ti) rfl ?_)
  refine wpAny_bind (wpAny_seqItems gi rfl ?_)
  show wpAny _ _ (Builtin.SmallTypes.ownedTupleIsFree (.ref z) >>= _) _ _ _
  refine wpAny_bind ?_
  unfold Builtin.SmallTypes.ownedTupleIsFree
  refine wpAny_bind (wpAny_field gz rfl (x := .none) rfl (wpAny_pure ?_))
  simp only [if_true]
  refine wpAny_bind (wpAny_rule ?_)
  refine wpAny_bind (wpAny_field gz rfl (x := .ref to) rfl ?_)
  refine wpAny_bind (wpAny_setField_rec gz (by simp) fun ha za sa => ?_)
  replace za : IsZip ha z ti to .ellipsis := za
  refine wpAny_bind ?_
  simp only [List.zipIdx_cons, List.zipIdx_nil, List.forIn_cons, List.forIn_nil]
  refine wpAny_bind (wpAny_bind (wpAny_onRaise ?_))
  show wpAny _ _ (Builtin.SmallTypes.nextOf (.ref i1) >>= _) _ _ _
  refine wpAny_bind (wpAny_nextOf_ascii_end hh (g1.extBut sa.extBut n3) hc fun hb e sb he => ?_)
  obtain ⟨oe, hoe, hce⟩ := he
  have zb : IsZip hb z ti to .ellipsis := sb _ _ n3.symm za
  have off : e ≠ z := by
    rintro rfl
    rw [zb] at hoe
    cases hoe
    simp at hce
  exact wpAny_setField_rec zb (by simp) fun hd _ sd => hE hd e (fun c o c1 _ c3 _ q => sd.extBut _ _ c1 (sb _ _ c3 (sa.extBut _ _ c1 q))) ⟨oe, sd.extBut _ _ off hoe, hce⟩
end
end KZ
namespace KZ
open PySem
section
variable {prog : Program} {w : World} {A : Around} {E : Value → Shared → Prop} {s : Shared}
theorem py_item {z ti to i1 i2 l2 : Addr} {k1 k2 c : Nat} {x : Str} {t : Tok} {ys : Array Value} {y a b : Value} {Q : Option Value → Shared → Prop} (nz : ti ≠ z ∧ to ≠ z ∧ i1 ≠ z ∧ i2 ≠ z) (nt : to ≠ i1 ∧ to ≠ i2 ∧ i1 ≠ i2) (nl : l2 ≠ z ∧ l2 ≠ to ∧ l2 ≠ i1)
    (gz : IsZip s.heap z ti to .none) (gi : IsPair s.heap ti (.ref i1) (.ref i2)) (go : IsPair s.heap to a b) (g1 : s.heap.IsStrIter i1 Sg x t k1) (g2 : s.heap.IsTupleIter i2 l2 k2) (gl : s.heap.IsTuple l2 ys)
    (hc : x.cps[k1]? = some c) (hy : ys[k2]? = some y)
    (hQ : ∀ h' tk u, IsZip h' z ti to (rawInt s.heap.objs.size) → IsPair h' to (.str ⟨#[c]⟩ u) y → h'.IsStrIter i1 Sg x t (k1 + 1) → h'.IsTupleIter i2 l2 (k2 + 1) → IsPair h' s.heap.objs.size (.str ⟨#[c]⟩ u) y → h'.objs.size = s.heap.objs.size + 1 →
      (∀ c o, c ≠ z → c ≠ to → c ≠ i1 → c ≠ i2 → s.heap.get? c = some o → h'.get? c = some o) → Q (some (.ref s.heap.objs.size)) { s with heap := h', toks := tk }) :
    wpAny (model prog w) A (pyNext (.ref z)) Q E s := by
  have ty : s.TypeIs (.ref z) "zip" := ⟨_, gz, rfl⟩
  unfold pyNext
  exact wpAny_bind (wpAny_attempt (wpAny_callSpecial?_slot (name := Str.ofString "__next__") ty F.slot_zip_next (wpAny_call_entry F.slot_zip_next ty F.entry_zip_next
    (next_item nz nt nl gz gi go g1 g2 gl hc hy fun h' tk u a1 a2 a3 a4 a5 a6 a7 => wpAny_pure (hQ h' tk u a1 a2 a3 a4 a5 a6 a7)) (F.args_zip_next_1 _))))
theorem py_end {z ti to i1 i2 : Addr} {k1 : Nat} {x : Str} {t : Tok} {a b : Value} {Q : Option Value → Shared → Prop} (hh : A.handled = none) (n3 : i1 ≠ z)
    (gz : IsZip s.heap z ti to .none) (gi : IsPair s.heap ti (.ref i1) (.ref i2)) (go : IsPair s.heap to a b) (g1 : s.heap.IsStrIter i1 Sg x t k1) (hc : x.cps[k1]? = none)
    (hQ : ∀ h', (∀ c o, c ≠ z → c ≠ to → c ≠ i1 → c ≠ i2 → s.heap.get? c = some o → h'.get? c = some o) → Q none { s with heap := h' }) : wpAny (model prog w) A (pyNext (.ref z)) Q E s := by
  have ty : s.TypeIs (.ref z) "zip" := ⟨_, gz, rfl⟩
  unfold pyNext
  refine wpAny_bind (wpAny_attempt (wpAny_callSpecial?_slot (name := Str.ofString "__next__") ty F.slot_zip_next (wpAny_call_entry F.slot_zip_next ty F.entry_zip_next
    (next_end hh n3 gz gi go g1 hc fun h' e k he => ?_) (F.args_zip_next_1 _))))
  obtain ⟨o, ho, hc⟩ := he
  exact wpAny_bind (wpAny_isInstance (T := "StopIteration") (b := true) ⟨o, ho, hc⟩ isSubtype_stop (wpAny_pure (hQ _ k)))
end
/-- the heap behind zip(x, l2), step by step -/
abbrev h1 (h : Heap) (x : Str) (t : Tok) : Heap := h.push { cls := .type Sg, data := .fields #[.str x t, .int 0 0] }
abbrev h2 (h : Heap) (x : Str) (t : Tok) (l2 : Addr) : Heap := (h1 h x t).push { cls := .type "tuple_iterator", data := .fields #[.ref l2, .int 0 0] }
abbrev h3 (h : Heap) (x : Str) (t : Tok) (l2 : Addr) : Heap := (h2 h x t l2).push { cls := .type "tuple", data := .seq #[.ref h.objs.size, .ref (h1 h x t).objs.size] }
abbrev h4 (h : Heap) (x : Str) (t : Tok) (l2 : Addr) : Heap := (h3 h x t l2).push { cls := .type "tuple", data := .seq #[.none, .none] }
abbrev h5 (h : Heap) (x : Str) (t : Tok) (l2 : Addr) : Heap := (h4 h x t l2).push { cls := .type "zip", data := .fields #[.none, .bool false, .bool false, .ref (h2 h x t l2).objs.size, .ref (h3 h x t l2).objs.size] }
theorem meets_new (x : Str) (t : Tok) (l2 : Addr) (ys : Array Value) (plain : x.cps.all (· < 128) = true) :
    Meets (Builtin.«zip.__new__» ⟨[.type "zip", .str x t, .ref l2], []⟩) (fun _ R s => s.heap.IsTuple l2 ys ∧ R (.ok (.ret (.ref (h4 s.heap x t l2).objs.size))) { s with heap := h5 s.heap x t l2 }) :=
  .of_wp fun prog w A R s h => by
    obtain ⟨hp, g, d, tk, os⟩ := s
    obtain ⟨hl, h⟩ := h
    have sub := sub_zip
    have L2 : Heap.IsTuple (Shared.heap ⟨hp.push { cls := .type Sg, data := .fields #[.str x t, .int 0 0] }, g, d, tk, os⟩) l2 ys := Heap.IsTuple.push hl _
    wp_walk using wpAny_pyIter_ascii plain, wpAny_pyIter_tuple L2
    exact ⟨_, rfl, h⟩
end KZ
set_option Elab.async false
set_option linter.unusedVariables false
set_option maxRecDepth 100000
set_option maxHeartbeats 1000000
namespace KZ
open PySem PySem.Spec PyProof.Rows L2
def ItzS (K : PySem.W.Frag) (x : Str) (b : Addr) : It :=
  ⟨fun i H => i < x.cps.size ∧ ∃ (ys : List V) (y : V), SqT K H b ys ∧ ys[i]? = some y,
    fun i H v H' => ∃ T c y, v = .ref T ∧ H T = none ∧ H' = upd H T (.tup [.str ⟨#[c]⟩, y]) ∧ x.cps[i]? = some c ∧ ∀ ys, SqT K H b ys → ys[i]? = some y,
    fun i _ => x.cps.size ≤ i⟩
def Std (x : Str) (t : Tok) (b z ti to i1 i2 : Addr) (i : Nat) (h : Heap) : Prop := IsZip h z ti to .none ∧ IsPair h ti (.ref i1) (.ref i2) ∧ (∃ u v, IsPair h to u v) ∧ h.IsStrIter i1 Sg x t i ∧ h.IsTupleIter i2 b i
theorem five {z ti to i1 i2 c : Addr} (h : c ∈ [z, ti, to, i1, i2]) : c = z ∨ c = ti ∨ c = to ∨ c = i1 ∨ c = i2 := by simpa using h
theorem turn {P : Program} {w : World} {K : PySem.W.Frag} {elts : List Expr} {kk : Nat} {tpos : Pos} {x : Str} {t : Tok} {b z ti to i1 i2 : Addr}
    (nz : ti ≠ z ∧ to ≠ z ∧ i1 ≠ z ∧ i2 ≠ z) (nt : to ≠ i1 ∧ to ≠ i2 ∧ i1 ≠ i2) (nl : b ≠ z ∧ b ≠ to ∧ b ≠ i1) (ni : ti ≠ to ∧ ti ≠ i1 ∧ ti ≠ i2) :
    Turn P w K (.Tuple elts kk tpos) (ItzS K x b) [z, ti, to, i1, i2] z (Std x t b z ti to i1 i2) where
  mem := by simp
  obj := by
    rintro i h ⟨g1, g2, ⟨u, v, g3⟩, ⟨o1, e1, _, d1⟩, ⟨o2, e2, _, d2⟩⟩ c hc
    rcases five hc with q | q | q | q | q <;> rw [q]
    · exact ⟨_, g1, fun v q => nomatch q⟩
    · exact ⟨_, g2, fun v q => nomatch q⟩
    · exact ⟨_, g3, fun v q => nomatch q⟩
    · exact ⟨o1, e1, fun v q => by rw [d1] at q; cases q⟩
    · exact ⟨o2, e2, fun v q => by rw [d2] at q; cases q⟩
  keep := by
    rintro i h h' ⟨g1, g2, ⟨u, v, g3⟩, ⟨o1, e1, r1⟩, g5⟩ k
    exact ⟨k z (by simp) _ g1, k ti (by simp) _ g2, ⟨u, v, k to (by simp) _ g3⟩, ⟨o1, k i1 (by simp) _ e1, r1⟩, g5.at fun o q => k i2 (by simp) o q⟩
  item := by
    intro X hP hw hK hc i pins s σ H E I hf st hg
    subst hP hw hK
    obtain ⟨g1, g2, ⟨u, v, g3⟩, g4, g5⟩ := st
    obtain ⟨hi, ys, y, hq, hy⟩ := hg
    obtain ⟨its, rv, p, _⟩ := I.tuple hq
    obtain ⟨uy, hu, ru⟩ := rv.get hy
    have hx : x.cps[i]? = some x.cps[i] := Array.getElem?_eq_getElem hi
    have zl : z < s.heap.objs.size := Heap.lt_size g1
    refine py_item nz nt nl g1 g2 g3 g4 g5 p hx (y := uy) (by simpa using hu) fun h' tk ux z' to' a1 a2 hT sz k => ?_
    refine ⟨_, rfl, wpAny_letOwnedTupleGo_zip (s := { s with heap := h', toks := tk }) z' fun h'' z'' sb => ?_⟩
    have hT2 : h''.get? s.heap.objs.size = some { cls := .type "tuple", data := .seq #[.str ⟨#[x.cps[i]]⟩ ux, uy] } := (sb.2 _ (Nat.ne_of_gt zl)).trans hT
    have new : ObjOk X.prog X.w (upd H s.heap.objs.size (.tup [.str ⟨#[x.cps[i]]⟩, y])) h'' s.heap.objs.size (.tup [.str ⟨#[x.cps[i]]⟩, y]) :=
      ⟨by show 2 ≤ sizeLine; decide, [_, uy], .cons ⟨_, rfl⟩ (.cons ru .nil), ⟨_, hT2, rfl, _, rfl⟩⟩
    have I1 : Inv X pins σ (upd H s.heap.objs.size (.tup [.str ⟨#[x.cps[i]]⟩, y])) { s with heap := h'', toks := tk } :=
      I.turnedNew (t' := tk) (ch := [z, ti, to, i1, i2]) (fun c o hb q => (sb.2 c (fun q' => hb (by simp [q']))).trans (k c o (fun q' => hb (by simp [q'])) (fun q' => hb (by simp [q'])) (fun q' => hb (by simp [q'])) (fun q' => hb (by simp [q'])) q)) hf (Nat.le_refl _) new
    obtain ⟨o1, p1, q1⟩ := a1
    refine ⟨.ref s.heap.objs.size, _, I1, rfl, ⟨_, _, y, rfl, I.hok.fresh (Nat.le_refl _), rfl, hx, fun l hl => by rw [I.tuple_inj hl hq]; exact hy⟩,
      ⟨z'', (sb.2 _ nz.1).trans (k _ _ nz.1 ni.1 ni.2.1 ni.2.2 g2), ⟨_, uy, (sb.2 _ nz.2.1).trans to'⟩, ⟨o1, (sb.2 _ nz.2.2.1).trans p1, q1⟩, a2.at fun o q => (sb.2 _ nz.2.2.2).trans q⟩, fun c hcm => ?_⟩
    have lt : c < s.heap.objs.size := by
      rcases five hcm with q | q | q | q | q <;> rw [q]
      · exact zl
      · exact Heap.lt_size g2
      · exact Heap.lt_size g3
      · obtain ⟨_, e1, _⟩ := g4; exact Heap.lt_size e1
      · obtain ⟨_, e2, _⟩ := g5; exact Heap.lt_size e2
    rw [upd_ne (Nat.ne_of_lt lt)]
    exact (hf c hcm).1
  done := by
    intro X hP hw hK hc i pins s σ H E I hf st hg
    subst hP hw hK
    obtain ⟨g1, g2, ⟨u, v, g3⟩, g4, g5⟩ := st
    exact py_end (I.ok.hd hc) nz.2.2.1 g1 g2 g3 g4 (Array.getElem?_eq_none hg) fun h' k => ⟨rfl, I.turnedL (t' := s.toks) (ch := [z, ti, to, i1, i2]) (fun c o hb q =>
      k c o (fun q' => hb (by simp [q'])) (fun q' => hb (by simp [q'])) (fun q' => hb (by simp [q'])) (fun q' => hb (by simp [q'])) q) hf⟩
  self := fun A i s Q E st h => wpAny_pyIter_zip st.1 h
def iZipS (K : PySem.W.Frag) (ta : TA) : TI := fun σ H R => ta σ H fun vs H1 => ∃ (x : Str) (b : Addr) (ys : List V), vs = [.str x, .ref b] ∧ x.cps.all (· < 128) = true ∧ H1 b = some (.tup ys) ∧ R (ItzS K x b) H1
theorem pi_zipS {X : Cx} {e e2 : Expr} {ta : TA} {p pos tpos : Pos} {elts : List Expr} {kk : Nat} (hg : Gl X "zip") (hm : X.mg "zip" = none) (ha : PA X [e, e2] ta)
    (hs : starEach [e, e2] X.env = (false, eval e X.env) :: starEach [e2] X.env := by rfl) (hpl : (backTo pos (starEach [e2] X.env)).any (·.1) = false := by rfl) :
    PI X (.Tuple elts kk tpos) (.Call (.Name "zip" p) [e, e2] [] pos) (iZipS X.K ta) := by
  refine ⟨fun pins s σ H R I h => ?_⟩
  refine Call_ (ld_blt I hg hm PyProof.Rows.boot_zip (PyProof.Rows.callWith_type1 (thn (ha.run pos pins s σ H _ I h) fun us s1 ⟨vs, H1, I1, r1, q1⟩ => ?_) hs hpl))
  obtain ⟨x, b, ys, rfl, plain, hb, q⟩ := q1
  obtain ⟨u1, u2, rfl, ru1, ru2⟩ := vals2 r1
  obtain ⟨t, rfl⟩ := ru1
  cases ru2
  obtain ⟨_, its, rv, ot, ho, hc, n, hd⟩ := I1.hok _ _ hb
  have hT : s1.heap.IsTuple b its.toArray := ⟨ot, ho, hc, n, hd⟩
  have bl : b < s1.heap.objs.size := Heap.lt_size ho
  refine callType_new F.called_zip (by decide) (F.typeCall_zip_2 _ _) (F.newCall_zip_2 _ _) (fun obj => F.args_object_init_3 obj _ _) F.entry_zip_new (meets_new x t b its.toArray plain) ⟨hT, ?_⟩
  have z1 : (h1 s1.heap x t).objs.size = s1.heap.objs.size + 1 := Heap.size_push ..
  have z2 : (h2 s1.heap x t b).objs.size = s1.heap.objs.size + 2 := by rw [Heap.size_push, z1]
  have z3 : (h3 s1.heap x t b).objs.size = s1.heap.objs.size + 3 := by rw [Heap.size_push, z2]
  have z4 : (h4 s1.heap x t b).objs.size = s1.heap.objs.size + 4 := by rw [Heap.size_push, z3]
  have g5 : (h5 s1.heap x t b).get? (h4 s1.heap x t b).objs.size = some _ := Heap.get?_push_size _ rfl
  have g4 : (h5 s1.heap x t b).get? (h3 s1.heap x t b).objs.size = some _ := Heap.get?_push_of_some _ (Heap.get?_push_size _ rfl)
  have g3 : (h5 s1.heap x t b).get? (h2 s1.heap x t b).objs.size = some _ := Heap.get?_push_of_some _ (Heap.get?_push_of_some _ (Heap.get?_push_size _ rfl))
  have g2 : (h5 s1.heap x t b).get? (h1 s1.heap x t).objs.size = some _ := Heap.get?_push_of_some _ (Heap.get?_push_of_some _ (Heap.get?_push_of_some _ (Heap.get?_push_size _ rfl)))
  have g1 : (h5 s1.heap x t b).get? s1.heap.objs.size = some _ := Heap.get?_push_of_some _ (Heap.get?_push_of_some _ (Heap.get?_push_of_some _ (Heap.get?_push_of_some _ (Heap.get?_push_size _ rfl))))
  have keep : ∀ c o, s1.heap.get? c = some o → (h5 s1.heap x t b).get? c = some o := fun c o e =>
    Heap.get?_push_of_some _ (Heap.get?_push_of_some _ (Heap.get?_push_of_some _ (Heap.get?_push_of_some _ (Heap.get?_push_of_some _ e))))
  show _ ∧ _
  rw [z2, z3, z4] at g5
  rw [z1, z2] at g3
  rw [z3] at g4
  rw [z1] at g2
  rw [z4]
  refine ⟨⟨_, g5, rfl⟩, wpAny_pyIter_zip g5 ?_⟩
  have D := PySem.W.ktu_apart s1.heap.objs.size b b bl bl
  have I2 : Inv X pins σ H1 { s1 with heap := h5 s1.heap x t b } := I1.kept (t' := s1.toks) keep
  refine ⟨s1.heap.objs.size + 4, [s1.heap.objs.size + 4, s1.heap.objs.size + 2, s1.heap.objs.size + 3, s1.heap.objs.size, s1.heap.objs.size + 1], _, _, H1, rfl, I2,
    turn (t := t) ⟨D.TIz, D.TOz, D.i1z, D.i2z⟩ ⟨D.TOi1, D.TOi2, D.i12⟩ ⟨D.l2z, D.l2TO, D.l2i1⟩ ⟨D.TITO, D.TIi1, D.TIi2⟩, ⟨g5, g3, ⟨_, _, g4⟩, ⟨_, g1, rfl, rfl⟩, ⟨_, g2, rfl, rfl⟩⟩, fun c hcm => ?_, q⟩
  have le : s1.heap.objs.size ≤ c := by
    rcases five hcm with z | z | z | z | z <;> rw [z] <;> first | exact Nat.le_add_right _ _ | exact Nat.le_refl _
  exact I1.fpOk le (I1.hok.fresh le)
/-- a loop over zip of a text and a tuple as long -/
theorem for_zipS {K : PySem.W.Frag} {x : Str} {b : Addr} {ys : List V} {g : TG} {tb : TS} {D : Ends} {σ : L2.St} {H : Hp} (hl : x.cps.size = ys.length) (Pv : Nat → L2.St → Hp → Prop) (h0 : Pv 0 σ H) (hq : ∀ i σ H, Pv i σ H → SqT K H b ys)
    (hs : ∀ (i c : Nat) (y : V) (T : Addr) (σ : L2.St) (H : Hp), x.cps[i]? = some c → ys[i]? = some y → Pv i σ H → H T = none → g (.ref T) σ (upd H T (.tup [.str ⟨#[c]⟩, y])) fun σ2 H2 => tb { D with nx := Pv (i + 1), ct := Pv (i + 1), bk := D.nx } σ2 H2)
    (hd : ∀ σ H, Pv x.cps.size σ H → D.nx σ H) :
    ∃ W : Nat → Nat → L2.St → Hp → Prop, (∃ m, W 0 m σ H) ∧ ∀ i m σ H, W i m σ H →
      ((ItzS K x b).stop i H ∧ D.nx σ H) ∨ ((ItzS K x b).go i H ∧ ∃ N : L2.St → Hp → Prop, (∀ σ' H', N σ' H' → ∃ m', m' < m ∧ W (i + 1) m' σ' H') ∧ ∀ v H', (ItzS K x b).yld i H v H' → g v σ H' fun σ2 H2 => tb { D with nx := N, ct := N, bk := D.nx } σ2 H2) := by
  refine ⟨fun i m σ H => m = x.cps.size - i ∧ i ≤ x.cps.size ∧ Pv i σ H, ⟨_, rfl, Nat.zero_le _, h0⟩, ?_⟩
  rintro i m σ H ⟨rfl, hi, p⟩
  by_cases lt : i < x.cps.size
  · have hy : ys[i]? = some ys[i] := List.getElem?_eq_getElem (by omega)
    refine Or.inr ⟨⟨lt, ys, _, hq i σ H p, hy⟩, Pv (i + 1), fun σ' H' p' => ⟨x.cps.size - (i + 1), by omega, rfl, lt, p'⟩, ?_⟩
    rintro v H' ⟨T, c, y', rfl, hT, rfl, hc, f⟩
    exact hs i c y' T σ H hc (f ys (hq i σ H p)) p hT
  · obtain rfl : i = x.cps.size := by omega
    exact Or.inl ⟨Nat.le_refl _, hd σ H p⟩
end KZ
set_option Elab.async false
set_option linter.unusedVariables false
set_option maxRecDepth 100000
set_option maxHeartbeats 1000000
/-! Data looked at: kinds, terms, names; heaps without one object; isinstance of data. -/
namespace KA
open PySem PySem.Spec PyProof.Rows L2

/-! ### a heap without one object -/
def hid (p : Addr) (H : Hp) : Hp := fun b => if b = p then none else H b
theorem hid_ne {p b : Addr} {H : Hp} (h : b ≠ p) : hid p H b = H b := if_neg h
theorem hid_at {p : Addr} {H : Hp} : hid p H p = none := if_pos rfl
theorem hid_some {p b : Addr} {H : Hp} {o : HO} (h : hid p H b = some o) : b ≠ p ∧ H b = some o := by
  by_cases e : b = p
  · subst e
    rw [hid_at] at h
    cases h
  · rw [hid_ne e] at h
    exact ⟨e, h⟩
theorem hid_sub {p : Addr} {H : Hp} : Same (hid p H) H := fun b o h => (hid_some h).2
theorem hid_upd {p : Addr} {H : Hp} {o : HO} : hid p (upd H p o) = hid p H := by
  funext b
  by_cases e : b = p
  · subst e
    rw [hid_at, hid_at]
  · rw [hid_ne e, hid_ne e, upd_ne e]
theorem Same.less {p : Addr} {H H' : Hp} (h : Same H H') : Same (hid p H) (hid p H') := fun b o e => by
  obtain ⟨n, e'⟩ := hid_some e
  rw [hid_ne n]
  exact h b o e'
theorem Same.new {H : Hp} {q : Addr} {o : HO} (h : H q = none) : Same H (upd H q o) := fun b u e => by
  rw [upd_ne (ne_of_none e h)]
  exact e
/-- what is new stands in the rest, too -/
theorem Same.hidNew {p q : Addr} {H H' : Hp} {o : HO} (h : Same H (hid p H')) (n : H' q = none) : Same H (hid p (upd H' q o)) := fun b u e => by
  have e' := h b u e
  obtain ⟨n1, e2⟩ := hid_some e'
  rw [hid_ne n1, upd_ne (ne_of_none e2 n)]
  exact e2
theorem Same.at {H H' : Hp} (h : Same H H') {b : Addr} {o : HO} (e : H b = some o) : H' b = some o := h b o e
/-- a heap to which only new things came, and p, which H does not know, changed -/
theorem Same.to_hid {p : Addr} {H H' : Hp} (h : Same H H') (n : H p = none) : Same H (hid p H') := fun b o e => by
  rw [hid_ne (ne_of_none e n)]
  exact h b o e
theorem Same.mut {p : Addr} {H H' : Hp} {o : HO} (h : Same H H') (n : H p = none) : Same H (upd H' p o) := fun b u e => by
  rw [upd_ne (ne_of_none e n)]
  exact h b u e

/-! ### kinds of data -/
def isTupD : PyData → Bool | .tuple _ => true | _ => false
def isLstD : PyData → Bool | .list _ => true | _ => false
def isStrD : PyData → Bool | .str _ => true | _ => false
def isIntD : PyData → Bool | .int _ => true | .bool _ => true | _ => false
def isBoolD : PyData → Bool | .bool _ => true | _ => false
def tyD : PyData → String
  | .none => "NoneType" | .bool _ => "bool" | .int _ => "int" | .str _ => "str" | .list _ => "list" | .tuple _ => "tuple" | .dict _ => "dict"
theorem Dn.ty {K : PySem.W.Frag} {H : Hp} {v : V} {d : PyData} (h : Dn H v d) : TyX K H v (.type (tyD d)) := by
  cases h with
  | non => exact .base .non
  | bl b => exact .base (.bl b)
  | int i => exact .base (.int i)
  | str x => exact .base (.str x)
  | lst e _ => exact .base (.lst e)
  | tup e _ => exact .base (.tup e)
  | dic e _ _ => exact .base (.dK e)
theorem is_tup (d : PyData) : kitB (tyD d) "tuple" = some (isTupD d) := by
  have t : kitB "NoneType" "tuple" = some false ∧ kitB "bool" "tuple" = some false ∧ kitB "int" "tuple" = some false ∧ kitB "str" "tuple" = some false ∧ kitB "list" "tuple" = some false ∧ kitB "tuple" "tuple" = some true ∧ kitB "dict" "tuple" = some false := by decide +kernel
  obtain ⟨a, b, c, e, g, h, i⟩ := t
  cases d <;> first | exact a | exact b | exact c | exact e | exact g | exact h | exact i
theorem is_lst (d : PyData) : kitB (tyD d) "list" = some (isLstD d) := by
  have t : kitB "NoneType" "list" = some false ∧ kitB "bool" "list" = some false ∧ kitB "int" "list" = some false ∧ kitB "str" "list" = some false ∧ kitB "list" "list" = some true ∧ kitB "tuple" "list" = some false ∧ kitB "dict" "list" = some false := by decide +kernel
  obtain ⟨a, b, c, e, g, h, i⟩ := t
  cases d <;> first | exact a | exact b | exact c | exact e | exact g | exact h | exact i
theorem is_str (d : PyData) : kitB (tyD d) "str" = some (isStrD d) := by
  have t : kitB "NoneType" "str" = some false ∧ kitB "bool" "str" = some false ∧ kitB "int" "str" = some false ∧ kitB "str" "str" = some true ∧ kitB "list" "str" = some false ∧ kitB "tuple" "str" = some false ∧ kitB "dict" "str" = some false := by decide +kernel
  obtain ⟨a, b, c, e, g, h, i⟩ := t
  cases d <;> first | exact a | exact b | exact c | exact e | exact g | exact h | exact i
theorem is_int (d : PyData) : kitB (tyD d) "int" = some (isIntD d) := by
  have t : kitB "NoneType" "int" = some false ∧ kitB "bool" "int" = some true ∧ kitB "int" "int" = some true ∧ kitB "str" "int" = some false ∧ kitB "list" "int" = some false ∧ kitB "tuple" "int" = some false ∧ kitB "dict" "int" = some false := by decide +kernel
  obtain ⟨a, b, c, e, g, h, i⟩ := t
  cases d <;> first | exact a | exact b | exact c | exact e | exact g | exact h | exact i
theorem is_bool (d : PyData) : kitB (tyD d) "bool" = some (isBoolD d) := by
  have t : kitB "NoneType" "bool" = some false ∧ kitB "bool" "bool" = some true ∧ kitB "int" "bool" = some false ∧ kitB "str" "bool" = some false ∧ kitB "list" "bool" = some false ∧ kitB "tuple" "bool" = some false ∧ kitB "dict" "bool" = some false := by decide +kernel
  obtain ⟨a, b, c, e, g, h, i⟩ := t
  cases d <;> first | exact a | exact b | exact c | exact e | exact g | exact h | exact i
/-- isinstance(e, T) of data -/
def rIsD (T : String) (f : PyData → Bool) : List V → Hp → VK → Prop := fun xs H Q => ∃ x d, xs = [x, .ty T] ∧ Dn H x d ∧ Q (.bl (f d)) H
section
variable {X : Cx} {e : Expr} {te : TE} {p q pos : Pos}
theorem call_isD {T : String} {f : PyData → Bool} (hf : ∀ d, kitB (tyD d) T = some (f d)) : CallR X (.builtin "isinstance") (rIsD T f) := by
  intro pins s σ H xs us Q I r h
  obtain ⟨x, d, rfl, hd, k⟩ := h
  exact call_isi pins s σ H _ us Q I r ⟨x, .ty T, _, _, _, rfl, .ty T, hd.ty, kit_ty (hf d), k⟩
theorem pe_isD {n : Str} {T : String} {f : PyData → Bool} (hf : ∀ d, kitB (tyD d) T = some (f d)) (he : PE X e te) (hm : X.mg "isinstance" = none) (hn : X.mg n = none) (hv : bootBuiltins n = some (.type T)) (hg : Gl X "isinstance" := by rfl) (hg2 : Gl X n := by rfl)
    (hne : n ≠ "__name__" := by decide) (hnd : (n == ("__debug__" : Str)) = false := by decide)
    (a1 : starEach [e, .Name n q] X.env = (false, eval e X.env) :: starEach [.Name n q] X.env := by rfl) (a2 : (backTo pos (starEach [.Name n q] X.env)).any (·.1) = false := by rfl) (a3 : starEach [.Name n q] X.env = (false, eval (.Name n q) X.env) :: starEach [] X.env := by rfl) :
    PE X (.Call (.Name "isinstance" p) [e, .Name n q] [] pos) (tCB (rIsD T f) (tCons te (tCons (tC (.ty T)) tNil))) :=
  pe_callB (X := X) (p := p) (pos := pos) (call_isD hf) hg hm (by decide +kernel) (pa_cons he (pa_cons (pe_bltn (v := .ty T) hg2 hn hv rfl hne hnd) pa_nil a3) a1) (by decide) (by decide) a1 a2
end
/-! ### a comprehension over a text -/
theorem lc_str {x : Str} {g : TG} {tt : TT} {te : TE} {vs : List Nat} {σ : L2.St} {H1 : Hp} {D : Addr} {Qd : Hp → Prop} (Pv : Nat → Hp → Prop) (h0 : Pv 0 (upd H1 D (.lst [])))
    (hs : ∀ (i c : Nat) (H : Hp), x.cps[i]? = some c → Pv i H → g (.str ⟨#[c]⟩) (wipe σ vs) H fun σ2 H2 => wipe σ2 vs = wipe σ vs ∧ tt σ2 H2 fun b H3 =>
      if b = true then te σ2 H3 fun y H4 => ∃ acc, H4 D = some (.lst acc) ∧ acc.length < sizeLine ∧ Pv (i + 1) (upd H4 D (.lst (acc ++ [y]))) else Pv (i + 1) H3) (hd : ∀ H, Pv x.cps.size H → Qd H) :
    ∃ W : Nat → Nat → Hp → Prop, (∃ m, W 0 m (upd H1 D (.lst []))) ∧ ∀ i m H, W i m H →
      ((Its x).stop i H ∧ Qd H) ∨ ((Its x).go i H ∧ ∃ Nx : Hp → Prop, (∀ H', Nx H' → ∃ m', m' < m ∧ W (i + 1) m' H') ∧ ∀ v H', (Its x).yld i H v H' → g v (wipe σ vs) H' fun σ2 H2 => wipe σ2 vs = wipe σ vs ∧ tt σ2 H2 fun b H3 =>
        if b = true then te σ2 H3 fun y H4 => ∃ acc, H4 D = some (.lst acc) ∧ acc.length < sizeLine ∧ Nx (upd H4 D (.lst (acc ++ [y]))) else Nx H3) := by
  refine ⟨fun i m H => m = x.cps.size - i ∧ i ≤ x.cps.size ∧ Pv i H, ⟨_, rfl, Nat.zero_le _, h0⟩, ?_⟩
  rintro i m H ⟨rfl, hi, p⟩
  by_cases lt : i < x.cps.size
  · refine Or.inr ⟨lt, Pv (i + 1), fun H' p' => ⟨x.cps.size - (i + 1), by omega, rfl, lt, p'⟩, ?_⟩
    rintro v H' ⟨rfl, c, hc, rfl⟩
    exact hs i c _ hc p
  · obtain rfl : i = x.cps.size := by omega
    exact Or.inl ⟨Nat.le_refl _, hd H p⟩
theorem yes {σ : L2.St} {H : Hp} {Q : Bool → Hp → Prop} (h : Q true H) : tYes σ H Q := h
theorem take_snoc {α : Type} {xs : List α} {i : Nat} {x : α} (h : xs[i]? = some x) : xs.take (i + 1) = xs.take i ++ [x] := by
  rw [List.take_add_one, h]
  rfl
end KA
set_option Elab.async false
set_option linter.unusedVariables false
set_option maxRecDepth 100000
set_option maxHeartbeats 1000000
/-! The program's defs. -/
namespace KP
open PySem PySem.Spec PyProof.Rows L2 KA

/-! ### what it reckons, on data -/
def cntB (lo : Int) : PyData → Bool | .int i => decide (lo ≤ i) | _ => false
def wholeB (lo hi : Int) : PyData → Bool | .int i => decide (lo ≤ i) && decide (i ≤ hi) | _ => false
def letterB (c : Nat) : Bool := decide (97 ≤ c) && decide (c ≤ 122)
def letters : Str := "abcdefghijklmnopqrstuvwxyz"
def noNames : List Str := ["all", "fun", "same", "self", "put"]
def nameX (x : Str) : Bool := !(noNames.any fun y => y == x) && (decide (1 ≤ x.length) && decide (x.length ≤ 8) && x.cps.toList.all letterB)
def nameB : PyData → Bool | .str x => nameX x | _ => false
def parts (z : Str) : Option Nat :=
  if z = "all" then some 2 else if z = "fun" then some 2 else if z = "app" then some 2 else if z = "same" then some 3 else if z = "self" then some 2 else if z = "put" then some 3 else none
def leafB (w : Str) : List PyData → Bool
  | [x] => if w = "at" then cntB 0 x else if w = "kind" then wholeB 0 5 x else (decide (w = "name") || decide (w = "thing")) && nameB x
  | [x, y] => nameB x && (if w = "maker" then cntB 0 y else decide (w = "eater") && wholeB 0 5 y)
  | _ => false
mutual
def tm : PyData → Bool
  | .tuple (.str w :: ds) => (match parts w with
    | some n => decide (ds.length = n) && tmAll ds
    | none => leafB w ds)
  | _ => false
def tmAll : List PyData → Bool
  | [] => true
  | d :: ds => tm d && tmAll ds
end
mutual
/-- how many data there are in it -/
def nodes : PyData → Nat
  | .tuple ds => nodesAll ds + 1
  | _ => 1
def nodesAll : List PyData → Nat
  | [] => 0
  | d :: ds => nodes d + nodesAll ds
end

mutual
/-- its leaves are small -/
def fine : PyData → Bool
  | .int i => decide (-(10 ^ 31) ≤ i) && decide (i ≤ 10 ^ 31)
  | .str x => decide (x.length ≤ 20) && x.cps.toList.all fun c => decide (c < 128)
  | .list ds => fineAll ds
  | .tuple ds => fineAll ds
  | .dict kvs => fineKv kvs
  | _ => true
def fineAll : List PyData → Bool
  | [] => true
  | d :: ds => fine d && fineAll ds
def fineKv : List (PyData × PyData) → Bool
  | [] => true
  | (k, v) :: r => fine k && fine v && fineKv r
end
theorem letters_list : letters.cps.toList = [97, 98, 99, 100, 101, 102, 103, 104, 105, 106, 107, 108, 109, 110, 111, 112, 113, 114, 115, 116, 117, 118, 119, 120, 121, 122] := by decide +kernel
theorem in_letters (c : Nat) : decide (c ∈ letters.cps.toList) = letterB c := by
  rw [letters_list]
  unfold letterB
  rw [← Bool.decide_and]
  apply decide_eq_decide.mpr
  simp only [List.mem_cons, List.not_mem_nil, or_false]
  omega

/-! ### the text by places -/
def top (i : Nat) : Stmt := PySem.Challenge.pw_kernelpapers_k01_terms_of_anything.main.body.getD i (.Pass ⟨0, 0, 0, 0⟩)
abbrev sWhole : Stmt := top 6
abbrev sCount : Stmt := top 7
abbrev sName : Stmt := top 8
abbrev sTerm : Stmt := top 9
abbrev sLeaf : Stmt := top 10
abbrev sSpot : Stmt := top 11

/-- what the top has left, but for the defs -/
structure Txt (K : PySem.W.Frag) (w : World) (mg : Str → Option Value) : Prop where
  isi : mg "isinstance" = none
  int : mg "int" = none
  bool : mg "bool" = none
  str : mg "str" = none
  tuple : mg "tuple" = none
  list : mg "list" = none
  dict : mg "dict" = none
  len : mg "len" = none
  all : mg "all" = none
  max : mg "max" = none
  min : mg "min" = none
  range : mg "range" = none
  zip : mg "zip" = none
  repr : mg "repr" = none
  letters : ∃ u, mg "LETTERS" = some u ∧ RelV (.str KP.letters) u
  most : ∃ u, mg "MOST_LETTERS" = some u ∧ RelV (.int 8) u
  highest : ∃ u, mg "HIGHEST" = some u ∧ RelV (.int 5) u
  no : ∃ a o its n, mg "NO_NAMES" = some (.ref a) ∧ K.lookup a = some o ∧ o.cls = .type "tuple" ∧ o.data = .seq its n ∧ its.size ≤ sizeLine ∧ Vals (noNames.map V.str) its.toList
  parted : ∃ a es n, mg "PARTED" = some (.ref a) ∧ KDict K w a es n ∧ ∀ z, ∃ r, PySem.W.nsIn K a z = some r ∧ RelO ((parts z).map fun n => V.int (n : Int)) r

/-! ### promises -/
def spCount : Sp := fun vs H Q _ => ∃ v d lo, vs = [v, .int lo] ∧ Dn H v d ∧ ∀ H', Same H H' → Q (.bl (cntB lo d)) H'
def spWhole : Sp := fun vs H Q _ => ∃ v d lo hi, vs = [v, .int lo, .int hi] ∧ Dn H v d ∧ ∀ H', Same H H' → Q (.bl (wholeB lo hi d)) H'
def sp1 (ok : PyData → Prop) (f : PyData → Bool) : Sp := fun vs H Q _ => ∃ v d, vs = [v] ∧ Dn H v d ∧ ok d ∧ ∀ H', Same H H' → Q (.bl (f d)) H'

section
variable {P : Program} {w : World} {K : PySem.W.Frag} {mg : Str → Option Value} {base : Heap}
theorem scCount : FnScope ["thing", "low"] ["thing", "low"] (defScope sCount) := ⟨rfl, rfl, rfl, by decide +kernel, rfl, by decide +kernel, by decide +kernel⟩
theorem ok_count {f : Addr} {fd : FuncData} {dvs : List V} {kws : List (Str × V)} (F : FunD K "is_count" "is_count" (defArgs sCount) (defBody sCount) (defScope sCount) dvs kws f fd) (T : Txt K w mg) : FnOk P w K mg base CX0 1 f fd ["thing", "low"] spCount := by
  refine F.ok scCount (fun vs H Q E h => ?_) (fun cdv A outer s H vs Q E hr h => ?_)
  · obtain ⟨v, d, lo, rfl, _⟩ := h
    rfl
  · obtain ⟨v, d, lo, rfl, hd, k⟩ := h
    refine ⟨_, pss_one (ps_ret (pe_and (pe_isD is_int (pv 0) T.isi T.int (by decide +kernel)) (pe_and (pe_not (pe_isD is_bool (pv 0) T.isi T.bool (by decide +kernel))) (pe_one (pe_cmpR op_ge (pv 0) (pv 1) (nomark _)))))), ?_⟩
    have k0 := k H (Same.refl H)
    refine ⟨v, rfl, v, d, rfl, hd, _, rfl, ?_⟩
    cases hd with
    | int i => exact iteT ⟨_, rfl, .int i, _, rfl, .int i, _, rfl, _, rfl, iteT ⟨_, rfl, _, rfl, i, lo, rfl, rfl, k0⟩⟩
    | bl b => exact iteT ⟨_, rfl, .bl b, _, rfl, .bl b, _, rfl, _, rfl, iteF k0⟩
    | non => exact iteF k0
    | str x => exact iteF k0
    | lst _ _ => exact iteF k0
    | tup _ _ => exact iteF k0
    | dic _ _ _ => exact iteF k0
theorem scWhole : FnScope ["thing", "low", "high"] ["thing", "low", "high"] (defScope sWhole) := ⟨rfl, rfl, rfl, by decide +kernel, rfl, by decide +kernel, by decide +kernel⟩
theorem ok_whole {f : Addr} {fd : FuncData} (F : Fun K "is_whole" "is_whole" sWhole f fd) (T : Txt K w mg) (C : C8.Cal P w K mg base 1 "is_count" spCount []) : FnOk P w K mg base CX0 2 f fd ["thing", "low", "high"] spWhole := by
  refine F.ok scWhole (fun vs H Q E h => ?_) (fun cdv A outer s H vs Q E hr h => ?_)
  · obtain ⟨v, d, lo, hi, rfl, _⟩ := h
    rfl
  · obtain ⟨v, d, lo, hi, rfl, hd, k⟩ := h
    refine ⟨_, pss_one (ps_ret (pe_and (C8.pe_c C hr (by decide) rfl (pa_cons (pv 0) (pa_cons (pv 1) pa_nil))) (pe_one (pe_cmpR op_le (pv 0) (pv 2) (nomark _))))), ?_⟩
    refine ⟨v, rfl, _, rfl, v, d, lo, rfl, hd, fun H' S => ⟨_, rfl, ?_⟩⟩
    have k0 := k H' S
    cases hd with
    | int i =>
      refine ite2 (fun h => ?_) (fun h => ?_)
      · refine ⟨_, rfl, _, rfl, i, hi, rfl, rfl, ?_⟩
        have e : wholeB lo hi (.int i) = decide (i ≤ hi) := by
          show (decide (lo ≤ i) && decide (i ≤ hi)) = _
          rw [show decide (lo ≤ i) = true from h, Bool.true_and]
        rw [e] at k0
        exact k0
      · have e : wholeB lo hi (.int i) = false := by
          show (decide (lo ≤ i) && decide (i ≤ hi)) = _
          rw [show decide (lo ≤ i) = false by simpa [cntB] using h, Bool.false_and]
        rw [e] at k0
        exact k0
    | bl b => exact iteF k0
    | non => exact iteF k0
    | str x => exact iteF k0
    | lst _ _ => exact iteF k0
    | tup _ _ => exact iteF k0
    | dic _ _ _ => exact iteF k0
theorem scName : FnScope ["thing", "letter"] ["thing"] (defScope sName) := ⟨rfl, rfl, rfl, by decide +kernel, rfl, by decide +kernel, by decide +kernel⟩
theorem ok_name {f : Addr} {fd : FuncData} (F : Fun K "is_name" "is_name" sName f fd) (T : Txt K w mg) : FnOk P w K mg base CX0 1 f fd ["thing"] (sp1 (fun d => fine d = true) nameB) := by
  refine F.ok scName (fun vs H Q E h => ?_) (fun cdv A outer s H vs Q E hr h => ?_)
  · obtain ⟨v, d, rfl, _⟩ := h
    rfl
  · obtain ⟨v, d, rfl, hd, hf, k⟩ := h
    obtain ⟨na, no, nits, nn, nm, nl, nc, ndt, nsz, nv⟩ := T.no
    refine ⟨_, pss_cons (ps_if (PW.pt (pw_or (pt_not (pt_val (pe_isD is_str (pv 0) T.isi T.str (by decide +kernel)))) (pw_or1 (pt_cmpR op_in_seq (pv 0) (pe_glob (v := .ref na) rfl nm rfl) rfl))))
        (pss_one (ps_ret pe_bl)) pss_nil)
      (pss_one (ps_ret (pe_and (pe_chain op_le op_le pe_int (pe_callB call_len_str (by rfl) T.len PySem.boot_len (pa_cons (pv 0) pa_nil)) (C8.pe_gc rfl T.most))
        (pe_one (pe_callB (cr_all rfl) (by rfl) T.all (by decide +kernel) (pa_cons (pe_lc (own := [("letter", 1)]) (g := gName 1) (tt := tYes) rfl scName.nd (pi_str (pv 0)) (blkOk_by (N := ["thing", "letter"]) (sc := defScope sName) (by decide +kernel))
          (fun _ _ _ _ _ => pg_name (i := 1) scName.nd rfl (Or.inl rfl)) (fun _ _ _ _ _ => pts_nil) (fun _ _ _ _ _ => pe_cmpR op_in_sign (pv 1) (C8.pe_gc rfl T.letters) rfl)) pa_nil)))))), ?_⟩
    refine ⟨v, rfl, v, d, rfl, hd, _, rfl, ?_⟩
    have k0 := k H (Same.refl H)
    cases hd with
    | str x =>
      have fx : x.length ≤ 20 ∧ (x.cps.toList.all fun c => decide (c < 128)) = true := by simpa [fine] using hf
      have nT : SqT K H na (noNames.map V.str) := Or.inr ⟨no, nits, nn, nl, nc, ndt, nsz, nv⟩
      refine iteF ⟨.str x, rfl, na, _, rfl, Or.inr nT, rfl, rfl, _, rfl, ?_⟩
      have eN : inV (.str x) (noNames.map V.str) = noNames.any fun y => y == x := by
        unfold inV
        rw [List.any_map]
        rfl
      refine ite2 (fun h => ?_) (fun h => ?_)
      · have e : nameB (.str x) = false := by
          show (!(noNames.any fun y => y == x) && _) = false
          rw [← eN, show inV (.str x) (noNames.map V.str) = true from h]
          rfl
        rw [e] at k0
        exact k0
      · have hin : inV (.str x) (noNames.map V.str) = false := by simpa using h
        have e : nameB (.str x) = (decide (1 ≤ x.length) && decide (x.length ≤ 8) && x.cps.toList.all letterB) := by
          show (!(noNames.any fun y => y == x) && _) = _
          rw [← eN, hin]
          rfl
        rw [e] at k
        refine ⟨.str x, rfl, x, rfl, (by show x.length ≤ sizeLine; exact Nat.le_trans fx.1 (by decide)), 1, _, rfl, rfl, _, rfl, ?_⟩
        refine ite2 (fun h1 => ?_) (fun h1 => ?_)
        · have h1 : decide ((1 : Int) ≤ (x.length : Int)) = true := h1
          refine ⟨_, _, rfl, rfl, _, rfl, ?_⟩
          refine ite2 (fun h2 => ?_) (fun h2 => ?_)
          · have h2 : decide ((x.length : Int) ≤ 8) = true := h2
            refine ⟨.str x, rfl, x, rfl, fun D hD => lc_str (fun i H' => H' D = some (.lst ((x.cps.toList.take i).map fun c => V.bl (letterB c))) ∧ Same H H') ⟨upd_same, Same.new hD⟩ ?_ ?_⟩
            · rintro i c H' hc ⟨hl, S⟩
              refine ⟨rfl, yes (iteT ?_)⟩
              refine ⟨.str ⟨#[c]⟩, rfl, c, letters, rfl, rfl, ?_⟩
              refine ⟨_, hl, ?_, ?_, Same.mut S hD⟩
              · rw [List.length_map, List.length_take]
                have : x.cps.toList.length ≤ 20 := fx.1
                exact Nat.lt_of_le_of_lt (Nat.le_trans (Nat.min_le_right _ _) this) (by decide)
              · rw [upd_same, in_letters, take_snoc (x := c) (by simpa using hc), List.map_append]
                rfl
            · rintro H' ⟨hl, S⟩
              refine ⟨D, x.cps.toList.map letterB, rfl, Or.inl (Or.inl ?_), ?_⟩
              · rw [hl, List.take_of_length_le (by simp), List.map_map]
                rfl
              · have e2 : (x.cps.toList.map letterB).all id = (decide (1 ≤ x.length) && decide (x.length ≤ 8) && x.cps.toList.all letterB) := by
                  have a1 : decide (1 ≤ x.length) = true := by
                    have := of_decide_eq_true h1
                    exact decide_eq_true (by omega)
                  have a2 : decide (x.length ≤ 8) = true := by
                    have := of_decide_eq_true h2
                    exact decide_eq_true (by omega)
                  rw [a1, a2, List.all_map]
                  rfl
                rw [e2]
                exact k H' S
          · have h2 : ¬ decide ((x.length : Int) ≤ 8) = true := h2
            have a2 : decide (x.length ≤ 8) = false := by
              simp only [decide_eq_true_eq] at h2
              exact decide_eq_false (by omega)
            have := k H (Same.refl H)
            rw [a2, Bool.and_false, Bool.false_and] at this
            exact this
        · have h1 : ¬ decide ((1 : Int) ≤ (x.length : Int)) = true := h1
          have a1 : decide (1 ≤ x.length) = false := by
            simp only [decide_eq_true_eq] at h1
            exact decide_eq_false (by omega)
          have := k H (Same.refl H)
          rw [a1, Bool.false_and, Bool.false_and] at this
          exact ⟨_, rfl, iteF this⟩
    | int i => exact iteT k0
    | bl b => exact iteT k0
    | non => exact iteT k0
    | lst _ _ => exact iteT k0
    | tup _ _ => exact iteT k0
    | dic _ _ _ => exact iteT k0
theorem beq_dec (x y : Str) : (x == y) = decide (y = x) := by
  by_cases h : y = x
  · subst h
    rw [decide_eq_true rfl]
    exact beq_self_eq_true _
  · rw [decide_eq_false h]
    exact beq_eq_false_iff_ne.mpr fun e => h e.symm
def spLeaf : Sp := fun vs H Q _ => ∃ v wd ds, vs = [v] ∧ Dn H v (.tuple (.str wd :: ds)) ∧ fineAll ds = true ∧ (∀ H', Same H H' → Q (.bl (leafB wd ds)) H')
theorem scLeaf : FnScope ["thing", "word"] ["thing"] (defScope sLeaf) := ⟨rfl, rfl, rfl, by decide +kernel, rfl, by decide +kernel, by decide +kernel⟩
theorem tup_inv {H : Hp} {v : V} {ds : List PyData} (h : Dn H v (.tuple ds)) : ∃ a xs, v = .ref a ∧ H a = some (.tup xs) ∧ DnAll H xs ds := by
  cases h with
  | tup e r => exact ⟨_, _, rfl, e, r⟩
theorem str_inv {H : Hp} {v : V} {x : Str} (h : Dn H v (.str x)) : v = .str x := by
  cases h
  rfl
theorem cons_inv {H : Hp} {xs : List V} {d : PyData} {ds : List PyData} (h : DnAll H xs (d :: ds)) : ∃ y ys, xs = y :: ys ∧ Dn H y d ∧ DnAll H ys ds := by
  cases h with
  | cons a b => exact ⟨_, _, rfl, a, b⟩
theorem nil_inv {H : Hp} {xs : List V} (h : DnAll H xs []) : xs = [] := by
  cases h
  rfl
theorem ok_leaf {f : Addr} {fd : FuncData} (F : Fun K "_is_leaf" "_is_leaf" sLeaf f fd) (T : Txt K w mg) (C0 : C8.Cal P w K mg base 1 "is_count" spCount [.int 0]) (CW : C8.Cal P w K mg base 2 "is_whole" spWhole [])
    (CN : C8.Cal P w K mg base 1 "is_name" (sp1 (fun d => fine d = true) nameB) []) : FnOk P w K mg base CX0 3 f fd ["thing"] spLeaf := by
  refine F.ok scLeaf (fun vs H Q E h => ?_) (fun cdv A outer s H vs Q E hr h => ?_)
  · obtain ⟨v, wd, ds, rfl, _⟩ := h
    rfl
  · obtain ⟨v, wd, ds, rfl, hd, hf, k⟩ := h
    refine ⟨_, pss_cons (ps_set (i := 1) scLeaf.nd rfl (Or.inl rfl) (pe_ix ix_tup (pv 0) pe_int (fun _ _ => rfl)))
      (pss_cons (ps_if (pt_cmpR op_eq (pe_callB call_len_seq (by rfl) T.len PySem.boot_len (pa_cons (pv 0) pa_nil)) pe_int (nomark _))
        (pss_cons (ps_if (pt_cmpR op_eq (pv 1) pe_str (nomark _)) (pss_one (ps_ret (C8.pe_c C0 hr (by decide) rfl (pa_cons (pe_ix ix_tup (pv 0) pe_int (fun _ _ => rfl)) pa_nil)))) pss_nil)
          (pss_cons (ps_if (pt_cmpR op_eq (pv 1) pe_str (nomark _)) (pss_one (ps_ret (C8.pe_c CW hr (by decide) rfl (pa_cons (pe_ix ix_tup (pv 0) pe_int (fun _ _ => rfl)) (pa_cons pe_int (pa_cons (C8.pe_gc rfl T.highest) pa_nil)))))) pss_nil)
            (pss_one (ps_ret (pe_and (pe_cmpR op_in_seq (pv 1) (pe_tup (pa_cons pe_str (pa_cons pe_str pa_nil))) rfl) (pe_one (C8.pe_c CN hr (by decide) rfl (pa_cons (pe_ix ix_tup (pv 0) pe_int (fun _ _ => rfl)) pa_nil))))))))
        pss_nil)
      (pss_cons (ps_if (PW.pt (pw_or (pt_cmpR op_ne (pe_callB call_len_seq (by rfl) T.len PySem.boot_len (pa_cons (pv 0) pa_nil)) pe_int (nomark _))
          (pw_or1 (pt_not (pt_val (C8.pe_c CN hr (by decide) rfl (pa_cons (pe_ix ix_tup (pv 0) pe_int (fun _ _ => rfl)) pa_nil))))))) (pss_one (ps_ret pe_bl)) pss_nil)
      (pss_cons (ps_if (pt_cmpR op_eq (pv 1) pe_str (nomark _)) (pss_one (ps_ret (C8.pe_c C0 hr (by decide) rfl (pa_cons (pe_ix ix_tup (pv 0) pe_int (fun _ _ => rfl)) pa_nil)))) pss_nil)
      (pss_one (ps_ret (pe_and (pe_cmpR op_eq (pv 1) pe_str (nomark _)) (pe_one (C8.pe_c CW hr (by decide) rfl (pa_cons (pe_ix ix_tup (pv 0) pe_int (fun _ _ => rfl)) (pa_cons pe_int (pa_cons (C8.pe_gc rfl T.highest) pa_nil)))))))))))
      , ?_⟩
    obtain ⟨a, xs0, rfl, ha, hx0⟩ := tup_inv hd
    obtain ⟨x0, xs, rfl, h0, hx⟩ := cons_inv hx0
    obtain rfl := str_inv h0
    clear hx0 hd h0
    have sT : SqT K H a (.str wd :: xs) := SqT.of ha
    refine ⟨_, rfl, a, _, 0, _, rfl, rfl, sT, at_of (j := 0) rfl rfl, ?_⟩
    refine ⟨_, rfl, a, _, rfl, Or.inr sT, rfl, _, rfl, ?_⟩
    match ds, hx, hf, k with
    | [], hx, hf, k =>
      obtain rfl := nil_inv hx
      refine iteF ⟨_, rfl, a, _, rfl, Or.inr sT, rfl, _, rfl, iteT ?_⟩
      exact k H (Same.refl H)
    | [d1], hx, hf, k =>
      obtain ⟨x1, xs1, rfl, h1, hx1⟩ := cons_inv hx
      obtain rfl := nil_inv hx1
      have f1 : fine d1 = true := by simpa [fineAll] using hf
      refine iteT ⟨_, rfl, rfl, _, rfl, ?_⟩
      refine ite2 (fun c1 => ?_) (fun c1 => ?_)
      · have c1 : wd = "at" := V.str.inj (of_decide_eq_true c1)
        refine ⟨_, rfl, a, _, 1, _, rfl, rfl, sT, at_of (j := 1) rfl rfl, x1, d1, 0, rfl, h1, fun H' S => ?_⟩
        have k' := k H' S
        rw [show leafB wd [d1] = cntB 0 d1 from if_pos c1] at k'
        exact k'
      · have c1 : ¬ wd = "at" := fun e => c1 (decide_eq_true (congrArg V.str e))
        refine ⟨_, rfl, rfl, _, rfl, ?_⟩
        refine ite2 (fun c2 => ?_) (fun c2 => ?_)
        · have c2 : wd = "kind" := V.str.inj (of_decide_eq_true c2)
          refine ⟨_, rfl, a, _, 1, _, rfl, rfl, sT, at_of (j := 1) rfl rfl, x1, d1, 0, 5, rfl, h1, fun H' S => ?_⟩
          have k' := k H' S
          rw [show leafB wd [d1] = wholeB 0 5 d1 from (if_neg c1).trans (if_pos c2)] at k'
          exact k'
        · have c2 : ¬ wd = "kind" := fun e => c2 (decide_eq_true (congrArg V.str e))
          have e0 : leafB wd [d1] = ((decide (wd = "name") || decide (wd = "thing")) && nameB d1) := (if_neg c1).trans (if_neg c2)
          rw [e0] at k
          refine ⟨_, rfl, (by show 2 ≤ sizeLine; decide), fun p hp => ⟨p, _, rfl, Or.inr (SqT.of upd_same), rfl, rfl, _, rfl, ?_⟩⟩
          have ei : inV (.str wd) [.str "name", .str "thing"] = (decide (wd = "name") || decide (wd = "thing")) := by
            unfold inV
            simp only [List.any_cons, List.any_nil, Bool.or_false, eqV]
            rw [beq_dec, beq_dec]
          have sN : Same H (upd H p (.tup [.str "name", .str "thing"])) := Same.new hp
          refine ite2 (fun c3 => ?_) (fun c3 => ?_)
          · have c3 : inV (.str wd) [.str "name", .str "thing"] = true := c3
            refine ⟨_, rfl, a, _, 1, _, rfl, rfl, SqT.of (sN _ _ ha), at_of (j := 1) rfl rfl, x1, d1, rfl, Dn.mono sN h1, f1, fun H' S => ?_⟩
            have k' := k H' (sN.trans S)
            rw [← ei, c3, Bool.true_and] at k'
            exact k'
          · have c3 : inV (.str wd) [.str "name", .str "thing"] = false := by simpa using c3
            have k' := k _ sN
            rw [← ei, c3, Bool.false_and] at k'
            exact k'
    | [d1, d2], hx, hf, k =>
      obtain ⟨x1, xs1, rfl, h1, hx1⟩ := cons_inv hx
      obtain ⟨x2, xs2, rfl, h2, hx2⟩ := cons_inv hx1
      obtain rfl := nil_inv hx2
      have f1 : fine d1 = true := by
        have : fine d1 = true ∧ fine d2 = true := by simpa [fineAll] using hf
        exact this.1
      refine iteF ⟨_, rfl, a, _, rfl, Or.inr sT, rfl, _, rfl, iteF ?_⟩
      refine ⟨_, rfl, a, _, 1, _, rfl, rfl, sT, at_of (j := 1) rfl rfl, x1, d1, rfl, h1, f1, fun H' S => ⟨_, rfl, ?_⟩⟩
      have ha' := S _ _ ha
      have sT' : SqT K H' a [.str wd, x1, x2] := SqT.of ha'
      have e0 : leafB wd [d1, d2] = (nameB d1 && (if wd = "maker" then cntB 0 d2 else decide (wd = "eater") && wholeB 0 5 d2)) := rfl
      rw [e0] at k
      cases c : nameB d1 with
      | false =>
        refine iteT ?_
        have k' := k H' S
        rw [c] at k'
        exact k'
      | true =>
        rw [c, Bool.true_and] at k
        refine iteF ⟨_, rfl, rfl, _, rfl, ?_⟩
        refine ite2 (fun c1 => ?_) (fun c1 => ?_)
        · have c1 : wd = "maker" := V.str.inj (of_decide_eq_true c1)
          refine ⟨_, rfl, a, _, 2, _, rfl, rfl, sT', at_of (j := 2) rfl rfl, x2, d2, 0, rfl, Dn.mono S h2, fun H2 S2 => ?_⟩
          have k' := k H2 (S.trans S2)
          rw [if_pos c1] at k'
          exact k'
        · have c1 : ¬ wd = "maker" := fun e => c1 (decide_eq_true (congrArg V.str e))
          rw [if_neg c1] at k
          refine ⟨_, rfl, rfl, _, rfl, ?_⟩
          refine ite2 (fun c2 => ?_) (fun c2 => ?_)
          · have c2 : wd = "eater" := V.str.inj (of_decide_eq_true c2)
            refine ⟨_, rfl, a, _, 2, _, rfl, rfl, sT', at_of (j := 2) rfl rfl, x2, d2, 0, 5, rfl, Dn.mono S h2, fun H2 S2 => ?_⟩
            have k' := k H2 (S.trans S2)
            rw [decide_eq_true c2, Bool.true_and] at k'
            exact k'
          · have c2 : ¬ wd = "eater" := fun e => c2 (decide_eq_true (congrArg V.str e))
            have k' := k H' S
            rw [decide_eq_false c2, Bool.false_and] at k'
            exact k'
    | d1 :: d2 :: d3 :: ds, hx, hf, k =>
      obtain ⟨x1, xs1, rfl, h1, hx1⟩ := cons_inv hx
      obtain ⟨x2, xs2, rfl, h2, hx2⟩ := cons_inv hx1
      obtain ⟨x3, xs3, rfl, h3, hx3⟩ := cons_inv hx2
      have n2 : decide (V.int (((.str wd : V) :: x1 :: x2 :: x3 :: xs3).length : Int) = V.int 2) = false := decide_eq_false fun e => by
        have := V.int.inj e
        simp only [List.length_cons] at this
        omega
      have n3 : decide (V.int (((.str wd : V) :: x1 :: x2 :: x3 :: xs3).length : Int) = V.int 3) = false := decide_eq_false fun e => by
        have := V.int.inj e
        simp only [List.length_cons] at this
        omega
      rw [n2]
      refine iteF ⟨_, rfl, a, _, rfl, Or.inr sT, rfl, _, rfl, ?_⟩
      rw [n3]
      exact iteT (k H (Same.refl H))
end
end KP
set_option Elab.async false
set_option linter.unusedVariables false
set_option maxRecDepth 100000
set_option maxHeartbeats 1000000
namespace KP
open PySem PySem.Spec PyProof.Rows L2 KA
theorem tm_parts {wd : Str} {ds : List PyData} {n : Nat} (h : parts wd = some n) : tm (.tuple (.str wd :: ds)) = (decide (ds.length = n) && tmAll ds) := by simp only [tm, h]
theorem tm_leaf {wd : Str} {ds : List PyData} (h : parts wd = none) : tm (.tuple (.str wd :: ds)) = leafB wd ds := by simp only [tm, h]
theorem tmAll_append : ∀ (ds es : List PyData), tmAll (ds ++ es) = (tmAll ds && tmAll es)
  | [], es => by simp [tmAll]
  | d :: ds, es => by simp only [List.cons_append, tmAll, tmAll_append ds es, Bool.and_assoc]
theorem nodesAll_append : ∀ (ds es : List PyData), nodesAll (ds ++ es) = nodesAll ds + nodesAll es
  | [], es => by simp [nodesAll]
  | d :: ds, es => by simp only [List.cons_append, nodesAll, nodesAll_append ds es, Nat.add_assoc]
theorem fineAll_append : ∀ (ds es : List PyData), fineAll (ds ++ es) = (fineAll ds && fineAll es)
  | [], es => by simp [fineAll]
  | d :: ds, es => by simp only [List.cons_append, fineAll, fineAll_append ds es, Bool.and_assoc]
theorem nodes_pos (d : PyData) : 0 < nodes d := by cases d <;> simp [nodes]
theorem len_nodes : ∀ ds : List PyData, ds.length ≤ nodesAll ds
  | [] => Nat.zero_le _
  | d :: ds => by
    have := len_nodes ds
    have := nodes_pos d
    simp only [List.length_cons, nodesAll]
    omega
theorem unsnoc {H : Hp} : ∀ {ds : List PyData} {d : PyData} {xs : List V}, DnAll H xs (ds ++ [d]) → ∃ ys y, xs = ys ++ [y] ∧ DnAll H ys ds ∧ Dn H y d
  | [], d, xs, h => by
    obtain ⟨y, ys, rfl, h1, h2⟩ := cons_inv h
    obtain rfl := nil_inv h2
    exact ⟨[], y, rfl, .nil, h1⟩
  | e :: ds, d, xs, h => by
    obtain ⟨y, ys, rfl, h1, h2⟩ := cons_inv h
    obtain ⟨zs, z, rfl, h3, h4⟩ := unsnoc h2
    exact ⟨y :: zs, z, rfl, .cons h1 h3, h4⟩
theorem isTup_false {d : PyData} (h : isTupD d = false) : tm d = false := by
  cases d <;> first | (cases h; done) | simp [tm]
theorem isStr_false {d : PyData} {ds : List PyData} (h : isStrD d = false) : tm (.tuple (d :: ds)) = false := by
  cases d <;> first | (cases h; done) | simp [tm]
theorem sIx1 (n : Nat) : HT.sIx (n + 1) 0 (some 1) = 1 := (HT.sIx_nat (n + 1) 0 1).trans (by omega)
section
variable {P : Program} {w : World} {K : PySem.W.Frag} {mg : Str → Option Value} {base : Heap}
def okT (d : PyData) : Prop := fine d = true ∧ nodes d ≤ 1000000
theorem scTerm : FnScope ["thing", "waiting", "part"] ["thing"] (defScope sTerm) := ⟨rfl, rfl, rfl, by decide +kernel, rfl, by decide +kernel, by decide +kernel⟩
theorem ok_term {f : Addr} {fd : FuncData} (F : Fun K "is_term" "is_term" sTerm f fd) (T : Txt K w mg) (CL : C8.Cal P w K mg base 3 "_is_leaf" spLeaf []) : FnOk P w K mg base CX0 4 f fd ["thing"] (sp1 okT tm) := by
  refine F.ok scTerm (fun vs H Q E h => ?_) (fun cdv A outer s H vs Q E hr h => ?_)
  · obtain ⟨v, d, rfl, _⟩ := h
    rfl
  · obtain ⟨v, d, rfl, hd, ⟨hf, hn⟩, k⟩ := h
    obtain ⟨pa, es, en, pm, PD, pn⟩ := T.parted
    refine ⟨_, pss_cons (ps_set (i := 1) scTerm.nd rfl (Or.inl rfl) (pe_lst (pa_cons (pv 0) pa_nil)))
      (pss_cons (ps_while PassesOwn.never (pt_truth (pv 1) (by intro _; rfl))
        (pss_cons (ps_set (i := 2) scTerm.nd rfl (Or.inl rfl) (pe_bm0 PySem.F.plainAttrs_list PySem.F.slot_list_pop PySem.F.type_list_pop mt_pop (pv 1)))
        (pss_cons (ps_if (PW.pt (pw_or (pt_not (pt_val (pe_isD is_tup (pv 2) T.isi T.tuple (by decide +kernel)))) (pw_or (pt_not (pt_truth (pv 2) (by intro _; rfl)))
            (pw_or1 (pt_not (pt_val (pe_isD is_str (pe_ix ix_tup (pv 2) pe_int (fun _ _ => rfl)) T.isi T.str (by decide +kernel)))))))) (pss_one (ps_ret pe_bl)) pss_nil)
        (pss_one (ps_if (pt_cmpR (op_notIn_kd PD) (pe_ix ix_tup (pv 2) pe_int (fun _ _ => rfl)) (pe_glob (v := .ref pa) rfl pm rfl) rfl)
          (pss_one (ps_if (pt_not (pt_val (C8.pe_c CL hr (by decide) rfl (pa_cons (pv 2) pa_nil)))) (pss_one (ps_ret pe_bl)) pss_nil))
          (pss_one (ps_if (pt_cmpR op_ne (pe_callB call_len_seq (by rfl) T.len PySem.boot_len (pa_cons (pv 2) pa_nil)) (pe_op op_add (pe_ix ix_kdict (pe_glob (v := .ref pa) rfl pm rfl) (pe_ix ix_tup (pv 2) pe_int (fun _ _ => rfl)) (fun _ _ => rfl)) pe_int) (nomark _))
            (pss_one (ps_ret pe_bl))
            (pss_one (ps_expr (pe_bm PySem.F.plainAttrs_list PySem.F.slot_list_extend PySem.F.type_list_extend mt_grow (pv 1) (pa_cons (pe_slice sl_tupA (pv 2) (po_some pe_int) po_none) pa_nil)))))))))))
      (pss_one (ps_ret pe_bl))), ?_⟩
    refine ⟨v, rfl, (by show 1 ≤ sizeLine; decide), fun l hl => ?_⟩
    refine ⟨fun m σ H' => ∃ xs ds pv, σ = [some v, some (.ref l), pv] ∧ H' l = some (.lst xs) ∧ DnAll (hid l H') xs ds ∧ Same H (hid l H') ∧ fineAll ds = true ∧ tmAll ds = tm d ∧ nodesAll ds = m ∧ m ≤ 1000000,
      ⟨nodes d, [v], [d], none, rfl, upd_same, ?_, ?_, ?_, ?_, ?_, hn⟩, ?_⟩
    · rw [hid_upd]
      exact .one (Dn.mono (Same.to_hid (Same.refl H) hl) hd)
    · rw [hid_upd]
      exact Same.to_hid (Same.refl H) hl
    · simp [fineAll, hf]
    · simp [tmAll]
    · simp [nodesAll]
    rintro m σ H' ⟨xs, ds, pv0, rfl, eL, dA, S, fA, tA, nA, mA⟩
    refine ⟨_, rfl, !xs.isEmpty, Or.inl ⟨xs, SqL.of eL, rfl⟩, ?_⟩
    rcases List.eq_nil_or_concat ds with rfl | ⟨ds, dl, rfl⟩
    · obtain rfl := nil_inv dA
      refine iteF ?_
      have k' := k H' (S.trans hid_sub)
      rw [← tA] at k'
      exact k'
    · rw [List.concat_eq_append] at dA fA tA nA
      obtain ⟨ys, y, rfl, dY, dy⟩ := unsnoc dA
      rw [fineAll_append] at fA
      rw [tmAll_append] at tA
      rw [nodesAll_append] at nA
      have fA : fineAll ds = true ∧ fine dl = true := by simpa [fineAll] using fA
      have tA : (tmAll ds && tm dl) = tm d := by simpa [tmAll] using tA
      have nA : nodesAll ds + nodes dl = m := by simpa [nodesAll] using nA
      have ne : (!(ys ++ [y]).isEmpty) = true := by simp
      rw [ne]
      refine iteT ?_
      refine ⟨fun σ' H2 => ∃ m', m' < m ∧ ∃ xs ds pv, σ' = [some v, some (.ref l), pv] ∧ H2 l = some (.lst xs) ∧ DnAll (hid l H2) xs ds ∧ Same H (hid l H2) ∧ fineAll ds = true ∧ tmAll ds = tm d ∧ nodesAll ds = m' ∧ m' ≤ 1000000, fun σ' H2 z => z, ?_⟩
      refine ⟨_, rfl, Or.inl ⟨rfl, _, SqL.of eL⟩, l, _, y, rfl, rfl, eL, by simp, ?_⟩
      rw [List.dropLast_concat]
      -- behind the pop
      have S1 : Same H (hid l (upd H' l (.lst ys))) := by rw [hid_upd]; exact S
      have e1 : upd H' l (.lst ys) l = some (.lst ys) := upd_same
      have dY1 : DnAll (hid l (upd H' l (.lst ys))) ys ds := by rw [hid_upd]; exact dY
      have dy1 : Dn (hid l (upd H' l (.lst ys))) y dl := by rw [hid_upd]; exact dy
      generalize upd H' l (.lst ys) = H1 at S1 e1 dY1 dy1
      have out : tm dl = false → Q (.bl false) H1 := fun e => by
        have k' := k H1 (S1.trans hid_sub)
        rw [← tA, e, Bool.and_false] at k'
        exact k'
      refine ⟨y, rfl, y, dl, rfl, Dn.mono hid_sub dy1, _, rfl, ?_⟩
      cases hT : isTupD dl with
      | false => exact iteT (out (isTup_false hT))
      | true =>
        obtain ⟨dt, rfl⟩ : ∃ dt, dl = .tuple dt := by cases dl <;> first | exact ⟨_, rfl⟩ | cases hT
        obtain ⟨a, zs, rfl, ha, dz⟩ := tup_inv dy1
        have ha1 : H1 a = some (.tup zs) := hid_sub _ _ ha
        refine iteF ⟨_, rfl, !zs.isEmpty, Or.inr (Or.inl ⟨zs, SqT.of ha1, rfl⟩), ?_⟩
        cases dt with
        | nil =>
          obtain rfl := nil_inv dz
          exact iteT (out (by simp [tm]))
        | cons d0 dr =>
          obtain ⟨z0, zs, rfl, h0, dz1⟩ := cons_inv dz
          refine iteF ⟨_, rfl, a, _, 0, _, rfl, rfl, SqT.of ha1, at_of (j := 0) rfl rfl, z0, d0, rfl, Dn.mono hid_sub h0, _, rfl, ?_⟩
          cases hS : isStrD d0 with
          | false => exact iteT (out (isStr_false hS))
          | true =>
            obtain ⟨wd, rfl⟩ : ∃ wd, d0 = .str wd := by cases d0 <;> first | exact ⟨_, rfl⟩ | cases hS
            obtain rfl := str_inv h0
            have fdr : fineAll dr = true := by
              have := fA.2
              simp only [fine, fineAll, Bool.and_eq_true] at this
              exact this.2
            have ndl : nodes (.tuple (.str wd :: dr)) = nodesAll dr + 2 := by
              simp only [nodes, nodesAll]
              omega
            obtain ⟨r, hr1, hr2⟩ := pn wd
            refine iteF ⟨_, rfl, a, _, 0, _, rfl, rfl, SqT.of ha1, at_of (j := 0) rfl rfl, wd, r, rfl, rfl, hr1, _, rfl, ?_⟩
            cases hp : parts wd with
            | none =>
              rw [hp] at hr2
              obtain rfl : r = none := by
                cases r with
                | none => rfl
                | some u => exact hr2.elim
              refine iteT ⟨_, rfl, .ref a, wd, dr, rfl, Dn.mono hid_sub (.tup ha dz), fdr, fun H2 S2 => ⟨_, rfl, ?_⟩⟩
              have e2 : H2 l = some (.lst ys) := S2 _ _ e1
              have S2' : Same (hid l H1) (hid l H2) := Same.less S2
              cases hL : leafB wd dr with
              | false =>
                refine iteT ?_
                have k' := k H2 ((S1.trans hid_sub).trans S2)
                rw [← tA, tm_leaf hp, hL, Bool.and_false] at k'
                exact k'
              | true =>
                refine iteF ⟨nodesAll ds, by omega, ys, ds, _, rfl, e2, DnAll.mono S2' dY1, S1.trans S2', fA.1, ?_, rfl, by omega⟩
                rw [← tA, tm_leaf hp, hL, Bool.and_true]
            | some n =>
              rw [hp] at hr2
              obtain ⟨u, rfl, ru⟩ : ∃ u, r = some u ∧ RelV (.int (n : Int)) u := by
                cases r with
                | none => exact hr2.elim
                | some u => exact ⟨u, rfl, hr2⟩
              refine iteF ⟨_, rfl, a, _, rfl, Or.inr (SqT.of ha1), ?_⟩
              refine ⟨_, rfl, a, _, 0, _, rfl, rfl, SqT.of ha1, at_of (j := 0) rfl rfl, pa, wd, .int (n : Int), rfl, rfl, ⟨es, en, u, PD.at_, PD.lit, hr1, ru⟩, (n : Int), 1, rfl, rfl, rfl, _, rfl, ?_⟩
              have elen : decide (V.int (((.str wd : V) :: zs).length : Int) = V.int ((n : Int) + 1)) = decide (dr.length = n) := by
                have := dz1.length
                by_cases c : dr.length = n
                · rw [decide_eq_true c]
                  exact decide_eq_true (congrArg V.int (by rw [List.length_cons]; omega))
                · rw [decide_eq_false c]
                  refine decide_eq_false fun e => c ?_
                  have := V.int.inj e
                  rw [List.length_cons] at this
                  omega
              rw [elen]
              cases hl2 : decide (dr.length = n) with
              | false =>
                refine iteT (out ?_)
                rw [tm_parts hp, hl2, Bool.false_and]
              | true =>
                have lenb := len_nodes ds
                have lend := len_nodes dr
                have lz := dz1.length
                have ly := dY1.length
                have cut : cutV (.str wd :: zs) (some 1) none = zs := by
                  unfold cutV
                  rw [HT.sIx_none, show HT.sIx ((.str wd : V) :: zs).length 0 (some 1) = 1 from sIx1 zs.length]
                  rw [List.length_cons]
                  show List.take (zs.length + 1 - 1) zs = zs
                  rw [Nat.add_sub_cancel, List.take_length]
                refine iteF ⟨_, rfl, Or.inl ⟨rfl, _, SqL.of e1⟩, _, rfl, 1, rfl, a, _, rfl, SqT.of ha1, fun z => ?_, fun _ p hp' => ?_⟩
                · have := z.1
                  rw [show HT.sIx ((.str wd : V) :: zs).length 0 (some 1) = 1 from sIx1 zs.length] at this
                  omega
                · rw [cut]
                  have lp : l ≠ p := ne_of_none e1 hp'
                  have e2 : upd H1 p (.tup zs) l = some (.lst ys) := (upd_ne lp).trans e1
                  refine ⟨l, p, ys, zs, rfl, rfl, e2, upd_same, ?_, ?_⟩
                  · rw [ly, lz]
                    exact Nat.le_trans (by omega : ds.length + dr.length ≤ 1000000) (by decide)
                  · have S3 : Same (hid l H1) (hid l (upd (upd H1 p (.tup zs)) l (.lst (ys ++ zs)))) := by
                      rw [hid_upd]
                      exact Same.less (Same.new hp')
                    refine ⟨nodesAll ds + nodesAll dr, by omega, ys ++ zs, ds ++ dr, _, rfl, upd_same, DnAll.mono S3 (dY1.append dz1), S1.trans S3, ?_, ?_, ?_, by omega⟩
                    · rw [fineAll_append, fA.1, fdr]
                      rfl
                    · rw [tmAll_append, ← tA, tm_parts hp, hl2, Bool.true_and]
                    · rw [nodesAll_append]
def spotB : PyData → Bool | .tuple ds => ds.all (cntB 0) | _ => false
theorem _root_.KA.DnAll.at {H : Hp} {xs : List V} {ds : List PyData} {i : Nat} {x : V} (r : DnAll H xs ds) (h : xs[i]? = some x) : ∃ d, ds[i]? = some d ∧ Dn H x d := by
  have lt : i < ds.length := by
    have := (List.getElem?_eq_some_iff.mp h).1
    have := r.length
    omega
  obtain ⟨v, hv, hd⟩ := r.get (List.getElem?_eq_getElem lt)
  rw [h] at hv
  cases hv
  exact ⟨_, List.getElem?_eq_getElem lt, hd⟩
theorem scSpot : FnScope ["thing", "at"] ["thing"] (defScope sSpot) := ⟨rfl, rfl, rfl, by decide +kernel, rfl, by decide +kernel, by decide +kernel⟩
theorem ok_spot {f : Addr} {fd : FuncData} (F : Fun K "is_spot" "is_spot" sSpot f fd) (T : Txt K w mg) (C0 : C8.Cal P w K mg base 1 "is_count" spCount [.int 0]) : FnOk P w K mg base CX0 2 f fd ["thing"] (sp1 okT spotB) := by
  refine F.ok scSpot (fun vs H Q E h => ?_) (fun cdv A outer s H vs Q E hr h => ?_)
  · obtain ⟨v, d, rfl, _⟩ := h
    rfl
  · obtain ⟨v, d, rfl, hd, ⟨hf, hn⟩, k⟩ := h
    refine ⟨_, pss_one (ps_ret (pe_and (pe_isD is_tup (pv 0) T.isi T.tuple (by decide +kernel)) (pe_one (pe_callB (cr_all rfl) (by rfl) T.all (by decide +kernel) (pa_cons (pe_lc (own := [("at", 1)]) (g := gName 1) (tt := tYes) rfl scSpot.nd (pi_tup (pv 0)) (blkOk_by (N := ["thing", "at"]) (sc := defScope sSpot) (by decide +kernel))
          (fun _ _ _ _ _ => pg_name (i := 1) scSpot.nd rfl (Or.inl rfl)) (fun _ _ _ _ _ => pts_nil) (fun _ _ _ _ _ => C8.pe_c C0 hr (by decide) rfl (pa_cons (pv 1) pa_nil))) pa_nil))))), ?_⟩
    have k0 := k H (Same.refl H)
    refine ⟨v, rfl, v, d, rfl, hd, _, rfl, ?_⟩
    cases hd with
    | @tup a xs ds ha hx =>
      have lx := hx.length
      have ln : ds.length ≤ 1000000 := by
        have := len_nodes ds
        simp only [nodes] at hn
        omega
      refine iteT ⟨.ref a, rfl, a, rfl, ⟨xs, SqT.of ha⟩, fun D hD => lc_tup (K := K) (a := a) (xs := xs) (fun i H' => H' D = some (.lst ((ds.take i).map fun d => V.bl (cntB 0 d))) ∧ Same H H') ⟨upd_same, Same.new hD⟩ (fun i H' _ p => SqT.of (p.2 _ _ ha)) ?_ ?_⟩
      · rintro i x H' hi ⟨hl, S⟩
        obtain ⟨d, hd, dx⟩ := hx.at hi
        refine ⟨rfl, yes (iteT ?_)⟩
        refine ⟨x, rfl, x, d, 0, rfl, Dn.mono S dx, fun H2 S2 => ⟨_, S2 _ _ hl, ?_, ?_, Same.mut (S.trans S2) hD⟩⟩
        · rw [List.length_map, List.length_take]
          exact Nat.lt_of_le_of_lt (Nat.le_trans (Nat.min_le_right _ _) ln) (by decide)
        · rw [upd_same, take_snoc hd, List.map_append]
          rfl
      · rintro H' ⟨hl, S⟩
        refine ⟨D, ds.map (cntB 0), rfl, Or.inl (Or.inl ?_), ?_⟩
        · rw [hl, List.take_of_length_le (by omega), List.map_map]
          rfl
        · have e2 : (ds.map (cntB 0)).all id = spotB (.tuple ds) := by
            rw [List.all_map]
            rfl
          rw [e2]
          exact k H' S
    | int i => exact iteF k0
    | bl b => exact iteF k0
    | non => exact iteF k0
    | str x => exact iteF k0
    | lst _ _ => exact iteF k0
    | dic _ _ _ => exact iteF k0
end
end KP
set_option Elab.async false
set_option linter.unusedVariables false
set_option maxRecDepth 100000
set_option maxHeartbeats 1000000
/-! The law's own defs: the purse and what is drawn from it. -/
namespace KP
open PySem PySem.Spec PyProof.Rows L2 KA
abbrev sCell : Stmt := top 13
abbrev sPurse : Stmt := top 14
abbrev sTake : Stmt := top 15
abbrev sForms : Stmt := top 16
abbrev sWord : Stmt := top 17
abbrev sTm : Stmt := top 18
abbrev sAny : Stmt := top 19
abbrev sLName : Stmt := top 20
abbrev sLWhole : Stmt := top 21
abbrev sLTerm : Stmt := top 22
abbrev sSpoilt : Stmt := top 23
abbrev sThings : Stmt := top 24
abbrev sLaw : Stmt := top 25

/-- a purse at p, from which at most n were mixed -/
def Purse (H : Hp) (p : Addr) (n : Nat) : Prop := ∃ a b c : Int, H p = some (.lst [.int a, .int b, .int c]) ∧ 0 ≤ a ∧ 0 ≤ b ∧ b < 2147483629 ∧ 0 ≤ c ∧ c ≤ (n : Int)
theorem Purse.more {H : Hp} {p : Addr} {n m : Nat} (h : Purse H p n) (l : n ≤ m) : Purse H p m := by
  obtain ⟨a, b, c, e, h1, h2, h3, h4, h5⟩ := h
  exact ⟨a, b, c, e, h1, h2, h3, h4, by omega⟩
theorem Purse.mono {H H' : Hp} {p : Addr} {n : Nat} (h : Purse H p n) (S : Same H H') : Purse H' p n := by
  obtain ⟨a, b, c, e, r⟩ := h
  exact ⟨a, b, c, S _ _ e, r⟩
def maxN : Nat := 1000000000

def spCell (K : PySem.W.Frag) : Sp := fun vs H Q _ => ∃ (a : Addr) (ns : List Int) (j : Nat), vs = [.ref a, .int (j : Int)] ∧ SqL K H a (ns.map V.int) ∧ ∀ z, Q (.int z) H
def spPurse : Sp := fun vs H Q _ => ∃ z, vs = [.int z] ∧ ∀ p H', H p = none → Same H H' → Purse H' p 0 → Q (.ref p) H'
def spTake : Sp := fun vs H Q _ => ∃ (p : Addr) (n : Nat) (m : Int), vs = [.ref p, .int m] ∧ Purse H p n ∧ n ≤ maxN ∧ 0 < m ∧ m < 1073741824 ∧ ∀ r H', 0 ≤ r → r < m → Purse H' p (n + 1) → Same (hid p H) (hid p H') → Q (.int r) H'
section
variable {P : Program} {w : World} {K : PySem.W.Frag} {mg : Str → Option Value} {base : Heap}
theorem scCell : FnScope ["_law_script", "_law_k"] ["_law_script", "_law_k"] (defScope sCell) := ⟨rfl, rfl, rfl, by decide +kernel, rfl, by decide +kernel, by decide +kernel⟩
theorem ok_cell {f : Addr} {fd : FuncData} (F : Fun K "_law_cell" "_law_cell" sCell f fd) (T : Txt K w mg) : FnOk P w K mg base CX0 1 f fd ["_law_script", "_law_k"] (spCell K) := by
  refine F.ok scCell (fun vs H Q E h => ?_) (fun cdv A outer s H vs Q E hr h => ?_)
  · obtain ⟨a, ns, j, rfl, _⟩ := h
    rfl
  · obtain ⟨a, ns, j, rfl, hS, k⟩ := h
    refine ⟨_, pss_cons (ps_if (pt_cmpR op_lt (pv 1) (pe_callB call_len_seq (by rfl) T.len PySem.boot_len (pa_cons (pv 0) pa_nil)) (nomark _)) (pss_one (ps_ret (pe_ix ix_list (pv 0) (pv 1) (fun _ _ => rfl)))) pss_nil)
      (pss_one (ps_ret (pe_op op_add (pe_op op_mul pe_int (pv 1)) pe_int))), ?_⟩
    refine ⟨_, rfl, _, rfl, a, _, rfl, Or.inl hS, _, _, rfl, rfl, _, rfl, ?_⟩
    refine ite2 (fun h => ?_) (fun h => ?_)
    · have lt := of_decide_eq_true h
      rw [List.length_map] at lt
      have lt : j < ns.length := by omega
      refine ⟨_, rfl, _, rfl, a, _, _, _, rfl, rfl, hS, at_of (j := j) rfl (by rw [List.getElem?_map, List.getElem?_eq_getElem lt]; rfl), k _⟩
    · exact ⟨_, rfl, _, _, rfl, rfl, Or.inl ⟨by decide, by decide⟩, _, _, rfl, rfl, k _⟩
theorem scPurse : FnScope ["_law_cell_here"] ["_law_cell_here"] (defScope sPurse) := ⟨rfl, rfl, rfl, by decide +kernel, rfl, by decide +kernel, by decide +kernel⟩
theorem ok_purse {f : Addr} {fd : FuncData} (F : Fun K "_law_purse" "_law_purse" sPurse f fd) (T : Txt K w mg) : FnOk P w K mg base CX0 1 f fd ["_law_cell_here"] spPurse := by
  refine F.ok scPurse (fun vs H Q E h => ?_) (fun cdv A outer s H vs Q E hr h => ?_)
  · obtain ⟨z, rfl, _⟩ := h
    rfl
  · obtain ⟨z, rfl, k⟩ := h
    refine ⟨_, pss_one (ps_ret (pe_lst (pa_cons (pe_callB (call_max2 rfl) (by rfl) T.max (by decide +kernel) (pa_cons pe_int (pa_cons (pe_op op_sub (pv 0) (pe_op op_pow pe_int pe_int)) pa_nil)))
      (pa_cons (pe_op op_mod (pv 0) pe_int) (pa_cons pe_int pa_nil))))), ?_⟩
    refine ⟨_, rfl, 10, 18, rfl, rfl, ⟨by decide, by decide, by decide⟩, _, _, rfl, rfl, 0, _, rfl, _, rfl, z, 2147483629, rfl, rfl, (by show (0 : Int) < 2147483629; decide), (by show 3 ≤ sizeLine; decide), fun p hp => ?_⟩
    refine k p _ hp (Same.new hp) ⟨_, _, 0, upd_same, ?_, Int.emod_nonneg _ (by decide), Int.emod_lt_of_pos _ (by decide), Int.le_refl _, Int.le_refl _⟩
    split <;> omega
theorem scTake : FnScope ["_law_purse_here", "_law_many", "_law_digit", "_law_one", "_law_other"] ["_law_purse_here", "_law_many"] (defScope sTake) := ⟨rfl, rfl, rfl, by decide +kernel, rfl, by decide +kernel, by decide +kernel⟩
theorem ok_take {f : Addr} {fd : FuncData} (F : Fun K "_law_take" "_law_take" sTake f fd) (T : Txt K w mg) : FnOk P w K mg base CX0 1 f fd ["_law_purse_here", "_law_many"] spTake := by
  refine F.ok scTake (fun vs H Q E h => ?_) (fun cdv A outer s H vs Q E hr h => ?_)
  · obtain ⟨p, n, m, rfl, _⟩ := h
    rfl
  · obtain ⟨p, n, m, rfl, ⟨a, b, c, e, ha, hb, hb2, hc, hc2⟩, hn, hm, hm2, k⟩ := h
    refine ⟨_, pss_cons (ps_if (pt_cmpR op_gt (pe_ix ix_list (pv 0) pe_int (fun _ _ => rfl)) pe_int (nomark _))
        (pss_cons (ps_set (i := 2) scTake.nd rfl (Or.inl rfl) (pe_op op_mod (pe_ix ix_list (pv 0) pe_int (fun _ _ => rfl)) (pv 1)))
        (pss_cons (ps_asg (pe_op op_fdiv (pe_ix ix_list (pv 0) pe_int (fun _ _ => rfl)) (pv 1)) (pg_sub (pv 0) pe_int set_list))
        (pss_one (ps_ret (pv 2))))) pss_nil)
      (pss_cons (ps_asg (pe_op op_add (pe_ix ix_list (pv 0) pe_int (fun _ _ => rfl)) pe_int) (pg_sub (pv 0) pe_int set_list))
      (pss_cons (ps_set (i := 3) scTake.nd rfl (Or.inl rfl) (pe_op op_mod (pe_op op_pow (pe_op op_add (pe_op op_add (pe_ix ix_list (pv 0) pe_int (fun _ _ => rfl)) (pe_op op_mul pe_int (pe_ix ix_list (pv 0) pe_int (fun _ _ => rfl)))) pe_int) pe_int) pe_int))
      (pss_cons (ps_set (i := 4) scTake.nd rfl (Or.inl rfl) (pe_op op_mod (pe_op op_pow (pe_op op_add (pe_op op_mul (pe_ix ix_list (pv 0) pe_int (fun _ _ => rfl)) (pe_ix ix_list (pv 0) pe_int (fun _ _ => rfl))) pe_int) pe_int) pe_int))
      (pss_one (ps_ret (pe_op op_mod (pe_op op_fdiv (pe_op op_add (pe_op op_mul (pv 3) pe_int) (pv 4)) pe_int) (pv 1))))))), ?_⟩
    have sL : ∀ {H' : Hp} {xs : List V}, H' p = some (.lst xs) → SqL K H' p xs := fun h => SqL.of h
    refine ⟨_, rfl, p, _, 0, _, rfl, rfl, sL e, at_of (j := 0) rfl rfl, _, _, rfl, rfl, _, rfl, ?_⟩
    refine ite2 (fun h => ?_) (fun h => ?_)
    · have pos : 0 < a := of_decide_eq_true h
      refine ⟨_, rfl, p, _, 0, _, rfl, rfl, sL e, at_of (j := 0) rfl rfl, _, rfl, a, m, rfl, rfl, hm, ?_⟩
      refine ⟨_, rfl, p, _, 0, _, rfl, rfl, sL e, at_of (j := 0) rfl rfl, _, rfl, a, m, rfl, rfl, ⟨hm, hm2⟩, ?_⟩
      refine ⟨_, rfl, p, _, 0, 0, rfl, rfl, e, rfl, ?_⟩
      refine ⟨_, rfl, ?_⟩
      refine k _ _ (Int.emod_nonneg _ (by omega)) (Int.emod_lt_of_pos _ hm) ⟨a / m, b, c, upd_same, Int.ediv_nonneg ha (by omega), hb, hb2, hc, by omega⟩ ?_
      rw [hid_upd]
      exact Same.refl _
    · have e1 : upd H p (.lst [.int a, .int b, .int (c + 1)]) p = some (.lst [.int a, .int b, .int (c + 1)]) := upd_same
      have S1 : Same (hid p H) (hid p (upd H p (.lst [.int a, .int b, .int (c + 1)]))) := by rw [hid_upd]; exact Same.refl _
      refine ⟨_, rfl, p, _, 2, _, rfl, rfl, sL e, at_of (j := 2) rfl rfl, c, 1, rfl, rfl, ?_⟩
      refine ⟨_, rfl, p, _, 2, 2, rfl, rfl, e, rfl, ?_⟩
      have hcN : c + 1 ≤ 1000000001 := by
        unfold maxN at hn
        omega
      have m0 : 0 ≤ b * (c + 1) := Int.mul_nonneg hb (by omega)
      have m1 : b * (c + 1) ≤ 2147483629 * 1000000001 := Int.mul_le_mul (by omega) (by omega) (by omega) (by omega)
      have q1 : (b + 6113 * (c + 1) + 31).natAbs < 2 ^ 64 := by omega
      have q2 : (b * (c + 1) + 89753).natAbs < 2 ^ 64 := by
        generalize b * (c + 1) = t at m0 m1
        omega
      refine ⟨_, rfl, p, _, 1, _, rfl, rfl, sL e1, at_of (j := 1) rfl rfl, _, rfl, p, _, 2, _, rfl, rfl, sL e1, at_of (j := 2) rfl rfl, 6113, c + 1, rfl, rfl, Or.inl ⟨by decide, by decide⟩, b, _, rfl, rfl, _, _, rfl, rfl, _, 5, rfl, rfl, ⟨by decide, by decide, q1⟩, _, _, rfl, rfl, (by show (0 : Int) < 2147483647; decide), ?_⟩
      refine ⟨_, rfl, p, _, 1, _, rfl, rfl, sL e1, at_of (j := 1) rfl rfl, _, rfl, p, _, 2, _, rfl, rfl, sL e1, at_of (j := 2) rfl rfl, b, c + 1, rfl, rfl, Or.inl ⟨by omega, by omega⟩, _, _, rfl, rfl, _, 3, rfl, rfl, ⟨by decide, by decide, q2⟩, _, _, rfl, rfl, (by show (0 : Int) < 2147483587; decide), ?_⟩
      refine ⟨_, rfl, _, _, rfl, rfl, Or.inr ⟨by decide, by decide⟩, _, rfl, _, _, rfl, rfl, _, 8, rfl, rfl, ⟨by decide, by decide⟩, _, rfl, _, m, rfl, rfl, hm, ?_⟩
      exact k _ _ (Int.emod_nonneg _ (by omega)) (Int.emod_lt_of_pos _ hm) ⟨a, b, c + 1, e1, ha, hb, hb2, by omega, by omega⟩ S1
end
end KP
set_option Elab.async false
set_option linter.unusedVariables false
set_option maxRecDepth 100000
set_option maxHeartbeats 1000000
namespace KP
open PySem PySem.Spec PyProof.Rows L2 KA
/-! ### what stands behind each word -/
def formsA : List (Key × V) := [(.inr "at", .str "n"), (.inr "kind", .str "h"), (.inr "all", .str "tt"), (.inr "fun", .str "tt"), (.inr "app", .str "tt"), (.inr "name", .str "w"), (.inr "thing", .str "w"), (.inr "maker", .str "wn")]
def formsB : List (Key × V) := [(.inr "eater", .str "wh"), (.inr "same", .str "ttt"), (.inr "self", .str "tt"), (.inr "put", .str "ttt")]
def formsK : List (Key × V) := formsA ++ formsB
theorem formsA_eq : mergeK [] formsA = formsA := by decide +kernel
theorem formsB_eq : mergeK [] formsB = formsB := by decide +kernel
theorem formsK_eq : mergeK [] (formsA ++ formsB) = formsK := by decide +kernel
theorem paired_append {α β : Type} {F : α → β → Prop} : ∀ {xs zs : List α} {ys ws : List β}, Paired F xs ys → Paired F zs ws → Paired F (xs ++ zs) (ys ++ ws)
  | _, _, _, _, .nil, s => s
  | _, _, _, _, .cons r t, s => .cons r (paired_append t s)
theorem paired_map {α β : Type} {F G : α → β → Prop} (f : ∀ a b, F a b → G a b) : ∀ {xs : List α} {ys : List β}, Paired F xs ys → Paired G xs ys
  | _, _, .nil => .nil
  | _, _, .cons r t => .cons (f _ _ r) (paired_map f t)
def spForms : Sp := fun vs H Q _ => vs = [] ∧ ∀ p H', H p = none → Same H H' → H' p = some (.dK formsK) → Q (.ref p) H'
section
variable {X : Cx} {k j : Nat} {x : Str} {sp : Sp} {dvs : List V} {p pos : Pos}
theorem pe_c0 (c : C8.Cal X.prog X.w X.K X.mg X.base k x sp dvs) (hr : Room j X.A) (hk : k ≤ j) (hg : Gl X x) (hdb : (x == ("__debug__" : Str)) = false := by decide) : PE X (.Call (.Name x p) [] [] pos) (tCall sp dvs C8.E0 tNil) := by
  obtain ⟨f, fd, ps, ds, F, hm, kp, b, d⟩ := c.ex
  exact pe_call0 F (hr.mono hk) hg hm kp b d pass0 hdb
end
section
variable {P : Program} {w : World} {K : PySem.W.Frag} {mg : Str → Option Value} {base : Heap}
theorem scForms : FnScope ["_law_forms_here", "_law_more"] [] (defScope sForms) := ⟨rfl, rfl, rfl, by decide +kernel, rfl, by decide +kernel, by decide +kernel⟩
theorem ok_forms {f : Addr} {fd : FuncData} (F : Fun K "_law_forms" "_law_forms" sForms f fd) (T : Txt K w mg) : FnOk P w K mg base CX0 1 f fd [] spForms := by
  refine F.ok scForms (fun vs H Q E h => ?_) (fun cdv A outer s H vs Q E hr h => ?_)
  · obtain ⟨rfl, _⟩ := h
    rfl
  · obtain ⟨rfl, k⟩ := h
    refine ⟨_, pss_cons (ps_set (i := 0) scForms.nd rfl (Or.inl rfl) (pe_disp (pps_cons pe_str pe_str (pps_cons pe_str pe_str (pps_cons pe_str pe_str (pps_cons pe_str pe_str (pps_cons pe_str pe_str (pps_cons pe_str pe_str (pps_cons pe_str pe_str (pps_cons pe_str pe_str pps_nil)))))))) (by rfl) (by rfl) (fun z => by cases z) (by decide)))
      (pss_cons (ps_set (i := 1) scForms.nd rfl (Or.inl rfl) (pe_disp (pps_cons pe_str pe_str (pps_cons pe_str pe_str (pps_cons pe_str pe_str (pps_cons pe_str pe_str pps_nil)))) (by rfl) (by rfl) (fun z => by cases z) (by decide)))
      (pss_one (ps_ret (pe_callTy (call_dictP rfl) (by rfl) T.dict (by decide +kernel) (pa_cons (pe_op op_cat (LiI.pe_listItems rfl (pv 0) (by rfl) T.list (by decide +kernel)) (LiI.pe_listItems rfl (pv 1) (by rfl) T.list (by decide +kernel))) pa_nil))))), ?_⟩
    refine fun a ha => ⟨upd_same, formsA, rfl, by decide, ?_⟩
    rw [formsA_eq, upd_upd]
    have S1 : Same H (upd H a (.dK formsA)) := Same.new ha
    refine fun b hb => ⟨upd_same, formsB, rfl, by decide, ?_⟩
    rw [formsB_eq, upd_upd]
    have S2 : Same (upd H a (.dK formsA)) (upd (upd H a (.dK formsA)) b (.dK formsB)) := Same.new hb
    have ea : upd (upd H a (.dK formsA)) b (.dK formsB) a = some (.dK formsA) := S2 _ _ upd_same
    have eb : upd (upd H a (.dK formsA)) b (.dK formsB) b = some (.dK formsB) := upd_same
    have S12 := S1.trans S2
    generalize upd (upd H a (.dK formsA)) b (.dK formsB) = H2 at ea eb S12
    refine ⟨_, rfl, a, formsA, rfl, ea, fun H3 p3 ts3 S3 n3 m3 o3 e3 r3 => ?_⟩
    refine ⟨_, rfl, b, formsB, rfl, S3 _ _ eb, fun H4 p4 ts4 S4 n4 m4 o4 e4 r4 => ?_⟩
    refine ⟨p3, p4, _, _, rfl, rfl, S4 _ _ e3, e4, ?_, fun q hq => ?_⟩
    · rw [List.length_map, List.length_map, Paired.length r3, Paired.length r4]
      decide
    have S5 : Same H4 (upd H4 q (.lst (ts3.map V.ref ++ ts4.map V.ref))) := Same.new hq
    refine ⟨q, ts3 ++ ts4, formsA ++ formsB, rfl, ?_, ?_, fun z hz => ?_⟩
    · rw [List.map_append]
      exact SqL.of upd_same
    · exact paired_append (paired_map (fun t kv e => SqT.of (S5 _ _ (S4 _ _ e))) r3) (paired_map (fun t kv e => SqT.of (S5 _ _ e)) r4)
    · rw [formsK_eq]
      have S15 := ((S12.trans S3).trans S4).trans S5
      exact k z _ (S15.free hz) (S15.trans (Same.new hz)) upd_same
end
end KP
set_option Elab.async false
set_option linter.unusedVariables false
set_option maxRecDepth 100000
set_option maxHeartbeats 1000000
namespace KP
open PySem PySem.Spec PyProof.Rows L2 KA
/-! ### a name drawn -/
theorem fold_codes (cs : List Nat) : ∀ acc : Array Nat, (((cs.map fun c => (⟨#[c]⟩ : Str)).foldl (fun acc p => acc ++ (Str.ofString "").cps ++ p.cps) acc)).toList = acc.toList ++ cs := by
  have e0 : (Str.ofString "").cps = #[] := by decide +kernel
  rw [e0]
  induction cs with
  | nil => intro acc; simp
  | cons c cs ih =>
    intro acc
    rw [List.map_cons, List.foldl_cons, ih]
    simp
theorem join_codes (cs : List Nat) : (Txt.join (Str.ofString "") (cs.map fun c => (⟨#[c]⟩ : Str))).cps.toList = cs := by
  cases cs with
  | nil => decide +kernel
  | cons c cs =>
    show (((cs.map fun c => (⟨#[c]⟩ : Str)).foldl (fun acc p => acc ++ (Str.ofString "").cps ++ p.cps) (#[c] : Array Nat))).toList = c :: cs
    rw [fold_codes]
    rfl
theorem sum_ones (cs : List Nat) : ((cs.map fun c => (⟨#[c]⟩ : Str)).map (·.length)).sum = cs.length := by
  induction cs with
  | nil => rfl
  | cons c cs ih =>
    rw [List.map_cons, List.map_cons, List.sum_cons, ih, List.length_cons]
    show 1 + cs.length = cs.length + 1
    omega
theorem letter_at {r : Int} (h0 : 0 ≤ r) (h1 : r < 26) : ∃ c, atI letters.cps.toList r = some c ∧ letterB c = true := by
  obtain ⟨j, rfl⟩ : ∃ j : Nat, r = (j : Int) := ⟨r.toNat, by omega⟩
  have len : letters.cps.toList.length = 26 := by decide +kernel
  have lt : j < letters.cps.toList.length := by rw [len]; omega
  refine ⟨letters.cps.toList[j], atI_nat (List.getElem?_eq_getElem lt), ?_⟩
  rw [← in_letters]
  exact decide_eq_true (List.getElem_mem lt)
theorem inV_no (x : Str) : inV (.str x) [.str "all", .str "fun", .str "same", .str "self", .str "put"] = noNames.any fun y => y == x := rfl
theorem Same.hidMut {p D : Addr} {G H : Hp} {o : HO} (h : Same G (hid p H)) (n : G D = none) : Same G (hid p (upd H D o)) := fun b u e => by
  have e' := h b u e
  obtain ⟨n1, e2⟩ := hid_some e'
  rw [hid_ne n1, upd_ne (ne_of_none e n)]
  exact e2
theorem hid_none {p D : Addr} {H : Hp} (h : H D = none) : hid p H D = none := by
  by_cases e : D = p
  · rw [e, hid_at]
  · rw [hid_ne e, h]
theorem q_ok : ∀ y ∈ noNames, nameX ((("q" : Str)) ++ y) = true := by decide +kernel
theorem q_len : ∀ y ∈ noNames, ("q" : Str).length + y.length ≤ 8 := by decide +kernel
def spWord : Sp := fun vs H Q _ => ∃ (p : Addr) (n : Nat), vs = [.ref p] ∧ Purse H p n ∧ n + 10 ≤ maxN ∧ ∀ x H', nameX x = true → Purse H' p (n + 10) → Same (hid p H) (hid p H') → Q (.str x) H'
section
variable {P : Program} {w : World} {K : PySem.W.Frag} {mg : Str → Option Value} {base : Heap}
theorem scWord : FnScope ["_law_purse_here", "_law_letters", "_law_word_here", "_law_k"] ["_law_purse_here"] (defScope sWord) := ⟨rfl, rfl, rfl, by decide +kernel, rfl, by decide +kernel, by decide +kernel⟩
theorem ok_word {f : Addr} {fd : FuncData} (F : Fun K "_law_word" "_law_word" sWord f fd) (T : Txt K w mg) (CT : C8.Cal P w K mg base 1 "_law_take" spTake []) : FnOk P w K mg base CX0 2 f fd ["_law_purse_here"] spWord := by
  refine F.ok scWord (fun vs H Q E h => ?_) (fun cdv A outer s H vs Q E hr h => ?_)
  · obtain ⟨p, n, rfl, _⟩ := h
    rfl
  · obtain ⟨p, n, rfl, hp, hn, k⟩ := h
    refine ⟨_, pss_cons (ps_set (i := 1) scWord.nd rfl (Or.inr rfl) pe_str)
      (pss_cons (ps_set (i := 2) scWord.nd rfl (Or.inl rfl) (pe_join pe_str (pe_lc (own := [("_law_k", 3)]) (g := gName 3) (tt := tYes) rfl scWord.nd
          (pi_range1 (by rfl) T.range (pa_cons (pe_op op_add pe_int (C8.pe_c CT hr (by decide) rfl (pa_cons (pv 0) (pa_cons pe_int pa_nil)))) pa_nil))
          (blkOk_by (N := ["_law_purse_here", "_law_letters", "_law_word_here", "_law_k"]) (sc := defScope sWord) (by decide +kernel))
          (fun _ _ _ _ _ => pg_name (i := 3) scWord.nd rfl (Or.inl rfl)) (fun _ _ _ _ _ => pts_nil) (fun _ _ _ _ _ => pe_ix ix_str (pv 1) (C8.pe_c CT hr (by decide) rfl (pa_cons (pv 0) (pa_cons pe_int pa_nil))) (fun _ _ => rfl)))))
      (pss_one (ps_ret (pe_ifExp (pt_cmpR op_in_seq (pv 2) (pe_tup (pa_cons pe_str (pa_cons pe_str (pa_cons pe_str (pa_cons pe_str (pa_cons pe_str pa_nil)))))) rfl) (pe_op op_add_str pe_str (pv 2)) (pv 2))))), ?_⟩
    refine ⟨⟨_, rfl⟩, .ref p, rfl, p, n, 8, rfl, hp, by omega, by decide, by decide, fun r H1 r0 r1 p1 S1 => ?_⟩
    refine ⟨1, r, rfl, rfl, 1 + r, rfl, by omega, by omega, fun D hD => ?_⟩
    have pD : p ≠ D := by
      obtain ⟨_, _, _, e, _⟩ := p1
      exact ne_of_none e hD
    refine lc_range (lo := 0) (n := (1 + r).toNat) (fun i H' => ∃ cs : List Nat, H' D = some (.lst (cs.map fun c => V.str ⟨#[c]⟩)) ∧ cs.length = i ∧ cs.all letterB = true ∧ Purse H' p (n + 1 + i) ∧ Same (hid p H1) (hid p H')) ?_ ?_ ?_
    · refine ⟨[], upd_same, rfl, rfl, p1.mono (Same.new hD), Same.less (Same.new hD)⟩
    · rintro i H' hi ⟨cs, eD, el, eA, pp, S⟩
      refine ⟨rfl, yes (iteT ?_)⟩
      refine ⟨.str letters, rfl, .ref p, rfl, p, n + 1 + i, 26, rfl, pp, by omega, by decide, by decide, fun t H2 t0 t1 p2 S2 => ?_⟩
      obtain ⟨c, hc, lc⟩ := letter_at t0 t1
      refine ⟨letters, t, c, rfl, rfl, by decide +kernel, hc, cs.map fun c => V.str ⟨#[c]⟩, ?_, ?_, cs ++ [c], ?_, ?_, ?_, ?_, ?_⟩
      · exact hid_sub _ _ (S2 _ _ (by rw [hid_ne pD.symm]; exact eD))
      · rw [List.length_map, el]
        exact Nat.lt_of_lt_of_le hi (Nat.le_trans (by omega : (1 + r).toNat ≤ 8) (by decide))
      · rw [upd_same, List.map_append]
        rfl
      · rw [List.length_append, el]
        rfl
      · rw [List.all_append, eA]
        simp [lc]
      · obtain ⟨a, b, c', e, q⟩ := p2
        refine ⟨a, b, c', by rw [upd_ne pD]; exact e, ?_⟩
        have : ((n + 1 + i + 1 : Nat) : Int) = ((n + 1 + (i + 1) : Nat) : Int) := by omega
        rw [← this]
        exact q
      · exact Same.hidMut (S.trans S2) (hid_none hD)
    · rintro H' ⟨cs, eD, el, eA, pp, S⟩
      refine ⟨Str.ofString "", D, cs.map fun c => ⟨#[c]⟩, rfl, rfl, Or.inl ?_, ?_, ?_⟩
      · rw [List.map_map]
        exact SqL.of eD
      · rw [sum_ones, List.length_map]
        have : (Str.ofString "").length = 0 := by decide +kernel
        rw [this]
        omega
      · have S0 : Same (hid p H) (hid p H') := S1.trans S
        have el : cs.length = (1 + r).toNat := el
        have codes := join_codes cs
        have len : (Txt.join (Str.ofString "") (cs.map fun c => (⟨#[c]⟩ : Str))).length = cs.length := by
          show (Txt.join (Str.ofString "") (cs.map fun c => (⟨#[c]⟩ : Str))).cps.size = cs.length
          rw [← Array.length_toList, codes]
        generalize Txt.join (Str.ofString "") (cs.map fun c => (⟨#[c]⟩ : Str)) = x at codes len
        have pn : Purse H' p (n + 10) := pp.more (by omega)
        refine ⟨_, rfl, (by show 5 ≤ sizeLine; decide), fun q hq => ⟨q, _, rfl, Or.inr (SqT.of upd_same), rfl, rfl, _, rfl, ?_⟩⟩
        have S3 : Same (hid p H) (hid p (upd H' q (.tup [.str "all", .str "fun", .str "same", .str "self", .str "put"]))) := S0.trans (Same.less (Same.new hq))
        have p3 : Purse (upd H' q (.tup [.str "all", .str "fun", .str "same", .str "self", .str "put"])) p (n + 10) := pn.mono (Same.new hq)
        refine ite2 (fun c => ?_) (fun c => ?_)
        · have c : (noNames.any fun y => y == x) = true := c
          obtain ⟨y, hy, ey⟩ := List.any_eq_true.mp c
          obtain rfl : y = x := eq_of_beq ey
          exact ⟨_, rfl, "q", y, rfl, rfl, Nat.le_trans (q_len y hy) (by decide), k _ _ (q_ok y hy) p3 S3⟩
        · have c : ¬ (noNames.any fun y => y == x) = true := c
          have c : (noNames.any fun y => y == x) = false := Bool.eq_false_iff.mpr c
          refine ⟨_, rfl, k x _ ?_ p3 S3⟩
          unfold nameX
          rw [c, codes, eA, len, el]
          rw [decide_eq_true (by omega : 1 ≤ (1 + r).toNat), decide_eq_true (by omega : (1 + r).toNat ≤ 8)]
          rfl
end
end KP
set_option Elab.async false
set_option linter.unusedVariables false
set_option maxRecDepth 100000
set_option maxHeartbeats 1000000
namespace KP
open PySem PySem.Spec PyProof.Rows L2 KA
/-! ### how large data is when it is shown -/
mutual
def wt : PyData → Nat
  | .int _ => 40
  | .str _ => 220
  | .list ds => wtAll ds + 4
  | .tuple ds => wtAll ds + 4
  | .dict kvs => wtKv kvs + 4
  | _ => 5
def wtAll : List PyData → Nat
  | [] => 0
  | d :: ds => wt d + 2 + wtAll ds
def wtKv : List (PyData × PyData) → Nat
  | [] => 0
  | (k, v) :: r => wt k + wt v + 4 + wtKv r
end
theorem join_len (ts : List Str) : (Str.join ", " ts).length ≤ (ts.map (·.length)).sum + 2 * ts.length := by
  rw [← StrLaws.glued_eq_join, size_glued]
  have e : (Str.ofString ", ").length = 2 := by decide +kernel
  rw [e]
  omega
theorem len_app (x y : Str) : (x ++ y).length = x.length + y.length := by
  show (x.cps ++ y.cps).size = _
  exact Array.size_append
theorem int_len {i : Int} (h : -(10 ^ 31) ≤ i ∧ i ≤ 10 ^ 31) : (Str.ofString (toString i)).length ≤ 40 := by
  have b : i.natAbs < 10 ^ 32 := by omega
  have l := int_text_length_le10 (k := 32) (by decide) b
  rw [PySem.ofString_length]
  omega
theorem log2_small {i : Int} (h : -(10 ^ 31) ≤ i ∧ i ≤ 10 ^ 31) : i.natAbs.log2 < 1920 := by
  by_cases h0 : i.natAbs = 0
  · rw [h0]
    decide
  · rw [Nat.log2_lt h0]
    exact Nat.lt_of_lt_of_le (by omega : i.natAbs < 2 ^ 110) (Nat.pow_le_pow_right (by decide) (by decide))
mutual
theorem shown_le : ∀ d : PyData, fine d = true → d.shown.length ≤ wt d ∧ d.showable = true
  | .none, _ => by
    rw [PyData.shown_none]
    exact ⟨by decide +kernel, rfl⟩
  | .bool b, _ => by
    rw [PyData.shown_bool]
    exact ⟨by cases b <;> decide +kernel, rfl⟩
  | .int i, h => by
    have h' : -(10 ^ 31) ≤ i ∧ i ≤ 10 ^ 31 := by simpa [fine] using h
    rw [PyData.shown_int]
    exact ⟨int_len h', by simpa [PyData.showable] using log2_small h'⟩
  | .str x, h => by
    have h' : x.length ≤ 20 ∧ ∀ c ∈ x.cps.toList, c < 128 := by simpa only [fine, Bool.and_eq_true, decide_eq_true_eq, List.all_eq_true] using h
    rw [PyData.shown_str]
    have := StrLaws.reprText_len x fun c hc => Nat.lt_of_lt_of_le (h'.2 c hc) (by decide)
    have e : wt (.str x) = 220 := rfl
    exact ⟨by omega, rfl⟩
  | .list ds, h => by
    have h' : fineAll ds = true := by simpa only [fine] using h
    obtain ⟨h1, h2⟩ := shownAll_le ds h'
    rw [PyData.shown_list, len_app, len_app]
    have j := join_len (PyData.shownAll ds)
    rw [PyData.shownAll_length] at j
    have e1 : (Str.ofString "[").length = 1 := by decide +kernel
    have e2 : (Str.ofString "]").length = 1 := by decide +kernel
    rw [e1, e2]
    exact ⟨by simp only [wt]; omega, by simpa only [PyData.showable] using h2⟩
  | .tuple ds, h => by
    have h' : fineAll ds = true := by simpa only [fine] using h
    obtain ⟨h1, h2⟩ := shownAll_le ds h'
    rw [PyData.shown_tuple, len_app, len_app]
    have j := join_len (PyData.shownAll ds)
    rw [PyData.shownAll_length] at j
    have e1 : (Str.ofString "(").length = 1 := by decide +kernel
    have e2 : (Str.ofString (if (ds.length == 1) = true then ",)" else ")")).length ≤ 2 := by
      split <;> decide +kernel
    rw [e1]
    exact ⟨by simp only [wt]; omega, by simpa only [PyData.showable] using h2⟩
  | .dict kvs, h => by
    have h' : fineKv kvs = true := by simpa only [fine] using h
    obtain ⟨h1, h2, h3⟩ := shownKv_le kvs h'
    rw [PyData.shown_dict, len_app, len_app]
    have j := join_len (PyData.shownKv kvs)
    rw [h3] at j
    have e1 : (Str.ofString "{").length = 1 := by decide +kernel
    have e2 : (Str.ofString "}").length = 1 := by decide +kernel
    rw [e1, e2]
    exact ⟨by simp only [wt]; omega, by simpa only [PyData.showable] using h2⟩
theorem shownAll_le : ∀ ds : List PyData, fineAll ds = true → ((PyData.shownAll ds).map (·.length)).sum + 2 * ds.length ≤ wtAll ds ∧ PyData.showableAll ds = true
  | [], _ => ⟨by simp [PyData.shownAll_nil], rfl⟩
  | d :: ds, h => by
    have h' : fine d = true ∧ fineAll ds = true := by simpa only [fineAll, Bool.and_eq_true] using h
    obtain ⟨a1, a2⟩ := shown_le d h'.1
    obtain ⟨b1, b2⟩ := shownAll_le ds h'.2
    rw [PyData.shownAll_cons, List.map_cons, List.sum_cons]
    refine ⟨?_, by simp only [PyData.showableAll, a2, b2, Bool.and_self]⟩
    simp only [wtAll, List.length_cons]
    omega
theorem shownKv_le : ∀ kvs : List (PyData × PyData), fineKv kvs = true → ((PyData.shownKv kvs).map (·.length)).sum + 2 * kvs.length ≤ wtKv kvs ∧ PyData.showableKv kvs = true ∧ (PyData.shownKv kvs).length = kvs.length
  | [], _ => ⟨by simp [PyData.shownKv_nil], rfl, by simp [PyData.shownKv_nil]⟩
  | (k, v) :: r, h => by
    have h' : (fine k = true ∧ fine v = true) ∧ fineKv r = true := by simpa only [fineKv, Bool.and_eq_true] using h
    obtain ⟨a1, a2⟩ := shown_le k h'.1.1
    obtain ⟨b1, b2⟩ := shown_le v h'.1.2
    obtain ⟨c1, c2, c3⟩ := shownKv_le r h'.2
    rw [PyData.shownKv_cons, List.map_cons, List.sum_cons, len_app, len_app]
    have e1 : (Str.ofString ": ").length = 2 := by decide +kernel
    rw [e1]
    refine ⟨?_, by simp only [PyData.showableKv, a2, b2, c2, Bool.and_self], by rw [List.length_cons, List.length_cons, c3]⟩
    simp only [wtKv, List.length_cons]
    omega
end
mutual
theorem nodes_wt : ∀ d : PyData, nodes d ≤ wt d
  | .none => by simp [nodes, wt]
  | .bool b => by simp [nodes, wt]
  | .int i => by simp [nodes, wt]
  | .str x => by simp [nodes, wt]
  | .list ds => by simp [nodes, wt]
  | .dict ds => by simp [nodes, wt]
  | .tuple ds => by
    have := nodesAll_wt ds
    simp only [nodes, wt]
    omega
theorem nodesAll_wt : ∀ ds : List PyData, nodesAll ds ≤ wtAll ds
  | [] => Nat.le_refl _
  | d :: ds => by
    have := nodes_wt d
    have := nodesAll_wt ds
    simp only [nodesAll, wtAll]
    omega
end
/-- small data: how deep, how large -/
def Bd (dp sz : Nat) (d : PyData) : Prop := fine d = true ∧ d.depth ≤ dp ∧ wt d ≤ sz
def BdAll (dp sz : Nat) (ds : List PyData) : Prop := fineAll ds = true ∧ PyData.depthAll ds ≤ dp ∧ wtAll ds ≤ sz
theorem Bd.mono {a b c e : Nat} {d : PyData} (h : Bd a b d) (h1 : a ≤ c) (h2 : b ≤ e) : Bd c e d := ⟨h.1, Nat.le_trans h.2.1 h1, Nat.le_trans h.2.2 h2⟩
theorem BdAll.mono {a b c e : Nat} {d : List PyData} (h : BdAll a b d) (h1 : a ≤ c) (h2 : b ≤ e) : BdAll c e d := ⟨h.1, Nat.le_trans h.2.1 h1, Nat.le_trans h.2.2 h2⟩
theorem BdAll.nil {a b : Nat} : BdAll a b [] := ⟨rfl, Nat.zero_le _, Nat.zero_le _⟩
theorem wtAll_append : ∀ ds es : List PyData, wtAll (ds ++ es) = wtAll ds + wtAll es
  | [], es => by simp [wtAll]
  | d :: ds, es => by simp only [List.cons_append, wtAll, wtAll_append ds es]; omega
theorem depthAll_append : ∀ ds es : List PyData, PyData.depthAll (ds ++ es) = max (PyData.depthAll ds) (PyData.depthAll es)
  | [], es => by simp [PyData.depthAll]
  | d :: ds, es => by simp only [List.cons_append, PyData.depthAll, depthAll_append ds es]; omega
theorem BdAll.append {a b c : Nat} {ds es : List PyData} (h : BdAll a b ds) (g : BdAll a c es) : BdAll a (b + c) (ds ++ es) := by
  obtain ⟨h1, h2, h3⟩ := h
  obtain ⟨g1, g2, g3⟩ := g
  refine ⟨by rw [fineAll_append, h1, g1]; rfl, by rw [depthAll_append]; omega, by rw [wtAll_append]; omega⟩
theorem BdAll.cons {a b c : Nat} {d : PyData} {ds : List PyData} (h : Bd a b d) (g : BdAll a c ds) : BdAll a (b + 2 + c) (d :: ds) := by
  obtain ⟨h1, h2, h3⟩ := h
  obtain ⟨g1, g2, g3⟩ := g
  refine ⟨by simp only [fineAll, h1, g1, Bool.and_self], by simp only [PyData.depthAll]; omega, by simp only [wtAll]; omega⟩
theorem BdAll.one {a b : Nat} {d : PyData} (h : Bd a b d) : BdAll a (b + 2) [d] := BdAll.cons (c := 0) h BdAll.nil
theorem Bd.tup {a b : Nat} {ds : List PyData} (h : BdAll a b ds) : Bd (a + 1) (b + 4) (.tuple ds) :=
  ⟨by simpa only [fine] using h.1, by simp only [PyData.depth]; exact Nat.succ_le_succ h.2.1, by simp only [wt]; exact Nat.add_le_add_right h.2.2 4⟩
theorem Bd.lst {a b : Nat} {ds : List PyData} (h : BdAll a b ds) : Bd (a + 1) (b + 4) (.list ds) :=
  ⟨by simpa only [fine] using h.1, by simp only [PyData.depth]; exact Nat.succ_le_succ h.2.1, by simp only [wt]; exact Nat.add_le_add_right h.2.2 4⟩
theorem Bd.int {i : Int} (h : -(10 ^ 31) ≤ i ∧ i ≤ 10 ^ 31) : Bd 0 40 (.int i) := ⟨by simpa [fine] using h, Nat.le_refl _, Nat.le_refl _⟩
theorem name_fine {x : Str} (h : nameX x = true) : fine (.str x) = true := by
  unfold nameX at h
  simp only [Bool.and_eq_true, decide_eq_true_eq, List.all_eq_true] at h
  obtain ⟨_, ⟨_, h1⟩, h2⟩ := h
  simp only [fine, Bool.and_eq_true, decide_eq_true_eq, List.all_eq_true]
  refine ⟨by omega, fun c hc => ?_⟩
  have := h2 c hc
  unfold letterB at this
  simp only [Bool.and_eq_true, decide_eq_true_eq] at this
  omega
theorem Bd.str {x : Str} (h : fine (.str x) = true) : Bd 0 220 (.str x) := ⟨h, Nat.le_refl _, Nat.le_refl _⟩
end KP
set_option Elab.async false
set_option linter.unusedVariables false
set_option maxRecDepth 100000
set_option maxHeartbeats 1000000
namespace KP
open PySem PySem.Spec PyProof.Rows L2 KA
/-- a def under its name, every parameter given -/
structure Dfn (K : PySem.W.Frag) (mg : Str → Option Value) (x : Str) (st : Stmt) (f : Addr) (fd : FuncData) (ps : List Str) : Prop where
  fn : Fun K x x st f fd
  mgf : mg x = some (.ref f)
  b : Binds K fd ps []
theorem Dfn.cal {P : Program} {w : World} {K : PySem.W.Frag} {mg : Str → Option Value} {base : Heap} {x : Str} {st : Stmt} {f : Addr} {fd : FuncData} {ps : List Str} {k : Nat} {sp : Sp} (D : Dfn K mg x st f fd ps) (F : FnOk P w K mg base CX0 k f fd ps sp) :
    C8.Cal P w K mg base k x sp [] := ⟨f, fd, ps, [], F, D.mgf, D.fn.kp, D.b, .nil⟩
/-! ### a walk over a text -/
theorem for_str {x : Str} {g : TG} {tb : TS} {D : Ends} {σ : L2.St} {H : Hp} (Pv : Nat → L2.St → Hp → Prop) (h0 : Pv 0 σ H)
    (hs : ∀ (i c : Nat) (σ : L2.St) (H : Hp), x.cps[i]? = some c → Pv i σ H → g (.str ⟨#[c]⟩) σ H fun σ2 H2 => tb { D with nx := Pv (i + 1), ct := Pv (i + 1), bk := D.nx } σ2 H2) (hd : ∀ σ H, Pv x.cps.size σ H → D.nx σ H) :
    ∃ W : Nat → Nat → L2.St → Hp → Prop, (∃ m, W 0 m σ H) ∧ ∀ i m σ H, W i m σ H →
      ((Its x).stop i H ∧ D.nx σ H) ∨ ((Its x).go i H ∧ ∃ N : L2.St → Hp → Prop, (∀ σ' H', N σ' H' → ∃ m', m' < m ∧ W (i + 1) m' σ' H') ∧ ∀ v H', (Its x).yld i H v H' → g v σ H' fun σ2 H2 => tb { D with nx := N, ct := N, bk := D.nx } σ2 H2) := by
  refine ⟨fun i m σ H => m = x.cps.size - i ∧ i ≤ x.cps.size ∧ Pv i σ H, ⟨_, rfl, Nat.zero_le _, h0⟩, ?_⟩
  rintro i m σ H ⟨rfl, hi, p⟩
  by_cases lt : i < x.cps.size
  · refine Or.inr ⟨lt, Pv (i + 1), fun σ' H' p' => ⟨x.cps.size - (i + 1), by omega, rfl, lt, p'⟩, ?_⟩
    rintro v H' ⟨rfl, c, hc, rfl⟩
    exact hs i c σ _ hc p
  · obtain rfl : i = x.cps.size := by omega
    exact Or.inl ⟨Nat.le_refl _, hd σ H p⟩
/-! ### words and what stands behind them -/
def wl : List Str := ["at", "at", "kind", "name", "thing", "maker", "eater", "all", "fun", "app", "app", "same", "self", "put"]
theorem wl_split : Txt.split (Str.ofString "at at kind name thing maker eater all fun app app same self put") (Str.ofString " ") = wl := by decide +kernel
def leaves : List (Str × List Nat) := [("at", [110]), ("kind", [104]), ("name", [119]), ("thing", [119]), ("maker", [119, 110]), ("eater", [119, 104])]
def parted : List (Str × List Nat) := [("all", [116, 116]), ("fun", [116, 116]), ("app", [116, 116]), ("same", [116, 116, 116]), ("self", [116, 116]), ("put", [116, 116, 116])]
theorem draw7 : ∀ j < 7, ∃ e ∈ leaves, wl[j]? = some e.1 := by decide +kernel
theorem draw14 : ∀ j < 14, ∃ e ∈ leaves ++ parted, wl[j]? = some e.1 := by decide +kernel
theorem form_of : ∀ e ∈ leaves ++ parted, valV formsK (.inr e.1) = some (.str ⟨e.2.toArray⟩) ∧ e.2.length ≤ 3 ∧ ∀ c ∈ e.2, c = 110 ∨ c = 104 ∨ c = 119 ∨ c = 116 := by decide +kernel
theorem leaf_not : ∀ e ∈ leaves, ∀ c ∈ e.2, c ≠ 116 := by decide +kernel
def tst (c : Nat) (d : PyData) : Bool := if c = 110 then cntB 0 d else if c = 104 then wholeB 0 5 d else if c = 119 then nameB d else tm d
def tstAll : List Nat → List PyData → Bool
  | [], [] => true
  | c :: cs, d :: ds => tst c d && tstAll cs ds
  | _, _ => false
theorem tstAll_snoc : ∀ {cs : List Nat} {ds : List PyData} {c : Nat} {d : PyData}, tstAll cs ds = true → tst c d = true → tstAll (cs ++ [c]) (ds ++ [d]) = true
  | [], [], c, d, _, h => by simp [tstAll, h]
  | a :: cs, b :: ds, c, d, h, h' => by
    have h : tst a b = true ∧ tstAll cs ds = true := by simpa [tstAll] using h
    have ih := tstAll_snoc h.2 h'
    simp only [List.cons_append, tstAll, h.1, ih, Bool.and_self]
  | [], _ :: _, _, _, h, _ => by simp [tstAll] at h
  | _ :: _, [], _, _, h, _ => by simp [tstAll] at h
theorem tst_parts : ∀ {n : Nat} {ds : List PyData}, tstAll (List.replicate n 116) ds = true → ds.length = n ∧ tmAll ds = true
  | 0, [], _ => ⟨rfl, rfl⟩
  | 0, _ :: _, h => by simp [tstAll] at h
  | n + 1, [], h => by simp [List.replicate_succ, tstAll] at h
  | n + 1, d :: ds, h => by
    rw [List.replicate_succ] at h
    have h : tst 116 d = true ∧ tstAll (List.replicate n 116) ds = true := by simpa only [tstAll, Bool.and_eq_true] using h
    obtain ⟨h1, h2⟩ := tst_parts h.2
    have h3 : tm d = true := h.1
    exact ⟨by rw [List.length_cons, h1], by simp only [tmAll, h3, h2, Bool.and_self]⟩
theorem parted_rep : ∀ e ∈ parted, ∃ n, n ≤ 3 ∧ e.2 = List.replicate n 116 ∧ parts e.1 = some n := by decide +kernel
theorem leaf_none : ∀ e ∈ leaves, parts e.1 = none := by decide +kernel
theorem one {c : Nat} : ∀ {ds : List PyData}, tstAll [c] ds = true → ∃ d, ds = [d] ∧ tst c d = true
  | [d], h => ⟨d, rfl, by simpa [tstAll] using h⟩
  | [], h => by simp [tstAll] at h
  | _ :: _ :: _, h => by simp [tstAll] at h
theorem two {a b : Nat} : ∀ {ds : List PyData}, tstAll [a, b] ds = true → ∃ d e, ds = [d, e] ∧ tst a d = true ∧ tst b e = true
  | [d, e], h => ⟨d, e, rfl, by simpa [tstAll] using h⟩
  | [], h => by simp [tstAll] at h
  | [_], h => by simp [tstAll] at h
  | _ :: _ :: _ :: _, h => by simp [tstAll] at h
theorem built {e : Str × List Nat} {ds : List PyData} (he : e ∈ leaves ++ parted) (h : tstAll e.2 ds = true) : tm (.tuple (.str e.1 :: ds)) = true := by
  rcases List.mem_append.mp he with he | he
  · rw [tm_leaf (leaf_none e he)]
    have he' : e = ((("at" : Str), [110]) : Str × List Nat) ∨ e = ((("kind" : Str), [104]) : Str × List Nat) ∨ e = ((("name" : Str), [119]) : Str × List Nat) ∨ e = ((("thing" : Str), [119]) : Str × List Nat) ∨ e = ((("maker" : Str), [119, 110]) : Str × List Nat) ∨ e = ((("eater" : Str), [119, 104]) : Str × List Nat) := by
      unfold leaves at he
      simpa only [List.mem_cons, List.not_mem_nil, or_false] using he
    rcases he' with rfl | rfl | rfl | rfl | rfl | rfl
    · obtain ⟨d, rfl, h1⟩ := one h
      exact h1
    · obtain ⟨d, rfl, h1⟩ := one h
      exact h1
    · obtain ⟨d, rfl, h1⟩ := one h
      exact h1
    · obtain ⟨d, rfl, h1⟩ := one h
      exact h1
    · obtain ⟨d, d', rfl, h1, h2⟩ := two h
      have h1 : nameB d = true := h1
      have h2 : cntB 0 d' = true := h2
      show (nameB d && cntB 0 d') = true
      rw [h1, h2]
      rfl
    · obtain ⟨d, d', rfl, h1, h2⟩ := two h
      have h1 : nameB d = true := h1
      have h2 : wholeB 0 5 d' = true := h2
      show (nameB d && (true && wholeB 0 5 d')) = true
      rw [h1, h2]
      rfl
  · obtain ⟨n, _, hr, hp⟩ := parted_rep e he
    rw [hr] at h
    obtain ⟨h1, h2⟩ := tst_parts h
    rw [tm_parts hp, h1, h2, decide_eq_true rfl]
    rfl
end KP
set_option Elab.async false
set_option linter.unusedVariables false
set_option maxRecDepth 100000
set_option maxHeartbeats 2000000
namespace KP
open PySem PySem.Spec PyProof.Rows L2 KA
/-! ### data without lists and dicts -/
mutual
def flatD : PyData → Bool
  | .tuple ds => flatAll ds
  | .list _ => false
  | .dict _ => false
  | _ => true
def flatAll : List PyData → Bool
  | [] => true
  | d :: ds => flatD d && flatAll ds
end
theorem cnt_flat {lo : Int} {d : PyData} (h : cntB lo d = true) : flatD d = true := by cases d <;> first | rfl | cases h
theorem whole_flat {lo hi : Int} {d : PyData} (h : wholeB lo hi d = true) : flatD d = true := by cases d <;> first | rfl | cases h
theorem name_flat {d : PyData} (h : nameB d = true) : flatD d = true := by cases d <;> first | rfl | cases h
theorem leaf_flat {wd : Str} : ∀ {ds : List PyData}, leafB wd ds = true → flatAll ds = true
  | [x], h => by
    have h : (if wd = "at" then cntB 0 x else if wd = "kind" then wholeB 0 5 x else (decide (wd = "name") || decide (wd = "thing")) && nameB x) = true := h
    have f : flatD x = true := by
      split at h
      · exact cnt_flat h
      · split at h
        · exact whole_flat h
        · exact name_flat (Bool.and_eq_true_iff.mp h).2
    simp only [flatAll, f, Bool.and_self]
  | [x, y], h => by
    have h : (nameB x && (if wd = "maker" then cntB 0 y else decide (wd = "eater") && wholeB 0 5 y)) = true := h
    obtain ⟨h1, h2⟩ := Bool.and_eq_true_iff.mp h
    have f : flatD y = true := by
      split at h2
      · exact cnt_flat h2
      · exact whole_flat (Bool.and_eq_true_iff.mp h2).2
    simp only [flatAll, name_flat h1, f, Bool.and_self]
  | [], h => by cases h
  | _ :: _ :: _ :: _, h => by cases h
mutual
theorem tm_flat : ∀ d : PyData, tm d = true → flatD d = true
  | .tuple [], h => by simp [tm] at h
  | .tuple (d :: ds), h => by
    cases hS : isStrD d with
    | false =>
      rw [isStr_false hS] at h
      cases h
    | true =>
      obtain ⟨wd, rfl⟩ : ∃ wd, d = .str wd := by cases d <;> first | exact ⟨_, rfl⟩ | cases hS
      cases hp : parts wd with
      | none =>
        rw [tm_leaf hp] at h
        simp only [flatD, flatAll, leaf_flat h, Bool.and_self]
      | some n =>
        rw [tm_parts hp] at h
        simp only [flatD, flatAll, tmAll_flat ds (Bool.and_eq_true_iff.mp h).2, Bool.and_self]
  | .none, h => by simp [tm] at h
  | .bool _, h => by simp [tm] at h
  | .int _, h => by simp [tm] at h
  | .str _, h => by simp [tm] at h
  | .list _, h => by simp [tm] at h
  | .dict _, h => by simp [tm] at h
theorem tmAll_flat : ∀ ds : List PyData, tmAll ds = true → flatAll ds = true
  | [], _ => rfl
  | d :: ds, h => by
    have h : tm d = true ∧ tmAll ds = true := by simpa only [tmAll, Bool.and_eq_true] using h
    simp only [flatAll, tm_flat d h.1, tmAll_flat ds h.2, Bool.and_self]
end
mutual
theorem flat_off {l : Addr} {H : Hp} {zs : List V} (e : H l = some (.lst zs)) : ∀ {v : V} {d : PyData}, Dn H v d → flatD d = true → Dn (hid l H) v d
  | _, _, .non, _ => .non
  | _, _, .bl b, _ => .bl b
  | _, _, .int i, _ => .int i
  | _, _, .str x, _ => .str x
  | _, _, .lst _ _, h => by simp [flatD] at h
  | _, _, .dic _ _ _, h => by simp [flatD] at h
  | _, _, .tup (a := a) h1 h2, h => .tup (by
      rw [hid_ne fun z => by
        rw [z, e] at h1
        cases h1]
      exact h1) (flatAll_off e h2 (by simpa only [flatD] using h))
theorem flatAll_off {l : Addr} {H : Hp} {zs : List V} (e : H l = some (.lst zs)) : ∀ {vs : List V} {ds : List PyData}, DnAll H vs ds → flatAll ds = true → DnAll (hid l H) vs ds
  | _, _, .nil, _ => .nil
  | _, _, .cons h1 h2, h => by
    simp only [flatAll, Bool.and_eq_true] at h
    exact .cons (flat_off e h1 h.1) (flatAll_off e h2 h.2)
end
/-- between two turns of the term's walk over its form -/
structure InvTm (p l q : Addr) (H : Hp) (k n : Nat) (below : Int) (e : Str × List Nat) (i : Nat) (H' : Hp) (xs : List V) (ds : List PyData) : Prop where
  at_ : H' l = some (.lst (.str e.1 :: xs))
  all : DnAll (hid l (hid p H')) xs ds
  len : ds.length = i
  tst : tstAll (e.2.take i) ds = true
  bd : BdAll k (i * (250 * 4 ^ k + 2)) ds
  purse : Purse H' p (n + 1 + i * (10 * 4 ^ k))
  same : Same (hid p H) (hid p H')
def PvTm (p l q : Addr) (H : Hp) (k n : Nat) (below : Int) (e : Str × List Nat) (i : Nat) (σ : L2.St) (H' : Hp) : Prop :=
  ∃ xs ds lt, σ = [some (.ref p), some (.int (k : Int)), some (.int below), some (.ref q), some (.str e.1), some (.ref l), lt] ∧ InvTm p l q H k n below e i H' xs ds
theorem iteP {c A B : Prop} [Decidable c] (h : c) (a : A) : if c then A else B := by
  rw [if_pos h]
  exact a
theorem iteN {c A B : Prop} [Decidable c] (h : ¬ c) (b : B) : if c then A else B := by
  rw [if_neg h]
  exact b
def spTm (lim : Nat) : Sp := fun vs H Q _ => ∃ (p : Addr) (n k : Nat) (below : Int), vs = [.ref p, .int (k : Int), .int below] ∧ Purse H p n ∧ k < lim ∧ 0 < below ∧ below ≤ 1000 ∧ n + 40 * 4 ^ k ≤ maxN ∧
  ∀ v d H', Dn (hid p H') v d → tm d = true → Bd (k + 1) (1000 * 4 ^ k) d → Purse H' p (n + 40 * 4 ^ k) → Same (hid p H) (hid p H') → Q v H'
section
variable {P : Program} {w : World} {K : PySem.W.Frag} {mg : Str → Option Value} {base : Heap}
abbrev psTm : List Str := ["_law_purse_here", "_law_depth", "_law_below"]
theorem scTm : FnScope ["_law_purse_here", "_law_depth", "_law_below", "_law_words", "_law_word_here", "_law_found", "_law_letter"] psTm (defScope sTm) := ⟨rfl, rfl, rfl, by decide +kernel, rfl, by decide +kernel, by decide +kernel⟩
/-- the list l grew by one thing -/
theorem grown {p l : Addr} {H' : Hp} {xs : List V} {ds : List PyData} {x : V} {d : PyData} {h0 : V} (lp : l ≠ p) (e : H' l = some (.lst (h0 :: xs))) (a : DnAll (hid l (hid p H')) xs ds) (b : Dn (hid l (hid p H')) x d) :
    upd H' l (.lst (h0 :: xs ++ [x])) l = some (.lst (h0 :: (xs ++ [x]))) ∧ DnAll (hid l (hid p (upd H' l (.lst (h0 :: xs ++ [x]))))) (xs ++ [x]) (ds ++ [d]) := by
  have S : Same (hid l (hid p H')) (hid l (hid p (upd H' l (.lst (h0 :: xs ++ [x]))))) := fun b o z => by
    obtain ⟨n1, z1⟩ := hid_some z
    obtain ⟨n2, z2⟩ := hid_some z1
    rw [hid_ne n1, hid_ne n2, upd_ne n1]
    exact z2
  exact ⟨upd_same, (DnAll.mono S a).snoc (Dn.mono S b)⟩
/-- one thing more behind the word -/
theorem InvTm.grow {p l q : Addr} {H H' H2 : Hp} {k n i c : Nat} {below : Int} {e : Str × List Nat} {xs : List V} {ds : List PyData} {x : V} {d : PyData} (I : InvTm p l q H k n below e i H' xs ds) (lp : l ≠ p) (lH : H l = none) (le : e.2.length ≤ 3) (hc : e.2[i]? = some c)
    (S : Same (hid p H') (hid p H2)) (hd : Dn (hid p H2) x d) (fl : flatD d = true) (t : KP.tst c d = true) (b : Bd k (250 * 4 ^ k) d) (hp : Purse H2 p (n + 1 + i * (10 * 4 ^ k) + 10 * 4 ^ k)) :
    H2 l = some (.lst (.str e.1 :: xs)) ∧ ((.str e.1 : V) :: xs).length < sizeLine ∧ InvTm p l q H k n below e (i + 1) (upd H2 l (.lst (.str e.1 :: xs ++ [x]))) (xs ++ [x]) (ds ++ [d]) := by
  have e2 : hid p H2 l = some (.lst (.str e.1 :: xs)) := S _ _ (by rw [hid_ne lp]; exact I.at_)
  have e3 := hid_sub _ _ e2
  have lt : i < e.2.length := (List.getElem?_eq_some_iff.mp hc).1
  have g := grown lp e3 (DnAll.mono (Same.less S) I.all) (flat_off e2 hd fl)
  refine ⟨e3, ?_, g.1, g.2, by rw [List.length_append, I.len]; rfl, ?_, ?_, ?_, Same.hidMut (I.same.trans S) (hid_none lH)⟩
  · have := I.all.length
    rw [List.length_cons, this, I.len]
    exact Nat.lt_of_lt_of_le (by omega : i + 1 < 5) (by decide)
  · rw [take_snoc hc]
    exact tstAll_snoc I.tst t
  · exact (I.bd.append (BdAll.one b)).mono (Nat.le_refl _) (Nat.le_of_eq (Nat.succ_mul i _).symm)
  · obtain ⟨a, b', c', z, r⟩ := hp
    refine ⟨a, b', c', by rw [upd_ne lp.symm]; exact z, ?_⟩
    have key : ∀ X : Nat, n + 1 + (i + 1) * X = n + 1 + i * X + X := fun X => by rw [Nat.add_mul, Nat.one_mul]; omega
    rw [key]
    exact r
theorem ite_both {c : Prop} [Decidable c] {t1 t2 : TE} {σ1 σ2 : L2.St} {H1 H2 : Hp} {Q : VK} (M : V → Hp → Prop) (hQ : ∀ v H, M v H → Q v H) (h1 : c → ∀ Q' : VK, (∀ v H, M v H → Q' v H) → t1 σ1 H1 Q') (h2 : ¬ c → ∀ Q' : VK, (∀ v H, M v H → Q' v H) → t2 σ2 H2 Q') :
    if c then t1 σ1 H1 Q else t2 σ2 H2 Q := ite2 (fun h => h1 h Q hQ) fun h => h2 h Q hQ
theorem ok_tm {f : Addr} {fd : FuncData} (D : Dfn K mg "_law_term" sTm f fd psTm) (T : Txt K w mg) (CT : C8.Cal P w K mg base 1 "_law_take" spTake []) (CW : C8.Cal P w K mg base 2 "_law_word" spWord []) (CF : C8.Cal P w K mg base 1 "_law_forms" spForms []) :
    ∀ lim : Nat, FnOk P w K mg base CX0 (3 + lim) f fd psTm (spTm lim)
  | 0 => ⟨fun vs H Q E h => by obtain ⟨p, n, k, b, rfl, _⟩ := h; rfl, fun A outer s H args us vs Q E hr e0 bt rv h => by obtain ⟨p, n, k, b, _, _, h0, _⟩ := h; omega⟩
  | lim + 1 => by
    have CM : C8.Cal P w K mg base (3 + lim) "_law_term" (spTm lim) [] := D.cal (ok_tm D T CT CW CF lim)
    refine D.fn.ok (k := 3 + lim) scTm (fun vs H Q E h => ?_) (fun cdv A outer s H vs Q E hr h => ?_)
    · obtain ⟨p, n, k, b, rfl, _⟩ := h
      rfl
    · obtain ⟨p, n, k, below, rfl, hp, hk, b0, b1, hn, go⟩ := h
      have hu := hu_of hr
      refine ⟨_, pss_cons (ps_set (i := 3) scTm.nd rfl (Or.inl rfl) (pe_split pe_str pe_str))
        (pss_cons (ps_set (i := 4) scTm.nd rfl (Or.inl rfl) (pe_ifExp (pt_cmpR op_eq (pv 1) pe_int (nomark _)) (pe_ix ix_list (pv 3) (C8.pe_c CT hr (by omega) rfl (pa_cons (pv 0) (pa_cons pe_int pa_nil))) (fun _ _ => rfl))
          (pe_ix ix_list (pv 3) (C8.pe_c CT hr (by omega) rfl (pa_cons (pv 0) (pa_cons pe_int pa_nil))) (fun _ _ => rfl))))
        (pss_cons (ps_set (i := 5) scTm.nd rfl (Or.inl rfl) (pe_lst (pa_cons (pv 4) pa_nil)))
        (pss_cons (ps_for PassesOwn.never rfl (pi_str (pe_dget hu (pe_c0 CF hr (by omega) rfl) (pv 4) (fun _ _ => rfl))) (pg_name (i := 6) scTm.nd rfl (Or.inl rfl))
          (pss_cons (ps_if (pt_cmpR op_eq (pv 6) pe_str (nomark _)) (pss_one (ps_expr (pe_bm PySem.F.plainAttrs_list PySem.F.slot_list_append PySem.F.type_list_append mt_append (pv 5)
              (pa_cons (C8.pe_c CT hr (by omega) rfl (pa_cons (pv 0) (pa_cons (pe_ix ix_list (pe_lst (pa_cons (pv 2) (pa_cons pe_int pa_nil))) (pe_callTy call_int1 (by rfl) T.int (by decide +kernel) (pa_cons (pe_cmpR op_eq (pv 4) pe_str (nomark _)) pa_nil)) (fun _ _ => rfl)) pa_nil))) pa_nil)))) pss_nil)
          (pss_cons (ps_if (pt_cmpR op_eq (pv 6) pe_str (nomark _)) (pss_one (ps_expr (pe_bm PySem.F.plainAttrs_list PySem.F.slot_list_append PySem.F.type_list_append mt_append (pv 5) (pa_cons (C8.pe_c CT hr (by omega) rfl (pa_cons (pv 0) (pa_cons pe_int pa_nil))) pa_nil)))) pss_nil)
          (pss_cons (ps_if (pt_cmpR op_eq (pv 6) pe_str (nomark _)) (pss_one (ps_expr (pe_bm PySem.F.plainAttrs_list PySem.F.slot_list_append PySem.F.type_list_append mt_append (pv 5) (pa_cons (C8.pe_c CW hr (by omega) rfl (pa_cons (pv 0) pa_nil)) pa_nil)))) pss_nil)
          (pss_one (ps_if (pt_cmpR op_eq (pv 6) pe_str (nomark _)) (pss_one (ps_expr (pe_bm PySem.F.plainAttrs_list PySem.F.slot_list_append PySem.F.type_list_append mt_append (pv 5) (pa_cons (C8.pe_c CM hr (by omega) rfl (pa_cons (pv 0) (pa_cons (pe_op op_sub (pv 1) pe_int) (pa_cons (pv 2) pa_nil)))) pa_nil)))) pss_nil))))))
        (pss_one (ps_ret (pe_tupleOf (by rfl) T.tuple (pv 5))))))), ?_⟩
      refine ⟨⟨_, rfl⟩, _, _, rfl, rfl, by decide +kernel, by decide +kernel, fun q hq => ?_⟩
      rw [wl_split]
      have hp1 : Purse (upd H q (.lst (wl.map V.str))) p n := hp.mono (Same.new hq)
      have S1 : Same (hid p H) (hid p (upd H q (.lst (wl.map V.str)))) := Same.less (Same.new hq)
      have eq1 : upd H q (.lst (wl.map V.str)) q = some (.lst (wl.map V.str)) := upd_same
      have qp : q ≠ p := by
        obtain ⟨_, _, _, e, _⟩ := hp
        exact (ne_of_none e hq).symm
      generalize upd H q (.lst (wl.map V.str)) = H1 at hp1 S1 eq1
      have c1 : 0 < 4 ^ k := Nat.pow_pos (by decide)
      -- the word
      refine ⟨_, rfl, rfl, _, rfl, ?_⟩
      refine ite_both (fun v H2 => ∃ e : Str × List Nat, v = .str e.1 ∧ e ∈ leaves ++ parted ∧ (k = 0 → e ∈ leaves) ∧ Purse H2 p (n + 1) ∧ Same (hid p H) (hid p H2)) ?_ (fun h Q' hQ' => ?_) (fun h Q' hQ' => ?_)
      rotate_left
      · have h : k = 0 := by
          have := V.int.inj (of_decide_eq_true h)
          omega
        refine ⟨_, rfl, .ref p, rfl, p, n, 7, rfl, hp1, by omega, by decide, by decide, fun r H2 r0 r1 p2 S2 => ?_⟩
        obtain ⟨j, rfl⟩ : ∃ j : Nat, r = (j : Int) := ⟨r.toNat, by omega⟩
        obtain ⟨e, he0, hw⟩ := draw7 j (by omega)
        exact ⟨q, _, _, _, rfl, rfl, SqL.of (hid_sub _ _ (S2 _ _ (by rw [hid_ne qp]; exact eq1))), at_of (j := j) (v := .str e.1) rfl (by rw [List.getElem?_map, hw]; rfl),
          hQ' _ _ ⟨e, rfl, List.mem_append_left _ he0, fun _ => he0, p2, S1.trans S2⟩⟩
      · have h : ¬ k = 0 := fun z => h (decide_eq_true (congrArg V.int (by rw [z]; rfl)))
        refine ⟨_, rfl, .ref p, rfl, p, n, 14, rfl, hp1, by omega, by decide, by decide, fun r H2 r0 r1 p2 S2 => ?_⟩
        obtain ⟨j, rfl⟩ : ∃ j : Nat, r = (j : Int) := ⟨r.toNat, by omega⟩
        obtain ⟨e, he, hw⟩ := draw14 j (by omega)
        exact ⟨q, _, _, _, rfl, rfl, SqL.of (hid_sub _ _ (S2 _ _ (by rw [hid_ne qp]; exact eq1))), at_of (j := j) (v := .str e.1) rfl (by rw [List.getElem?_map, hw]; rfl),
          hQ' _ _ ⟨e, rfl, he, fun z => absurd z h, p2, S1.trans S2⟩⟩
      · clear hp1 S1 eq1 H1
        rintro v H1 ⟨e, rfl, he, hl, hp1, S1⟩
        obtain ⟨ef, elen, echars⟩ := form_of e he
        refine ⟨_, rfl, (by show 1 ≤ sizeLine; decide), fun l hl0 => ?_⟩
        have lH : H l = none := by
          cases z : H l with
          | none => rfl
          | some o =>
            have lp : l ≠ p := fun y => by
              obtain ⟨_, _, _, w, _⟩ := hp1
              rw [y, w] at hl0
              cases hl0
            have := hid_sub _ _ (S1 l o (by rw [hid_ne lp]; exact z))
            rw [hl0] at this
            cases this
        have lp : l ≠ p := fun y => by
          obtain ⟨_, _, _, w, _⟩ := hp1
          rw [y, w] at hl0
          cases hl0
        refine ⟨rfl, fun fp H3 fn S3 fe => ⟨_, rfl, fp, .str ⟨e.2.toArray⟩, rfl, ef ▸ (DGet.k (k := Sum.inr e.1) fe : DGet H3 fp (.str e.1) (valV formsK (Sum.inr e.1))), ⟨e.2.toArray⟩, rfl, for_str (PvTm p l q H k n below e) ?_ ?_ ?_⟩⟩
        · refine ⟨[], [], none, rfl, S3 _ _ upd_same, .nil, rfl, by simp [tstAll], BdAll.nil, ?_, ?_⟩
          · exact (hp1.mono ((Same.new hl0).trans S3)).more (by omega)
          · exact S1.trans (Same.less ((Same.new hl0).trans S3))
        · rintro i c σ H4 hc ⟨xs, ds, lt, rfl, I⟩
          have hc : e.2[i]? = some c := by simpa using hc
          have cm : c ∈ e.2 := List.mem_of_getElem? hc
          have i3 : i < 3 := Nat.lt_of_lt_of_le (List.getElem?_eq_some_iff.mp hc).1 elen
          have iC : i * (10 * 4 ^ k) ≤ 2 * (10 * 4 ^ k) := Nat.mul_le_mul_right _ (by omega)
          rcases echars c cm with rfl | rfl | rfl | rfl
          · refine ⟨_, rfl, rfl, _, rfl, iteP (by decide +kernel) ?_⟩
            refine ⟨_, rfl, Or.inl ⟨rfl, _, SqL.of I.at_⟩, .ref p, rfl, _, rfl, (by show 2 ≤ sizeLine; decide), fun z hz => ⟨_, rfl, rfl, Or.inr ⟨_, rfl, ?_⟩⟩⟩
            have pick : ∀ b : Bool, ∃ m : Int, 0 < m ∧ m ≤ 1000 ∧ atI [V.int below, V.int 5] (if b = true then 1 else 0) = some (.int m) := fun b => by
              cases b with
              | true => exact ⟨5, by decide, by decide, rfl⟩
              | false => exact ⟨below, b0, b1, rfl⟩
            obtain ⟨m, m0, m1, hm⟩ := pick (decide (V.str e.1 = V.str "maker"))
            refine ⟨z, _, _, .int m, rfl, rfl, SqL.of upd_same, hm, p, _, m, rfl, I.purse.mono (Same.new hz), by omega, m0, by omega, fun r H5 r0 r1 p5 S5 => ?_⟩
            obtain ⟨a1, a2, a3⟩ := I.grow (x := .int r) (d := .int r) lp lH elen hc ((Same.less (Same.new hz)).trans S5) (.int r) rfl (by show decide (0 ≤ r) = true; exact decide_eq_true r0) ((Bd.int (by omega)).mono (Nat.zero_le _) (by omega)) (p5.more (by omega))
            exact ⟨l, _, _, rfl, rfl, a1, a2, ⟨_, rfl, rfl, _, rfl, iteN (by decide +kernel) ⟨_, rfl, rfl, _, rfl, iteN (by decide +kernel) ⟨_, rfl, rfl, _, rfl, iteN (by decide +kernel) ⟨_, _, _, rfl, a3⟩⟩⟩⟩⟩
          · refine ⟨_, rfl, rfl, _, rfl, iteN (by decide +kernel) ?_⟩
            refine ⟨_, rfl, rfl, _, rfl, iteP (by decide +kernel) ?_⟩
            refine ⟨_, rfl, Or.inl ⟨rfl, _, SqL.of I.at_⟩, .ref p, rfl, p, _, 6, rfl, I.purse, by omega, by decide, by decide, fun r H5 r0 r1 p5 S5 => ?_⟩
            obtain ⟨a1, a2, a3⟩ := I.grow (x := .int r) (d := .int r) lp lH elen hc S5 (.int r) rfl (by show (decide (0 ≤ r) && decide (r ≤ 5)) = true; rw [decide_eq_true r0, decide_eq_true (by omega : r ≤ 5)]; rfl) ((Bd.int (by omega)).mono (Nat.zero_le _) (by omega)) (p5.more (by omega))
            exact ⟨l, _, _, rfl, rfl, a1, a2, ⟨_, rfl, rfl, _, rfl, iteN (by decide +kernel) ⟨_, rfl, rfl, _, rfl, iteN (by decide +kernel) ⟨_, _, _, rfl, a3⟩⟩⟩⟩
          · refine ⟨_, rfl, rfl, _, rfl, iteN (by decide +kernel) ⟨_, rfl, rfl, _, rfl, iteN (by decide +kernel) ?_⟩⟩
            refine ⟨_, rfl, rfl, _, rfl, iteP (by decide +kernel) ?_⟩
            refine ⟨_, rfl, Or.inl ⟨rfl, _, SqL.of I.at_⟩, .ref p, rfl, p, _, rfl, I.purse, by omega, fun x H5 nx p5 S5 => ?_⟩
            obtain ⟨a1, a2, a3⟩ := I.grow (x := .str x) (d := .str x) lp lH elen hc S5 (.str x) rfl nx ((Bd.str (name_fine nx)).mono (Nat.zero_le _) (by omega)) (p5.more (by omega))
            exact ⟨l, _, _, rfl, rfl, a1, a2, ⟨_, rfl, rfl, _, rfl, iteN (by decide +kernel) ⟨_, _, _, rfl, a3⟩⟩⟩
          · have k0 : k ≠ 0 := fun z => leaf_not e (hl z) 116 cm rfl
            obtain ⟨k', rfl⟩ : ∃ k', k = k' + 1 := ⟨k - 1, by omega⟩
            have pw : 4 ^ (k' + 1) = 4 * 4 ^ k' := by rw [Nat.pow_succ, Nat.mul_comm]
            refine ⟨_, rfl, rfl, _, rfl, iteN (by decide +kernel) ⟨_, rfl, rfl, _, rfl, iteN (by decide +kernel) ⟨_, rfl, rfl, _, rfl, iteN (by decide +kernel) ?_⟩⟩⟩
            refine ⟨_, rfl, rfl, _, rfl, iteP (by decide +kernel) ?_⟩
            refine ⟨_, rfl, Or.inl ⟨rfl, _, SqL.of I.at_⟩, .ref p, rfl, _, rfl, _, _, rfl, rfl, _, rfl, p, _, k', below, ?_, I.purse, by omega, b0, b1, by omega, fun x d H5 dx tx bx p5 S5 => ?_⟩
            · show [V.ref p, V.int (((k' + 1 : Nat) : Int) - 1), V.int below] = _
              rw [show (((k' + 1 : Nat) : Int) - 1) = (k' : Int) by omega]
            obtain ⟨a1, a2, a3⟩ := I.grow lp lH elen hc S5 dx (tm_flat d tx) tx (bx.mono (Nat.le_refl _) (by omega)) (p5.more (by omega))
            exact ⟨l, _, _, rfl, rfl, a1, a2, _, _, _, rfl, a3⟩
        · rintro σ H4 ⟨xs, ds, lt, rfl, I⟩
          have I2 := I.tst
          have sz : (⟨e.2.toArray⟩ : Str).cps.size = e.2.length := by simp
          rw [sz, List.take_length] at I2
          refine ⟨_, rfl, Or.inl ⟨l, _, rfl, SqL.of I.at_, fun z hz => ?_⟩⟩
          have S6 : Same (hid p H4) (hid p (upd H4 z (.tup (.str e.1 :: xs)))) := Same.less (Same.new hz)
          have zp : z ≠ p := fun y => by
            obtain ⟨_, _, _, w, _⟩ := I.purse
            rw [y, w] at hz
            cases hz
          have lenb : ds.length ≤ 3 := by
            rw [I.len, sz]
            exact elen
          have bl : (⟨e.2.toArray⟩ : Str).cps.size * (250 * 4 ^ k + 2) ≤ 3 * (250 * 4 ^ k + 2) := Nat.mul_le_mul_right _ (by rw [sz]; exact elen)
          have cl : (⟨e.2.toArray⟩ : Str).cps.size * (10 * 4 ^ k) ≤ 3 * (10 * 4 ^ k) := Nat.mul_le_mul_right _ (by rw [sz]; exact elen)
          refine go _ (.tuple (.str e.1 :: ds)) _ (.tup (by rw [hid_ne zp, upd_same]) (.cons (.str _) (DnAll.mono (fun b o y => S6 _ _ (hid_sub _ _ y)) I.all))) (built he I2) ?_ ((I.purse.mono (Same.new hz)).more (by omega)) (I.same.trans S6)
          refine (Bd.tup (BdAll.cons (b := 220) ?_ I.bd)).mono (Nat.le_refl _) (by omega)
          exact (Bd.str (by
            have : ∀ e ∈ leaves ++ parted, fine (.str e.1) = true := by decide +kernel
            exact this e he)).mono (Nat.zero_le _) (Nat.le_refl _)
end
end KP
set_option Elab.async false
set_option linter.unusedVariables false
set_option maxRecDepth 100000
set_option maxHeartbeats 2000000
namespace KP
open PySem PySem.Spec PyProof.Rows L2 KA
/-! ### what evaluates to data, while all that stands (but the purse at p, which isn't touched) stays -/
def EvD (p : Addr) (te : TE) (σ : L2.St) (H : Hp) (d : PyData) : Prop := ∀ H1, Same H H1 → ∀ Q : VK, (∀ v H2, Same H1 H2 → Dn (hid p H2) v d → Q v H2) → te σ H1 Q
def EvDs (p : Addr) (ta : TA) (σ : L2.St) (H : Hp) (ds : List PyData) : Prop := ∀ H1, Same H H1 → ∀ Q : List V → Hp → Prop, (∀ vs H2, Same H1 H2 → DnAll (hid p H2) vs ds → Q vs H2) → ta σ H1 Q
def EvL (p : Addr) (te : TE) (σ : L2.St) (H : Hp) (ds : List PyData) : Prop := ∀ H1, Same H H1 → ∀ Q : VK, (∀ l xs H2, H1 l = none → l ≠ p → Same H1 H2 → H2 l = some (.lst xs) → DnAll (hid l (hid p H2)) xs ds → Q (.ref l) H2) → te σ H1 Q
section
variable {p : Addr} {σ : L2.St} {H : Hp} {te tb : TE} {ta : TA} {d : PyData} {ds es : List PyData} {v : V} {i : Nat}
theorem evd_c (h : ∀ H, Dn H v d) : EvD p (tC v) σ H d := fun H1 S Q q => q v H1 (Same.refl H1) (h _)
theorem evd_str {x : Str} : EvD p (tC (.str x)) σ H (.str x) := evd_c fun _ => .str x
theorem evd_int {z : Int} : EvD p (tC (.int z)) σ H (.int z) := evd_c fun _ => .int z
theorem evd_bl {b : Bool} : EvD p (tC (.bl b)) σ H (.bool b) := evd_c fun _ => .bl b
theorem evd_non : EvD p (tC .non) σ H .none := evd_c fun _ => .non
theorem evd_var (h : σ[i]? = some (some v)) (dn : Dn (hid p H) v d) : EvD p (tVar i) σ H d := fun H1 S Q q => ⟨v, h, q v H1 (Same.refl H1) (Dn.mono (Same.less S) dn)⟩
theorem evds_nil : EvDs p tNil σ H [] := fun H1 S Q q => q [] H1 (Same.refl H1) .nil
theorem evds_cons (h : EvD p te σ H d) (g : EvDs p ta σ H ds) : EvDs p (tCons te ta) σ H (d :: ds) := fun H1 S Q q =>
  h H1 S _ fun v H2 S2 dv => g H2 (S.trans S2) _ fun vs H3 S3 dvs => q (v :: vs) H3 (S2.trans S3) (.cons (Dn.mono (Same.less S3) dv) dvs)
theorem off {H1 : Hp} {o : HO} {q : Addr} (hp : H p = some o) (S : Same H H1) (n : H1 q = none) : q ≠ p := fun e => by
  rw [e, S _ _ hp] at n
  cases n
theorem evd_tup {o : HO} (hp : H p = some o) (g : EvDs p ta σ H ds) (len : ds.length ≤ 1000 := by simp) : EvD p (tTup ta) σ H (.tuple ds) := fun H1 S Q q =>
  g H1 S _ fun vs H2 S2 dv => ⟨by rw [dv.length]; exact Nat.le_trans len (by decide), fun a ha => by
    have ap := off hp (S.trans S2) ha
    have n : Same H2 (upd H2 a (.tup vs)) := Same.new ha
    exact q _ _ (S2.trans n) (.tup (by rw [hid_ne ap, upd_same]) (DnAll.mono (Same.less n) dv))⟩
theorem evl_lst {o : HO} (hp : H p = some o) (g : EvDs p ta σ H ds) (len : ds.length ≤ 1000 := by simp) : EvL p (tLst ta) σ H ds := fun H1 S Q q =>
  g H1 S _ fun vs H2 S2 dv => ⟨by rw [dv.length]; exact Nat.le_trans len (by decide), fun a ha => by
    have ap := off hp (S.trans S2) ha
    have n : Same H2 (upd H2 a (.lst vs)) := Same.new ha
    refine q a vs _ (S2.free ha) ap (S2.trans n) upd_same (DnAll.mono (fun b o e => ?_) dv)
    obtain ⟨n1, e1⟩ := hid_some e
    have nb : b ≠ a := ne_of_none e1 ha
    rw [hid_ne nb, hid_ne n1, upd_ne nb]
    exact e1⟩
theorem evd_lst {o : HO} (hp : H p = some o) (g : EvDs p ta σ H ds) (len : ds.length ≤ 1000 := by simp) : EvD p (tLst ta) σ H (.list ds) := fun H1 S Q q =>
  evl_lst hp g len H1 S Q fun l xs H2 n lp S2 e dv => q _ _ S2 (.lst (by rw [hid_ne lp]; exact e) (DnAll.mono (fun b o z => (hid_some z).2) dv))
end
theorem st_name {i : Nat} {v : V} {σ : L2.St} {H : Hp} {Q : L2.St → Hp → Prop} (h : Q (σ.set i (some v)) H) : gName i v σ H Q := h
theorem st_seq {t u : TS} {D : Ends} {σ : L2.St} {H : Hp} (h : t { D with nx := u D } σ H) : tSeq t u D σ H := h
theorem st_asg {te : TE} {g : TG} {D : Ends} {σ : L2.St} {H : Hp} (h : te σ H fun x H1 => g x σ H1 D.nx) : tAsg te g D σ H := h
theorem st_drop {te : TE} {D : Ends} {σ : L2.St} {H : Hp} (h : te σ H fun _ H1 => D.nx σ H1) : tDrop te D σ H := h
def spAny : Sp := fun vs H Q _ => ∃ (p : Addr) (n : Nat) (deep below : Int), vs = [.ref p, .int deep, .int below] ∧ Purse H p n ∧ 0 < deep ∧ deep ≤ 5 ∧ 0 < below ∧ below ≤ 1000 ∧ n + 20000 ≤ maxN ∧
  ∀ v d H', Dn (hid p H') v d → tm d = true → Bd 58 300000 d → Purse H' p (n + 20000) → Same (hid p H) (hid p H') → Q v H'
theorem pow4 {k : Nat} (h : k ≤ 4) : 4 ^ k ≤ 256 := Nat.le_trans (Nat.pow_le_pow_right (by decide) h) (by decide)
theorem kind_ok (h : Int) (h0 : 0 ≤ h) (h5 : h ≤ 5) : tm (.tuple [.str "kind", .int h]) = true ∧ Bd 1 300 (.tuple [.str "kind", .int h]) := by
  refine ⟨?_, (Bd.tup (BdAll.cons (Bd.str (x := "kind") (by decide +kernel)) (BdAll.one (Bd.int (i := h) (by omega))))).mono (Nat.le_refl _) (by decide)⟩
  rw [tm_leaf (by decide +kernel)]
  show (decide (0 ≤ h) && decide (h ≤ 5)) = true
  rw [decide_eq_true h0, decide_eq_true h5]
  rfl
theorem at_ok : tm (.tuple [.str "at", .int 0]) = true ∧ Bd 1 300 (.tuple [.str "at", .int 0]) := by
  refine ⟨?_, (Bd.tup (BdAll.cons (Bd.str (x := "at") (by decide +kernel)) (BdAll.one (Bd.int (i := 0) (by decide))))).mono (Nat.le_refl _) (by decide)⟩
  rw [tm_leaf (by decide +kernel)]
  rfl
theorem wrap {w : Str} {a b : PyData} {dp sz : Nat} (hw : parts w = some 2) (fw : fine (.str w) = true) (ha : tm a = true) (hb : tm b = true) (ba : Bd dp sz a) (bb : Bd dp 300 b) : tm (.tuple [.str w, a, b]) = true ∧ Bd (dp + 1) (sz + 600) (.tuple [.str w, a, b]) := by
  refine ⟨?_, (Bd.tup (BdAll.cons ((Bd.str fw).mono (Nat.zero_le _) (Nat.le_refl _)) (BdAll.cons ba (BdAll.one bb)))).mono (Nat.le_refl _) (by omega)⟩
  rw [tm_parts hw]
  simp only [tmAll, ha, hb]
  rfl
theorem wrap' {w : Str} {a b : PyData} {dp sz : Nat} (hw : parts w = some 2) (fw : fine (.str w) = true) (ha : tm a = true) (hb : tm b = true) (ba : Bd dp 300 a) (bb : Bd dp sz b) : tm (.tuple [.str w, a, b]) = true ∧ Bd (dp + 1) (sz + 600) (.tuple [.str w, a, b]) := by
  refine ⟨?_, (Bd.tup (BdAll.cons ((Bd.str fw).mono (Nat.zero_le _) (Nat.le_refl _)) (BdAll.cons ba (BdAll.one bb)))).mono (Nat.le_refl _) (by omega)⟩
  rw [tm_parts hw]
  simp only [tmAll, ha, hb]
  rfl
section
variable {P : Program} {w : World} {K : PySem.W.Frag} {mg : Str → Option Value} {base : Heap}
theorem scAny : FnScope ["_law_purse_here", "_law_deep", "_law_below", "_law_found", "_law_turn", "_law_few"] ["_law_purse_here", "_law_deep", "_law_below"] (defScope sAny) := ⟨rfl, rfl, rfl, by decide +kernel, rfl, by decide +kernel, by decide +kernel⟩
theorem ok_any {f : Addr} {fd : FuncData} (D : Dfn K mg "_law_any" sAny f fd ["_law_purse_here", "_law_deep", "_law_below"]) (T : Txt K w mg) (CT : C8.Cal P w K mg base 1 "_law_take" spTake []) (CM : C8.Cal P w K mg base 8 "_law_term" (spTm 5) []) :
    FnOk P w K mg base CX0 9 f fd ["_law_purse_here", "_law_deep", "_law_below"] spAny := by
  refine D.fn.ok (k := 8) scAny (fun vs H Q E h => ?_) (fun cdv A outer s H vs Q E hr h => ?_)
  · obtain ⟨p, n, k, b, rfl, _⟩ := h
    rfl
  · obtain ⟨p, n, deep, below, rfl, hp, d0, d5, b0, b1, hn, go⟩ := h
    refine ⟨_, pss_cons (ps_if (pt_cmpR op_gt (C8.pe_c CT hr (by decide) rfl (pa_cons (pv 0) (pa_cons pe_int pa_nil))) pe_int (nomark _))
        (pss_one (ps_ret (C8.pe_c CM hr (by decide) rfl (pa_cons (pv 0) (pa_cons (C8.pe_c CT hr (by decide) rfl (pa_cons (pv 0) (pa_cons (pv 1) pa_nil))) (pa_cons (pv 2) pa_nil)))))) pss_nil)
      (pss_cons (ps_set (i := 3) scAny.nd rfl (Or.inl rfl) (C8.pe_c CM hr (by decide) rfl (pa_cons (pv 0) (pa_cons (C8.pe_c CT hr (by decide) rfl (pa_cons (pv 0) (pa_cons pe_int pa_nil))) (pa_cons (pv 2) pa_nil)))))
      (pss_cons (ps_for PassesOwn.never rfl (pi_range1 (by rfl) T.range (pa_cons (C8.pe_c CT hr (by decide) rfl (pa_cons (pv 0) (pa_cons pe_int pa_nil))) pa_nil)) (pg_name (i := 4) scAny.nd rfl (Or.inl rfl))
        (pss_cons (ps_set (i := 5) scAny.nd rfl (Or.inl rfl) (pe_lst (pa_cons (pe_tup (pa_cons pe_str (pa_cons (pe_tup (pa_cons pe_str (pa_cons pe_int pa_nil))) (pa_cons (pv 3) pa_nil))))
            (pa_cons (pe_tup (pa_cons pe_str (pa_cons (pe_tup (pa_cons pe_str (pa_cons pe_int pa_nil))) (pa_cons (pv 3) pa_nil)))) (pa_cons (pe_tup (pa_cons pe_str (pa_cons (pv 3) (pa_cons (pe_tup (pa_cons pe_str (pa_cons pe_int pa_nil))) pa_nil)))) pa_nil)))))
        (pss_cons (ps_expr (pe_bm PySem.F.plainAttrs_list PySem.F.slot_list_append PySem.F.type_list_append mt_append (pv 5) (pa_cons (pe_tup (pa_cons pe_str (pa_cons (pe_tup (pa_cons pe_str (pa_cons pe_int pa_nil))) (pa_cons (pv 3) pa_nil)))) pa_nil)))
        (pss_one (ps_set (i := 3) scAny.nd rfl (Or.inl rfl) (pe_ix ix_list (pv 5) (C8.pe_c CT hr (by decide) rfl (pa_cons (pv 0) (pa_cons pe_int pa_nil))) (fun _ _ => rfl)))))))
      (pss_one (ps_ret (pv 3))))), ?_⟩
    refine ⟨.ref p, rfl, p, n, 4, rfl, hp, by omega, by decide, by decide, fun r H1 r0 r1 p1 S1 => ?_⟩
    refine ⟨_, _, rfl, rfl, _, rfl, ?_⟩
    refine ite2 (fun _ => ?_) (fun _ => ?_)
    · refine ⟨.ref p, rfl, .ref p, rfl, .int deep, rfl, p, n + 1, deep, rfl, p1, by omega, d0, by omega, fun t H2 t0 t1 p2 S2 => ?_⟩
      obtain ⟨k, rfl⟩ : ∃ k : Nat, t = (k : Int) := ⟨t.toNat, by omega⟩
      have k4 := pow4 (k := k) (by omega)
      refine ⟨_, rfl, p, _, k, below, rfl, p2, by omega, b0, b1, by omega, fun v d H3 dv tv bv p3 S3 => ?_⟩
      exact go v d H3 dv tv (bv.mono (by omega) (by omega)) (p3.more (by omega)) ((S1.trans S2).trans S3)
    · refine ⟨.ref p, rfl, .ref p, rfl, p, n + 1, 4, rfl, p1, by omega, by decide, by decide, fun t H2 t0 t1 p2 S2 => ?_⟩
      obtain ⟨k, rfl⟩ : ∃ k : Nat, t = (k : Int) := ⟨t.toNat, by omega⟩
      have k4 := pow4 (k := k) (by omega)
      refine ⟨_, rfl, p, _, k, below, rfl, p2, by omega, b0, b1, by omega, fun v d H3 dv tv bv p3 S3 => ?_⟩
      have S03 := (S1.trans S2).trans S3
      refine ⟨.ref p, rfl, p, _, 53, rfl, p3, by omega, by decide, by decide, fun m H4 m0 m1 p4 S4 => ?_⟩
      have p4 : Purse H4 p (n + 15000) := p4.more (by omega)
      refine ⟨m, rfl, by omega, by omega, for_range (lo := 0) (n := m.toNat) (fun i σ H' => ∃ v d lt few, σ = [some (.ref p), some (.int deep), some (.int below), some v, lt, few] ∧ Dn (hid p H') v d ∧ tm d = true ∧ Bd (5 + i) (256000 + 600 * i) d ∧ Purse H' p (n + 15000 + i) ∧ Same (hid p H) (hid p H'))
        ⟨v, d, none, none, rfl, Dn.mono S4 dv, tv, bv.mono (by omega) (by omega), p4, S03.trans S4⟩ ?_ ?_⟩
      · rintro i σ H5 hi ⟨v, d, lt, few, rfl, dv, tv, bv, p5, S5⟩
        obtain ⟨pa, pb, pc, pe, pr⟩ := id p5
        have kd : ∀ j : Int, EvDs p (tCons (tC (.str "kind")) (tCons (tC (.int j)) tNil)) [some (.ref p), some (.int deep), some (.int below), some v, some (.int (0 + (i : Int))), few] H5 [.str "kind", .int j] := fun j => evds_cons evd_str (evds_cons evd_int evds_nil)
        have fv : EvD p (tVar 3) [some (.ref p), some (.int deep), some (.int below), some v, some (.int (0 + (i : Int))), few] H5 d := evd_var rfl dv
        have E3 := evl_lst (p := p) (H := H5) pe (evds_cons (evd_tup pe (evds_cons (evd_str (x := "app")) (evds_cons (evd_tup pe (kd 0)) (evds_cons fv evds_nil))))
          (evds_cons (evd_tup pe (evds_cons (evd_str (x := "fun")) (evds_cons (evd_tup pe (kd 1)) (evds_cons fv evds_nil))))
          (evds_cons (evd_tup pe (evds_cons (evd_str (x := "all")) (evds_cons fv (evds_cons (evd_tup pe (kd 2)) evds_nil)))) evds_nil)))
        refine st_name (st_seq (st_asg (E3 H5 (Same.refl H5) _ fun l xs H6 nl lp S6 el dl => ?_)))
        have fl : flatD d = true := tm_flat d tv
        have pe6 := S6 _ _ pe
        have fv6 : EvD p (tVar 3) [some (.ref p), some (.int deep), some (.int below), some v, some (.int (0 + (i : Int))), some (.ref l)] H6 d := evd_var rfl (Dn.mono (Same.less S6) dv)
        have E4 := evds_cons (evd_tup pe6 (evds_cons (evd_str (x := "all")) (evds_cons (evd_tup pe6 (evds_cons (evd_str (x := "at")) (evds_cons (evd_int (z := 0)) evds_nil))) (evds_cons fv6 evds_nil)))) evds_nil
        refine ⟨_, rfl, Or.inl ⟨rfl, _, SqL.of el⟩, E4 H6 (Same.refl H6) _ fun vs H7 S7 dvs => ?_⟩
        obtain ⟨x4, ys, rfl, dx4, dnil⟩ := cons_inv dvs
        obtain rfl := nil_inv dnil
        have el7 := S7 _ _ el
        have dl7 := DnAll.mono (Same.less (Same.less S7)) dl
        have lx := dl.length
        refine ⟨l, xs, x4, rfl, rfl, el7, ?_, ?_⟩
        · rw [lx]
          show 3 < sizeLine
          decide
        have Sl : Same (hid l (hid p H7)) (hid l (hid p (upd H7 l (.lst (xs ++ [x4]))))) := fun b o z => by
          obtain ⟨n1, z1⟩ := hid_some z
          obtain ⟨n2, z2⟩ := hid_some z1
          rw [hid_ne n1, hid_ne n2, upd_ne n1]
          exact z2
        have dx4' : Dn (hid l (hid p H7)) x4 (.tuple [.str "all", .tuple [.str "at", .int 0], d]) := flat_off (by rw [hid_ne lp]; exact el7) dx4 (by simp only [flatD, flatAll, fl, Bool.and_self])
        have dall := DnAll.mono Sl (dl7.snoc dx4')
        have e8 : upd H7 l (.lst (xs ++ [x4])) l = some (.lst (xs ++ [x4])) := upd_same
        have p8 : Purse (upd H7 l (.lst (xs ++ [x4]))) p (n + 15000 + i) := by
          refine ⟨pa, pb, pc, ?_, pr⟩
          rw [upd_ne lp.symm]
          exact S7 _ _ pe6
        have S8 : Same (hid p H5) (hid p (upd H7 l (.lst (xs ++ [x4])))) := Same.hidMut (Same.less (S6.trans S7)) (hid_none nl)
        generalize upd H7 l (.lst (xs ++ [x4])) = H8 at dall e8 p8 S8
        refine ⟨.ref l, rfl, .ref p, rfl, p, _, 4, rfl, p8, by omega, by decide, by decide, fun r H9 r0 r1 p9 S9 => ?_⟩
        obtain ⟨j, rfl⟩ : ∃ j : Nat, r = (j : Int) := ⟨r.toNat, by omega⟩
        have tall : ∀ g ∈ [PyData.tuple [.str "app", .tuple [.str "kind", .int 0], d], .tuple [.str "fun", .tuple [.str "kind", .int 1], d], .tuple [.str "all", d, .tuple [.str "kind", .int 2]], .tuple [.str "all", .tuple [.str "at", .int 0], d]],
            tm g = true ∧ Bd (5 + (i + 1)) (256000 + 600 * (i + 1)) g := by
          have K0 := kind_ok 0 (by decide) (by decide)
          have K1 := kind_ok 1 (by decide) (by decide)
          have K2 := kind_ok 2 (by decide) (by decide)
          intro g hg
          simp only [List.mem_cons, List.not_mem_nil, or_false] at hg
          rcases hg with rfl | rfl | rfl | rfl
          · have := wrap' (w := "app") (by decide +kernel) (by decide +kernel) K0.1 tv (K0.2.mono (by omega) (Nat.le_refl _)) bv
            exact ⟨this.1, this.2.mono (by omega) (by omega)⟩
          · have := wrap' (w := "fun") (by decide +kernel) (by decide +kernel) K1.1 tv (K1.2.mono (by omega) (Nat.le_refl _)) bv
            exact ⟨this.1, this.2.mono (by omega) (by omega)⟩
          · have := wrap (w := "all") (by decide +kernel) (by decide +kernel) tv K2.1 bv (K2.2.mono (by omega) (Nat.le_refl _))
            exact ⟨this.1, this.2.mono (by omega) (by omega)⟩
          · have := wrap' (w := "all") (by decide +kernel) (by decide +kernel) at_ok.1 tv (at_ok.2.mono (by omega) (Nat.le_refl _)) bv
            exact ⟨this.1, this.2.mono (by omega) (by omega)⟩
        have len4 : (xs ++ [x4]).length = 4 := by rw [List.length_append, lx]; rfl
        have jl : j < (xs ++ [x4]).length := by rw [len4]; omega
        have hj := List.getElem?_eq_getElem jl
        obtain ⟨g, hg, dg⟩ := dall.at hj
        obtain ⟨tg, bg⟩ := tall g (List.mem_of_getElem? hg)
        refine ⟨l, _, _, _, rfl, rfl, SqL.of (hid_sub _ _ (S9 _ _ (by rw [hid_ne lp]; exact e8))), at_of (j := j) rfl hj, ?_⟩
        exact ⟨_, g, _, _, rfl, Dn.mono S9 (Dn.mono hid_sub dg), tg, bg, p9, (S5.trans S8).trans S9⟩
      · rintro σ H5 ⟨v, d, lt, few, rfl, dv, tv, bv, p5, S5⟩
        exact ⟨v, rfl, go v d H5 dv tv (bv.mono (by omega) (by omega)) (p5.more (by omega)) S5⟩
end
end KP
set_option Elab.async false
set_option linter.unusedVariables false
set_option maxRecDepth 100000
set_option maxHeartbeats 2000000
namespace KP
open PySem PySem.Spec PyProof.Rows L2 KA
theorem no_split : Txt.split (Str.ofString "all fun same self put") (Str.ofString " ") = noNames := by decide +kernel
theorem lt_one (a b : Nat) : decide (([a] : List Nat) < [b]) = decide (a < b) := by
  by_cases h : a < b
  · rw [decide_eq_true h]
    exact decide_eq_true (List.Lex.rel h)
  · rw [decide_eq_false h]
    refine decide_eq_false fun z => ?_
    cases z with
    | rel r => exact h r
    | cons r => cases r
theorem empty_all (f : Nat → Bool) : ∀ l : List Nat, (l.filter fun c => !f c).isEmpty = l.all f
  | [] => rfl
  | c :: l => by
    cases h : f c with
    | true => simp [h, empty_all f l]
    | false => simp [h]
section
variable {P : Program} {w : World} {K : PySem.W.Frag} {mg : Str → Option Value} {base : Heap}
theorem scLWhole : FnScope ["_law_thing", "_law_low", "_law_high"] ["_law_thing", "_law_low", "_law_high"] (defScope sLWhole) := ⟨rfl, rfl, rfl, by decide +kernel, rfl, by decide +kernel, by decide +kernel⟩
theorem ok_lwhole {f : Addr} {fd : FuncData} (D : Dfn K mg "_law_is_whole" sLWhole f fd ["_law_thing", "_law_low", "_law_high"]) (T : Txt K w mg) : FnOk P w K mg base CX0 1 f fd ["_law_thing", "_law_low", "_law_high"] spWhole := by
  refine D.fn.ok scLWhole (fun vs H Q E h => ?_) (fun cdv A outer s H vs Q E hr h => ?_)
  · obtain ⟨v, d, lo, hi, rfl, _⟩ := h
    rfl
  · obtain ⟨v, d, lo, hi, rfl, hd, k⟩ := h
    refine ⟨_, pss_one (ps_ret (pe_and (pe_isD is_int (pv 0) T.isi T.int (by decide +kernel)) (pe_and (pe_not (pe_isD is_bool (pv 0) T.isi T.bool (by decide +kernel))) (pe_one (pe_chain op_le op_le (pv 1) (pv 0) (pv 2)))))), ?_⟩
    have k0 := k H (Same.refl H)
    refine ⟨v, rfl, v, d, rfl, hd, _, rfl, ?_⟩
    cases hd with
    | int i =>
      refine iteT ⟨_, rfl, .int i, _, rfl, .int i, _, rfl, _, rfl, iteT ⟨_, rfl, _, rfl, lo, i, rfl, rfl, _, rfl, ?_⟩⟩
      refine ite2 (fun h => ?_) (fun h => ?_)
      · refine ⟨_, rfl, i, hi, rfl, rfl, ?_⟩
        have e : wholeB lo hi (.int i) = decide (i ≤ hi) := by
          show (decide (lo ≤ i) && decide (i ≤ hi)) = _
          rw [show decide (lo ≤ i) = true from h, Bool.true_and]
        rw [e] at k0
        exact k0
      · have e : wholeB lo hi (.int i) = false := by
          show (decide (lo ≤ i) && decide (i ≤ hi)) = _
          rw [Bool.eq_false_iff.mpr h, Bool.false_and]
        rw [e] at k0
        exact k0
    | bl b => exact iteT ⟨_, rfl, .bl b, _, rfl, .bl b, _, rfl, _, rfl, iteF k0⟩
    | non => exact iteF k0
    | str x => exact iteF k0
    | lst _ _ => exact iteF k0
    | tup _ _ => exact iteF k0
    | dic _ _ _ => exact iteF k0
theorem scLName : FnScope ["_law_thing", "_law_sign"] ["_law_thing"] (defScope sLName) := ⟨rfl, rfl, rfl, by decide +kernel, rfl, by decide +kernel, by decide +kernel⟩
theorem ok_lname {f : Addr} {fd : FuncData} (D : Dfn K mg "_law_is_name" sLName f fd ["_law_thing"]) (T : Txt K w mg) : FnOk P w K mg base CX0 1 f fd ["_law_thing"] (sp1 (fun d => fine d = true) nameB) := by
  refine D.fn.ok scLName (fun vs H Q E h => ?_) (fun cdv A outer s H vs Q E hr h => ?_)
  · obtain ⟨v, d, rfl, _⟩ := h
    rfl
  · obtain ⟨v, d, rfl, hd, hf, k⟩ := h
    refine ⟨_, pss_cons (ps_if (PW.pt (pw_or (pt_not (pt_val (pe_isD is_str (pv 0) T.isi T.str (by decide +kernel)))) (pw_or (pt_not (pt_chain op_lt op_lt pe_int (pe_callB call_len_str (by rfl) T.len PySem.boot_len (pa_cons (pv 0) pa_nil)) pe_int))
          (pw_or1 (pt_cmpR op_in_seq (pv 0) (pe_split pe_str pe_str) rfl))))) (pss_one (ps_ret pe_bl)) pss_nil)
      (pss_one (ps_ret (pe_cmpR (op_eqE (hu_of hr)) (pe_lc (own := [("_law_sign", 1)]) (g := gName 1) rfl scLName.nd (pi_str (pv 0)) (blkOk_by (N := ["_law_thing", "_law_sign"]) (sc := defScope sLName) (by decide +kernel))
          (fun _ _ _ _ _ => pg_name (i := 1) scLName.nd rfl (Or.inl rfl)) (fun _ _ _ _ _ => pts_one (pt_not (pt_chain op_le_str op_le_str pe_str (pv 1) pe_str))) (fun _ _ _ _ _ => pv 1)) (pe_lst pa_nil) (nomark _)))), ?_⟩
    have k0 := k H (Same.refl H)
    refine ⟨v, rfl, v, d, rfl, hd, _, rfl, ?_⟩
    cases hd with
    | str x =>
      have fx : x.length ≤ 20 := by
        have : x.length ≤ 20 ∧ (x.cps.toList.all fun c => decide (c < 128)) = true := by simpa [fine] using hf
        exact this.1
      have shut : (decide (1 ≤ x.length) && decide (x.length ≤ 8)) = false → nameB (.str x) = false := fun e => by
        show (!(noNames.any fun y => y == x) && (decide (1 ≤ x.length) && decide (x.length ≤ 8) && x.cps.toList.all letterB)) = false
        rw [e, Bool.false_and, Bool.and_false]
      refine iteF ⟨.str x, rfl, x, rfl, (by show x.length ≤ sizeLine; exact Nat.le_trans fx (by decide)), 0, _, rfl, rfl, _, rfl, ?_⟩
      refine ite2 (fun h1 => ?_) (fun h1 => ?_)
      · have h1 : decide ((0 : Int) < (x.length : Int)) = true := h1
        refine ⟨_, _, rfl, rfl, _, rfl, ?_⟩
        have h1' := of_decide_eq_true h1
        cases h2 : decide ((x.length : Int) < 9) with
        | false =>
          have h2' := of_decide_eq_false h2
          refine iteT ?_
          rw [shut (by rw [decide_eq_false (by omega : ¬ x.length ≤ 8), Bool.and_false])] at k0
          exact k0
        | true =>
          have h2' := of_decide_eq_true h2
          refine iteF ⟨.str x, rfl, ⟨_, rfl⟩, _, _, rfl, rfl, by decide +kernel, by decide +kernel, fun q hq => ⟨q, _, rfl, Or.inl (SqL.of upd_same), rfl, ?_, _, rfl, ?_⟩⟩
          · rw [no_split]
            rfl
          · rw [no_split]
            have sN : Same H (upd H q (.lst (noNames.map V.str))) := Same.new hq
            have eN : inV (.str x) (noNames.map V.str) = noNames.any fun y => y == x := by
              unfold inV
              rw [List.any_map]
              rfl
            refine ite2 (fun h => ?_) (fun h => ?_)
            · have h : inV (.str x) (noNames.map V.str) = true := h
              have e : nameB (.str x) = false := by
                show (!(noNames.any fun y => y == x) && _) = false
                rw [← eN, h]
                rfl
              have k' := k _ sN
              rw [e] at k'
              exact k'
            · have h : inV (.str x) (noNames.map V.str) = false := Bool.eq_false_iff.mpr h
              have e : nameB (.str x) = x.cps.toList.all letterB := by
                show (!(noNames.any fun y => y == x) && (decide (1 ≤ x.length) && decide (x.length ≤ 8) && x.cps.toList.all letterB)) = _
                rw [← eN, h, decide_eq_true (by omega : 1 ≤ x.length), decide_eq_true (by omega : x.length ≤ 8)]
                rfl
              rw [e] at k
              generalize upd H q (.lst (noNames.map V.str)) = H1 at sN
              refine ⟨.str x, rfl, x, rfl, fun D hD => lc_str (fun i H' => H' D = some (.lst (((x.cps.toList.take i).filter fun c => !letterB c).map fun c => V.str ⟨#[c]⟩)) ∧ Same H1 H') ⟨upd_same, Same.new hD⟩ ?_ ?_⟩
              · rintro i c H' hc ⟨hl, S⟩
                refine ⟨rfl, ?_⟩
                have e1 : (!decide ((⟨#[c]⟩ : Str).cps.toList < (Str.ofString "a").cps.toList)) = decide (97 ≤ c) := by
                  rw [show decide ((⟨#[c]⟩ : Str).cps.toList < (Str.ofString "a").cps.toList) = decide (c < 97) from lt_one c 97]
                  by_cases z : c < 97
                  · rw [decide_eq_true z, decide_eq_false (by omega : ¬ 97 ≤ c)]
                    rfl
                  · rw [decide_eq_false z, decide_eq_true (by omega : 97 ≤ c)]
                    rfl
                have e2 : (!decide ((Str.ofString "z").cps.toList < (⟨#[c]⟩ : Str).cps.toList)) = decide (c ≤ 122) := by
                  rw [show decide ((Str.ofString "z").cps.toList < (⟨#[c]⟩ : Str).cps.toList) = decide (122 < c) from lt_one 122 c]
                  by_cases z : 122 < c
                  · rw [decide_eq_true z, decide_eq_false (by omega : ¬ c ≤ 122)]
                    rfl
                  · rw [decide_eq_false z, decide_eq_true (by omega : c ≤ 122)]
                    rfl
                have hc' : x.cps.toList[i]? = some c := by simpa using hc
                have keep : letterB c = false → ∃ acc, H' D = some (.lst acc) ∧ acc.length < sizeLine ∧ (upd H' D (.lst (acc ++ [.str ⟨#[c]⟩]))) D = some (.lst (((x.cps.toList.take (i + 1)).filter fun c => !letterB c).map fun c => V.str ⟨#[c]⟩)) ∧ Same H1 (upd H' D (.lst (acc ++ [.str ⟨#[c]⟩]))) := fun e => by
                  refine ⟨_, hl, ?_, ?_, Same.mut S hD⟩
                  · rw [List.length_map]
                    have l1 := List.length_filter_le (fun c => !letterB c) (x.cps.toList.take i)
                    rw [List.length_take] at l1
                    have l2 : x.cps.toList.length ≤ 20 := fx
                    exact Nat.lt_of_le_of_lt (by omega : _ ≤ 20) (by decide)
                  · rw [upd_same, take_snoc hc', List.filter_append, List.map_append]
                    simp [e]
                refine ⟨_, rfl, _, _, rfl, rfl, _, rfl, ?_⟩
                rw [e1]
                refine ite2 (fun z1 => ?_) (fun z1 => ?_)
                · refine ⟨_, _, rfl, rfl, _, rfl, ?_⟩
                  rw [e2]
                  cases z2 : decide (c ≤ 122) with
                  | true =>
                    refine iteF ⟨?_, S⟩
                    have e : letterB c = true := by
                      unfold letterB
                      rw [show decide (97 ≤ c) = true from z1, z2]
                      rfl
                    rw [hl, take_snoc hc', List.filter_append]
                    simp [e]
                  | false =>
                    refine iteT ⟨_, rfl, keep ?_⟩
                    unfold letterB
                    rw [z2, Bool.and_false]
                · refine ⟨_, rfl, iteT ⟨_, rfl, keep ?_⟩⟩
                  unfold letterB
                  rw [Bool.eq_false_iff.mpr z1, Bool.false_and]
              · rintro H' ⟨hl, S⟩
                rw [List.take_of_length_le (by simp)] at hl
                refine ⟨by decide, fun b hb => ?_⟩
                have Db : D ≠ b := ne_of_none hl hb
                refine ⟨D, b, _, rfl, rfl, Or.inr ⟨(upd_ne Db).trans hl, upd_same⟩, ?_⟩
                have e3 : (((x.cps.toList.filter fun c => !letterB c).map fun c => V.str ⟨#[c]⟩)).isEmpty = x.cps.toList.all letterB := by
                  rw [List.isEmpty_map]
                  exact empty_all _ _
                rw [e3]
                exact k _ ((sN.trans S).trans (Same.new hb))
      · have h1 : ¬ decide ((0 : Int) < (x.length : Int)) = true := h1
        have h1' : ¬ (0 : Int) < (x.length : Int) := fun z => h1 (decide_eq_true z)
        refine ⟨_, rfl, iteT ?_⟩
        rw [shut (by rw [decide_eq_false (by omega : ¬ 1 ≤ x.length), Bool.false_and])] at k0
        exact k0
    | int i => exact iteT k0
    | bl b => exact iteT k0
    | non => exact iteT k0
    | lst _ _ => exact iteT k0
    | tup _ _ => exact iteT k0
    | dic _ _ _ => exact iteT k0
end
end KP
set_option Elab.async false
set_option linter.unusedVariables false
set_option maxRecDepth 100000
set_option maxHeartbeats 2000000
namespace KP
open PySem PySem.Spec PyProof.Rows L2 KA
/-! ### the other reading of what a term is -/
/-- the test that a letter stands for, with the other reading's bound -/
theorem tst_whole {d : PyData} (h : fine d = true) : wholeB 0 (10 ^ 31) d = cntB 0 d := by
  cases d with
  | int i =>
    have h' : -(10 ^ 31) ≤ i ∧ i ≤ 10 ^ 31 := by simpa [fine] using h
    show (decide (0 ≤ i) && decide (i ≤ 10 ^ 31)) = decide (0 ≤ i)
    rw [decide_eq_true h'.2, Bool.and_true]
  | _ => rfl
theorem built_iff {e : Str × List Nat} (he : e ∈ leaves ++ parted) : ∀ ds : List PyData, tm (.tuple (.str e.1 :: ds)) = tstAll e.2 ds := by
  intro ds
  rcases List.mem_append.mp he with he | he
  · rw [tm_leaf (leaf_none e he)]
    have he' : e = ((("at" : Str), [110]) : Str × List Nat) ∨ e = ((("kind" : Str), [104]) : Str × List Nat) ∨ e = ((("name" : Str), [119]) : Str × List Nat) ∨ e = ((("thing" : Str), [119]) : Str × List Nat) ∨ e = ((("maker" : Str), [119, 110]) : Str × List Nat) ∨ e = ((("eater" : Str), [119, 104]) : Str × List Nat) := by
      unfold leaves at he
      simpa only [List.mem_cons, List.not_mem_nil, or_false] using he
    have n1 : ∀ {wd : Str} {x : PyData}, leafB wd [x] = if wd = "at" then cntB 0 x else if wd = "kind" then wholeB 0 5 x else (decide (wd = "name") || decide (wd = "thing")) && nameB x := fun {_ _} => rfl
    have n2 : ∀ {wd : Str} {x y : PyData}, leafB wd [x, y] = (nameB x && (if wd = "maker" then cntB 0 y else decide (wd = "eater") && wholeB 0 5 y)) := fun {_ _ _} => rfl
    rcases he' with rfl | rfl | rfl | rfl | rfl | rfl
    · match ds with
      | [] => rfl
      | [x] => exact (Bool.and_true _).symm
      | [x, y] =>
        show (nameB x && false) = (cntB 0 x && false)
        rw [Bool.and_false, Bool.and_false]
      | x :: y :: z :: r => exact (Bool.and_false _).symm
    · match ds with
      | [] => rfl
      | [x] => exact (Bool.and_true _).symm
      | [x, y] =>
        show (nameB x && false) = (wholeB 0 5 x && false)
        rw [Bool.and_false, Bool.and_false]
      | x :: y :: z :: r => exact (Bool.and_false _).symm
    · match ds with
      | [] => rfl
      | [x] => exact (Bool.and_true _).symm
      | [x, y] =>
        show (nameB x && false) = (nameB x && false)
        rfl
      | x :: y :: z :: r => exact (Bool.and_false _).symm
    · match ds with
      | [] => rfl
      | [x] => exact (Bool.and_true _).symm
      | [x, y] =>
        show (nameB x && false) = (nameB x && false)
        rfl
      | x :: y :: z :: r => exact (Bool.and_false _).symm
    · match ds with
      | [] => rfl
      | [x] => exact (Bool.and_false _).symm
      | [x, y] =>
        show (nameB x && cntB 0 y) = (nameB x && (cntB 0 y && true))
        rw [Bool.and_true]
      | x :: y :: z :: r =>
        show false = (nameB x && (cntB 0 y && false))
        rw [Bool.and_false, Bool.and_false]
    · match ds with
      | [] => rfl
      | [x] => exact (Bool.and_false _).symm
      | [x, y] =>
        show (nameB x && (true && wholeB 0 5 y)) = (nameB x && (wholeB 0 5 y && true))
        rw [Bool.and_true, Bool.true_and]
      | x :: y :: z :: r =>
        show false = (nameB x && (wholeB 0 5 y && false))
        rw [Bool.and_false, Bool.and_false]
  · obtain ⟨n, hn, hr, hp⟩ := parted_rep e he
    rw [tm_parts hp, hr]
    clear hr hp he hn
    induction n generalizing ds with
    | zero =>
      cases ds with
      | nil => rfl
      | cons d ds => rfl
    | succ n ih =>
      cases ds with
      | nil => rfl
      | cons d ds =>
        rw [List.replicate_succ]
        show (decide ((d :: ds).length = n + 1) && (tm d && tmAll ds)) = (tm d && tstAll (List.replicate n 116) ds)
        rw [← ih ds]
        have e1 : decide ((d :: ds).length = n + 1) = decide (ds.length = n) := by
          apply decide_eq_decide.mpr
          rw [List.length_cons]
          omega
        rw [e1]
        cases decide (ds.length = n) <;> cases tm d <;> rfl
theorem tst_len : ∀ {cs : List Nat} {ds : List PyData}, tstAll cs ds = true → cs.length = ds.length
  | [], [], _ => rfl
  | c :: cs, d :: ds, h => by
    have h : tst c d = true ∧ tstAll cs ds = true := by simpa only [tstAll, Bool.and_eq_true] using h
    rw [List.length_cons, List.length_cons, tst_len h.2]
  | [], _ :: _, h => by simp [tstAll] at h
  | _ :: _, [], h => by simp [tstAll] at h
theorem tst_fail : ∀ {cs : List Nat} {ds : List PyData} {i c : Nat} {d : PyData}, cs[i]? = some c → ds[i]? = some d → tst c d = false → tstAll cs ds = false
  | c :: cs, d :: ds, 0, _, _, h1, h2, h => by
    cases h1
    cases h2
    show (tst c d && tstAll cs ds) = false
    rw [h, Bool.false_and]
  | c :: cs, d :: ds, i + 1, _, _, h1, h2, h => by
    have := tst_fail (i := i) h1 h2 h
    show (tst c d && tstAll cs ds) = false
    rw [this, Bool.and_false]
  | [], _, _, _, _, h1, _, _ => by cases h1
  | _ :: _, [], _, _, _, _, h2, _ => by cases h2
theorem tst_snoc' {cs : List Nat} {ds : List PyData} {i c : Nat} {d : PyData} (h1 : cs[i]? = some c) (h2 : ds[i]? = some d) (h : tstAll (cs.take i) (ds.take i) = true) (t : tst c d = true) : tstAll (cs.take (i + 1)) (ds.take (i + 1)) = true := by
  rw [take_snoc h1, take_snoc h2]
  exact tstAll_snoc h t
theorem keys_all : ∀ kv ∈ formsK, ∃ e ∈ leaves ++ parted, kv.1 = Sum.inr e.1 := by decide +kernel
theorem form_none {wd : Str} (h : ∀ e ∈ leaves ++ parted, e.1 ≠ wd) : valV formsK (.inr wd) = none := by
  unfold valV
  rw [List.find?_eq_none.mpr]
  · rfl
  · intro kv hkv z
    obtain ⟨e, he, ek⟩ := keys_all kv hkv
    have := of_decide_eq_true z
    rw [ek] at this
    exact h e he (Sum.inr.inj this)
theorem words_all : ∀ y : Str, (parts y).isSome = true → ∃ e ∈ leaves ++ parted, e.1 = y := by
  intro y h
  unfold parts at h
  split at h
  · rename_i e; exact ⟨("all", [116, 116]), by decide +kernel, e.symm⟩
  · split at h
    · rename_i e; exact ⟨("fun", [116, 116]), by decide +kernel, e.symm⟩
    · split at h
      · rename_i e; exact ⟨("app", [116, 116]), by decide +kernel, e.symm⟩
      · split at h
        · rename_i e; exact ⟨("same", [116, 116, 116]), by decide +kernel, e.symm⟩
        · split at h
          · rename_i e; exact ⟨("self", [116, 116]), by decide +kernel, e.symm⟩
          · split at h
            · rename_i e; exact ⟨("put", [116, 116, 116]), by decide +kernel, e.symm⟩
            · cases h
theorem tm_none {wd : Str} {ds : List PyData} (h : ∀ e ∈ leaves ++ parted, e.1 ≠ wd) : tm (.tuple (.str wd :: ds)) = false := by
  cases hp : parts wd with
  | some n =>
    obtain ⟨e, he, ew⟩ := words_all wd (by rw [hp]; rfl)
    exact absurd ew (h e he)
  | none =>
    rw [tm_leaf hp]
    have a1 : ¬ wd = "at" := fun z => h ("at", [110]) (by decide +kernel) z.symm
    have a2 : ¬ wd = "kind" := fun z => h ("kind", [104]) (by decide +kernel) z.symm
    have a3 : ¬ wd = "name" := fun z => h ("name", [119]) (by decide +kernel) z.symm
    have a4 : ¬ wd = "thing" := fun z => h ("thing", [119]) (by decide +kernel) z.symm
    have a5 : ¬ wd = "maker" := fun z => h ("maker", [119, 110]) (by decide +kernel) z.symm
    have a6 : ¬ wd = "eater" := fun z => h ("eater", [119, 104]) (by decide +kernel) z.symm
    match ds with
    | [] => rfl
    | [x] =>
      show (if wd = "at" then cntB 0 x else if wd = "kind" then wholeB 0 5 x else (decide (wd = "name") || decide (wd = "thing")) && nameB x) = false
      rw [if_neg a1, if_neg a2, decide_eq_false a3, decide_eq_false a4]
      rfl
    | [x, y] =>
      show (nameB x && (if wd = "maker" then cntB 0 y else decide (wd = "eater") && wholeB 0 5 y)) = false
      rw [if_neg a5, decide_eq_false a6, Bool.false_and, Bool.and_false]
    | _ :: _ :: _ :: _ => rfl
theorem fine_at : ∀ {ds : List PyData} {i : Nat} {d : PyData}, fineAll ds = true → ds[i]? = some d → fine d = true
  | [], _, _, _, h => by cases h
  | e :: ds, 0, _, f, h => by
    cases h
    have : fine e = true ∧ fineAll ds = true := by simpa only [fineAll, Bool.and_eq_true] using f
    exact this.1
  | e :: ds, i + 1, _, f, h => by
    have : fine e = true ∧ fineAll ds = true := by simpa only [fineAll, Bool.and_eq_true] using f
    exact fine_at (i := i) this.2 h
theorem depth_at : ∀ {ds : List PyData} {i : Nat} {d : PyData}, ds[i]? = some d → d.depth ≤ PyData.depthAll ds
  | [], _, _, h => by cases h
  | e :: ds, 0, _, h => by
    cases h
    simp only [PyData.depthAll]
    exact Nat.le_max_left _ _
  | e :: ds, i + 1, d, h => by
    have := depth_at (ds := ds) (i := i) (d := d) h
    simp only [PyData.depthAll]
    omega
theorem nodes_at : ∀ {ds : List PyData} {i : Nat} {d : PyData}, ds[i]? = some d → nodes d ≤ nodesAll ds
  | [], _, _, h => by cases h
  | e :: ds, 0, _, h => by
    cases h
    simp only [nodesAll]
    omega
  | e :: ds, i + 1, d, h => by
    have := nodes_at (ds := ds) (i := i) (d := d) h
    simp only [nodesAll]
    omega
def okL (lim : Nat) (d : PyData) : Prop := fine d = true ∧ nodes d ≤ 1000000 ∧ d.depth < lim
section
variable {P : Program} {w : World} {K : PySem.W.Frag} {mg : Str → Option Value} {base : Heap}
abbrev nLT : List Str := ["_law_thing", "_law_form", "_law_letter", "_law_part"]
theorem scLTerm : FnScope nLT ["_law_thing"] (defScope sLTerm) := ⟨rfl, rfl, rfl, by decide +kernel, rfl, by decide +kernel, by decide +kernel⟩
theorem ok_lterm {f : Addr} {fd : FuncData} (D : Dfn K mg "_law_is_term" sLTerm f fd ["_law_thing"]) (T : Txt K w mg) (CF : C8.Cal P w K mg base 1 "_law_forms" spForms []) (CW : C8.Cal P w K mg base 1 "_law_is_whole" spWhole []) (CN : C8.Cal P w K mg base 1 "_law_is_name" (sp1 (fun d => fine d = true) nameB) []) :
    ∀ lim : Nat, FnOk P w K mg base CX0 (2 + lim) f fd ["_law_thing"] (sp1 (okL lim) tm)
  | 0 => ⟨fun vs H Q E h => by obtain ⟨v, d, rfl, _⟩ := h; rfl, fun A outer s H args us vs Q E hr e0 bt rv h => by obtain ⟨v, d, _, _, h0, _⟩ := h; exact absurd h0.2.2 (Nat.not_lt_zero _)⟩
  | lim + 1 => by
    have CM : C8.Cal P w K mg base (2 + lim) "_law_is_term" (sp1 (okL lim) tm) [] := D.cal (ok_lterm D T CF CW CN lim)
    refine D.fn.ok (k := 2 + lim) scLTerm (fun vs H Q E h => ?_) (fun cdv A outer s H vs Q E hr h => ?_)
    · obtain ⟨v, d, rfl, _⟩ := h
      rfl
    · obtain ⟨v, d, rfl, hd, ⟨hf, hn, hdp⟩, k⟩ := h
      have hu := hu_of hr
      refine ⟨_, pss_cons (ps_if (PW.pt (pw_or (pt_not (pt_val (pe_isD is_tup (pv 0) T.isi T.tuple (by decide +kernel)))) (pw_or (pt_cmpR (op_eqE hu) (pv 0) (pe_tup pa_nil) (nomark _))
            (pw_or (pt_not (pt_val (pe_isD is_str (pe_ix ix_tup (pv 0) pe_int (fun _ _ => rfl)) T.isi T.str (by decide +kernel)))) (pw_or1 (pt_cmp (pc_dnotin hu (pe_ix ix_tup (pv 0) pe_int (fun _ _ => rfl)) (pe_c0 CF hr (by omega) rfl)))))))) (pss_one (ps_ret pe_bl)) pss_nil)
        (pss_cons (ps_set (i := 1) scLTerm.nd rfl (Or.inl rfl) (pe_dget hu (pe_c0 CF hr (by omega) rfl) (pe_ix ix_tup (pv 0) pe_int (fun _ _ => rfl)) (fun _ _ => rfl)))
        (pss_cons (ps_if (pt_cmpR op_ne (pe_callB call_len_seq (by rfl) T.len PySem.boot_len (pa_cons (pv 0) pa_nil)) (pe_op op_add pe_int (pe_callB call_len_str (by rfl) T.len PySem.boot_len (pa_cons (pv 1) pa_nil))) (nomark _)) (pss_one (ps_ret pe_bl)) pss_nil)
        (pss_cons (ps_for PassesOwn.never rfl (KZ.pi_zipS (by rfl) T.zip (pa_cons (pv 1) (pa_cons (pe_slice sl_tupA (pv 0) (po_some pe_int) po_none) pa_nil))) (pg_tup rfl (pgs_cons (pg_name (i := 2) scLTerm.nd rfl (Or.inl rfl)) (pgs_cons (pg_name (i := 3) scLTerm.nd rfl (Or.inl rfl)) pgs_nil)))
          (pss_cons (ps_if (PW.pt (pw_or (PW.pt (pw_and (pt_cmpR op_eq (pv 2) pe_str (nomark _)) (pw_and1 (pt_not (pt_val (C8.pe_c CW hr (by omega) rfl (pa_cons (pv 3) (pa_cons pe_int (pa_cons (pe_op op_pow pe_int pe_int) pa_nil)))))))))
              (pw_or1 (PW.pt (pw_and (pt_cmpR op_eq (pv 2) pe_str (nomark _)) (pw_and1 (pt_not (pt_val (C8.pe_c CW hr (by omega) rfl (pa_cons (pv 3) (pa_cons pe_int (pa_cons pe_int pa_nil)))))))))))) (pss_one (ps_ret pe_bl)) pss_nil)
          (pss_one (ps_if (PW.pt (pw_or (PW.pt (pw_and (pt_cmpR op_eq (pv 2) pe_str (nomark _)) (pw_and1 (pt_not (pt_val (C8.pe_c CN hr (by omega) rfl (pa_cons (pv 3) pa_nil)))))))
              (pw_or1 (PW.pt (pw_and (pt_cmpR op_eq (pv 2) pe_str (nomark _)) (pw_and1 (pt_not (pt_val (C8.pe_c CM hr (by omega) rfl (pa_cons (pv 3) pa_nil)))))))))) (pss_one (ps_ret pe_bl)) pss_nil))))
        (pss_one (ps_ret pe_bl))))), ?_⟩
      have k0 := k H (Same.refl H)
      refine ⟨v, rfl, v, d, rfl, hd, _, rfl, ?_⟩
      cases hT : isTupD d with
      | false =>
        rw [isTup_false hT] at k0
        exact iteT k0
      | true =>
        obtain ⟨dt, rfl⟩ : ∃ dt, d = .tuple dt := by cases d <;> first | exact ⟨_, rfl⟩ | cases hT
        obtain ⟨a, zs, rfl, ha, dz⟩ := tup_inv hd
        refine iteF ⟨_, rfl, Nat.zero_le _, fun t0 n0 => ?_⟩
        have S0 : Same H (upd H t0 (.tup [])) := Same.new n0
        refine ⟨a, t0, zs, rfl, rfl, Or.inl ⟨S0 _ _ ha, upd_same⟩, _, rfl, ?_⟩
        generalize upd H t0 (.tup []) = H0 at S0
        cases dt with
        | nil =>
          obtain rfl := nil_inv dz
          have k' := k H0 S0
          rw [show tm (.tuple []) = false by simp [tm]] at k'
          exact iteT k'
        | cons d0 dr =>
          obtain ⟨z0, zs, rfl, h0, dz1⟩ := cons_inv dz
          have ha0 := S0 _ _ ha
          refine iteF ⟨_, rfl, a, _, 0, _, rfl, rfl, SqT.of ha0, at_of (j := 0) rfl rfl, z0, d0, rfl, Dn.mono S0 h0, _, rfl, ?_⟩
          cases hS : isStrD d0 with
          | false =>
            have k' := k H0 S0
            rw [isStr_false hS] at k'
            exact iteT k'
          | true =>
            obtain ⟨wd, rfl⟩ : ∃ wd, d0 = .str wd := by cases d0 <;> first | exact ⟨_, rfl⟩ | cases hS
            obtain rfl := str_inv h0
            refine iteF ⟨_, rfl, a, _, 0, _, rfl, rfl, SqT.of ha0, at_of (j := 0) rfl rfl, rfl, fun f1 H1 nf1 S1 e1 => ?_⟩
            refine ⟨f1, _, rfl, DGet.k (k := Sum.inr wd) e1, _, rfl, ?_⟩
            by_cases hw : ∃ e ∈ leaves ++ parted, e.1 = wd
            · obtain ⟨e, he, rfl⟩ := hw
              obtain ⟨ef, elen, echars⟩ := form_of e he
              rw [ef]
              have S01 := S0.trans S1
              have ha1 := S01 _ _ ha
              refine iteF ⟨rfl, fun f2 H2 nf2 S2 e2 => ?_⟩
              have S02 := S01.trans S2
              have ha2 := S02 _ _ ha
              refine ⟨_, rfl, a, _, 0, _, rfl, rfl, SqT.of ha2, at_of (j := 0) rfl rfl, f2, .str ⟨e.2.toArray⟩, rfl, ef ▸ (DGet.k (k := Sum.inr e.1) e2 : DGet H2 f2 (.str e.1) (valV formsK (Sum.inr e.1))), ?_⟩
              have el : decide (V.int ((((.str e.1 : V) :: zs).length : Nat) : Int) = (fun i j => V.int (i + j)) (1 : Int) (e.2.length : Int)) = decide (dr.length = e.2.length) := by
                have := dz1.length
                by_cases c : dr.length = e.2.length
                · rw [decide_eq_true c]
                  exact decide_eq_true (congrArg V.int (by rw [List.length_cons]; omega))
                · rw [decide_eq_false c]
                  refine decide_eq_false fun z => c ?_
                  have := V.int.inj z
                  rw [List.length_cons] at this
                  omega
              refine ⟨_, rfl, a, _, rfl, Or.inr (SqT.of ha2), .str ⟨e.2.toArray⟩, rfl, _, rfl, (by show e.2.length ≤ sizeLine; exact Nat.le_trans elen (by decide)), 1, (e.2.length : Int), rfl, rfl, rfl, _, rfl, ?_⟩
              rw [el]
              have ka : Same H H2 := S02
              cases hl2 : decide (dr.length = e.2.length) with
              | false =>
                refine iteT ?_
                have k' := k H2 S02
                rw [built_iff he dr] at k'
                cases ht : tstAll e.2 dr with
                | false => rw [ht] at k'; exact k'
                | true => exact absurd (tst_len ht).symm (of_decide_eq_false hl2)
              | true =>
                have hl2' := of_decide_eq_true hl2
                refine iteF ?_
                have e128 : (⟨e.2.toArray⟩ : Str).cps.all (· < 128) = true := by
                  rw [Array.all_eq_true_iff_forall_mem]
                  intro c hc
                  rcases echars c (by simpa using hc) with rfl | rfl | rfl | rfl <;> rfl
                have cut : cutV (.str e.1 :: zs) (some 1) none = zs := by
                  unfold cutV
                  rw [HT.sIx_none, show HT.sIx ((.str e.1 : V) :: zs).length 0 (some 1) = 1 from sIx1 zs.length]
                  rw [List.length_cons]
                  show List.take (zs.length + 1 - 1) zs = zs
                  rw [Nat.add_sub_cancel, List.take_length]
                have lz := dz1.length
                refine ⟨_, rfl, _, rfl, 1, rfl, a, _, rfl, SqT.of ha2, fun z => ?_, fun _ p hp' => ?_⟩
                · have := z.1
                  rw [show HT.sIx ((.str e.1 : V) :: zs).length 0 (some 1) = 1 from sIx1 zs.length] at this
                  omega
                · rw [cut]
                  have S3 : Same H2 (upd H2 p (.tup zs)) := Same.new hp'
                  have ep : upd H2 p (.tup zs) p = some (.tup zs) := upd_same
                  generalize upd H2 p (.tup zs) = H3 at S3 ep
                  have S03 := S02.trans S3
                  have fdr : fineAll dr = true := by
                    simp only [fine, fineAll, Bool.and_eq_true] at hf
                    exact hf.2
                  have ndr : nodesAll dr ≤ 1000000 := by
                    simp only [nodes, nodesAll] at hn
                    omega
                  have hdr : PyData.depthAll dr < lim := by
                    simp only [PyData.depth, PyData.depthAll] at hdp
                    omega
                  have no : ∀ {H' : Hp} {i c : Nat} {d : PyData}, Same H H' → e.2[i]? = some c → dr[i]? = some d → tst c d = false → Q (.bl false) H' := fun S hc hd z => by
                    have k' := k _ S
                    rw [built_iff he dr, tst_fail hc hd z] at k'
                    exact k'
                  refine ⟨⟨e.2.toArray⟩, p, zs, rfl, e128, ep, KZ.for_zipS (by show e.2.length = zs.length; omega) (fun i σ H' => ∃ l2 p2, σ = [some (.ref a), some (.str ⟨e.2.toArray⟩), l2, p2] ∧ Same H3 H' ∧ tstAll (e.2.take i) (dr.take i) = true) ⟨none, none, rfl, Same.refl _, rfl⟩ (fun i σ H' q => by obtain ⟨_, _, _, S, _⟩ := q; exact SqT.of (S _ _ ep)) ?_ ?_⟩
                  · rintro i c y T0 σ H4 hc hy ⟨l2, p2, rfl, S4, ht⟩ nT
                    have hc : e.2[i]? = some c := by simpa using hc
                    have cm : c ∈ e.2 := List.mem_of_getElem? hc
                    obtain ⟨dy, hdy, dny⟩ := dz1.at hy
                    have S5 : Same H3 (upd H4 T0 (.tup [.str ⟨#[c]⟩, y])) := S4.trans (Same.new nT)
                    refine ⟨T0, _, rfl, SqT.of upd_same, rfl, ?_⟩
                    generalize upd H4 T0 (.tup [.str ⟨#[c]⟩, y]) = H5 at S5
                    have S05 := S03.trans S5
                    have dn5 := Dn.mono S05 dny
                    have fy := fine_at fdr hdy
                    have ny := nodes_at hdy
                    have py := depth_at hdy
                    have fin : ∀ {H' : Hp}, Same H5 H' → tst c dy = true → ∃ l2 p2, [some (V.ref a), some (.str ⟨e.2.toArray⟩), some (.str ⟨#[c]⟩), some y] = [some (V.ref a), some (.str ⟨e.2.toArray⟩), l2, p2] ∧ Same H3 H' ∧ tstAll (e.2.take (i + 1)) (dr.take (i + 1)) = true := fun S z => ⟨_, _, rfl, S5.trans S, tst_snoc' hc hdy ht z⟩
                    have bad : ∀ {H' : Hp}, Same H5 H' → tst c dy = false → Q (.bl false) H' := fun S z => no (S05.trans S) hc hdy z
                    refine ⟨_, _, rfl, _, _, rfl, rfl, ?_⟩
                    rcases echars c cm with rfl | rfl | rfl | rfl
                    · refine ⟨_, rfl, rfl, _, rfl, iteP (by decide +kernel) ⟨_, rfl, 10, 31, rfl, rfl, ⟨by decide, by decide, by decide⟩, y, dy, 0, _, rfl, dn5, fun H6 S6 => ⟨_, rfl, ?_⟩⟩⟩
                      rw [show wholeB 0 ((10 : Int) ^ (31 : Int).toNat) dy = tst 110 dy from tst_whole fy]
                      cases z : tst 110 dy with
                      | false => exact iteT (iteT (bad S6 z))
                      | true =>
                        refine iteF ⟨_, rfl, rfl, _, rfl, iteN (by decide +kernel) ?_⟩
                        refine iteF ⟨_, rfl, rfl, _, rfl, iteN (by decide +kernel) ⟨_, rfl, rfl, _, rfl, iteN (by decide +kernel) ?_⟩⟩
                        exact iteF (fin S6 z)
                    · refine ⟨_, rfl, rfl, _, rfl, iteN (by decide +kernel) ⟨_, rfl, rfl, _, rfl, iteP (by decide +kernel) ⟨y, rfl, y, dy, 0, 5, rfl, dn5, fun H6 S6 => ⟨_, rfl, ?_⟩⟩⟩⟩
                      rw [show wholeB 0 5 dy = tst 104 dy from rfl]
                      cases z : tst 104 dy with
                      | false => exact iteT (bad S6 z)
                      | true =>
                        refine iteF ⟨_, rfl, rfl, _, rfl, iteN (by decide +kernel) ⟨_, rfl, rfl, _, rfl, iteN (by decide +kernel) ?_⟩⟩
                        exact iteF (fin S6 z)
                    · refine ⟨_, rfl, rfl, _, rfl, iteN (by decide +kernel) ⟨_, rfl, rfl, _, rfl, iteN (by decide +kernel) ?_⟩⟩
                      refine iteF ⟨_, rfl, rfl, _, rfl, iteP (by decide +kernel) ⟨y, rfl, y, dy, rfl, dn5, fy, fun H6 S6 => ⟨_, rfl, ?_⟩⟩⟩
                      rw [show nameB dy = tst 119 dy from rfl]
                      cases z : tst 119 dy with
                      | false => exact iteT (iteT (bad S6 z))
                      | true =>
                        refine iteF ⟨_, rfl, rfl, _, rfl, iteN (by decide +kernel) ?_⟩
                        exact iteF (fin S6 z)
                    · refine ⟨_, rfl, rfl, _, rfl, iteN (by decide +kernel) ⟨_, rfl, rfl, _, rfl, iteN (by decide +kernel) ?_⟩⟩
                      refine iteF ⟨_, rfl, rfl, _, rfl, iteN (by decide +kernel) ⟨_, rfl, rfl, _, rfl, iteP (by decide +kernel) ⟨y, rfl, y, dy, rfl, dn5, ⟨fy, by omega, by omega⟩, fun H6 S6 => ⟨_, rfl, ?_⟩⟩⟩⟩
                      rw [show tm dy = tst 116 dy from rfl]
                      cases z : tst 116 dy with
                      | false => exact iteT (bad S6 z)
                      | true => exact iteF (fin S6 z)
                  · rintro σ H' ⟨l2, p2, rfl, S, ht⟩
                    rw [List.take_of_length_le (by simp), List.take_of_length_le (by show dr.length ≤ e.2.length; omega)] at ht
                    have k' := k _ (S03.trans S)
                    rw [built_iff he dr, ht] at k'
                    exact k'
            · have hw' : ∀ e ∈ leaves ++ parted, e.1 ≠ wd := fun e he z => hw ⟨e, he, z⟩
              rw [form_none hw']
              have k' := k H1 (S0.trans S1)
              rw [tm_none hw'] at k'
              exact iteT k'
end
end KP
set_option Elab.async false
set_option linter.unusedVariables false
set_option maxRecDepth 100000
set_option maxHeartbeats 2000000
namespace KP
open PySem PySem.Spec PyProof.Rows L2 KA
/-! ### slices and sums of tuples, as data -/
def cutD (ds : List PyData) (lo hi : Option Int) : List PyData := (ds.drop (HT.sIx ds.length 0 lo)).take (HT.sIx ds.length ds.length hi - HT.sIx ds.length 0 lo)
theorem cut_all {H : Hp} {zs : List V} {ds : List PyData} {lo hi : Option Int} (dz : DnAll H zs ds) : DnAll H (cutV zs lo hi) (cutD ds lo hi) := by
  unfold cutV cutD
  rw [dz.length]
  exact (dz.drop _).take _
theorem sl_ev {K : PySem.W.Frag} {p : Addr} {H : Hp} {o : HO} {x : V} {ds : List PyData} {lo hi : Option Int} {Q : VK} (hp : H p = some o) (hx : Dn (hid p H) x (.tuple ds)) (q : ∀ v H2, Same H H2 → Dn (hid p H2) v (.tuple (cutD ds lo hi)) → Q v H2) : rSlA K x lo hi H Q := by
  obtain ⟨a, zs, rfl, ha, dz⟩ := tup_inv hx
  have ha' : H a = some (.tup zs) := hid_sub _ _ ha
  refine ⟨a, zs, rfl, SqT.of ha', fun z => ?_, fun _ t ht => ?_⟩
  · have e : cutD ds lo hi = ds := by
      unfold cutD
      rw [← dz.length, z.1, z.2, List.drop_zero, dz.length, Nat.sub_zero, List.take_length]
    exact q _ _ (Same.refl H) (by rw [e]; exact hx)
  · have n : Same H (upd H t (.tup (cutV zs lo hi))) := Same.new ht
    have tp : t ≠ p := off hp (Same.refl H) ht
    exact q _ _ n (.tup (by rw [hid_ne tp, upd_same]) (DnAll.mono (Same.less n) (cut_all dz)))
theorem cat_ev {K : PySem.W.Frag} {p : Addr} {H : Hp} {o : HO} {x y : V} {ds es : List PyData} {Q : VK} (hp : H p = some o) (hx : Dn (hid p H) x (.tuple ds)) (hy : Dn (hid p H) y (.tuple es)) (len : ds.length + es.length ≤ 1000000)
    (q : ∀ v H2, Same H H2 → Dn (hid p H2) v (.tuple (ds ++ es)) → Q v H2) : rCatA K x y H Q := by
  obtain ⟨a, zs, rfl, ha, dz⟩ := tup_inv hx
  obtain ⟨b, ys, rfl, hb, dy⟩ := tup_inv hy
  have lz := dz.length
  have ly := dy.length
  refine ⟨a, b, zs, ys, rfl, rfl, SqT.of (hid_sub _ _ ha), SqT.of (hid_sub _ _ hb), ?_, fun z => ?_, fun _ z => ?_, fun _ _ t ht => ?_⟩
  · rw [lz, ly]
    exact Nat.le_trans len (by decide)
  · rw [z] at dz
    have e : ds = [] := by
      cases dz
      rfl
    rw [e] at q
    exact q _ _ (Same.refl H) hy
  · rw [z] at dy
    have e : es = [] := by
      cases dy
      rfl
    rw [e, List.append_nil] at q
    exact q _ _ (Same.refl H) hx
  · have n : Same H (upd H t (.tup (zs ++ ys))) := Same.new ht
    have tp : t ≠ p := off hp (Same.refl H) ht
    exact q _ _ n (.tup (by rw [hid_ne tp, upd_same]) (DnAll.mono (Same.less n) (dz.append dy)))
section
variable {K : PySem.W.Frag} {p : Addr} {σ : L2.St} {H : Hp} {te tu : TE} {ds es : List PyData} {o : HO}
theorem evd_cut {lo hi : Option Int} {tl th : TO} (hp : H p = some o) (h : EvD p te σ H (.tuple ds)) (hl : ∀ (H : Hp) (Q : Option Int → Hp → Prop), Q lo H → tl σ H Q) (hh : ∀ (H : Hp) (Q : Option Int → Hp → Prop), Q hi H → th σ H Q) : EvD p (tSl (rSlA K) te tl th) σ H (.tuple (cutD ds lo hi)) := fun H1 S Q q =>
  h H1 S _ fun v H2 S2 dv => hl H2 _ (hh H2 _ (sl_ev (S2 _ _ (S _ _ hp)) dv fun v H3 S3 dv => q v H3 (S2.trans S3) dv))
theorem evd_cat (hp : H p = some o) (h : EvD p te σ H (.tuple ds)) (g : EvD p tu σ H (.tuple es)) (len : ds.length + es.length ≤ 1000000) : EvD p (tOp (rCatA K) te tu) σ H (.tuple (ds ++ es)) := fun H1 S Q q =>
  h H1 S _ fun v H2 S2 dv => g H2 (S.trans S2) _ fun u H3 S3 du => cat_ev ((S2.trans S3) _ _ (S _ _ hp)) (Dn.mono (Same.less S3) dv) du len fun v H4 S4 dv => q v H4 ((S2.trans S3).trans S4) dv
theorem evd_listof (hp : H p = some o) (h : EvD p te σ H (.tuple ds)) : EvD p (tCB (fun xs H Q => ∃ p ys, xs = [.ref p] ∧ (SqL K H p ys ∨ SqT K H p ys) ∧ ∀ l, H l = none → Q (.ref l) (upd H l (.lst ys))) (tCons te tNil)) σ H (.list ds) := fun H1 S Q q =>
  h H1 S _ fun v H2 S2 dv => by
    obtain ⟨a, zs, rfl, ha, dz⟩ := tup_inv dv
    refine ⟨a, zs, rfl, Or.inr (SqT.of (hid_sub _ _ ha)), fun l hl => ?_⟩
    have n : Same H2 (upd H2 l (.lst zs)) := Same.new hl
    have lp := off hp (S.trans S2) hl
    exact q _ _ (S2.trans n) (.lst (by rw [hid_ne lp, upd_same]) (DnAll.mono (Same.less n) dz))
theorem evd_neg {i : Int} : EvD p (tUn (rU fun i => .int (-i)) (tC (.int i))) σ H (.int (-i)) := fun H1 S Q q => ⟨i, rfl, q _ _ (Same.refl H1) (.int _)⟩
theorem evd_pow : EvD p (tOp (rI CPow fun i j => .int (i ^ j.toNat)) (tC (.int 10)) (tC (.int 29))) σ H (.int (10 ^ 29)) := fun H1 S Q q => ⟨10, 29, rfl, rfl, ⟨by decide, by decide, by decide⟩, q _ _ (Same.refl H1) (.int _)⟩
theorem evd_dic0 (hp : H p = some o) : EvD p tDNewK σ H (.dict []) := fun H1 S Q q => fun a ha => by
  have n : Same H1 (upd H1 a (.dK [])) := Same.new ha
  have lp := off hp S ha
  exact q _ _ n (.dic (by rw [hid_ne lp, upd_same]) .nil .nil)
theorem evl_cat {l0 : Addr} {xs0 : List V} (hp : H p = some o) (hl0 : H l0 = some (.lst xs0)) (d0 : DnAll (hid p H) xs0 ds) (hte : ∀ (H1 : Hp) (Q : VK), Q (.ref l0) H1 → te σ H1 Q) (g : EvL p tu σ H es) (len : ds.length + es.length ≤ 1000) : EvL p (tOp rCat te tu) σ H (ds ++ es) := fun H1 S Q q =>
  hte H1 _ (g H1 S _ fun l xs H2 hl lp S2 e dx => by
    refine ⟨l0, l, xs0, xs, rfl, rfl, S2 _ _ (S _ _ hl0), e, ?_, fun b hb => ?_⟩
    · rw [d0.length, dx.length]
      exact Nat.le_trans len (by decide)
    have bp := off hp (S.trans S2) hb
    have bl := off e (Same.refl H2) hb
    refine q b _ _ (S2.free hb) bp (S2.trans (Same.new hb)) upd_same ?_
    have k : ∀ c o, (hid p H2) c = some o → (hid b (hid p (upd H2 b (.lst (xs0 ++ xs))))) c = some o := fun c o z => by
      obtain ⟨n1, e1⟩ := hid_some z
      have nb : c ≠ b := ne_of_none e1 hb
      rw [hid_ne nb, hid_ne n1, upd_ne nb]
      exact e1
    exact (DnAll.mono (fun c o z => k c o (Same.less (S.trans S2) c o z)) d0).append (DnAll.mono (fun c o z => k c o (hid_some z).2) dx))
end
/-! ### bounds -/
theorem fine_cons {d : PyData} {ds : List PyData} : fineAll (d :: ds) = true ↔ fine d = true ∧ fineAll ds = true := by simp only [fineAll, Bool.and_eq_true]
theorem bd_drop {a b : Nat} : ∀ {ds : List PyData} (n : Nat), BdAll a b ds → BdAll a b (ds.drop n)
  | _, 0, h => h
  | [], _ + 1, _ => .nil
  | d :: ds, n + 1, h => bd_drop (ds := ds) n (by
    obtain ⟨h1, h2, h3⟩ := h
    simp only [PyData.depthAll] at h2
    simp only [wtAll] at h3
    exact ⟨(fine_cons.mp h1).2, by omega, by omega⟩)
theorem bd_take {a : Nat} : ∀ {b : Nat} {ds : List PyData} (n : Nat), BdAll a b ds → BdAll a b (ds.take n)
  | _, _, 0, _ => .nil
  | _, [], _ + 1, _ => .nil
  | b, d :: ds, n + 1, h => by
    obtain ⟨h1, h2, h3⟩ := h
    simp only [PyData.depthAll] at h2
    simp only [wtAll] at h3
    obtain ⟨g1, g2, g3⟩ := bd_take (a := a) (b := wtAll ds) (ds := ds) n ⟨(fine_cons.mp h1).2, by omega, Nat.le_refl _⟩
    refine ⟨fine_cons.mpr ⟨(fine_cons.mp h1).1, g1⟩, ?_, ?_⟩
    · simp only [List.take_succ_cons, PyData.depthAll]
      omega
    · simp only [List.take_succ_cons, wtAll]
      omega
theorem bd_cut {a b : Nat} {ds : List PyData} {lo hi : Option Int} (h : BdAll a b ds) : BdAll a b (cutD ds lo hi) := bd_take _ (bd_drop _ h)
theorem split_at : ∀ {ds : List PyData} {j : Nat} {d : PyData}, ds[j]? = some d → ds = ds.take j ++ d :: ds.drop (j + 1)
  | [], _, _, h => by cases h
  | e :: ds, 0, _, h => by
    cases h
    rfl
  | e :: ds, j + 1, d, h => by
    have := split_at (ds := ds) (j := j) (d := d) h
    show e :: ds = e :: (ds.take j ++ d :: ds.drop (j + 1))
    rw [← this]
theorem swap_bd {ds : List PyData} {j : Nat} {dj d' : PyData} (h : ds[j]? = some dj) (f : fineAll ds = true) (b : Bd (dj.depth + 1) (wt dj + 300) d') : BdAll (PyData.depthAll ds + 1) (wtAll ds + 300) ((ds.take j ++ [d']) ++ ds.drop (j + 1)) := by
  have e := split_at h
  generalize ds.take j = A at e
  generalize ds.drop (j + 1) = B at e
  subst e
  rw [fineAll_append] at f
  simp only [Bool.and_eq_true, fine_cons] at f
  obtain ⟨b1, b2, b3⟩ := b
  refine ⟨?_, ?_, ?_⟩
  · rw [fineAll_append, fineAll_append, f.1, f.2.2]
    simp [fineAll, b1]
  · rw [depthAll_append, depthAll_append, depthAll_append]
    simp only [PyData.depthAll]
    omega
  · rw [wtAll_append, wtAll_append, wtAll_append]
    simp only [wtAll]
    omega
end KP
set_option Elab.async false
set_option linter.unusedVariables false
set_option maxRecDepth 100000
set_option maxHeartbeats 2000000
namespace KP
open PySem PySem.Spec PyProof.Rows L2 KA
/-! ### one thing put otherwise -/
def odd1 : List PyData := [.int 0, .int (-1), .int 5, .int 6, .bool true, .bool false, .none, .int 999, .str "", .str "at", .str "kind", .str "app", .str "put", .str "self", .str "names", .str "num", .str "Num"]
def odd2 : List PyData := [.str "n1", .str "ninechars", .str "eightcha", .tuple [.str "at", .int 0], .list [.str "at", .int 0], .dict [], .str "all", .str "fun", .str "same", .str "a b", .str "eater", .str "maker"]
def bdB (a b : Nat) (d : PyData) : Bool := fine d && decide (d.depth ≤ a) && decide (wt d ≤ b)
theorem bdB_of {a b : Nat} {d : PyData} (h : bdB a b d = true) : Bd a b d := by
  unfold bdB at h
  simp only [Bool.and_eq_true, decide_eq_true_eq] at h
  exact ⟨h.1.1, h.1.2, h.2⟩
theorem odd_all : (odd1 ++ odd2).all (bdB 1 300) = true := by decide +kernel
theorem odd_bd : ∀ d ∈ odd1 ++ odd2, Bd 1 300 d := fun d h => bdB_of (List.all_eq_true.mp odd_all d h)
def someD (ds : List PyData) : List PyData := [.list ds, .tuple (cutD ds none (some (-1))), .tuple (ds ++ [.tuple [.str "kind", .int 0]]), .tuple (ds ++ [.int 0]), .tuple [], .none, .tuple (cutD ds (some 1) none), .tuple [.tuple ds], .str "at"]
theorem some_bd {ds : List PyData} (f : fineAll ds = true) : ∀ d ∈ someD ds, Bd ((PyData.tuple ds).depth + 1) (wt (.tuple ds) + 300) d := by
  have b0 : BdAll (PyData.depthAll ds) (wtAll ds) ds := ⟨f, Nat.le_refl _, Nat.le_refl _⟩
  have e1 : (PyData.tuple ds).depth = PyData.depthAll ds + 1 := by simp only [PyData.depth]
  have e2 : wt (.tuple ds) = wtAll ds + 4 := by simp only [wt]
  rw [e1, e2]
  intro d hd
  have ba : ∀ g, bdB 1 270 g = true → BdAll (PyData.depthAll ds + 1) (wtAll ds + (270 + 2)) (ds ++ [g]) := fun g h => (b0.mono (by omega) (Nat.le_refl _)).append ((BdAll.one (bdB_of h)).mono (by omega) (Nat.le_refl _))
  simp only [someD, List.mem_cons, List.not_mem_nil, or_false] at hd
  rcases hd with rfl | rfl | rfl | rfl | rfl | rfl | rfl | rfl | rfl
  · exact (Bd.lst b0).mono (by omega) (by omega)
  · exact (Bd.tup (bd_cut b0)).mono (by omega) (by omega)
  · exact (Bd.tup (ba _ (by decide +kernel))).mono (by omega) (by omega)
  · exact (Bd.tup (ba _ (by decide +kernel))).mono (by omega) (by omega)
  · exact (bdB_of (a := 1) (b := 300) (by decide +kernel)).mono (by omega) (by omega)
  · exact (bdB_of (a := 1) (b := 300) (by decide +kernel)).mono (by omega) (by omega)
  · exact (Bd.tup (bd_cut b0)).mono (by omega) (by omega)
  · exact (Bd.tup (BdAll.one (Bd.tup b0))).mono (by omega) (by omega)
  · exact (bdB_of (a := 1) (b := 300) (by decide +kernel)).mono (by omega) (by omega)
def spSpoilt (lim : Nat) : Sp := fun vs H Q _ => ∃ (p : Addr) (n : Nat) (v : V) (d : PyData), vs = [.ref p, v] ∧ Purse H p n ∧ Dn (hid p H) v d ∧ fine d = true ∧ wt d ≤ 400000 ∧ d.depth < lim ∧ n + 2 * lim ≤ maxN ∧
  ∀ r d' H', Dn (hid p H') r d' → Bd (d.depth + 1) (wt d + 300) d' → Purse H' p (n + 2 * lim) → Same (hid p H) (hid p H') → Q r H'
abbrev nSp : List Str := ["_law_purse_here", "_law_thing", "_law_at", "_law_some", "_law_odd"]
section
variable {P : Program} {w : World} {K : PySem.W.Frag} {mg : Str → Option Value} {base : Heap}
theorem scSpoilt : FnScope nSp ["_law_purse_here", "_law_thing"] (defScope sSpoilt) := ⟨rfl, rfl, rfl, by decide +kernel, rfl, by decide +kernel, by decide +kernel⟩
/-- an item of a list of data, by a number drawn -/
theorem pick {l : Addr} {p : Addr} {xs : List V} {ds : List PyData} {H H1 : Hp} {m : Nat} {r : Int} {Q : V → Prop} (lp : l ≠ p) (e : H l = some (.lst xs)) (dx : DnAll (hid l (hid p H)) xs ds) (S : Same (hid p H) (hid p H1)) (h0 : 0 ≤ r) (h1 : r < m) (len : ds.length = m) :
    SqL K H1 l xs ∧ ∃ v d, atI xs r = some v ∧ d ∈ ds ∧ Dn (hid p H1) v d := by
  obtain ⟨j, rfl⟩ : ∃ j : Nat, r = (j : Int) := ⟨r.toNat, by omega⟩
  have lx := dx.length
  have jl : j < xs.length := by omega
  have hj := List.getElem?_eq_getElem jl
  obtain ⟨g, hg, dg⟩ := dx.at hj
  exact ⟨SqL.of (hid_sub _ _ (S _ _ (by rw [hid_ne lp]; exact e))), _, g, at_of (j := j) rfl hj, List.mem_of_getElem? hg, Dn.mono S (Dn.mono hid_sub dg)⟩
theorem spoilt_rest {f : Addr} {cdv : Value} {A : Around} {outer : List Env} {s : Shared} {H : Hp} {E : XK} {k : Nat} (T : Txt K w mg) (CT : C8.Cal P w K mg base 1 "_law_take" spTake [])
    (hr : Room (k + 1) (A.deeper (envOfC "_law_spoilt" (defScope sSpoilt) s.heap.objs.size f cdv))) :
    ∃ t, PSs (cxOf CX0 P w K mg base nSp "_law_spoilt" (defScope sSpoilt) f cdv A outer s H E).nox ((defBody sSpoilt).drop 1) t ∧
      ∀ (D : Ends) (H : Hp) (p : Addr) (n : Nat) (v : V) (d : PyData), Purse H p n → Dn (hid p H) v d → fine d = true → wt d ≤ 400000 → n + 1 ≤ maxN →
        (∀ r d' H2, Dn (hid p H2) r d' → Bd (d.depth + 1) (wt d + 300) d' → Purse H2 p (n + 1) → Same (hid p H) (hid p H2) → D.rt r H2) → t D [some (.ref p), some v, none, none, none] H := by
  refine ⟨_, pss_cons (ps_if (pt_val (pe_isD is_tup (pv 1) T.isi T.tuple (by decide +kernel)))
      (pss_cons (ps_set (i := 3) scSpoilt.nd rfl (Or.inl rfl) (pe_lst (pa_cons (pe_callTy call_list_of (by rfl) T.list (by decide +kernel) (pa_cons (pv 1) pa_nil))
        (pa_cons (pe_slice sl_tupA (pv 1) po_none (po_some (pe_un un_neg pe_int))) (pa_cons (pe_op op_catA (pv 1) (pe_tup (pa_cons (pe_tup (pa_cons pe_str (pa_cons pe_int pa_nil))) pa_nil)))
        (pa_cons (pe_op op_catA (pv 1) (pe_tup (pa_cons pe_int pa_nil))) (pa_cons (pe_tup pa_nil) (pa_cons pe_non (pa_cons (pe_slice sl_tupA (pv 1) (po_some pe_int) po_none) (pa_cons (pe_tup (pa_cons (pv 1) pa_nil)) (pa_cons pe_str pa_nil)))))))))))
      (pss_one (ps_ret (pe_ix ix_list (pv 3) (C8.pe_c CT hr (by omega) rfl (pa_cons (pv 0) (pa_cons pe_int pa_nil))) (fun _ _ => rfl))))) pss_nil)
    (pss_cons (ps_set (i := 4) scSpoilt.nd rfl (Or.inl rfl) (pe_lst (pa_cons pe_int (pa_cons (pe_un un_neg pe_int) (pa_cons pe_int (pa_cons pe_int (pa_cons pe_bl (pa_cons pe_bl (pa_cons pe_non (pa_cons pe_int (pa_cons pe_str (pa_cons pe_str (pa_cons pe_str (pa_cons pe_str (pa_cons pe_str (pa_cons pe_str (pa_cons pe_str (pa_cons pe_str (pa_cons pe_str pa_nil)))))))))))))))))))
    (pss_cons (ps_set (i := 4) scSpoilt.nd rfl (Or.inl rfl) (pe_op op_cat (pv 4) (pe_lst (pa_cons pe_str (pa_cons pe_str (pa_cons pe_str (pa_cons (pe_tup (pa_cons pe_str (pa_cons pe_int pa_nil))) (pa_cons (pe_lst (pa_cons pe_str (pa_cons pe_int pa_nil))) (pa_cons pe_dnewK (pa_cons pe_str (pa_cons pe_str (pa_cons pe_str (pa_cons pe_str (pa_cons pe_str (pa_cons pe_str pa_nil)))))))))))))))
    (pss_one (ps_ret (pe_ix ix_list (pv 4) (C8.pe_c CT hr (by omega) rfl (pa_cons (pv 0) (pa_cons pe_int pa_nil))) (fun _ _ => rfl)))))), fun D H p n v d hp hd hf hw hn go => ?_⟩
  have hp0 := hp
  obtain ⟨pa, pb, pc, pe, pr⟩ := hp0
  refine ⟨v, rfl, v, d, rfl, Dn.mono hid_sub hd, _, rfl, ?_⟩
  cases hT : isTupD d with
  | true =>
    obtain ⟨ds, rfl⟩ : ∃ dt, d = .tuple dt := by cases d <;> first | exact ⟨_, rfl⟩ | cases hT
    have fd : fineAll ds = true := by simpa only [fine] using hf
    have ln : ds.length ≤ 400000 := by
      have l1 := len_nodes ds
      have l2 := nodesAll_wt ds
      simp only [wt] at hw
      omega
    refine iteT ?_
    have ev : EvD p (tVar 1) [some (.ref p), some v, none, none, none] H (.tuple ds) := evd_var rfl hd
    have E3 := evl_lst (p := p) (H := H) pe (evds_cons (evd_listof (K := K) pe ev) (evds_cons (evd_cut (K := K) (lo := none) (hi := some (-1)) (tl := tNoPart) (th := tPart (tUn (rU fun i => .int (-i)) (tC (.int 1)))) pe ev (fun _ _ z => z) (fun _ _ z => ⟨1, rfl, _, rfl, z⟩))
      (evds_cons (evd_cat (K := K) pe ev (evd_tup pe (evds_cons (evd_tup pe (evds_cons (evd_str (x := "kind")) (evds_cons (evd_int (z := 0)) evds_nil))) evds_nil)) (by show ds.length + 1 ≤ 1000000; omega))
      (evds_cons (evd_cat (K := K) pe ev (evd_tup pe (evds_cons (evd_int (z := 0)) evds_nil)) (by show ds.length + 1 ≤ 1000000; omega)) (evds_cons (evd_tup pe evds_nil) (evds_cons evd_non
      (evds_cons (evd_cut (K := K) (lo := some 1) (hi := none) (tl := tPart (tC (.int 1))) (th := tNoPart) pe ev (fun _ _ z => ⟨1, rfl, z⟩) (fun _ _ z => z)) (evds_cons (evd_tup pe (evds_cons ev evds_nil)) (evds_cons (evd_str (x := "at")) evds_nil)))))))))
    refine st_seq (st_asg (E3 H (Same.refl H) _ fun l xs H1 nl lp S1 el dl => ?_))
    refine ⟨.ref l, rfl, .ref p, rfl, p, n, 9, rfl, hp.mono S1, by omega, by decide, by decide, fun r H2 r0 r1 p2 S2 => ?_⟩
    obtain ⟨sq, u, g, au, gm, dg⟩ := pick (m := 9) (Q := fun _ => True) lp el dl S2 r0 r1 rfl
    exact ⟨l, _, _, _, rfl, rfl, sq, au, go u g H2 dg (some_bd fd g gm) p2 ((Same.less S1).trans S2)⟩
  | false =>
    refine iteF ?_
    have E4 := evl_lst (p := p) (σ := [some (.ref p), some v, none, none, none]) (H := H) pe (evds_cons (evd_int (z := 0)) (evds_cons (evd_neg (i := 1)) (evds_cons (evd_int (z := 5)) (evds_cons (evd_int (z := 6)) (evds_cons (evd_bl (b := true)) (evds_cons (evd_bl (b := false)) (evds_cons evd_non (evds_cons (evd_int (z := 999))
      (evds_cons (evd_str (x := "")) (evds_cons (evd_str (x := "at")) (evds_cons (evd_str (x := "kind")) (evds_cons (evd_str (x := "app")) (evds_cons (evd_str (x := "put")) (evds_cons (evd_str (x := "self")) (evds_cons (evd_str (x := "names")) (evds_cons (evd_str (x := "num")) (evds_cons (evd_str (x := "Num")) evds_nil)))))))))))))))))
    refine st_seq (st_asg (E4 H (Same.refl H) _ fun l xs H1 nl lp S1 el dl => st_name ?_))
    dsimp only
    refine st_seq (st_asg ?_)
    have pe1 := S1 _ _ pe
    have E5 := evl_lst (p := p) (σ := [some (.ref p), some v, none, none, some (.ref l)]) (H := H1) pe1 (evds_cons (evd_str (x := "n1")) (evds_cons (evd_str (x := "ninechars")) (evds_cons (evd_str (x := "eightcha")) (evds_cons (evd_tup pe1 (evds_cons (evd_str (x := "at")) (evds_cons (evd_int (z := 0)) evds_nil)))
      (evds_cons (evd_lst pe1 (evds_cons (evd_str (x := "at")) (evds_cons (evd_int (z := 0)) evds_nil))) (evds_cons (evd_dic0 pe1) (evds_cons (evd_str (x := "all")) (evds_cons (evd_str (x := "fun")) (evds_cons (evd_str (x := "same")) (evds_cons (evd_str (x := "a b")) (evds_cons (evd_str (x := "eater")) (evds_cons (evd_str (x := "maker")) evds_nil))))))))))))
    have E6 := evl_cat (te := tVar 4) pe1 el (DnAll.mono hid_sub dl) (fun H1 Q q => ⟨_, rfl, q⟩) E5 (by simp)
    refine E6 H1 (Same.refl H1) _ fun l2 ys H2 nl2 lp2 S2 el2 dl2 => st_name ?_
    refine ⟨.ref l2, rfl, .ref p, rfl, p, n, 29, rfl, hp.mono (S1.trans S2), by omega, by decide, by decide, fun r H3 r0 r1 p3 S3 => ?_⟩
    obtain ⟨sq, u, g, au, gm, dg⟩ := pick (m := 29) (Q := fun _ => True) lp2 el2 dl2 S3 r0 r1 rfl
    exact ⟨l2, _, _, _, rfl, rfl, sq, au, go u g H3 dg ((odd_bd g gm).mono (by omega) (by omega)) p3 ((Same.less (S1.trans S2)).trans S3)⟩
theorem cut_to {ds : List PyData} {j : Nat} (h : j < ds.length) : cutD ds none (some (j : Int)) = ds.take j := by
  unfold cutD
  rw [HT.sIx_none, HT.sIx_nat, List.drop_zero, Nat.sub_zero, Nat.min_eq_left (Nat.le_of_lt h)]
theorem cut_from {ds : List PyData} {j : Nat} (h : j < ds.length) : cutD ds (some ((j : Int) + 1)) none = ds.drop (j + 1) := by
  unfold cutD
  rw [HT.sIx_none, show ((j : Int) + 1) = ((j + 1 : Nat) : Int) from by omega, HT.sIx_nat, Nat.min_eq_left (by omega)]
  rw [List.take_of_length_le]
  rw [List.length_drop]
  exact Nat.le_refl _
theorem ok_spoilt {f : Addr} {fd : FuncData} (D : Dfn K mg "_law_spoilt" sSpoilt f fd ["_law_purse_here", "_law_thing"]) (T : Txt K w mg) (CT : C8.Cal P w K mg base 1 "_law_take" spTake []) :
    ∀ lim : Nat, FnOk P w K mg base CX0 (2 + lim) f fd ["_law_purse_here", "_law_thing"] (spSpoilt lim)
  | 0 => ⟨fun vs H Q E h => by obtain ⟨p, n, v, d, rfl, _⟩ := h; rfl, fun A outer s H args us vs Q E hr e0 bt rv h => by obtain ⟨p, n, v, d, _, _, _, _, _, h0, _⟩ := h; exact absurd h0 (Nat.not_lt_zero _)⟩
  | lim + 1 => by
    have CS : C8.Cal P w K mg base (2 + lim) "_law_spoilt" (spSpoilt lim) [] := D.cal (ok_spoilt D T CT lim)
    refine D.fn.ok (k := 2 + lim) scSpoilt (fun vs H Q E h => ?_) (fun cdv A outer s H vs Q E hr h => ?_)
    · obtain ⟨p, n, v, d, rfl, _⟩ := h
      rfl
    · obtain ⟨p, n, v, d, rfl, hp, hd, hf, hw, hdp, hn, go⟩ := h
      have hu := hu_of hr
      obtain ⟨tr, htr, rest⟩ := spoilt_rest (P := P) (K := K) (base := base) (f := f) (cdv := cdv) (A := A) (outer := outer) (s := s) (H := H) (E := E) (k := 1 + lim) T CT (by rw [show 1 + lim + 1 = 2 + lim from by omega]; exact hr)
      refine ⟨_, pss_cons (ps_if (PW.pt (pw_and (pt_val (pe_isD is_tup (pv 1) T.isi T.tuple (by decide +kernel))) (pw_and (pt_cmpR (op_neE hu) (pv 1) (pe_tup pa_nil) (nomark _)) (pw_and1 (pt_cmpR op_gt (C8.pe_c CT hr (by omega) rfl (pa_cons (pv 0) (pa_cons pe_int pa_nil))) pe_int (nomark _))))))
          (pss_cons (ps_set (i := 2) scSpoilt.nd rfl (Or.inl rfl) (C8.pe_c CT hr (by omega) rfl (pa_cons (pv 0) (pa_cons (pe_callB call_len_seq (by rfl) T.len PySem.boot_len (pa_cons (pv 1) pa_nil)) pa_nil))))
          (pss_one (ps_ret (pe_op op_catA (pe_op op_catA (pe_slice sl_tupA (pv 1) po_none (po_some (pv 2))) (pe_tup (pa_cons (C8.pe_c CS hr (by omega) rfl (pa_cons (pv 0) (pa_cons (pe_ix ix_tup (pv 1) (pv 2) (fun _ _ => rfl)) pa_nil))) pa_nil))) (pe_slice sl_tupA (pv 1) (po_some (pe_op op_add (pv 2) pe_int)) po_none))))) pss_nil) htr, ?_⟩
      have out : ∀ (D : Ends) (H1 : Hp) (m : Nat), Purse H1 p m → m ≤ n + 1 → Same (hid p H) (hid p H1) → D.rt = Q → tr D [some (.ref p), some v, none, none, none] H1 := fun D H1 m p1 hm S1 e => by
        refine rest D H1 p m v d p1 (Dn.mono S1 hd) hf hw (by omega) fun r d' H2 dr bd p2 S2 => ?_
        rw [e]
        exact go r d' H2 dr bd (p2.more (by omega)) (S1.trans S2)
      refine ⟨v, rfl, v, d, rfl, Dn.mono hid_sub hd, _, rfl, ?_⟩
      cases hT : isTupD d with
      | false => exact iteF (out _ H n hp (by omega) (Same.refl _) rfl)
      | true =>
        obtain ⟨ds, rfl⟩ : ∃ dt, d = .tuple dt := by cases d <;> first | exact ⟨_, rfl⟩ | cases hT
        obtain ⟨a, zs, rfl, ha, dz⟩ := tup_inv hd
        refine iteT ⟨_, rfl, Nat.zero_le _, fun t0 n0 => ?_⟩
        have S0 : Same H (upd H t0 (.tup [])) := Same.new n0
        refine ⟨a, t0, zs, rfl, rfl, S0 _ _ (hid_sub _ _ ha), upd_same, _, rfl, ?_⟩
        generalize upd H t0 (.tup []) = H0 at S0
        have p0 := hp.mono S0
        cases ds with
        | nil =>
          obtain rfl := nil_inv dz
          exact iteF (out _ H0 n p0 (by omega) (Same.less S0) rfl)
        | cons d0 dr =>
          obtain ⟨z0, zr, rfl, h0, dz1⟩ := cons_inv dz
          refine iteT ⟨.ref p, rfl, p, n, 3, rfl, p0, by omega, by decide, by decide, fun r H1 r0 r1 p1 S1 => ?_⟩
          refine ⟨_, _, rfl, rfl, _, rfl, ?_⟩
          have S01 := (Same.less (p := p) S0).trans S1
          refine ite2 (fun _ => ?_) (fun _ => ?_)
          · have fd : fineAll (d0 :: dr) = true := by simpa only [fine] using hf
            have ln : (d0 :: dr).length ≤ 400000 := by
              have l1 := len_nodes (d0 :: dr)
              have l2 := nodesAll_wt (d0 :: dr)
              simp only [wt] at hw
              omega
            have lz := dz.length
            have ha1 : hid p H1 a = some (.tup (z0 :: zr)) := S01 _ _ ha
            refine ⟨.ref p, rfl, .ref a, rfl, a, _, rfl, Or.inr (SqT.of (hid_sub _ _ ha1)), p, n + 1, _, rfl, p1, by omega, ?_, ?_, fun jj H2 j0 j1 p2 S2 => ?_⟩
            · show (0 : Int) < (((z0 :: zr).length : Nat) : Int)
              rw [List.length_cons]
              omega
            · show (((z0 :: zr).length : Nat) : Int) < 1073741824
              rw [lz]
              omega
            obtain ⟨j, rfl⟩ : ∃ j : Nat, jj = (j : Int) := ⟨jj.toNat, by omega⟩
            have jl : j < (d0 :: dr).length := by omega
            have S02 := S01.trans S2
            have hd2 := Dn.mono S02 hd
            obtain ⟨qa, qb, qc, qe, qr⟩ := id p2
            have hj : (d0 :: dr)[j]? = some ((d0 :: dr)[j]) := List.getElem?_eq_getElem jl
            obtain ⟨zj, hzj, dzj⟩ := dz.get hj
            generalize (d0 :: dr)[j] = dj at hj dzj
            refine ⟨_, rfl, _, rfl, _, rfl, sl_ev (lo := none) (hi := some (j : Int)) qe hd2 fun v1 H3 S3 dv1 => ?_⟩
            rw [cut_to jl] at dv1
            have S03 := S02.trans (Same.less (p := p) S3)
            have fj := fine_at fd hj
            have pj := depth_at hj
            have wj : wt dj ≤ wtAll (d0 :: dr) := by
              have := split_at hj
              rw [this, wtAll_append]
              simp only [wtAll]
              omega
            have ed : (PyData.tuple (d0 :: dr)).depth = PyData.depthAll (d0 :: dr) + 1 := by simp only [PyData.depth]
            have ew : wt (.tuple (d0 :: dr)) = wtAll (d0 :: dr) + 4 := by simp only [wt]
            refine ⟨.ref p, rfl, _, rfl, _, rfl, a, _, _, _, rfl, rfl, SqT.of (hid_sub _ _ (S03 _ _ ha)), at_of (j := j) rfl hzj, p, n + 2, zj, dj, rfl, p2.mono S3, Dn.mono S03 dzj, fj, by omega, by omega, by omega, fun r d' H4 dr' br p4 S4 => ?_⟩
            obtain ⟨qa, qb, qc, qe4, qr⟩ := id p4
            refine ⟨by show 1 ≤ sizeLine; decide, fun t ht => ?_⟩
            have nt : Same H4 (upd H4 t (.tup [r])) := Same.new ht
            have tp := off qe4 (Same.refl H4) ht
            have dt : Dn (hid p (upd H4 t (.tup [r]))) (.ref t) (.tuple [d']) := .tup (by rw [hid_ne tp, upd_same]) (.one (Dn.mono (Same.less nt) dr'))
            have S04 := (S03.trans S4).trans (Same.less (p := p) nt)
            have dv4 := Dn.mono (S4.trans (Same.less (p := p) nt)) dv1
            have p5 := p4.mono nt
            generalize upd H4 t (.tup [r]) = H5 at dt S04 dv4 p5
            obtain ⟨qa, qb, qc, qe5, qr⟩ := id p5
            have lt : ((d0 :: dr).take j).length = j := by rw [List.length_take]; omega
            refine cat_ev qe5 dv4 dt (by rw [lt]; show j + 1 ≤ _; omega) fun v2 H6 S6 dv2 => ?_
            have S06 := S04.trans (Same.less (p := p) S6)
            have p6 := p5.mono S6
            obtain ⟨qa, qb, qc, qe6, qr⟩ := id p6
            refine ⟨_, rfl, _, rfl, _, _, rfl, rfl, _, rfl, ?_⟩
            dsimp only [tNoPart]
            refine sl_ev (lo := some ((j : Int) + 1)) (hi := none) qe6 (Dn.mono S06 hd) fun v3 H7 S7 dv3 => ?_
            rw [cut_from jl] at dv3
            have S07 := S06.trans (Same.less (p := p) S7)
            have p7 := p6.mono S7
            obtain ⟨qa, qb, qc, qe7, qr⟩ := id p7
            refine cat_ev qe7 (Dn.mono (Same.less (p := p) S7) dv2) dv3 ?_ fun v4 H8 S8 dv4 => ?_
            · rw [List.length_append, lt, List.length_drop]
              show j + 1 + _ ≤ _
              omega
            have bd := Bd.tup (swap_bd hj fd br)
            exact go v4 _ H8 dv4 (bd.mono (by omega) (by omega)) ((p7.mono S8).more (by omega)) (S07.trans (Same.less (p := p) S8))
          · exact out _ H1 (n + 1) p1 (by omega) S01 rfl
end
end KP
set_option Elab.async false
set_option linter.unusedVariables false
set_option maxRecDepth 100000
set_option maxHeartbeats 2000000
namespace KP
open PySem PySem.Spec PyProof.Rows L2 KA
/-! ### things near terms, names, spots and numbers -/
theorem at_one : mergeK [] [((.inr "at" : Key), V.int 0)] = [(.inr "at", .int 0)] := by decide +kernel
theorem evd_dic1 {p : Addr} {σ : L2.St} {H : Hp} {o : HO} (hp : H p = some o) : EvD p (tDisp [(tC (.str "at"), tC (.int 0))]) σ H (.dict [(.str "at", .int 0)]) := fun H1 S Q q => fun a ha => by
  refine ⟨upd_same, [((.inr "at" : Key), V.int 0)], rfl, by decide, ?_⟩
  rw [at_one, upd_upd]
  have n : Same H1 (upd H1 a (.dK [((.inr "at" : Key), V.int 0)])) := Same.new ha
  have ap := off hp S ha
  exact q _ _ n (.dic (by rw [hid_ne ap, upd_same]) (.one (.str "at")) (.one (.int 0)))
def nm1 : List PyData := [.str "a", .str "abcdefgh", .str "abcdefghi", .str "", .str "all", .str "fun", .str "same", .str "self", .str "put", .str "alls", .str "A", .str "a1", .str "a b", .str "z"]
def nm2 : List PyData := [.str "a_b", .str "_", .str "a{", .str "`a"]
def th1 : List PyData := [.tuple [], .tuple [.int 0], .tuple [.int 0, .int 1, .int 2], .tuple [.int (-1)], .tuple [.bool true], .list [.int 0], .tuple [.int 0, .str "0"], .tuple [.int (10 ^ 29)], .tuple [.tuple []], .none]
def th2 : List PyData := [.bool true, .int 0, .int 5, .int (-1), .int (10 ^ 29), .str "at", .list [.str "at", .int 0], .tuple [.str "at"], .tuple [.str "at", .int 0, .int 0], .dict [], .dict [(.str "at", .int 0)]]
theorem nm_all : (nm1 ++ nm2).all (bdB 3 500) = true := by decide +kernel
theorem th_all : (th1 ++ th2).all (bdB 3 500) = true := by decide +kernel
theorem bds_of {ds : List PyData} {a b : Nat} (h : ds.all (bdB a b) = true) : ∀ d ∈ ds, Bd a b d := fun d hd => bdB_of (List.all_eq_true.mp h d hd)
def spThings : Sp := fun vs H Q _ => ∃ (p : Addr) (n : Nat), vs = [.ref p] ∧ Purse H p n ∧ n + 1 ≤ maxN ∧
  ∀ l xs ds H', H' l = some (.lst xs) → l ≠ p → DnAll (hid p H') xs ds → (∀ d ∈ ds, Bd 3 500 d) → ds.length = 22 → Purse H' p (n + 1) → Same (hid p H) (hid p H') → Q (.ref l) H'
section
variable {P : Program} {w : World} {K : PySem.W.Frag} {mg : Str → Option Value} {base : Heap}
theorem scThings : FnScope ["_law_purse_here", "_law_name", "_law_found"] ["_law_purse_here"] (defScope sThings) := ⟨rfl, rfl, rfl, by decide +kernel, rfl, by decide +kernel, by decide +kernel⟩
theorem ok_things {f : Addr} {fd : FuncData} (D : Dfn K mg "_law_things" sThings f fd ["_law_purse_here"]) (T : Txt K w mg) (CT : C8.Cal P w K mg base 1 "_law_take" spTake []) : FnOk P w K mg base CX0 2 f fd ["_law_purse_here"] spThings := by
  refine D.fn.ok (k := 1) scThings (fun vs H Q E h => ?_) (fun cdv A outer s H vs Q E hr h => ?_)
  · obtain ⟨p, n, rfl, _⟩ := h
    rfl
  · obtain ⟨p, n, rfl, hp, hn, go⟩ := h
    obtain ⟨pa, pb, pc, pe, pr⟩ := id hp
    refine ⟨_, pss_cons (ps_set (i := 1) scThings.nd rfl (Or.inl rfl) (pe_lst (pa_cons pe_str (pa_cons pe_str (pa_cons pe_str (pa_cons pe_str (pa_cons pe_str (pa_cons pe_str (pa_cons pe_str (pa_cons pe_str (pa_cons pe_str (pa_cons pe_str (pa_cons pe_str (pa_cons pe_str (pa_cons pe_str (pa_cons pe_str pa_nil))))))))))))))))
      (pss_cons (ps_set (i := 1) scThings.nd rfl (Or.inl rfl) (pe_op op_cat (pv 1) (pe_lst (pa_cons pe_str (pa_cons pe_str (pa_cons pe_str (pa_cons pe_str pa_nil)))))))
      (pss_cons (ps_set (i := 2) scThings.nd rfl (Or.inl rfl) (pe_lst (pa_cons (pe_ix ix_list (pv 1) (C8.pe_c CT hr (by decide) rfl (pa_cons (pv 0) (pa_cons pe_int pa_nil))) (fun _ _ => rfl))
          (pa_cons (pe_tup pa_nil) (pa_cons (pe_tup (pa_cons pe_int pa_nil)) (pa_cons (pe_tup (pa_cons pe_int (pa_cons pe_int (pa_cons pe_int pa_nil)))) (pa_cons (pe_tup (pa_cons (pe_un un_neg pe_int) pa_nil)) (pa_cons (pe_tup (pa_cons pe_bl pa_nil))
          (pa_cons (pe_lst (pa_cons pe_int pa_nil)) (pa_cons (pe_tup (pa_cons pe_int (pa_cons pe_str pa_nil))) (pa_cons (pe_tup (pa_cons (pe_op op_pow pe_int pe_int) pa_nil)) (pa_cons (pe_tup (pa_cons (pe_tup pa_nil) pa_nil)) (pa_cons pe_non pa_nil)))))))))))))
      (pss_one (ps_ret (pe_op op_cat (pv 2) (pe_lst (pa_cons pe_bl (pa_cons pe_int (pa_cons pe_int (pa_cons (pe_un un_neg pe_int) (pa_cons (pe_op op_pow pe_int pe_int) (pa_cons pe_str (pa_cons (pe_lst (pa_cons pe_str (pa_cons pe_int pa_nil)))
          (pa_cons (pe_tup (pa_cons pe_str pa_nil)) (pa_cons (pe_tup (pa_cons pe_str (pa_cons pe_int (pa_cons pe_int pa_nil)))) (pa_cons pe_dnewK (pa_cons (pe_disp (pps_cons pe_str pe_int pps_nil) (by rfl) (by rfl) (fun z => by cases z) (by decide)) pa_nil))))))))))))))))), ?_⟩
    have E1 := evl_lst (p := p) (σ := [some (.ref p), none, none]) (H := H) pe (evds_cons (evd_str (x := "a")) (evds_cons (evd_str (x := "abcdefgh")) (evds_cons (evd_str (x := "abcdefghi")) (evds_cons (evd_str (x := "")) (evds_cons (evd_str (x := "all")) (evds_cons (evd_str (x := "fun")) (evds_cons (evd_str (x := "same")) (evds_cons (evd_str (x := "self"))
      (evds_cons (evd_str (x := "put")) (evds_cons (evd_str (x := "alls")) (evds_cons (evd_str (x := "A")) (evds_cons (evd_str (x := "a1")) (evds_cons (evd_str (x := "a b")) (evds_cons (evd_str (x := "z")) evds_nil))))))))))))))
    refine st_seq (st_asg (E1 H (Same.refl H) _ fun l xs H1 nl lp S1 el dl => st_name ?_))
    have pe1 := S1 _ _ pe
    have E2 := evl_lst (p := p) (σ := [some (.ref p), some (.ref l), none]) (H := H1) pe1 (evds_cons (evd_str (x := "a_b")) (evds_cons (evd_str (x := "_")) (evds_cons (evd_str (x := "a{")) (evds_cons (evd_str (x := "`a")) evds_nil))))
    have E3 := evl_cat (te := tVar 1) pe1 el (DnAll.mono hid_sub dl) (fun H1 Q q => ⟨_, rfl, q⟩) E2 (by simp)
    dsimp only
    refine st_seq (st_asg ?_)
    refine E3 H1 (Same.refl H1) _ fun l2 ys H2 nl2 lp2 S2 el2 dl2 => st_name ?_
    dsimp only
    refine st_seq (st_asg ?_)
    refine ⟨.ref l2, rfl, .ref p, rfl, p, n, 18, rfl, hp.mono (S1.trans S2), by omega, by decide, by decide, fun r H3 r0 r1 p3 S3 => ?_⟩
    obtain ⟨sq, u, g, au, gm, dg⟩ := pick (m := 18) (Q := fun _ => True) lp2 el2 dl2 S3 r0 r1 rfl
    have bg := bds_of nm_all g gm
    refine ⟨l2, _, _, _, rfl, rfl, sq, au, ?_⟩
    have S03 := (Same.less (p := p) (S1.trans S2)).trans S3
    obtain ⟨qa, qb, qc, qe, qr⟩ := id p3
    have E4 : EvDs p _ [some (.ref p), some (.ref l2), none] H3 th1 := evds_cons (evd_tup qe evds_nil) (evds_cons (evd_tup qe (evds_cons (evd_int (z := 0)) evds_nil)) (evds_cons (evd_tup qe (evds_cons (evd_int (z := 0)) (evds_cons (evd_int (z := 1)) (evds_cons (evd_int (z := 2)) evds_nil))))
      (evds_cons (evd_tup qe (evds_cons (evd_neg (i := 1)) evds_nil)) (evds_cons (evd_tup qe (evds_cons (evd_bl (b := true)) evds_nil)) (evds_cons (evd_lst qe (evds_cons (evd_int (z := 0)) evds_nil)) (evds_cons (evd_tup qe (evds_cons (evd_int (z := 0)) (evds_cons (evd_str (x := "0")) evds_nil)))
      (evds_cons (evd_tup qe (evds_cons evd_pow evds_nil)) (evds_cons (evd_tup qe (evds_cons (evd_tup qe evds_nil) evds_nil)) (evds_cons evd_non evds_nil)))))))))
    refine E4 H3 (Same.refl H3) _ fun vs H4 S4 dvs => ?_
    have lv := dvs.length
    refine ⟨by rw [List.length_cons, lv]; exact (by decide : 11 ≤ sizeLine), fun l3 hl3 => st_name ?_⟩
    have n3 : Same H4 (upd H4 l3 (.lst (u :: vs))) := Same.new hl3
    have e3 : upd H4 l3 (.lst (u :: vs)) l3 = some (.lst (u :: vs)) := upd_same
    have lp3 : l3 ≠ p := off qe S4 hl3
    have d3 : DnAll (hid p (upd H4 l3 (.lst (u :: vs)))) (u :: vs) (g :: th1) := .cons (Dn.mono (Same.less (S4.trans n3)) dg) (DnAll.mono (Same.less n3) dvs)
    have p5 := p3.mono (S4.trans n3)
    have S05 := S03.trans (Same.less (p := p) (S4.trans n3))
    generalize upd H4 l3 (.lst (u :: vs)) = H5 at e3 d3 p5 S05
    obtain ⟨ra, rb, rc, re, rr⟩ := id p5
    have E5 : EvL p _ [some (.ref p), some (.ref l2), some (.ref l3)] H5 th2 := evl_lst (p := p) (len := by decide +kernel) re (evds_cons (evd_bl (b := true)) (evds_cons (evd_int (z := 0)) (evds_cons (evd_int (z := 5)) (evds_cons (evd_neg (i := 1)) (evds_cons evd_pow (evds_cons (evd_str (x := "at"))
      (evds_cons (evd_lst re (evds_cons (evd_str (x := "at")) (evds_cons (evd_int (z := 0)) evds_nil))) (evds_cons (evd_tup re (evds_cons (evd_str (x := "at")) evds_nil)) (evds_cons (evd_tup re (evds_cons (evd_str (x := "at")) (evds_cons (evd_int (z := 0)) (evds_cons (evd_int (z := 0)) evds_nil))))
      (evds_cons (evd_dic0 re) (evds_cons (evd_dic1 re) evds_nil)))))))))))
    have E6 := evl_cat (te := tVar 2) re e3 d3 (fun H1 Q q => ⟨_, rfl, q⟩) E5 (by show 11 + 11 ≤ 1000; decide)
    dsimp only
    refine E6 H5 (Same.refl H5) _ fun l6 zs H6 nl6 lp6 S6 el6 dl6 => ?_
    refine go l6 zs _ H6 el6 lp6 (DnAll.mono hid_sub dl6) (fun d hd => ?_) rfl (p5.mono S6) (S05.trans (Same.less (p := p) S6))
    rcases List.mem_cons.mp hd with rfl | hd
    · exact bg
    · exact bds_of th_all d hd
end
end KP
set_option Elab.async false
set_option linter.unusedVariables false
set_option maxRecDepth 100000
set_option maxHeartbeats 2000000
namespace KP
open PySem PySem.Spec PyProof.Rows L2 KA
/-! ### the law itself -/
def forB : Stmt → List Stmt | .For _ _ b _ _ => b | _ => []
abbrev sOut : List Stmt := forB ((defBody sLaw).headD (.Pass ⟨0, 0, 0, 0⟩))
abbrev sIn : List Stmt := forB ((sOut.drop 5).headD (.Pass ⟨0, 0, 0, 0⟩))
abbrev nLaw : List Str := ["_law_script", "_law_k", "_law_purse_here", "_law_term_here", "_law_spoilt_here", "_law_low", "_law_high", "_law_things_here", "_law_thing", "_law_shown", "_law_spot", "_law_due", "_law_told", "_law_one"]
theorem scLaw : FnScope nLaw ["_law_script"] (defScope sLaw) := ⟨rfl, rfl, rfl, by decide +kernel, rfl, by decide +kernel, by decide +kernel⟩
/-- what the law calls -/
structure Calls (P : Program) (w : World) (K : PySem.W.Frag) (mg : Str → Option Value) (base : Heap) : Prop where
  cell : C8.Cal P w K mg base 1 "_law_cell" (spCell K) []
  purse : C8.Cal P w K mg base 1 "_law_purse" spPurse []
  take : C8.Cal P w K mg base 1 "_law_take" spTake []
  any : C8.Cal P w K mg base 9 "_law_any" spAny []
  spoilt : C8.Cal P w K mg base 66 "_law_spoilt" (spSpoilt 64) []
  things : C8.Cal P w K mg base 2 "_law_things" spThings []
  lterm : C8.Cal P w K mg base 66 "_law_is_term" (sp1 (okL 64) tm) []
  lname : C8.Cal P w K mg base 1 "_law_is_name" (sp1 (fun d => fine d = true) nameB) []
  lwhole : C8.Cal P w K mg base 1 "_law_is_whole" spWhole []
  term : C8.Cal P w K mg base 4 "is_term" (sp1 okT tm) []
  name : C8.Cal P w K mg base 1 "is_name" (sp1 (fun d => fine d = true) nameB) []
  spot : C8.Cal P w K mg base 2 "is_spot" (sp1 okT spotB) []
  whole : C8.Cal P w K mg base 2 "is_whole" spWhole []
section
variable {P : Program} {w : World} {K : PySem.W.Frag} {mg : Str → Option Value} {base : Heap}
theorem law_in {f : Addr} {cdv : Value} {A : Around} {outer : List Env} {s : Shared} {H0 : Hp} {E : XK} (T : Txt K w mg) (C : Calls P w K mg base) (g : A.guards = some [])
    (hr : Room 89 (A.deeper (envOfC "law" (defScope sLaw) s.heap.objs.size f cdv))) :
    ∃ t, PSs (cxOf CX0 P w K mg base nLaw "law" (defScope sLaw) f cdv A outer s H0 E).nox sIn t ∧
      ∀ (D : Ends) (H : Hp) (x0 x1 x2 x3 x4 x7 y9 y10 y11 y12 : Option V) (lo hi : Int) (v : V) (d : PyData), Dn H v d → Bd 60 400000 d →
        (∀ H' z9 z10 z11 z12, Same H H' → D.nx [x0, x1, x2, x3, x4, some (.int lo), some (.int hi), x7, some v, z9, z10, z11, z12, none] H') →
        t D [x0, x1, x2, x3, x4, some (.int lo), some (.int hi), x7, some v, y9, y10, y11, y12, none] H := by
  have hu : (A.deeper (envOfC "law" (defScope sLaw) s.heap.objs.size f cdv)).units + 200 < cLine := by have := hr.un; omega
  have hg : (cxOf CX0 P w K mg base nLaw "law" (defScope sLaw) f cdv A outer s H0 E).nox.A.guards = some [] := g
  refine ⟨_, pss_cons (ps_set (i := 9) scLaw.nd rfl (Or.inl rfl) (pe_callB (call_repr hg hu) (by rfl) T.repr (by decide +kernel) (pa_cons (pv 8) pa_nil)))
    (pss_cons (ps_set (i := 10) scLaw.nd rfl (Or.inl rfl) (pe_and (pe_isD is_tup (pv 8) T.isi T.tuple (by decide +kernel)) (pe_one (pe_cmpR (op_eqE (hu_of hr)) (pe_lc (own := [("_law_one", 13)]) (g := gName 13) rfl scLaw.nd (pi_tup (pv 8)) (blkOk_by (N := nLaw) (sc := defScope sLaw) (by decide +kernel))
          (fun _ _ _ _ _ => pg_name (i := 13) scLaw.nd rfl (Or.inl rfl)) (fun _ _ _ _ _ => pts_one (pt_not (pt_val (C8.pe_c C.lwhole hr (by decide) rfl (pa_cons (pv 13) (pa_cons pe_int (pa_cons (pe_op op_pow pe_int pe_int) pa_nil))))))) (fun _ _ _ _ _ => pv 13)) (pe_lst pa_nil) (nomark _)))))
    (pss_cons (ps_set (i := 11) scLaw.nd rfl (Or.inl rfl) (pe_lst (pa_cons (C8.pe_c C.lterm hr (by decide) rfl (pa_cons (pv 8) pa_nil)) (pa_cons (C8.pe_c C.lname hr (by decide) rfl (pa_cons (pv 8) pa_nil)) (pa_cons (pv 10) (pa_cons (C8.pe_c C.lwhole hr (by decide) rfl (pa_cons (pv 8) (pa_cons (pv 5) (pa_cons (pv 6) pa_nil)))) pa_nil))))))
    (pss_cons (ps_set (i := 12) scLaw.nd rfl (Or.inl rfl) (pe_lst (pa_cons (C8.pe_c C.term hr (by decide) rfl (pa_cons (pv 8) pa_nil)) (pa_cons (C8.pe_c C.name hr (by decide) rfl (pa_cons (pv 8) pa_nil)) (pa_cons (C8.pe_c C.spot hr (by decide) rfl (pa_cons (pv 8) pa_nil)) (pa_cons (C8.pe_c C.whole hr (by decide) rfl (pa_cons (pv 8) (pa_cons (pv 5) (pa_cons (pv 6) pa_nil)))) pa_nil))))))
    (pss_one (ps_if (PW.pt (pw_or (pt_cmpR op_ne (pe_callB (call_repr hg hu) (by rfl) T.repr (by decide +kernel) (pa_cons (pv 12) pa_nil)) (pe_callB (call_repr hg hu) (by rfl) T.repr (by decide +kernel) (pa_cons (pv 11) pa_nil)) (nomark _))
        (pw_or1 (pt_cmpR op_ne (pe_callB (call_repr hg hu) (by rfl) T.repr (by decide +kernel) (pa_cons (pv 8) pa_nil)) (pv 9) (nomark _))))) (pss_one (ps_ret pe_bl)) pss_nil))))), fun D H x0 x1 x2 x3 x4 x7 y9 y10 y11 y12 lo hi v d hd bd k => ?_⟩
  have sh := shown_le d bd.1
  have sz : d.shown.length ≤ sizeLine := Nat.le_trans sh.1 (Nat.le_trans bd.2.2 (by decide))
  have dp : d.depth ≤ 100 := Nat.le_trans bd.2.1 (by decide)
  have nd : nodes d ≤ 1000000 := Nat.le_trans (nodes_wt d) (Nat.le_trans bd.2.2 (by decide))
  have dl : d.depth < 64 := Nat.lt_of_le_of_lt bd.2.1 (by decide)
  refine ⟨v, rfl, v, d, rfl, hd, sh.2, sz, dp, ?_⟩
  refine ⟨v, rfl, v, d, rfl, hd, _, rfl, ?_⟩
  refine ite_both (t2 := tC (.bl false)) (σ2 := []) (fun u H' => u = .bl (spotB d) ∧ Same H H') ?_ ?_ ?_
  · rintro _ H1 ⟨rfl, S1⟩
    refine ⟨v, rfl, v, d, rfl, Dn.mono S1 hd, ⟨bd.1, nd, dl⟩, fun H2 S2 => ?_⟩
    have S02 := S1.trans S2
    refine ⟨v, rfl, v, d, rfl, Dn.mono S02 hd, bd.1, fun H3 S3 => ?_⟩
    have S03 := S02.trans S3
    refine ⟨_, rfl, v, rfl, .int lo, rfl, .int hi, rfl, v, d, lo, hi, rfl, Dn.mono S03 hd, fun H4 S4 => ⟨(by show 4 ≤ sizeLine; decide), fun l hl => ?_⟩⟩
    have n1 : Same H4 (upd H4 l (.lst [V.bl (tm d), V.bl (nameB d), V.bl (spotB d), V.bl (wholeB lo hi d)])) := Same.new hl
    have e1 : upd H4 l (.lst [V.bl (tm d), V.bl (nameB d), V.bl (spotB d), V.bl (wholeB lo hi d)]) l = some (.lst [V.bl (tm d), V.bl (nameB d), V.bl (spotB d), V.bl (wholeB lo hi d)]) := upd_same
    have S05 := (S03.trans S4).trans n1
    generalize upd H4 l (.lst [V.bl (tm d), V.bl (nameB d), V.bl (spotB d), V.bl (wholeB lo hi d)]) = H5 at e1 S05
    refine ⟨v, rfl, v, d, rfl, Dn.mono S05 hd, ⟨bd.1, nd⟩, fun H6 S6 => ?_⟩
    have S06 := S05.trans S6
    refine ⟨v, rfl, v, d, rfl, Dn.mono S06 hd, bd.1, fun H7 S7 => ?_⟩
    have S07 := S06.trans S7
    refine ⟨v, rfl, v, d, rfl, Dn.mono S07 hd, ⟨bd.1, nd⟩, fun H8 S8 => ?_⟩
    have S08 := S07.trans S8
    refine ⟨v, rfl, .int lo, rfl, .int hi, rfl, v, d, lo, hi, rfl, Dn.mono S08 hd, fun H9 S9 => ⟨(by show 4 ≤ sizeLine; decide), fun l2 hl2 => ?_⟩⟩
    have n2 : Same H9 (upd H9 l2 (.lst [V.bl (tm d), V.bl (nameB d), V.bl (spotB d), V.bl (wholeB lo hi d)])) := Same.new hl2
    have e2 : upd H9 l2 (.lst [V.bl (tm d), V.bl (nameB d), V.bl (spotB d), V.bl (wholeB lo hi d)]) l2 = some (.lst [V.bl (tm d), V.bl (nameB d), V.bl (spotB d), V.bl (wholeB lo hi d)]) := upd_same
    have e1' := ((((S6.trans S7).trans S8).trans S9).trans n2) _ _ e1
    have S010 := (S08.trans S9).trans n2
    generalize upd H9 l2 (.lst [V.bl (tm d), V.bl (nameB d), V.bl (spotB d), V.bl (wholeB lo hi d)]) = H10 at e2 S010 e1'
    have four : ∀ {l : Addr}, H10 l = some (.lst [V.bl (tm d), V.bl (nameB d), V.bl (spotB d), V.bl (wholeB lo hi d)]) → Dn H10 (.ref l) (.list [.bool (tm d), .bool (nameB d), .bool (spotB d), .bool (wholeB lo hi d)]) := fun e => .lst e (DnAll.bools [tm d, nameB d, spotB d, wholeB lo hi d])
    have sh4 := shown_le (.list [.bool (tm d), .bool (nameB d), .bool (spotB d), .bool (wholeB lo hi d)]) rfl
    have sz4 : (PyData.list [.bool (tm d), .bool (nameB d), .bool (spotB d), .bool (wholeB lo hi d)]).shown.length ≤ sizeLine := Nat.le_trans sh4.1 (by simp only [wt, wtAll]; decide)
    have dp4 : (PyData.list [.bool (tm d), .bool (nameB d), .bool (spotB d), .bool (wholeB lo hi d)]).depth ≤ 100 := by simp only [PyData.depth, PyData.depthAll]; decide
    refine ⟨.ref l2, rfl, .ref l2, _, rfl, four e2, sh4.2, sz4, dp4, .ref l, rfl, .ref l, _, rfl, four e1', sh4.2, sz4, dp4, rfl, _, rfl, ?_⟩
    rw [decide_eq_true rfl]
    refine iteF ⟨v, rfl, v, d, rfl, Dn.mono S010 hd, sh.2, sz, dp, _, rfl, rfl, _, rfl, ?_⟩
    rw [decide_eq_true rfl]
    exact iteF (k H10 _ _ _ _ S010)
  · intro hc Q' q
    obtain ⟨ds, rfl⟩ : ∃ dt, d = .tuple dt := by cases d <;> first | exact ⟨_, rfl⟩ | cases hc
    obtain ⟨a, xs, rfl, ha, hx⟩ := tup_inv hd
    have lx := hx.length
    have fd : fineAll ds = true := by simpa only [fine] using bd.1
    have ln : ds.length ≤ 1000000 := by
      have := len_nodes ds
      simp only [nodes] at nd
      omega
    refine ⟨.ref a, rfl, a, rfl, ⟨xs, SqT.of ha⟩, fun D hD => lc_tup (K := K) (a := a) (xs := xs) (fun i H' => ∃ acc, H' D = some (.lst acc) ∧ acc.length ≤ i ∧ acc.isEmpty = (ds.take i).all (cntB 0) ∧ Same H H') ⟨[], upd_same, Nat.le_refl _, rfl, Same.new hD⟩ (fun i H' _ p => by obtain ⟨_, _, _, _, S⟩ := p; exact SqT.of (S _ _ ha)) ?_ ?_⟩
    · rintro i x H' hi ⟨acc, hl, la, ea, S⟩
      obtain ⟨e, he, dx⟩ := hx.at hi
      have fe := fine_at fd he
      have il : i < ds.length := (List.getElem?_eq_some_iff.mp he).1
      refine ⟨rfl, x, rfl, 10, 31, rfl, rfl, ⟨by decide, by decide, by decide⟩, x, e, 0, _, rfl, Dn.mono S dx, fun H2 S2 => ⟨_, rfl, ?_⟩⟩
      rw [show wholeB 0 ((10 : Int) ^ (31 : Int).toNat) e = cntB 0 e from tst_whole fe]
      have tk : (ds.take (i + 1)).all (cntB 0) = ((ds.take i).all (cntB 0) && cntB 0 e) := by
        rw [take_snoc he, List.all_append]
        simp
      cases z : cntB 0 e with
      | true =>
        refine iteF ⟨acc, S2 _ _ hl, by omega, ?_, S.trans S2⟩
        rw [tk, z, ea, Bool.and_true]
      | false =>
        refine iteT ⟨_, rfl, acc, S2 _ _ hl, Nat.lt_of_le_of_lt (by omega : acc.length ≤ 1000000) (by decide), acc ++ [x], upd_same, ?_, ?_, Same.mut (S.trans S2) hD⟩
        · rw [List.length_append]
          exact Nat.add_le_add_right la 1
        · rw [tk, z, Bool.and_false]
          simp
    · rintro H' ⟨acc, hl, la, ea, S⟩
      rw [List.take_of_length_le (by omega)] at ea
      refine ⟨Nat.zero_le _, fun b hb => ?_⟩
      have Db : D ≠ b := ne_of_none hl hb
      refine ⟨D, b, _, rfl, rfl, Or.inr ⟨(upd_ne Db).trans hl, upd_same⟩, ?_⟩
      exact q _ _ ⟨by rw [ea]; rfl, S.trans (Same.new hb)⟩
  · intro hc Q' q
    refine q _ _ ⟨?_, Same.refl H⟩
    have e : spotB d = false := by
      cases d <;> first | rfl | exact absurd rfl hc
    rw [e]
end
end KP
set_option Elab.async false
set_option linter.unusedVariables false
set_option maxRecDepth 100000
set_option maxHeartbeats 2000000
namespace KP
open PySem PySem.Spec PyProof.Rows L2 KA
theorem sql_mono {K : PySem.W.Frag} {H H' : Hp} {a : Addr} {xs : List V} (S : Same H H') (h : SqL K H a xs) : SqL K H' a xs := by
  rcases h with (h | ⟨ob, h⟩) | h
  · exact Or.inl (Or.inl (S _ _ h))
  · exact Or.inl (Or.inr ⟨ob, S _ _ h⟩)
  · exact Or.inr h
def spLaw (K : PySem.W.Frag) : Sp := fun vs H Q _ => ∃ (a : Addr) (ns : List Int), vs = [.ref a] ∧ SqL K H a (ns.map V.int) ∧ ns.length ≤ 63 ∧ ∀ H', Q (.bl true) H'
section
variable {P : Program} {w : World} {K : PySem.W.Frag} {mg : Str → Option Value} {base : Heap}
theorem ok_law {f : Addr} {fd : FuncData} (F : Fun K "law" "law" sLaw f fd) (T : Txt K w mg) (C : Calls P w K mg base) : FnG P w K mg base CX0 90 f fd ["_law_script"] (spLaw K) := by
  refine fnG (k := 89) F scLaw (fun vs H Q E h => ?_) (fun cdv A outer s H vs Q E g hr h => ?_)
  · obtain ⟨a, ns, rfl, _⟩ := h
    rfl
  · obtain ⟨a, ns, rfl, hS, hl, fin⟩ := h
    obtain ⟨ti, hti, inner⟩ := law_in (P := P) (K := K) (base := base) (f := f) (cdv := cdv) (A := A) (outer := outer) (s := s) (H0 := H) (E := E) T C g hr
    refine ⟨_, PSs.nox (pss_cons (ps_for PassesOwn.never rfl (pi_range1 (by rfl) T.range (pa_cons (pe_callB (call_max2 rfl) (by rfl) T.max (by decide +kernel) (pa_cons pe_int (pa_cons (pe_callB (call_min2 rfl) (by rfl) T.min (by decide +kernel) (pa_cons pe_int (pa_cons (pe_callB call_len_seq (by rfl) T.len PySem.boot_len (pa_cons (pv 0) pa_nil)) pa_nil))) pa_nil))) pa_nil)) (pg_name (i := 1) scLaw.nd rfl (Or.inl rfl))
        (pss_cons (ps_set (i := 2) scLaw.nd rfl (Or.inl rfl) (C8.pe_c C.purse hr (by decide) rfl (pa_cons (C8.pe_c C.cell hr (by decide) rfl (pa_cons (pv 0) (pa_cons (pv 1) pa_nil))) pa_nil)))
        (pss_cons (ps_set (i := 3) scLaw.nd rfl (Or.inl rfl) (C8.pe_c C.any hr (by decide) rfl (pa_cons (pv 2) (pa_cons pe_int (pa_cons pe_int pa_nil)))))
        (pss_cons (ps_set (i := 4) scLaw.nd rfl (Or.inl rfl) (C8.pe_c C.spoilt hr (by decide) rfl (pa_cons (pv 2) (pa_cons (pv 3) pa_nil))))
        (pss_cons (ps_par (i := 5) (j := 6) (by rfl) scLaw.nd rfl rfl (by decide) rfl rfl (pa_cons (pe_op op_sub (C8.pe_c C.take hr (by decide) rfl (pa_cons (pv 2) (pa_cons pe_int pa_nil))) pe_int) (pa_cons (pe_op op_sub (C8.pe_c C.take hr (by decide) rfl (pa_cons (pv 2) (pa_cons pe_int pa_nil))) pe_int) pa_nil)) (by rfl))
        (pss_cons (ps_set (i := 7) scLaw.nd rfl (Or.inl rfl) (pe_op op_cat (C8.pe_c C.things hr (by decide) rfl (pa_cons (pv 2) pa_nil)) (pe_lst (pa_cons (pv 5) (pa_cons (pv 6) (pa_cons (pe_op op_sub (pv 5) pe_int) (pa_cons (pe_op op_add (pv 6) pe_int) pa_nil)))))))
        (pss_cons (ps_for PassesOwn.never rfl (pi_list (pe_op op_cat (pe_lst (pa_cons (pv 3) (pa_cons (pv 4) (pa_cons (C8.pe_c C.spoilt hr (by decide) rfl (pa_cons (pv 2) (pa_cons (pv 4) pa_nil))) (pa_cons (C8.pe_c C.spoilt hr (by decide) rfl (pa_cons (pv 2) (pa_cons (pv 3) pa_nil))) pa_nil))))) (pv 7))) (pg_name (i := 8) scLaw.nd rfl (Or.inl rfl)) hti)
        (pss_one (ps_if (pt_cmpR op_notBl (C8.pe_c C.term hr (by decide) rfl (pa_cons (pv 3) pa_nil)) pe_bl (nomark _)) (pss_one (ps_ret pe_bl)) pss_nil))))))))) (pss_one (ps_ret pe_bl))), ?_⟩
    have small : ∀ j : Int, -(2 ^ 62) ≤ (if (if j < 10 then j else 10) > 2 then (if j < 10 then j else 10) else 2) ∧ (if (if j < 10 then j else 10) > 2 then (if j < 10 then j else 10) else 2) < 2 ^ 62 := fun j => by
      split <;> split <;> constructor <;> omega
    have small := small ((ns.map V.int).length : Int)
    refine ⟨_, rfl, a, _, rfl, Or.inl hS, _, _, rfl, _, _, rfl, _, rfl, small.1, small.2, ?_⟩
    clear small
    generalize (if (if (((ns.map V.int).length : Nat) : Int) < 10 then (((ns.map V.int).length : Nat) : Int) else 10) > 2 then (if (((ns.map V.int).length : Nat) : Int) < 10 then (((ns.map V.int).length : Nat) : Int) else 10) else 2) = m
    refine for_range (lo := 0) (n := m.toNat) (fun i σ H' => ∃ x1 x2 x3 x4 x5 x6 x7 x8 x9 x10 x11 x12, σ = [some (.ref a), x1, x2, x3, x4, x5, x6, x7, x8, x9, x10, x11, x12, none] ∧ Same H H') ⟨none, none, none, none, none, none, none, none, none, none, none, none, rfl, Same.refl H⟩ ?_ ?_
    · rintro i σ H1 hi ⟨x1, x2, x3, x4, x5, x6, x7, x8, x9, x10, x11, x12, rfl, S1⟩
      refine st_name ?_
      refine ⟨.ref a, rfl, _, rfl, a, ns, i, by rw [Int.zero_add]; rfl, sql_mono S1 hS, fun z => ?_⟩
      refine ⟨z, rfl, fun p H2 np S2 p2 => ?_⟩
      refine st_name ?_
      have S12 : Same H1 (hid p H2) := Same.to_hid S2 np
      refine ⟨.ref p, rfl, p, 0, 5, 1000, rfl, p2, by decide, by decide, by decide, by decide, by decide, fun tv td H3 dt tmt bt p3 S3 => ?_⟩
      have dt64 : td.depth < 64 := Nat.lt_of_le_of_lt bt.2.1 (by decide)
      refine ⟨.ref p, rfl, tv, rfl, p, 0 + 20000, tv, td, rfl, p3, dt, bt.1, Nat.le_trans bt.2.2 (by decide), dt64, by decide, fun sv sd H4 ds bs0 p4 S4 => ?_⟩
      have bs : Bd 59 300300 sd := bs0.mono (by have := bt.2.1; omega) (by have := bt.2.2; omega)
      have ds64 : sd.depth < 64 := Nat.lt_of_le_of_lt bs.2.1 (by decide)
      refine ⟨.ref p, rfl, p, 0 + 20000 + 2 * 64, 7, rfl, p4, by decide, by decide, by decide, fun lo H5 lo0 lo1 p5 S5 => ?_⟩
      refine ⟨lo, 3, rfl, rfl, .ref p, rfl, p, 0 + 20000 + 2 * 64 + 1, 7, rfl, p5, by decide, by decide, by decide, fun hh H6 hh0 hh1 p6 S6 => ?_⟩
      refine ⟨hh, 1, rfl, rfl, _, _, rfl, ?_⟩
      refine ⟨.ref p, rfl, p, 0 + 20000 + 2 * 64 + 1 + 1, rfl, p6, by decide, fun l xs ths H7 el lp dl bl ln p7 S7 => ?_⟩
      have lx := dl.length
      refine ⟨_, rfl, _, rfl, _, rfl, lo - 3, 1, rfl, rfl, _, rfl, hh - 1, 1, rfl, rfl, (by show 4 ≤ sizeLine; decide), fun l2 hl2 => ?_⟩
      have n2 : Same H7 (upd H7 l2 (.lst [.int (lo - 3), .int (hh - 1), .int (lo - 3 - 1), .int (hh - 1 + 1)])) := Same.new hl2
      have e2 : upd H7 l2 (.lst [.int (lo - 3), .int (hh - 1), .int (lo - 3 - 1), .int (hh - 1 + 1)]) l2 = some (.lst [.int (lo - 3), .int (hh - 1), .int (lo - 3 - 1), .int (hh - 1 + 1)]) := upd_same
      refine ⟨l, l2, xs, [.int (lo - 3), .int (hh - 1), .int (lo - 3 - 1), .int (hh - 1 + 1)], rfl, rfl, n2 _ _ el, e2, ?_, fun l3 hl3 => ?_⟩
      · rw [lx, ln]
        show 26 ≤ sizeLine
        decide
      have n3 := n2.trans (Same.new (o := .lst (xs ++ [.int (lo - 3), .int (hh - 1), .int (lo - 3 - 1), .int (hh - 1 + 1)])) hl3)
      clear e2
      have e3 : upd (upd H7 l2 (.lst [.int (lo - 3), .int (hh - 1), .int (lo - 3 - 1), .int (hh - 1 + 1)])) l3 (.lst (xs ++ [.int (lo - 3), .int (hh - 1), .int (lo - 3 - 1), .int (hh - 1 + 1)])) l3 = some (.lst (xs ++ [.int (lo - 3), .int (hh - 1), .int (lo - 3 - 1), .int (hh - 1 + 1)])) := upd_same
      obtain ⟨qa, qb, qc, qe, qr⟩ := id p7
      have lp3 : l3 ≠ p := off qe n2 hl3
      generalize upd (upd H7 l2 (.lst [.int (lo - 3), .int (hh - 1), .int (lo - 3 - 1), .int (hh - 1 + 1)])) l3 (.lst (xs ++ [.int (lo - 3), .int (hh - 1), .int (lo - 3 - 1), .int (hh - 1 + 1)])) = H8 at n3 e3
      have p8 := p7.mono n3
      have N3 := Same.less (p := p) n3
      have d3 : DnAll (hid p H8) (xs ++ [.int (lo - 3), .int (hh - 1), .int (lo - 3 - 1), .int (hh - 1 + 1)]) (ths ++ [.int (lo - 3), .int (hh - 1), .int (lo - 3 - 1), .int (hh - 1 + 1)]) := (DnAll.mono N3 dl).append (.cons (.int _) (.cons (.int _) (.cons (.int _) (.cons (.int _) .nil))))
      refine st_name ?_
      have S38 := ((((S4.trans S5).trans S6).trans S7).trans N3)
      have S48 := (((S5.trans S6).trans S7).trans N3)
      have dt8 := Dn.mono S38 dt
      have ds8 := Dn.mono S48 ds
      refine ⟨tv, rfl, sv, rfl, .ref p, rfl, sv, rfl, p, _, sv, sd, rfl, p8, ds8, bs.1, Nat.le_trans bs.2.2 (by decide), ds64, by decide, fun uv ud H9 du bu0 p9 S9 => ?_⟩
      have bu : Bd 60 300600 ud := bu0.mono (by have := bs.2.1; omega) (by have := bs.2.2; omega)
      have dt9 := Dn.mono S9 dt8
      refine ⟨.ref p, rfl, tv, rfl, p, _, tv, td, rfl, p9, dt9, bt.1, Nat.le_trans bt.2.2 (by decide), dt64, by decide, fun wv wd H10 dw bw0 p10 S10 => ⟨(by show 4 ≤ sizeLine; decide), fun l4 hl4 => ?_⟩⟩
      have bw : Bd 60 300600 wd := bw0.mono (by have := bt.2.1; omega) (by have := bt.2.2; omega)
      have n4 : Same H10 (upd H10 l4 (.lst [tv, sv, uv, wv])) := Same.new hl4
      have e4 : upd H10 l4 (.lst [tv, sv, uv, wv]) l4 = some (.lst [tv, sv, uv, wv]) := upd_same
      have e310 : H10 l3 = some (.lst (xs ++ [.int (lo - 3), .int (hh - 1), .int (lo - 3 - 1), .int (hh - 1 + 1)])) := hid_sub _ _ ((S9.trans S10) _ _ (by rw [hid_ne lp3]; exact e3))
      refine ⟨.ref l3, rfl, l4, l3, [tv, sv, uv, wv], _, rfl, rfl, e4, n4 _ _ e310, ?_, fun l5 hl5 => ?_⟩
      · rw [List.length_append, lx, ln]
        show 30 ≤ sizeLine
        decide
      have S1011 := n4.trans (Same.new (o := .lst ([tv, sv, uv, wv] ++ (xs ++ [.int (lo - 3), .int (hh - 1), .int (lo - 3 - 1), .int (hh - 1 + 1)]))) hl5)
      have e5 : upd (upd H10 l4 (.lst [tv, sv, uv, wv])) l5 (.lst ([tv, sv, uv, wv] ++ (xs ++ [.int (lo - 3), .int (hh - 1), .int (lo - 3 - 1), .int (hh - 1 + 1)]))) l5 = some (.lst ([tv, sv, uv, wv] ++ (xs ++ [.int (lo - 3), .int (hh - 1), .int (lo - 3 - 1), .int (hh - 1 + 1)]))) := upd_same
      generalize upd (upd H10 l4 (.lst [tv, sv, uv, wv])) l5 (.lst ([tv, sv, uv, wv] ++ (xs ++ [.int (lo - 3), .int (hh - 1), .int (lo - 3 - 1), .int (hh - 1 + 1)]))) = H11 at S1011 e5
      have up : Same (hid p H10) H11 := hid_sub.trans S1011
      have dt11 := Dn.mono (S10.trans up) dt9
      have ds11 := Dn.mono ((S9.trans S10).trans up) ds8
      have du11 := Dn.mono (S10.trans up) du
      have dw11 := Dn.mono up dw
      have d11 : DnAll H11 ([tv, sv, uv, wv] ++ (xs ++ [.int (lo - 3), .int (hh - 1), .int (lo - 3 - 1), .int (hh - 1 + 1)])) ([td, sd, ud, wd] ++ (ths ++ [.int (lo - 3), .int (hh - 1), .int (lo - 3 - 1), .int (hh - 1 + 1)])) :=
        DnAll.append (.cons dt11 (.cons ds11 (.cons du11 (.cons dw11 .nil)))) (DnAll.mono ((S9.trans S10).trans up) d3)
      have ball : ∀ d ∈ [td, sd, ud, wd] ++ (ths ++ [.int (lo - 3), .int (hh - 1), .int (lo - 3 - 1), .int (hh - 1 + 1)]), Bd 60 400000 d := fun d hd => by
        rcases List.mem_append.mp hd with hd | hd
        · simp only [List.mem_cons, List.not_mem_nil, or_false] at hd
          rcases hd with rfl | rfl | rfl | rfl
          · exact bt.mono (by decide) (by decide)
          · exact bs.mono (by decide) (by decide)
          · exact bu.mono (by decide) (by decide)
          · exact bw.mono (by decide) (by decide)
        · rcases List.mem_append.mp hd with hd | hd
          · exact (bl d hd).mono (by decide) (by decide)
          · simp only [List.mem_cons, List.not_mem_nil, or_false] at hd
            rcases hd with rfl | rfl | rfl | rfl <;> exact (Bd.int (by omega)).mono (by decide) (by decide)
      have S111 : Same H1 H11 := (((S12.trans S3).trans S38).trans (S9.trans S10)).trans up
      generalize [tv, sv, uv, wv] ++ (xs ++ [.int (lo - 3), .int (hh - 1), .int (lo - 3 - 1), .int (hh - 1 + 1)]) = allV at e5 d11
      generalize [td, sd, ud, wd] ++ (ths ++ [.int (lo - 3), .int (hh - 1), .int (lo - 3 - 1), .int (hh - 1 + 1)]) = allD at d11 ball
      refine ⟨l5, rfl, ⟨_, SqL.of e5⟩, for_list (K := K) (a := l5) (xs := allV) (fun i' σ H' => ∃ y8 y9 y10 y11 y12, σ = [some (.ref a), some (.int (0 + (i : Int))), some (.ref p), some tv, some sv, some (.int (lo - 3)), some (.int (hh - 1)), some (.ref l3), y8, y9, y10, y11, y12, none] ∧ Same H11 H') ⟨x8, x9, x10, x11, x12, rfl, Same.refl H11⟩ (fun i' σ H' _ q => by obtain ⟨_, _, _, _, _, _, S⟩ := q; exact SqL.of (S _ _ e5)) ?_ ?_⟩
      · rintro i' x σ H12 hx ⟨y8, y9, y10, y11, y12, rfl, S12'⟩
        obtain ⟨d, hd, dx⟩ := d11.at hx
        refine st_name ?_
        exact inner _ H12 _ _ _ _ _ _ _ _ _ _ (lo - 3) (hh - 1) x d (Dn.mono S12' dx) (ball d (List.mem_of_getElem? hd)) fun H' z9 z10 z11 z12 S => ⟨_, _, _, _, _, rfl, S12'.trans S⟩
      · rintro σ H12 ⟨y8, y9, y10, y11, y12, rfl, S12'⟩
        refine ⟨tv, rfl, tv, td, rfl, Dn.mono S12' dt11, ⟨bt.1, Nat.le_trans (nodes_wt td) (Nat.le_trans bt.2.2 (by decide))⟩, fun H13 S13 => ?_⟩
        rw [tmt]
        refine ⟨_, _, rfl, rfl, _, rfl, ?_⟩
        exact iteF ⟨_, _, _, _, _, _, _, _, _, _, _, _, rfl, S1.trans ((S111.trans S12').trans S13)⟩
    · rintro σ H1 ⟨x1, x2, x3, x4, x5, x6, x7, x8, x9, x10, x11, x12, rfl, S1⟩
      exact fin H1
end
end KP
set_option Elab.async false
set_option linter.unusedVariables false
set_option maxRecDepth 100000
set_option maxHeartbeats 2000000
namespace KP
open PySem PySem.Spec PyProof.Rows L2 KA
/-! ### what stands behind the top -/
structure DefAt (K : PySem.W.Frag) (x : Str) (st : Stmt) (f : Addr) (fd : FuncData) : Prop where
  at_ : PySem.W.nsIn K mainGlobals x = some (some (.ref f))
  fn : Fun K x x st f fd
theorem defAt {K : PySem.W.Frag} {x : Str} {st : Stmt} {f : Addr} {oc : Value} {od an : Option Addr} {osl : Array (Option Value)} {kV doc pm cdv ct : Value} (a : PySem.W.nsIn K mainGlobals x = some (some (.ref f))) (l : K.lookup f = some ⟨oc, od, .func (PySem.W.fnOf x x (defArgs st) (defBody st) (defScope st) .none kV doc pm an cdv ct), osl⟩)
    (c : PySem.W.codeIn K cdv x = true) (k : PySem.W.keepIn K (.ref f) = true) : ∃ f fd, DefAt K x st f fd := ⟨_, _, a, fun_mk l c k⟩
structure Facts (K : PySem.W.Frag) (w : World) : Prop where
  whole : ∃ f fd, DefAt K "is_whole" sWhole f fd
  name : ∃ f fd, DefAt K "is_name" sName f fd
  leaf : ∃ f fd, DefAt K "_is_leaf" sLeaf f fd
  term : ∃ f fd, DefAt K "is_term" sTerm f fd
  spot : ∃ f fd, DefAt K "is_spot" sSpot f fd
  count : ∃ f fd, PySem.W.nsIn K mainGlobals "is_count" = some (some (.ref f)) ∧ FunD K "is_count" "is_count" (defArgs sCount) (defBody sCount) (defScope sCount) [.int 0] [] f fd
  cell : ∃ f fd, DefAt K "_law_cell" sCell f fd
  purse : ∃ f fd, DefAt K "_law_purse" sPurse f fd
  take : ∃ f fd, DefAt K "_law_take" sTake f fd
  forms : ∃ f fd, DefAt K "_law_forms" sForms f fd
  word : ∃ f fd, DefAt K "_law_word" sWord f fd
  tm : ∃ f fd, DefAt K "_law_term" sTm f fd
  any : ∃ f fd, DefAt K "_law_any" sAny f fd
  lname : ∃ f fd, DefAt K "_law_is_name" sLName f fd
  lwhole : ∃ f fd, DefAt K "_law_is_whole" sLWhole f fd
  lterm : ∃ f fd, DefAt K "_law_is_term" sLTerm f fd
  spoilt : ∃ f fd, DefAt K "_law_spoilt" sSpoilt f fd
  things : ∃ f fd, DefAt K "_law_things" sThings f fd
  law : ∃ f fd, DefAt K "law" sLaw f fd
  isi : PySem.W.nsIn K mainGlobals "isinstance" = some none
  int : PySem.W.nsIn K mainGlobals "int" = some none
  bool : PySem.W.nsIn K mainGlobals "bool" = some none
  str : PySem.W.nsIn K mainGlobals "str" = some none
  tuple : PySem.W.nsIn K mainGlobals "tuple" = some none
  list : PySem.W.nsIn K mainGlobals "list" = some none
  dict : PySem.W.nsIn K mainGlobals "dict" = some none
  len : PySem.W.nsIn K mainGlobals "len" = some none
  all : PySem.W.nsIn K mainGlobals "all" = some none
  max : PySem.W.nsIn K mainGlobals "max" = some none
  min : PySem.W.nsIn K mainGlobals "min" = some none
  range : PySem.W.nsIn K mainGlobals "range" = some none
  zip : PySem.W.nsIn K mainGlobals "zip" = some none
  repr : PySem.W.nsIn K mainGlobals "repr" = some none
  letters : ∃ u, PySem.W.nsIn K mainGlobals "LETTERS" = some (some u) ∧ RelV (.str KP.letters) u
  most : ∃ u, PySem.W.nsIn K mainGlobals "MOST_LETTERS" = some (some u) ∧ RelV (.int 8) u
  highest : ∃ u, PySem.W.nsIn K mainGlobals "HIGHEST" = some (some u) ∧ RelV (.int 5) u
  no : ∃ a o its n, PySem.W.nsIn K mainGlobals "NO_NAMES" = some (some (.ref a)) ∧ K.lookup a = some o ∧ o.cls = .type "tuple" ∧ o.data = .seq its n ∧ its.size ≤ sizeLine ∧ Vals (noNames.map V.str) its.toList
  parted : ∃ a es n, PySem.W.nsIn K mainGlobals "PARTED" = some (some (.ref a)) ∧ KDict K w a es n ∧ ∀ z, ∃ r, PySem.W.nsIn K a z = some r ∧ RelO ((parts z).map fun n => V.int (n : Int)) r
section
variable {P : Program} {w : World} {K : PySem.W.Frag} {h : Heap} {mg : Str → Option Value}
theorem Facts.txt (Z : Facts K w) (X : K.In h) (G : h.Ns mainGlobals mg) : Txt K w mg where
  isi := PySem.W.mg_none_of X G Z.isi
  int := PySem.W.mg_none_of X G Z.int
  bool := PySem.W.mg_none_of X G Z.bool
  str := PySem.W.mg_none_of X G Z.str
  tuple := PySem.W.mg_none_of X G Z.tuple
  list := PySem.W.mg_none_of X G Z.list
  dict := PySem.W.mg_none_of X G Z.dict
  len := PySem.W.mg_none_of X G Z.len
  all := PySem.W.mg_none_of X G Z.all
  max := PySem.W.mg_none_of X G Z.max
  min := PySem.W.mg_none_of X G Z.min
  range := PySem.W.mg_none_of X G Z.range
  zip := PySem.W.mg_none_of X G Z.zip
  repr := PySem.W.mg_none_of X G Z.repr
  letters := by
    obtain ⟨u, e, r⟩ := Z.letters
    exact ⟨u, PySem.W.mg_of X G e, r⟩
  most := by
    obtain ⟨u, e, r⟩ := Z.most
    exact ⟨u, PySem.W.mg_of X G e, r⟩
  highest := by
    obtain ⟨u, e, r⟩ := Z.highest
    exact ⟨u, PySem.W.mg_of X G e, r⟩
  no := by
    obtain ⟨a, o, its, n, e, r⟩ := Z.no
    exact ⟨a, o, its, n, PySem.W.mg_of X G e, r⟩
  parted := by
    obtain ⟨a, es, n, e, r⟩ := Z.parted
    exact ⟨a, es, n, PySem.W.mg_of X G e, r⟩
theorem DefAt.dfn {x : Str} {st : Stmt} {f : Addr} {fd : FuncData} {ps : List Str} (D : DefAt K x st f fd) (X : K.In h) (G : h.Ns mainGlobals mg)
    (b : ∀ (kV doc pm : Value) (an : Option Addr) (cdv ct : Value) (us : List Value), us.length = ps.length → bindArgs (PySem.W.fnOf x x (defArgs st) (defBody st) (defScope st) .none kV doc pm an cdv ct) ⟨us, []⟩ = pure (ps.zip us)) : Dfn K mg x st f fd ps :=
  ⟨D.fn, PySem.W.mg_of X G D.at_, D.fn.binds b⟩
theorem all_mk {fa : Addr} (X : K.In h) (G : h.Ns mainGlobals mg) (hfa : mg "law" = some (.ref fa)) (Z : Facts K w) :
    ∃ fd : FuncData, (∀ (s : Shared) (v : Value), BindsTo s fd ⟨[v], []⟩ [("_law_script", v)]) ∧ ∀ base : Heap, K.In base → base.Ns mainGlobals mg → FnG P w K mg base CX0 90 fa fd ["_law_script"] (spLaw K) := by
  have T := Z.txt X G
  obtain ⟨f1, d1, D1⟩ := Z.whole
  obtain ⟨f2, d2, D2⟩ := Z.name
  obtain ⟨f3, d3, D3⟩ := Z.leaf
  obtain ⟨f4, d4, D4⟩ := Z.term
  obtain ⟨f5, d5, D5⟩ := Z.spot
  obtain ⟨f6, d6, e6, D6⟩ := Z.count
  obtain ⟨f7, d7, D7⟩ := Z.cell
  obtain ⟨f8, d8, D8⟩ := Z.purse
  obtain ⟨f9, d9, D9⟩ := Z.take
  obtain ⟨f10, d10, D10⟩ := Z.forms
  obtain ⟨f11, d11, D11⟩ := Z.word
  obtain ⟨f12, d12, D12⟩ := Z.tm
  obtain ⟨f13, d13, D13⟩ := Z.any
  obtain ⟨f14, d14, D14⟩ := Z.lname
  obtain ⟨f15, d15, D15⟩ := Z.lwhole
  obtain ⟨f16, d16, D16⟩ := Z.lterm
  obtain ⟨f17, d17, D17⟩ := Z.spoilt
  obtain ⟨f18, d18, D18⟩ := Z.things
  obtain ⟨f19, d19, D19⟩ := Z.law
  have e := hfa.symm.trans (PySem.W.mg_of X G D19.at_)
  cases e
  have m6 := PySem.W.mg_of X G e6
  obtain ⟨ds0, v0, b0⟩ := D6.binds1 (ps := ["thing", "low"]) 1 0 (by simp) rfl fun _ _ _ _ _ _ _ us its hu hi => match us, its, hu, hi with | [_], [_], _, _ => ⟨_, rfl, rfl⟩
  obtain ⟨ds1, v1, b1⟩ := D6.binds1 (ps := ["thing", "low"]) 2 1 (by simp) rfl fun _ _ _ _ _ _ _ us its hu hi => match us, its, hu, hi with | [_, _], [_], _, _ => ⟨_, rfl, rfl⟩
  have N1 : Dfn K mg "is_whole" sWhole f1 d1 ["thing", "low", "high"] := D1.dfn X G fun _ _ _ _ _ _ us hl => match us, hl with | [_, _, _], _ => rfl
  have N2 : Dfn K mg "is_name" sName f2 d2 ["thing"] := D2.dfn X G fun _ _ _ _ _ _ us hl => match us, hl with | [_], _ => rfl
  have N3 : Dfn K mg "_is_leaf" sLeaf f3 d3 ["thing"] := D3.dfn X G fun _ _ _ _ _ _ us hl => match us, hl with | [_], _ => rfl
  have N4 : Dfn K mg "is_term" sTerm f4 d4 ["thing"] := D4.dfn X G fun _ _ _ _ _ _ us hl => match us, hl with | [_], _ => rfl
  have N5 : Dfn K mg "is_spot" sSpot f5 d5 ["thing"] := D5.dfn X G fun _ _ _ _ _ _ us hl => match us, hl with | [_], _ => rfl
  have N7 : Dfn K mg "_law_cell" sCell f7 d7 ["_law_script", "_law_k"] := D7.dfn X G fun _ _ _ _ _ _ us hl => match us, hl with | [_, _], _ => rfl
  have N8 : Dfn K mg "_law_purse" sPurse f8 d8 ["_law_cell_here"] := D8.dfn X G fun _ _ _ _ _ _ us hl => match us, hl with | [_], _ => rfl
  have N9 : Dfn K mg "_law_take" sTake f9 d9 ["_law_purse_here", "_law_many"] := D9.dfn X G fun _ _ _ _ _ _ us hl => match us, hl with | [_, _], _ => rfl
  have N10 : Dfn K mg "_law_forms" sForms f10 d10 [] := D10.dfn X G fun _ _ _ _ _ _ us hl => match us, hl with | [], _ => rfl
  have N11 : Dfn K mg "_law_word" sWord f11 d11 ["_law_purse_here"] := D11.dfn X G fun _ _ _ _ _ _ us hl => match us, hl with | [_], _ => rfl
  have N12 : Dfn K mg "_law_term" sTm f12 d12 psTm := D12.dfn X G fun _ _ _ _ _ _ us hl => match us, hl with | [_, _, _], _ => rfl
  have N13 : Dfn K mg "_law_any" sAny f13 d13 ["_law_purse_here", "_law_deep", "_law_below"] := D13.dfn X G fun _ _ _ _ _ _ us hl => match us, hl with | [_, _, _], _ => rfl
  have N14 : Dfn K mg "_law_is_name" sLName f14 d14 ["_law_thing"] := D14.dfn X G fun _ _ _ _ _ _ us hl => match us, hl with | [_], _ => rfl
  have N15 : Dfn K mg "_law_is_whole" sLWhole f15 d15 ["_law_thing", "_law_low", "_law_high"] := D15.dfn X G fun _ _ _ _ _ _ us hl => match us, hl with | [_, _, _], _ => rfl
  have N16 : Dfn K mg "_law_is_term" sLTerm f16 d16 ["_law_thing"] := D16.dfn X G fun _ _ _ _ _ _ us hl => match us, hl with | [_], _ => rfl
  have N17 : Dfn K mg "_law_spoilt" sSpoilt f17 d17 ["_law_purse_here", "_law_thing"] := D17.dfn X G fun _ _ _ _ _ _ us hl => match us, hl with | [_, _], _ => rfl
  have N18 : Dfn K mg "_law_things" sThings f18 d18 ["_law_purse_here"] := D18.dfn X G fun _ _ _ _ _ _ us hl => match us, hl with | [_], _ => rfl
  have N19 : Dfn K mg "law" sLaw fa d19 ["_law_script"] := D19.dfn X G fun _ _ _ _ _ _ us hl => match us, hl with | [_], _ => rfl
  obtain ⟨oc, od, kV, doc, pm, an, cdv, ct, osl, e19, _⟩ := D19.fn.ex
  refine ⟨d19, fun s v => by rw [e19]; exact .of_eq rfl, fun base _ _ => ?_⟩
  have C6 := ok_count (P := P) (base := base) D6 T
  have c60 : C8.Cal P w K mg base 1 "is_count" spCount [.int 0] := ⟨f6, d6, _, ds0, C6, m6, D6.kp, b0, v0⟩
  have c61 : C8.Cal P w K mg base 1 "is_count" spCount [] := ⟨f6, d6, _, ds1, C6, m6, D6.kp, b1, v1⟩
  have c1 := N1.cal (P := P) (base := base) (ok_whole N1.fn T c61)
  have c2 := N2.cal (P := P) (base := base) (ok_name N2.fn T)
  have c3 := N3.cal (P := P) (base := base) (ok_leaf N3.fn T c60 c1 c2)
  have c4 := N4.cal (P := P) (base := base) (ok_term N4.fn T c3)
  have c5 := N5.cal (P := P) (base := base) (ok_spot N5.fn T c60)
  have c7 := N7.cal (P := P) (base := base) (ok_cell N7.fn T)
  have c8 := N8.cal (P := P) (base := base) (ok_purse N8.fn T)
  have c9 := N9.cal (P := P) (base := base) (ok_take N9.fn T)
  have c10 := N10.cal (P := P) (base := base) (ok_forms N10.fn T)
  have c11 := N11.cal (P := P) (base := base) (ok_word N11.fn T c9)
  have c12 : C8.Cal P w K mg base 8 "_law_term" (spTm 5) [] := N12.cal (P := P) (base := base) (ok_tm N12 T c9 c11 c10 5)
  have c13 := N13.cal (P := P) (base := base) (ok_any N13 T c9 c12)
  have c14 := N14.cal (P := P) (base := base) (ok_lname N14 T)
  have c15 := N15.cal (P := P) (base := base) (ok_lwhole N15 T)
  have c16 : C8.Cal P w K mg base 66 "_law_is_term" (sp1 (okL 64) KP.tm) [] := N16.cal (P := P) (base := base) (ok_lterm N16 T c10 c15 c14 64)
  have c17 : C8.Cal P w K mg base 66 "_law_spoilt" (spSpoilt 64) [] := N17.cal (P := P) (base := base) (ok_spoilt N17 T c9 64)
  have c18 := N18.cal (P := P) (base := base) (ok_things N18 T c9)
  exact ok_law N19.fn T ⟨c7, c8, c9, c13, c17, c18, c16, c14, c15, c4, c2, c5, c1⟩
end
end KP
set_option Elab.async false
set_option linter.unusedVariables false
set_option maxRecDepth 100000
set_option maxHeartbeats 2000000
namespace KP
open PySem PySem.Spec PyProof.Rows L2 KA
section
variable {K : PySem.W.Frag} {w : World}
theorem glo_mk {x : Str} {u : Value} {v : V} (e : PySem.W.nsIn K mainGlobals x = some (some u)) (r : RelV v u) : ∃ u, PySem.W.nsIn K mainGlobals x = some (some u) ∧ RelV v u := ⟨u, e, r⟩
theorem no_mk {a : Addr} {dd : Option Addr} {its : Array Value} {n : Nat} {sl : Array (Option Value)} (e : PySem.W.nsIn K mainGlobals "NO_NAMES" = some (some (.ref a))) (l : K.lookup a = some ⟨.type "tuple", dd, .seq its n, sl⟩) (s : its.size ≤ sizeLine) (v : Vals (noNames.map V.str) its.toList) :
    ∃ a o its n, PySem.W.nsIn K mainGlobals "NO_NAMES" = some (some (.ref a)) ∧ K.lookup a = some o ∧ o.cls = .type "tuple" ∧ o.data = .seq its n ∧ its.size ≤ sizeLine ∧ Vals (noNames.map V.str) its.toList := ⟨a, _, its, n, e, l, rfl, rfl, s, v⟩
theorem count_mk {f T : Addr} {oc : Value} {od an td : Option Addr} {kV doc pm cdv ct tc : Value} {osl tsl : Array (Option Value)} {its : Array Value} {n : Nat} (e : PySem.W.nsIn K mainGlobals "is_count" = some (some (.ref f)))
    (l : K.lookup f = some ⟨oc, od, .func (PySem.W.fnOf "is_count" "is_count" (defArgs sCount) (defBody sCount) (defScope sCount) (.ref T) kV doc pm an cdv ct), osl⟩) (c : PySem.W.codeIn K cdv "is_count" = true) (k : PySem.W.keepIn K (.ref f) = true)
    (lT : K.lookup T = some ⟨tc, td, .seq its n, tsl⟩) (v : Vals [.int 0] its.toList) :
    ∃ f fd, PySem.W.nsIn K mainGlobals "is_count" = some (some (.ref f)) ∧ FunD K "is_count" "is_count" (defArgs sCount) (defBody sCount) (defScope sCount) [.int 0] [] f fd :=
  ⟨f, _, e, ⟨_, _, _, _, _, _, _, _, _, _, rfl, l, c, Or.inr ⟨by simp, T, _, its.toList, n, rfl, lT, rfl, v⟩, Or.inl rfl⟩, k⟩
theorem parted_z {a : Addr} {c : Value} {d : Option Addr} {n : Nat} {sl : Array (Option Value)} {h1 h2 h3 h4 h5 h6 : Int} {k1 k2 k3 k4 k5 k6 v1 v2 v3 v4 v5 v6 : Tok}
    (l : K.lookup a = some ⟨c, d, .dict #[⟨h1, .str "all" k1, .int 2 v1⟩, ⟨h2, .str "fun" k2, .int 2 v2⟩, ⟨h3, .str "app" k3, .int 2 v3⟩, ⟨h4, .str "same" k4, .int 3 v4⟩, ⟨h5, .str "self" k5, .int 2 v5⟩, ⟨h6, .str "put" k6, .int 3 v6⟩] n, sl⟩) :
    ∀ z, ∃ r, PySem.W.nsIn K a z = some r ∧ RelO ((parts z).map fun n => V.int (n : Int)) r := by
  intro z
  have y : ∀ {s : Str} {t : Tok}, s = z → (Value.str s t).isStr z = true := fun h => by
    subst h
    show (_ == _) = true
    simp
  have no : ∀ {s : Str} {t : Tok}, z ≠ s → (Value.str s t).isStr z = false := fun h => by
    show (_ == _) = false
    exact beq_eq_false_iff_ne.mpr fun e => h e.symm
  have pos : ∀ {h : Int} {s : Str} {t : Tok} {v : Value} {r : List DictEntry}, s = z → List.find? (fun x : DictEntry => x.key.isStr z) (⟨h, .str s t, v⟩ :: r) = some ⟨h, .str s t, v⟩ := fun e => List.find?_cons_of_pos (y e)
  have neg : ∀ {h : Int} {s : Str} {t : Tok} {v : Value} {r : List DictEntry}, z ≠ s → List.find? (fun x : DictEntry => x.key.isStr z) (⟨h, .str s t, v⟩ :: r) = List.find? (fun x : DictEntry => x.key.isStr z) r := fun e => List.find?_cons_of_neg (by
    show ¬ (Value.str _ _).isStr z = true
    rw [no e]
    exact Bool.false_ne_true)
  unfold PySem.W.nsIn
  rw [l]
  dsimp only
  by_cases c1 : z = "all"
  · rw [pos c1.symm]
    refine ⟨_, rfl, ?_⟩
    rw [c1]
    exact ⟨_, rfl⟩
  rw [neg c1]
  by_cases c2 : z = "fun"
  · rw [pos c2.symm]
    refine ⟨_, rfl, ?_⟩
    rw [c2]
    exact ⟨_, rfl⟩
  rw [neg c2]
  by_cases c3 : z = "app"
  · rw [pos c3.symm]
    refine ⟨_, rfl, ?_⟩
    rw [c3]
    exact ⟨_, rfl⟩
  rw [neg c3]
  by_cases c4 : z = "same"
  · rw [pos c4.symm]
    refine ⟨_, rfl, ?_⟩
    rw [c4]
    exact ⟨_, rfl⟩
  rw [neg c4]
  by_cases c5 : z = "self"
  · rw [pos c5.symm]
    refine ⟨_, rfl, ?_⟩
    rw [c5]
    exact ⟨_, rfl⟩
  rw [neg c5]
  by_cases c6 : z = "put"
  · rw [pos c6.symm]
    refine ⟨_, rfl, ?_⟩
    rw [c6]
    exact ⟨_, rfl⟩
  rw [neg c6]
  have e : parts z = none := by
    unfold parts
    rw [if_neg c1, if_neg c2, if_neg c3, if_neg c4, if_neg c5, if_neg c6]
  rw [e]
  exact ⟨none, rfl, trivial⟩
theorem parted_mk {a : Addr} {n : Nat} {h1 h2 h3 h4 h5 h6 : Int} {k1 k2 k3 k4 k5 k6 v1 v2 v3 v4 v5 v6 : Tok} (e : PySem.W.nsIn K mainGlobals "PARTED" = some (some (.ref a)))
    (l : K.lookup a = some ⟨.type "dict", none, .dict #[⟨h1, .str "all" k1, .int 2 v1⟩, ⟨h2, .str "fun" k2, .int 2 v2⟩, ⟨h3, .str "app" k3, .int 2 v3⟩, ⟨h4, .str "same" k4, .int 3 v4⟩, ⟨h5, .str "self" k5, .int 2 v5⟩, ⟨h6, .str "put" k6, .int 3 v6⟩] n, #[]⟩)
    (k : PySem.W.KeysLit w.params (#[(⟨h1, .str "all" k1, .int 2 v1⟩ : DictEntry), ⟨h2, .str "fun" k2, .int 2 v2⟩, ⟨h3, .str "app" k3, .int 2 v3⟩, ⟨h4, .str "same" k4, .int 3 v4⟩, ⟨h5, .str "self" k5, .int 2 v5⟩, ⟨h6, .str "put" k6, .int 3 v6⟩] : Array DictEntry).toList) (lo : (a == sysModules) = false) :
    ∃ a es n, PySem.W.nsIn K mainGlobals "PARTED" = some (some (.ref a)) ∧ KDict K w a es n ∧ ∀ z, ∃ r, PySem.W.nsIn K a z = some r ∧ RelO ((parts z).map fun n => V.int (n : Int)) r := ⟨a, _, n, e, ⟨l, k, lo⟩, parted_z l⟩
end
end KP
set_option Elab.async false
set_option maxRecDepth 100000
open PySem PySem.W PyProof.Rows in
set_option maxRecDepth 100000 in
set_option maxHeartbeats 0 in
theorem PySem.Challenge.cw_kernelpapers_k01_terms_of_anything_holds : PySem.Challenge.rw_kernelpapers_k01_terms_of_anything.Holds := by
  w_on; o_law; k_head; (case hw => w_witness2)
  k_fill
  refine KA.walkG (l := PySem.Challenge.rw_kernelpapers_k01_terms_of_anything) (n := 63) (k := 90) (x := "_law_script") (sp := KP.spLaw) rfl (by decide) rfl ⟨rfl, by decide, by decide⟩ (fun w h Y => PySem.W.kIn_of Y) ?F ?G
  case G => exact fun K H a ns hl _ hS => ⟨a, ns, rfl, hS, hl, fun _ => rfl⟩
  case F =>
    intro w mg fa h KX G hmg
    refine KP.all_mk KX G hmg ?Z
    clear hmg
    constructor
    case letters =>
      refine KP.glo_mk (by k_is) ?_
      exact ⟨_, rfl⟩
    case most =>
      refine KP.glo_mk (by k_is) ?_
      exact ⟨_, rfl⟩
    case highest =>
      refine KP.glo_mk (by k_is) ?_
      exact ⟨_, rfl⟩
    case no =>
      refine KP.no_mk (by k_is) (by k_is) ?s ?v
      (case s => decide)
      (case v => exact .cons ⟨_, rfl⟩ (.cons ⟨_, rfl⟩ (.cons ⟨_, rfl⟩ (.cons ⟨_, rfl⟩ (.cons ⟨_, rfl⟩ .nil)))))
    case parted =>
      refine KP.parted_mk (by k_is) (by k_is) ?k ?lo
      (case k => k_keys)
      (case lo => rfl)
    case count =>
      refine KP.count_mk (by k_is) (by k_is) (by k_is) (by k_is) (by k_is) ?v
      exact .cons ⟨_, rfl⟩ .nil
    all_goals first | k_is | exact KP.defAt (by k_is) (by k_is) (by k_is) (by k_is)
