import PyProof.Rows.All
import Wide.All
import OpenK.AllK
import Wide.FinOn
import HandS.ForMost
import HandS.Defaults
import HandS.IsInst
import HandS.TupAny
import HandS.ListItems
import HandS.Flow
import HandS.Zip
import PyProof.AutoSeq1
import HandS.Zip0
import PyProof.Draws
import HandS.Codes
import HandS.More
import HandS.Style
import HandS.Conv
import PyProof.StrLawsRepr
import HandS.ExcInit
import PyProof.Rows.EqDataRows
import HandS.RevRange
import HandS.Rev
import HandS.Star
import HandS.TupMul
import HandS.Exc
import HandS.ExcField
import HandS.WordsExc
import HandS.ExcOwn
import PySem.Challenge.RW_kernelpapers_k02_parts_and_spots
set_option Elab.async false
set_option maxRecDepth 100000
set_option maxHeartbeats 1000000
/-! Own ground: calls where nothing is being shown (guards), what data a value stands for, repr of it. -/
namespace KA
open PySem PySem.Spec PyProof.Rows L2

/-! ### a def's promise where no repr is under way -/
structure FnG (P : Program) (w : World) (K : PySem.W.Frag) (mg : Str → Option Value) (base : Heap) (CX : CXT) (k : Nat) (f : Addr) (fd : FuncData) (ps : List Str) (sp : Sp) : Prop where
  len : ∀ vs H Q E, sp vs H Q E → vs.length = ps.length
  run : ∀ (A : Around) (outer : List Env) (s : Shared) (H : Hp) (args : Args) (us : List Value) (vs : List V) (Q : VK) (E : XK), A.guards = some [] → Room k A → Env0 P w K mg base A outer s H →
    BindsTo s fd args (ps.zip us) → Vals vs us → sp vs H Q E → codeAny (model P w) A (.call (.ref f) args) (CR CX outer P w H s Q E) s

section
variable {P : Program} {w : World} {K : PySem.W.Frag} {mg : Str → Option Value} {base : Heap} {CX : CXT} {k : Nat}
/-- the body of a def, entered from one place -/
theorem enter {x qual : Str} {st : Stmt} {f : Addr} {fd : FuncData} {N ps : List Str} (F : Fun K x qual st f fd) (S : FnScope N ps (defScope st))
    {A : Around} {outer : List Env} {s : Shared} {H : Hp} {args : Args} {us : List Value} {vs : List V} {Q : VK} {E : XK} (room : Room (k + 1) A) (e0 : Env0 P w K mg base A outer s H) (bt : BindsTo s fd args (ps.zip us))
    (rv : Vals vs us) (many : vs.length = ps.length)
    (body : ∀ cdv : Value, ∃ t, PSs (cxOf CX P w K mg base N qual (defScope st) f cdv A outer s H E) (defBody st) t ∧ t { nx := fun _ H' => Q .non H', rt := Q } (start N vs) H) :
    codeAny (model P w) A (.call (.ref f) args) (CR CX outer P w H s Q E) s := by
  obtain ⟨oc, od, kV, doc, pm, an, cdv, ct, osl, rfl, lk, code⟩ := F.ex
  have here : ∀ b o, base.get? b = some o → s.heap.get? b = some o := fun b o e => (e0.bs b o e).1
  have kin : K.In s.heap := e0.mod.kin.keeps here
  have lim : s.heap.NoLimit := e0.mod.nolimit.keeps here
  have kinds : ∀ y ∈ ps.zip us, (defScope st).names.lookup y.1 = some .local ∨ ((defScope st).names.lookup y.1 = some .cell ∧ ((cellsFrom (s.heap.objs.size + 1) (defScope st).names []).lookup y.1).isSome = true) := by
    rintro ⟨n, v⟩ hy
    rcases S.par n (List.of_mem_zip hy).1 with q | q
    · exact Or.inl q
    · exact Or.inr ⟨q, PySem.W.cellsFrom_some _ _ _ (Or.inl q)⟩
  refine codeAny_call_function room.depth (kin _ _ lk) rfl S.co S.gen rfl (PySem.W.codeRec_of kin code) (bt _ _ _ _ ?_)
  refine wpAny_newFunctionEnv_cells S.kind kinds fun env he s1 x => ?_
  subst he
  refine ⟨lim.keeps x.toInCall.keep, codeAny_func ?_⟩
  obtain ⟨t, ht, hq⟩ := body cdv
  have I0 := inv_start (CX := CX) (E := E) S room.hd e0 many rv x
  refine wpAny_mono (ht.run [] s1 (start N vs) H _ I0 hq) (fun fl s' hs => ?_) fun e s' hs => hs
  have fin : ∀ {σ' : L2.St} {H' : Hp} {v : V} {u : Value}, Inv (cxOf CX P w K mg base N qual (defScope st) f cdv A outer s H E) [] σ' H' s' → RelV v u → Q v H' → CE outer P w H s Q u s' :=
    fun {_ H' v _} J r q => ⟨v, H', J.os, J.bare, J.base, J.hok, r, q⟩
  cases fl with
  | ret u => obtain ⟨v, σ', H', J, r, q⟩ := hs; exact fin J r q
  | next => obtain ⟨σ', H', J, q⟩ := hs; exact fin (v := V.non) (u := Value.none) J rfl q
  | brk => obtain ⟨_, _, _, q⟩ := hs; exact q.elim
  | cont => obtain ⟨_, _, _, q⟩ := hs; exact q.elim

theorem fnG {x qual : Str} {st : Stmt} {f : Addr} {fd : FuncData} {N ps : List Str} {sp : Sp} (F : Fun K x qual st f fd) (S : FnScope N ps (defScope st)) (len : ∀ vs H Q E, sp vs H Q E → vs.length = ps.length)
    (body : ∀ (cdv : Value) (A : Around) (outer : List Env) (s : Shared) (H : Hp) (vs : List V) (Q : VK) (E : XK), A.guards = some [] → Room k (A.deeper (envOfC qual (defScope st) s.heap.objs.size f cdv)) → sp vs H Q E →
      ∃ t, PSs (cxOf CX P w K mg base N qual (defScope st) f cdv A outer s H E) (defBody st) t ∧ t { nx := fun _ H' => Q .non H', rt := Q } (start N vs) H) : FnG P w K mg base CX (k + 1) f fd ps sp :=
  ⟨len, fun A outer s H args us vs Q E g room e0 bt rv h => enter F S room e0 bt rv (len _ _ _ _ h) fun cdv => body cdv A outer s H vs Q E g (room.deeper _) h⟩
end
end KA

namespace KA
open PySem PySem.Spec PyProof.Rows L2
/-! ### the law's own call, made where nothing is being shown -/
section
variable {P : Program} {w : World} {K : PySem.W.Frag} {mg mb : Str → Option Value} {k : Nat} {fa a : Addr} {fd : FuncData} {x : Str} {sp : Sp} {s : Shared} {vs : List Value} {ns : List Int}
/-- from a heap H that tracks at most the script -/
theorem law_from {H : Hp} (kin : K.In s.heap) (ng : s.heap.Ns mainGlobals mg) (nb : s.heap.Ns builtinsNs mb) (hb : ∀ x : Str, x ≠ "__name__" → mb x = bootBuiltins x) (lim : s.heap.NoLimit) (gens : s.gens = #[])
    (obj : s.heap.get? a = some { cls := .type "list", data := .seq vs.toArray }) (room : Room k callerA) (F : ∀ base : Heap, K.In base → base.Ns mainGlobals mg → FnG P w K mg base CX0 k fa fd [x] sp)
    (bt : ∀ (s : Shared) (u : Value), BindsTo s fd ⟨[u], []⟩ [(x, u)]) (only : Only H) (hok : HOk P w H s.heap) (atA : ∀ b, H b ≠ none → b = a) (offK : H a ≠ none → K.lookup a = none)
    (h : sp [.ref a] H (fun v _ => v = .bl true) fun _ _ _ => False) :
    codeAny (model P w) callerA (.call (.ref fa) ⟨[.ref a], []⟩) (fun r s' => r = .ok (.ret (.bool true)) ∧ OldK s.heap s'.heap ∧ s'.os = s.os ∧ AllBare s'.gens) s := by
  have low : ∀ {b : Addr} {o : Obj}, s.heap.get? b = some o → H b = none → (hidT s.heap H).get? b = some o := fun e n => hidT_get e n
  have free : ∀ {b : Addr} {o : Obj}, s.heap.get? b = some o → (∀ n, o.data ≠ .seq vs.toArray n) → H b = none := by
    intro b o e d
    cases q : H b with
    | none => rfl
    | some u =>
      obtain rfl : b = a := atA b (by rw [q]; simp)
      rw [obj] at e
      cases e
      exact absurd rfl (d _)
  have nsL : ∀ {b : Addr} {m : Str → Option Value}, s.heap.Ns b m → (hidT s.heap H).Ns b m := by
    rintro b m ⟨o, es, ep, e, d, r⟩
    exact ⟨o, es, ep, low e (free e fun n z => by rw [d] at z; cases z), d, r⟩
  have kinL : K.In (hidT s.heap H) := by
    intro b o e
    refine low (kin b o e) ?_
    cases q : H b with
    | none => rfl
    | some u =>
      obtain rfl : b = a := atA b (by rw [q]; simp)
      rw [offK (by rw [q]; simp)] at e
      cases e
  have md : Mod K mg (hidT s.heap H) := ⟨kinL, nsL ng, ⟨mb, nsL nb, hb⟩, by obtain ⟨mc, h1, h2⟩ := lim; exact ⟨mc, nsL h1, h2⟩⟩
  have e0 : Env0 P w K mg (hidT s.heap H) callerA [] s H :=
    ⟨rfl, md, fun b o e => of_hidT e, Nat.le_of_eq (hidT_size _ _), trivial, fun b z => absurd (show b ∈ ([] : List Addr) from z) (by simp), hok, .of_eq gens⟩
  have G := (F _ kinL (nsL ng)).run callerA [] s H ⟨[.ref a], []⟩ [.ref a] [.ref a] _ _ rfl room e0 (bt s (.ref a)) (.cons rfl .nil) h
  refine codeAny_mono G fun r s' z => ?_
  cases r with
  | error e => exact absurd z id
  | ok fl =>
    cases fl with
    | next => exact absurd z id
    | brk => exact absurd z id
    | cont => exact absurd z id
    | ret u =>
      obtain ⟨v, H', os, bare, un, hok', rv, q⟩ := z
      obtain rfl : v = .bl true := q
      obtain rfl : u = Value.bool true := rv
      refine ⟨rfl, OldK.of_keep fun b o e => ?_, os, bare⟩
      cases q : H b with
      | none => exact un.keep b o e q (fun z => absurd (show b ∈ ([] : List Addr) from z) (by simp)) (by simp)
      | some u =>
        obtain z | ⟨ob, xs, z⟩ := only b
        · rw [q] at z; cases z
        · obtain ⟨e1, _⟩ := hok b _ z
          obtain ⟨e2, _⟩ := hok' b _ (un.frzs b ob _ z)
          rw [e] at e1
          cases e1
          exact e2
theorem law_run (kin : K.In s.heap) (ng : s.heap.Ns mainGlobals mg) (nb : s.heap.Ns builtinsNs mb) (hb : ∀ x : Str, x ≠ "__name__" → mb x = bootBuiltins x) (lim : s.heap.NoLimit) (gens : s.gens = #[])
    (obj : s.heap.get? a = some { cls := .type "list", data := .seq vs.toArray }) (its : IntsAre vs ns) (many : ns.length ≤ sizeLine) (room : Room k callerA)
    (F : ∀ base : Heap, K.In base → base.Ns mainGlobals mg → FnG P w K mg base CX0 k fa fd [x] sp) (bt : ∀ (s : Shared) (u : Value), BindsTo s fd ⟨[u], []⟩ [(x, u)])
    (h : ∀ H : Hp, Only H → SqL K H a (ns.map V.int) → sp [.ref a] H (fun v _ => v = .bl true) fun _ _ _ => False) :
    codeAny (model P w) callerA (.call (.ref fa) ⟨[.ref a], []⟩) (fun r s' => r = .ok (.ret (.bool true)) ∧ OldK s.heap s'.heap ∧ s'.os = s.os ∧ AllBare s'.gens) s := by
  have rv := vals_ints its
  have len := its.length
  by_cases hk : K.lookup a = none
  · refine law_from (H := fun b => if b = a then some (.frz { cls := .type "list", data := .seq vs.toArray } (.lst (ns.map V.int))) else none) kin ng nb hb lim gens obj room F bt ?_ ?_ ?_ (fun _ => hk) ?_
    · intro b
      by_cases z : b = a
      · exact Or.inr ⟨_, _, if_pos z⟩
      · exact Or.inl (if_neg z)
    · intro b u z
      by_cases q : b = a
      · subst q
        simp only [if_true] at z
        cases z
        exact ⟨obj, by rw [List.length_map]; exact many, vs, _, rv, obj⟩
      · simp only [if_neg q] at z
        cases z
    · intro b z
      by_cases q : b = a
      · exact q
      · exact absurd (if_neg q) z
    · refine h _ (fun b => ?_) (Or.inl (Or.inr ⟨_, if_pos rfl⟩))
      by_cases z : b = a
      · exact Or.inr ⟨_, _, if_pos z⟩
      · exact Or.inl (if_neg z)
  · obtain ⟨o, hk⟩ := Option.ne_none_iff_exists'.mp hk
    have e := kin a o hk
    rw [obj] at e
    cases e
    have no : ∀ b : Addr, (fun _ : Addr => (none : Option HO)) b = none := fun _ => rfl
    refine law_from (H := fun _ => none) kin ng nb hb lim gens obj room F bt (fun b => Or.inl rfl) (fun b u z => by cases z) (fun b z => absurd rfl z) (fun z => absurd rfl z) ?_
    exact h _ (fun b => Or.inl rfl) (Or.inr ⟨_, vs.toArray, _, hk, rfl, rfl, rfl, by rw [List.size_toArray, len]; exact many, by simpa using rv⟩)
end
/-- the end of a law whose def is promised where nothing is being shown -/
theorem walkG {l : PySem.W.OpenLaw} {n k : Nat} {q : Program} {loose : List Str} {XP : (Str → Option Value) → Heap → Prop} {YP : World → Heap → Prop} {d : DefRec} {K : Params → PySem.W.Frag} {sp : PySem.W.Frag → Sp} {x : Str}
    (hn : l.most = some n) (small : n ≤ sizeLine) (hdf : d.params.defaults = []) (room : Room k callerA) (hY : ∀ (w : World) (h : Heap), YP w h → (K w.params).In h)
    (F : ∀ (w : World) (mg : Str → Option Value) (fa : Addr) (h : Heap), (K w.params).In h → h.Ns mainGlobals mg → mg d.name = some (.ref fa) →
      ∃ fd : FuncData, (∀ (s : Shared) (u : Value), BindsTo s fd ⟨[u], []⟩ [(x, u)]) ∧ ∀ base : Heap, (K w.params).In base → base.Ns mainGlobals mg → FnG l.prog w (K w.params) mg base CX0 k fa fd [x] (sp (K w.params)))
    (h : ∀ (K : PySem.W.Frag) (H : Hp) (a : Addr) (ns : List Int), ns.length ≤ n → Only H → SqL K H a (ns.map V.int) → sp K [.ref a] H (fun v _ => v = .bl true) fun _ _ _ => False) :
    PySem.W.WalkO q loose XP YP l.row.toRowW d [] (fun f vs => PySem.call f vs) := by
  refine Att.attach_call hn hdf fun w s₀ s₁ mg mb fa o pm cd doc a vs ns G Y ho hd hcd hmg obj its len gens => ?_
  have kin := hY w _ Y
  obtain ⟨fd, bt, F1⟩ := F w mg fa _ kin G.T.g hmg
  exact law_run kin G.T.g G.T.b G.T.builtins G.T.nolimit gens obj its (Nat.le_trans len small) room F1 bt fun H only sq => h (K w.params) H a ns len only sq
end KA
set_option Elab.async false
set_option linter.unusedVariables false
set_option maxRecDepth 100000
set_option maxHeartbeats 1000000
/-! What data a value stands for, where all of it is tracked; repr of such. -/
namespace KA
open PySem PySem.Spec PyProof.Rows L2

mutual
inductive Dn (H : Hp) : V → PyData → Prop
  | non : Dn H .non .none
  | bl (b : Bool) : Dn H (.bl b) (.bool b)
  | int (i : Int) : Dn H (.int i) (.int i)
  | str (x : Str) : Dn H (.str x) (.str x)
  | lst {a : Addr} {xs : List V} {ds : List PyData} : H a = some (.lst xs) → DnAll H xs ds → Dn H (.ref a) (.list ds)
  | tup {a : Addr} {xs : List V} {ds : List PyData} : H a = some (.tup xs) → DnAll H xs ds → Dn H (.ref a) (.tuple ds)
  | dic {a : Addr} {kvs : List (Key × V)} {ds : List (PyData × PyData)} : H a = some (.dK kvs) → DnAll H (kvs.map fun p => kV p.1) (ds.map (·.1)) → DnAll H (kvs.map (·.2)) (ds.map (·.2)) → Dn H (.ref a) (.dict ds)
inductive DnAll (H : Hp) : List V → List PyData → Prop
  | nil : DnAll H [] []
  | cons {v : V} {vs : List V} {d : PyData} {ds : List PyData} : Dn H v d → DnAll H vs ds → DnAll H (v :: vs) (d :: ds)
end

section
variable {H H' : Hp}
mutual
theorem Dn.mono (e : Same H H') : ∀ {v : V} {d : PyData}, Dn H v d → Dn H' v d
  | _, _, .non => .non
  | _, _, .bl b => .bl b
  | _, _, .int i => .int i
  | _, _, .str x => .str x
  | _, _, .lst h r => .lst (e _ _ h) (DnAll.mono e r)
  | _, _, .tup h r => .tup (e _ _ h) (DnAll.mono e r)
  | _, _, .dic h r r' => .dic (e _ _ h) (DnAll.mono e r) (DnAll.mono e r')
theorem DnAll.mono (e : Same H H') : ∀ {vs : List V} {ds : List PyData}, DnAll H vs ds → DnAll H' vs ds
  | _, _, .nil => .nil
  | _, _, .cons h r => .cons (Dn.mono e h) (DnAll.mono e r)
end
theorem DnAll.length : ∀ {vs : List V} {ds : List PyData}, DnAll H vs ds → vs.length = ds.length
  | _, _, .nil => rfl
  | _, _, .cons _ r => congrArg (· + 1) (DnAll.length r)
theorem DnAll.get : ∀ {vs : List V} {ds : List PyData} {i : Nat} {d : PyData}, DnAll H vs ds → ds[i]? = some d → ∃ v, vs[i]? = some v ∧ Dn H v d
  | _, _, _, _, .nil, e => by cases e
  | _, _, 0, _, .cons h _, e => by
    cases e
    exact ⟨_, rfl, h⟩
  | _, _, i + 1, d, .cons _ r, e => DnAll.get (i := i) (d := d) r e
theorem DnAll.append : ∀ {vs ws : List V} {ds es : List PyData}, DnAll H vs ds → DnAll H ws es → DnAll H (vs ++ ws) (ds ++ es)
  | _, _, _, _, .nil, s => s
  | _, _, _, _, .cons h r, s => .cons h (DnAll.append r s)
theorem DnAll.take : ∀ {vs : List V} {ds : List PyData} (n : Nat), DnAll H vs ds → DnAll H (vs.take n) (ds.take n)
  | _, _, 0, _ => .nil
  | _, _, _ + 1, .nil => .nil
  | _, _, n + 1, .cons h r => .cons h (DnAll.take n r)
theorem DnAll.drop : ∀ {vs : List V} {ds : List PyData} (n : Nat), DnAll H vs ds → DnAll H (vs.drop n) (ds.drop n)
  | _, _, 0, r => r
  | _, _, _ + 1, .nil => .nil
  | _, _, n + 1, .cons _ r => DnAll.drop n r
theorem DnAll.dropLast : ∀ {vs : List V} {ds : List PyData}, DnAll H vs ds → DnAll H vs.dropLast ds.dropLast := by
  intro vs ds r
  rw [List.dropLast_eq_take, List.dropLast_eq_take, r.length]
  exact r.take _
theorem DnAll.snoc {vs : List V} {ds : List PyData} {v : V} {d : PyData} (r : DnAll H vs ds) (h : Dn H v d) : DnAll H (vs ++ [v]) (ds ++ [d]) := r.append (.cons h .nil)
theorem DnAll.one {v : V} {d : PyData} (h : Dn H v d) : DnAll H [v] [d] := .cons h .nil
/-- a list whose items are data each -/
theorem DnAll.bools : ∀ bs : List Bool, DnAll H (bs.map V.bl) (bs.map PyData.bool)
  | [] => .nil
  | b :: bs => .cons (.bl b) (DnAll.bools bs)
end

section
variable {P : Program} {w : World} {H : Hp} {h : Heap}
theorem keys_read : ∀ {kvs : List (Key × V)} {vs : List (Key × Value)} {es : List DictEntry} {ds : List PyData}, KV kvs vs → PySem.Pairs (mixKind P w) es vs → DnAll H (kvs.map fun p => kV p.1) ds → Vals (kvs.map fun p => kV p.1) (es.map (·.key))
  | _, _, _, _, .nil, .nil, _ => .nil
  | _, _, _, _, .cons r t, .cons k _ t', .cons _ t'' => by
    refine .cons ?_ (keys_read t t' t'')
    have k' := k
    rw [mixKind_is, ← r.1] at k'
    obtain ⟨i, u, e1, e2⟩ | ⟨x, u, e1, e2⟩ := keyIs_shape k'
    · dsimp only
      rw [e1, e2]
      exact ⟨u, rfl⟩
    · dsimp only
      rw [e1, e2]
      exact ⟨u, rfl⟩
theorem vals_read : ∀ {kvs : List (Key × V)} {vs : List (Key × Value)} {es : List DictEntry}, KV kvs vs → PySem.Pairs (mixKind P w) es vs → Vals (kvs.map (·.2)) (es.map (·.val))
  | _, _, _, .nil, .nil => .nil
  | _, _, _, .cons r t, .cons _ e t' => by
    refine .cons ?_ (vals_read t t')
    dsimp only
    rw [e]
    exact r.2

mutual
/-- the heap reads so -/
theorem Dn.reads (ok : HOk P w H h) : ∀ {v : V} {d : PyData} {u : Value}, Dn H v d → RelV v u → ∃ as, Reads h u d as
  | _, _, _, .non, r => by
    cases r
    exact ⟨_, .none⟩
  | _, _, _, .bl b, r => by
    cases r
    exact ⟨_, .bool b⟩
  | _, _, _, .int i, r => by
    obtain ⟨t, rfl⟩ := r
    exact ⟨_, .int i t⟩
  | _, _, _, .str x, r => by
    obtain ⟨t, rfl⟩ := r
    exact ⟨_, .str x t⟩
  | _, _, _, .lst e q, r => by
    cases r
    obtain ⟨_, its, n, rv, ho⟩ := ok _ _ e
    obtain ⟨as, hr⟩ := DnAll.reads ok q rv
    exact ⟨_, .list ho rfl rfl hr⟩
  | _, _, _, .tup e q, r => by
    cases r
    obtain ⟨_, its, rv, o, ho, hc, n, hd⟩ := ok _ _ e
    obtain ⟨as, hr⟩ := DnAll.reads ok q rv
    exact ⟨_, .tuple ho hc hd hr⟩
  | _, _, _, .dic e q q', r => by
    cases r
    obtain ⟨_, _, vs, kv, o, es, ep, ho, hx, hd, _, hp, _⟩ := ok _ _ e
    obtain ⟨as, hr⟩ := DnAll.reads ok q (keys_read kv hp q)
    obtain ⟨bs, hr'⟩ := DnAll.reads ok q' (vals_read kv hp)
    exact ⟨_, .dict ho hx.1 hd hr hr'⟩
theorem DnAll.reads (ok : HOk P w H h) : ∀ {vs : List V} {ds : List PyData} {us : List Value}, DnAll H vs ds → Vals vs us → ∃ as, ReadsAll h us ds as
  | _, _, _, .nil, r => by
    cases r
    exact ⟨_, .nil⟩
  | _, _, _, .cons q t, .cons r r' => by
    obtain ⟨as, h1⟩ := Dn.reads ok q r
    obtain ⟨bs, h2⟩ := DnAll.reads ok t r'
    exact ⟨_, .cons h1 h2⟩
end

mutual
/-- how it is shown, piece by piece -/
theorem Dn.repr (ok : HOk P w H h) : ∀ {v : V} {d : PyData} {u : Value}, Dn H v d → RelV v u → d.showable = true → d.shown.length ≤ sizeLine → ∃ bs, ReadAtMost h d.depth bs ∧ ReprK P w bs h d.depth u d.shown
  | _, _, _, .non, r, _, _ => by
    cases r
    exact ReprK.of_reads (prog := P) (w := w) (Reads.none (h := h)) rfl (fun z => by cases z) (by decide +kernel)
  | _, _, _, .bl b, r, _, z => by
    cases r
    exact ReprK.of_reads (Reads.bool b) rfl (fun z => by cases z) z
  | _, _, _, .int i, r, s, z => by
    obtain ⟨t, rfl⟩ := r
    exact ReprK.of_reads (Reads.int i t) s (fun z => by cases z) z
  | _, _, _, .str x, r, s, z => by
    obtain ⟨t, rfl⟩ := r
    exact ReprK.of_reads (Reads.str x t) s (fun z => by cases z) z
  | _, _, _, .lst (a := a) (ds := ds) e q, r, s, z => by
    obtain ⟨as, hr⟩ := Dn.reads ok (.lst e q) r
    cases r
    obtain ⟨_, its, n, rv, ho⟩ := ok _ _ e
    have z' : (listText (PyData.shownAll ds)).length ≤ sizeLine := by simpa only [PyData.shown] using z
    obtain ⟨bs, hb, hk⟩ := DnAll.repr ok q rv (by simpa [PyData.showable] using s) (fun t m => Nat.le_trans (listText_mem_le m) z')
    have off : a ∉ bs := not_mem_of_deeper hr (by simp only [PyData.depth]; omega) hb
    refine ⟨a :: bs, ReadAtMost.cons hr (by simp only [PyData.depth]; omega) hb, ?_⟩
    simp only [PyData.depth, PyData.shown]
    cases its with
    | nil =>
      cases rv
      cases q
      simp only [PyData.shownAll, listText_nil]
      exact ReprK.listEmpty ho rfl rfl
    | cons x l => exact ReprK.list ho rfl rfl off (by simpa using hk.length_eq) (fun i y e => hk.item i y (by simpa using e))
  | _, _, _, .tup (a := a) (ds := ds) e q, r, s, z => by
    obtain ⟨as, hr⟩ := Dn.reads ok (.tup e q) r
    cases r
    obtain ⟨_, its, rv, o, ho, hc, n, hd⟩ := ok _ _ e
    have z' : (tupleText (PyData.shownAll ds)).length ≤ sizeLine := by simpa only [PyData.shown] using z
    obtain ⟨bs, hb, hk⟩ := DnAll.repr ok q rv (by simpa [PyData.showable] using s) (fun t m => Nat.le_trans (tupleText_mem_le m) z')
    have off : a ∉ bs := not_mem_of_deeper hr (by simp only [PyData.depth]; omega) hb
    refine ⟨a :: bs, ReadAtMost.cons hr (by simp only [PyData.depth]; omega) hb, ?_⟩
    simp only [PyData.depth, PyData.shown]
    exact ReprK.tuple ho hc hd off hk
  | _, _, _, .dic (a := a) (ds := ds) e q q', r, s, z => by
    obtain ⟨as, hr⟩ := Dn.reads ok (.dic e q q') r
    cases r
    obtain ⟨_, sys, vs, kv, o, es, ep, ho, hx, hd, _, hp, _⟩ := ok _ _ e
    have z' : (dictText (PyData.shownKv ds)).length ≤ sizeLine := by simpa only [PyData.shown] using z
    obtain ⟨s1, s2⟩ := PyData.showableKv_split ds (by simpa [PyData.showable] using s)
    obtain ⟨b1, hb1, k1⟩ := DnAll.repr ok q (keys_read kv hp q) s1 (fun t m => let ⟨p, hp, hl⟩ := PyData.shownKv_key_le ds t m; Nat.le_trans hl (Nat.le_trans (dictText_mem_le hp) z'))
    obtain ⟨b2, hb2, k2⟩ := DnAll.repr ok q' (vals_read kv hp) s2 (fun t m => let ⟨p, hp, hl⟩ := PyData.shownKv_val_le ds t m; Nat.le_trans hl (Nat.le_trans (dictText_mem_le hp) z'))
    have hb : ReadAtMost h (PyData.depthKv ds) (b1 ++ b2) := (hb1.mono (PyData.depthAll_keys_le ds)).append (hb2.mono (PyData.depthAll_vals_le ds))
    have off : a ∉ b1 ++ b2 := not_mem_of_deeper hr (by simp only [PyData.depth]; omega) hb
    refine ⟨a :: (b1 ++ b2), ReadAtMost.cons hr (by simp only [PyData.depth]; omega) hb, ?_⟩
    simp only [PyData.depth, PyData.shown, PyData.shownKv_eq]
    exact ReprK.dict ho hx.1 hd sys off (ReprEntriesK.of_two es.toList _ _ (k1.more_le (fun b m => List.mem_append_left _ m) (PyData.depthAll_keys_le ds)) (k2.more_le (fun b m => List.mem_append_right _ m) (PyData.depthAll_vals_le ds)))
theorem DnAll.repr (ok : HOk P w H h) : ∀ {vs : List V} {ds : List PyData} {us : List Value}, DnAll H vs ds → Vals vs us → PyData.showableAll ds = true → (∀ t ∈ PyData.shownAll ds, t.length ≤ sizeLine) →
    ∃ bs, ReadAtMost h (PyData.depthAll ds) bs ∧ ReprAllK P w bs h (PyData.depthAll ds) us (PyData.shownAll ds)
  | _, _, _, .nil, r, _, _ => by
    cases r
    exact ReprAllK.of_readsAll (prog := P) (w := w) (ReadsAll.nil (h := h)) rfl (fun z => by cases z) (fun t m => by simp [PyData.shownAll] at m)
  | _, _, _, .cons (d := d) (ds := ds) q t, .cons r r', s, z => by
    have s' : d.showable = true ∧ PyData.showableAll ds = true := by simpa [PyData.showableAll] using s
    obtain ⟨b1, hb1, k1⟩ := Dn.repr ok q r s'.1 (z _ (by simp only [PyData.shownAll]; exact List.mem_cons_self ..))
    obtain ⟨b2, hb2, k2⟩ := DnAll.repr ok t r' s'.2 (fun t m => z t (by simp only [PyData.shownAll]; exact List.mem_cons_of_mem _ m))
    refine ⟨b1 ++ b2, ?_, ?_⟩
    · simp only [PyData.depthAll]
      exact (hb1.mono (Nat.le_max_left _ _)).append (hb2.mono (Nat.le_max_right _ _))
    · simp only [PyData.depthAll, PyData.shownAll]
      exact .cons ((k1.more fun b m => List.mem_append_left _ m).level_le (Nat.le_max_left _ _)) (k2.more_le (fun b m => List.mem_append_right _ m) (Nat.le_max_right _ _))
end
end
end KA
set_option Elab.async false
set_option linter.unusedVariables false
set_option maxRecDepth 100000
set_option maxHeartbeats 1000000
/-! Rules of one's own: repr of data, a list grown by a tuple, == with what is empty. -/
namespace KA
open PySem PySem.Spec PyProof.Rows L2

section
variable {X : Cx}
/-- repr of data, where nothing is being shown -/
def rRepr : List V → Hp → VK → Prop := fun xs H Q => ∃ v d, xs = [v] ∧ Dn H v d ∧ d.showable = true ∧ d.shown.length ≤ sizeLine ∧ d.depth ≤ 100 ∧ Q (.str d.shown) H
theorem call_repr (hg : X.A.guards = some []) (hu : X.A.units + 200 < cLine) : CallR X (.builtin "repr") rRepr := by
  intro pins s σ H xs us Q I r h
  obtain ⟨v, d, rfl, hd, sh, sz, dp, q⟩ := h
  obtain ⟨u, rfl, ru⟩ := vals1 r
  have fin : ∀ h' tk, (∀ b o, s.heap.get? b = some o → h'.get? b = some o) → ∀ t, EP X pins σ Q (.str d.shown t) { s with heap := h', toks := tk } :=
    fun h' tk k t => ⟨.str d.shown, H, I.kept k, ⟨t, rfl⟩, q⟩
  cases hd with
  | non =>
    cases ru
    exact P.repr_of_none (fin s.heap _ (fun _ _ e => e) _)
  | bl b =>
    cases ru
    refine P.repr_of_bool ?_
    have z := fin s.heap (s.toks + 1) (fun _ _ e => e) s.toks
    rw [PyData.shown_bool] at z
    cases b <;> exact z
  | int i =>
    obtain ⟨t, rfl⟩ := ru
    exact P.repr_of_int (by simpa [PyData.showable] using sh) (fin s.heap _ (fun _ _ e => e) _)
  | str x =>
    obtain ⟨t, rfl⟩ := ru
    exact P.repr_of_str (fin s.heap _ (fun _ _ e => e) _) (by simpa only [PyData.shown] using sz)
  | @lst a xs ds e c =>
    obtain ⟨as, hr⟩ := Dn.reads I.hok (.lst e c) ru
    cases ru
    obtain ⟨_, its, n, rv, ho⟩ := I.hok _ _ e
    have z' : (listText (PyData.shownAll ds)).length ≤ sizeLine := by simpa only [PyData.shown] using sz
    obtain ⟨bs, hb, hk⟩ := DnAll.repr I.hok c rv (by simpa [PyData.showable] using sh) (fun t m => Nat.le_trans (listText_mem_le m) z')
    have off : a ∉ bs := not_mem_of_deeper hr (by simp only [PyData.depth]; omega) hb
    have dep : PyData.depthAll ds + 1 ≤ 100 := by simpa only [PyData.depth] using dp
    refine call_repr_slot (idr := "list.__repr__") (by omega) ⟨_, ho, rfl⟩ F.slot_list_repr.toG ?_
    simp only [PyData.shown] at fin
    cases its with
    | nil =>
      cases rv
      cases c
      simp only [PyData.shownAll, listText_nil] at fin
      exact call_list_repr_empty ⟨_, ho, rfl⟩ ho rfl ⟨_, _, rfl, fin s.heap _ (fun _ _ e => e) _⟩
    | cons y l =>
      exact call_list_reprK ho rfl rfl off (by simpa using hk.length_eq) (fun i y e => hk.item i y (by simpa using e)) (by exact hg) (fun b _ => Clear.nil b) (by show X.A.units + 1 + _ < cLine; omega) (fun _ _ e => e)
        (fun h' u tk k => ⟨_, _, rfl, fin h' tk k u⟩) z'
  | @tup a xs ds e c =>
    obtain ⟨as, hr⟩ := Dn.reads I.hok (.tup e c) ru
    cases ru
    obtain ⟨_, its, rv, o, ho, hc, n, hd⟩ := I.hok _ _ e
    have z' : (tupleText (PyData.shownAll ds)).length ≤ sizeLine := by simpa only [PyData.shown] using sz
    obtain ⟨bs, hb, hk⟩ := DnAll.repr I.hok c rv (by simpa [PyData.showable] using sh) (fun t m => Nat.le_trans (tupleText_mem_le m) z')
    have off : a ∉ bs := not_mem_of_deeper hr (by simp only [PyData.depth]; omega) hb
    have dep : PyData.depthAll ds + 1 ≤ 100 := by simpa only [PyData.depth] using dp
    refine call_repr_slot (idr := "tuple.__repr__") (by omega) ⟨o, ho, hc⟩ F.slot_tuple_repr ?_
    simp only [PyData.shown] at fin
    exact call_tuple_reprK ho hc hd off hk (by exact hg) (fun b _ => Clear.nil b) (by show X.A.units + 1 + _ < cLine; omega) (fun _ _ e => e) (fun h' u tk k => ⟨_, _, rfl, fin h' tk k u⟩) z'
  | @dic a kvs ds e c c' =>
    obtain ⟨as, hr⟩ := Dn.reads I.hok (.dic e c c') ru
    cases ru
    obtain ⟨_, sys, vs, kv, o, es, ep, ho, hx, hd, _, hp, _⟩ := I.hok _ _ e
    have z' : (dictText (PyData.shownKv ds)).length ≤ sizeLine := by simpa only [PyData.shown] using sz
    obtain ⟨s1, s2⟩ := PyData.showableKv_split ds (by simpa [PyData.showable] using sh)
    obtain ⟨b1, hb1, k1⟩ := DnAll.repr I.hok c (keys_read kv hp c) s1 (fun t m => let ⟨p, hp, hl⟩ := PyData.shownKv_key_le ds t m; Nat.le_trans hl (Nat.le_trans (dictText_mem_le hp) z'))
    obtain ⟨b2, hb2, k2⟩ := DnAll.repr I.hok c' (vals_read kv hp) s2 (fun t m => let ⟨p, hp, hl⟩ := PyData.shownKv_val_le ds t m; Nat.le_trans hl (Nat.le_trans (dictText_mem_le hp) z'))
    have hb : ReadAtMost s.heap (PyData.depthKv ds) (b1 ++ b2) := (hb1.mono (PyData.depthAll_keys_le ds)).append (hb2.mono (PyData.depthAll_vals_le ds))
    have off : a ∉ b1 ++ b2 := not_mem_of_deeper hr (by simp only [PyData.depth]; omega) hb
    have dep : PyData.depthKv ds + 1 ≤ 100 := by simpa only [PyData.depth] using dp
    refine call_repr_slot (idr := "dict.__repr__") (by omega) ⟨o, ho, hx.1⟩ F.slot_dict_repr ?_
    simp only [PyData.shown, PyData.shownKv_eq] at fin
    exact call_dict_reprK ho hx.1 hd sys off (ReprEntriesK.of_two es.toList _ _ (k1.more_le (fun b m => List.mem_append_left _ m) (PyData.depthAll_keys_le ds)) (k2.more_le (fun b m => List.mem_append_right _ m) (PyData.depthAll_vals_le ds)))
      (by exact hg) (fun b _ => Clear.nil b) (by show X.A.units + 1 + _ < cLine; omega) (fun _ _ e => e) (fun h' u tk k => ⟨_, _, rfl, fin h' tk k u⟩) (by rw [← PyData.shownKv_eq]; exact z')
theorem grow_meets (l : Addr) (us : Array Value) (n : Nat) (b : Addr) (ws : Array Value) (n2 : Nat) (dd : Option Addr) (sl : Array (Option Value)) (short : ¬(!us.isEmpty && Builtin.List.listTooLong (us.size + ws.size)) = true)
    (z1 : us.size ≤ sizeLine) (z2 : us.size + ws.size ≤ sizeLine + 1) : Meets (Builtin.«list.extend» ⟨[.ref l, .ref b], []⟩) (fun _ R s =>
      s.heap.get? l = some { cls := .type "list", dict := none, data := .seq us n, slots := #[] } ∧ s.heap.get? b = some { cls := .type "tuple", dict := dd, data := .seq ws n2, slots := sl } ∧
        R (.ok (.ret Value.none)) { s with heap := s.heap.update l (Obj.mapSeq fun x => x ++ ws), toks := s.toks }) :=
  .of_wp fun prog w A R s h => by
    obtain ⟨hp, g, d, tk, os⟩ := s
    obtain ⟨hl, hb, h⟩ := h
    have f1 := PySem.AutoSeq1.idx_int
    have f2 := PySem.AutoSeq1.sub_tuple_tuple
    have f3 := PySem.AutoSeq1.sub_list_list
    have f4 := PySem.AutoSeq1.sub_tuple_list
    have f5 := PySem.AutoSeq1.sub_list_tuple
    have z3 : (us ++ ws).size ≤ sizeLine + 1 := by rw [Array.size_append]; exact z2
    wp_walk using (wpAny_updateSeq hl rfl (hz := z1) (_hz' := z3)), PySem.AutoSeq1.wpAny_loadPart' hl, PySem.AutoSeq1.wpAny_loadPart' hb
    exact ⟨_, rfl, h⟩
/-- xs.extend(t), t a tuple that H tracks -/
def rGrow : V → List V → Hp → VK → Prop := fun x vs H Q => ∃ l b xs zs, x = .ref l ∧ vs = [.ref b] ∧ H l = some (.lst xs) ∧ H b = some (.tup zs) ∧ xs.length + zs.length ≤ sizeLine ∧ Q .non (upd H l (.lst (xs ++ zs)))
theorem mt_grow : MtM X "list.extend" rGrow := by
  intro pins s σ H x vs v us Q I rx rv h
  obtain ⟨l, b, xs, zs, rfl, rfl, hl, hb, sz, q⟩ := h
  cases rx
  obtain ⟨u, rfl, ru⟩ := rv.one
  cases ru
  obtain ⟨z, its, n, r, ll, e⟩ := I.lstM hl
  obtain ⟨_, its2, r2, ⟨cls, dd, data, sl⟩, e2, hc, n2, hd⟩ := I.hok _ _ hb
  simp only at hc hd
  subst hc hd
  have l1 := r.length
  have l2 := r2.length
  have many : its.toArray.size + its2.toArray.size ≤ sizeLine := by rw [List.size_toArray, List.size_toArray]; omega
  have long : ¬ (!its.toArray.isEmpty && Builtin.List.listTooLong (its.toArray.size + its2.toArray.size)) = true := by
    rw [notLongL many, Bool.and_false]
    exact Bool.false_ne_true
  refine call_meets F.slot_list_extend ⟨_, e, rfl⟩ F.entry_list_extend (F.args_list_extend_2 _ _) (grow_meets l its.toArray n b its2.toArray n2 dd sl long (by rw [List.size_toArray]; omega) (by omega)) ⟨e, e2, ?_⟩
  exact ⟨.non, _, I.lset (its' := its ++ its2) hl e (by simp) (r.append r2) (by rw [List.length_append]; omega), rfl, q⟩
end
end KA
namespace KA
open PySem PySem.Spec PyProof.Rows L2
section
variable {X : Cx}
/-- t == (), xs == []: only whether it is empty counts -/
def rEqE : R2 := fun x y H Q => ∃ a b xs, x = .ref a ∧ y = .ref b ∧ ((H a = some (.tup xs) ∧ H b = some (.tup [])) ∨ (H a = some (.lst xs) ∧ H b = some (.lst []))) ∧ Q (.bl xs.isEmpty) H
theorem op_eqE (hu : X.A.units + 1 < cLine) : OpR X (compareOp .Eq) rEqE := by
  intro pins s σ H x y v u Q I rx ry h
  obtain ⟨a, b, xs, rfl, rfl, h, q⟩ := h
  cases rx
  cases ry
  have fin : EP X pins σ Q (.bool xs.isEmpty) s := ⟨.bl xs.isEmpty, H, I, rfl, q⟩
  rcases h with ⟨ha, hb⟩ | ⟨ha, hb⟩
  · obtain ⟨_, its, r, o, ho, hc, hd⟩ := I.hok _ _ ha
    obtain ⟨_, its2, r2, o2, ho2, hc2, hd2⟩ := I.hok _ _ hb
    cases r2
    refine SeqAt.eq_tupleAt (e := fun _ => true) ⟨o, ho, hc, hd⟩ ⟨o2, ho2, hc2, hd2⟩ (by omega) (fun j h1 h2 => absurd h2 (by simp)) ?_
    cases r <;> simpa using fin
  · obtain ⟨_, its, n, r, ho⟩ := I.hok _ _ ha
    obtain ⟨_, its2, n2, r2, ho2⟩ := I.hok _ _ hb
    cases r2
    cases r with
    | nil => exact SeqAt.eq_listAt (e := fun _ => true) ⟨_, ho, rfl, _, rfl⟩ ⟨_, ho2, rfl, _, rfl⟩ rfl (by omega) (fun j h1 h2 => absurd h2 (by simp)) (by simpa using fin)
    | cons r t => exact SeqAt.eq_list_lengthsAt ⟨_, ho, rfl, _, rfl⟩ ⟨_, ho2, rfl, _, rfl⟩ (by simp) (by omega) (by simpa using fin)
def rNeE : R2 := fun x y H Q => ∃ a b xs, x = .ref a ∧ y = .ref b ∧ H a = some (.tup xs) ∧ H b = some (.tup []) ∧ Q (.bl (!xs.isEmpty)) H
theorem op_neE (hu : X.A.units + 1 < cLine) : OpR X (compareOp .NotEq) rNeE := by
  intro pins s σ H x y v u Q I rx ry h
  obtain ⟨a, b, xs, rfl, rfl, ha, hb, q⟩ := h
  cases rx
  cases ry
  have fin : EP X pins σ Q (.bool (!xs.isEmpty)) s := ⟨.bl (!xs.isEmpty), H, I, rfl, q⟩
  obtain ⟨_, its, r, o, ho, hc, hd⟩ := I.hok _ _ ha
  obtain ⟨_, its2, r2, o2, ho2, hc2, hd2⟩ := I.hok _ _ hb
  cases r2
  refine SeqAt.RcNeAt.tuples (e := fun _ => true) ⟨o, ho, hc, hd⟩ ⟨o2, ho2, hc2, hd2⟩ (by omega) (fun j h1 h2 => absurd h2 (by simp)) _ _ _ _ ?_
  cases r <;> simpa using fin
end
end KA
set_option Elab.async false
set_option linter.unusedVariables false
set_option maxRecDepth 100000
set_option maxHeartbeats 1000000
/-! A walk over zip of a text (of plain signs) and a tuple as long. -/
namespace KZ
open PySem
section
variable {prog : Program} {w : World} {A : Around} {E : Value → Shared → Prop} {s : Shared}
abbrev Sg : String := "str_ascii_iterator"
theorem next_item {z ti to i1 i2 l2 : Addr} {k1 k2 c : Nat} {x : Str} {t : Tok} {ys : Array Value} {y a b : Value} {Q : Value → Shared → Prop} (nz : ti ≠ z ∧ to ≠ z ∧ i1 ≠ z ∧ i2 ≠ z) (nt : to ≠ i1 ∧ to ≠ i2 ∧ i1 ≠ i2) (nl : l2 ≠ z ∧ l2 ≠ to ∧ l2 ≠ i1)
    (gz : IsZip s.heap z ti to .none) (gi : IsPair s.heap ti (.ref i1) (.ref i2)) (go : IsPair s.heap to a b) (g1 : s.heap.IsStrIter i1 Sg x t k1) (g2 : s.heap.IsTupleIter i2 l2 k2) (gl : s.heap.IsTuple l2 ys)
    (hc : x.cps[k1]? = some c) (hy : ys[k2]? = some y)
    (hQ : ∀ h' tk u, IsZip h' z ti to (rawInt s.heap.objs.size) → IsPair h' to (.str ⟨#[c]⟩ u) y → h'.IsStrIter i1 Sg x t (k1 + 1) → h'.IsTupleIter i2 l2 (k2 + 1) → IsPair h' s.heap.objs.size (.str ⟨#[c]⟩ u) y → h'.objs.size = s.heap.objs.size + 1 →
      (∀ c o, c ≠ z → c ≠ to → c ≠ i1 → c ≠ i2 → s.heap.get? c = some o → h'.get? c = some o) → Q (.ref s.heap.objs.size) { s with heap := h', toks := tk }) :
    wpAny (model prog w) A (Builtin.«zip.__next__» ⟨[.ref z], []⟩) (fun fin s' => ∃ v, fin = .done (.ret v) ∧ Q v s') E s := by
  obtain ⟨n1, n2, n3, n4⟩ := nz
  obtain ⟨n5, n6, n7⟩ := nt
  obtain ⟨n8, n9, n10⟩ := nl
  show wpAny _ _ (field (.ref z) 2 >>= _) _ _ _
  refine wpAny_bind (wpAny_field gz rfl (x := .bool false) rfl ?_)
  show wpAny _ _ (field (.ref z) 3 >>= _) _ _ _
  refine wpAny_bind (wpAny_field gz rfl (x := .ref ti) rfl ?_)
  refine wpAny_bind (wpAny_seqItems gi rfl ?_)
  show wpAny _ _ (Builtin.SmallTypes.ownedTupleIsFree (.ref z) >>= _) _ _ _
  refine wpAny_bind ?_
  unfold Builtin.SmallTypes.ownedTupleIsFree
  refine wpAny_bind (wpAny_field gz rfl (x := .none) rfl (wpAny_pure ?_))
  simp only [if_true]
  refine wpAny_bind (wpAny_rule ?_)
  refine wpAny_bind (wpAny_field gz rfl (x := .ref to) rfl ?_)
  refine wpAny_bind (wpAny_setField_rec gz (by simp) fun ha za sa => ?_)
  replace za : IsZip ha z ti to .ellipsis := za
  refine wpAny_bind ?_
  simp only [List.zipIdx_cons, List.zipIdx_nil, List.forIn_cons, List.forIn_nil]
  refine wpAny_bind (wpAny_bind (wpAny_onRaise ?_))
  show wpAny _ _ (Builtin.SmallTypes.nextOf (.ref i1) >>= _) _ _ _
  refine wpAny_bind (wpAny_nextOf_ascii_item (g1.extBut sa.extBut n3) hc fun hb b1 sb => wpAny_pure ?_)
  have ob : IsPair hb to a b := sb.extBut _ _ n5 (sa.extBut _ _ n2 go)
  refine wpAny_bind (wpAny_seqItems ob rfl ?_)
  refine wpAny_bind (wpAny_updateSeq_pair ob fun hd od sd => ?_)
  replace od : IsPair hd to (.str ⟨#[c]⟩ s.toks) b := od
  refine wpAny_bind (wpAny_letGo (wpAny_pure ?_))
  refine wpAny_bind (wpAny_bind (wpAny_onRaise ?_))
  show wpAny _ _ (Builtin.SmallTypes.nextOf (.ref i2) >>= _) _ _ _
  refine wpAny_bind (RZ.nextOf_tuple_item (((g2.extBut sa.extBut n4).extBut sb.extBut n7.symm).extBut sd.extBut n6.symm) (((gl.extBut sa.extBut n8).extBut sb.extBut n10).extBut sd.extBut n9) hy fun he b2 se => wpAny_pure ?_)
  have oe : IsPair he to (.str ⟨#[c]⟩ s.toks) b := se.extBut _ _ n6 od
  refine wpAny_bind (wpAny_seqItems oe rfl ?_)
  refine wpAny_bind (wpAny_updateSeq_pair oe fun hf of sf => ?_)
  replace of : IsPair hf to (.str ⟨#[c]⟩ s.toks) y := of
  refine wpAny_bind (wpAny_letGo (wpAny_pure (wpAny_pure ?_)))
  refine wpAny_bind (wpAny_seqItems of rfl ?_)
  refine wpAny_bind (wpAny_newTuple ?_)
  have sz : hf.objs.size = s.heap.objs.size := by rw [sf.1, se.1, sd.1, sb.1, sa.1]
  have zf : IsZip hf z ti to .ellipsis := sf.extBut _ _ n2.symm (se.extBut _ _ n4.symm (sd.extBut _ _ n2.symm (sb.extBut _ _ n3.symm za)))
  have kf : ∀ c o, c ≠ z → c ≠ to → c ≠ i1 → c ≠ i2 → s.heap.get? c = some o → hf.get? c = some o := fun c o c1 c2 c3 c4 e =>
    sf.extBut _ _ c2 (se.extBut _ _ c4 (sd.extBut _ _ c2 (sb.extBut _ _ c3 (sa.extBut _ _ c1 e))))
  have f1 : hf.IsStrIter i1 Sg x t (k1 + 1) := ((b1.extBut sd.extBut n5.symm).extBut se.extBut n7).extBut sf.extBut n5.symm
  have f2 : hf.IsTupleIter i2 l2 (k2 + 1) := b2.extBut sf.extBut n6.symm
  have zlt : z < hf.objs.size := Heap.lt_size zf
  show wpAny _ _ (Builtin.SmallTypes.ownedTupleHandOut (.ref z) (.ref hf.objs.size) >>= _) _ _ _
  refine wpAny_bind ?_
  unfold Builtin.SmallTypes.ownedTupleHandOut
  have zg : IsZip (hf.push { cls := .type "tuple", data := .seq #[.str ⟨#[c]⟩ s.toks, y] }) z ti to .ellipsis := Heap.get?_push_of_some _ zf
  refine wpAny_bind (wpAny_setField_rec zg (by simp) fun hg zh sh => ?_)
  replace zh : IsZip hg z ti to (rawInt hf.objs.size) := zh
  refine wpAny_setField_rec zh (by simp) fun hi zi si => ?_
  replace zi : IsZip hi z ti to (rawInt hf.objs.size) := zi
  have up : ∀ c o, c ≠ z → hf.get? c = some o → hi.get? c = some o := fun c o c1 e => si.extBut _ _ c1 (sh.extBut _ _ c1 (Heap.get?_push_of_some _ e))
  have pi : IsPair hi hf.objs.size (.str ⟨#[c]⟩ s.toks) y := si.extBut _ _ (Nat.ne_of_gt zlt) (sh.extBut _ _ (Nat.ne_of_gt zlt) (Heap.get?_push_size _ rfl))
  have ei : hi.objs.size = hf.objs.size + 1 := by rw [si.1, sh.1, Heap.size_push]
  rw [sz] at zi pi ei
  refine wpAny_pure ⟨_, rfl, ?_⟩
  show Q (.ref hf.objs.size) _
  rw [sz]
  obtain ⟨o1, p1, q1⟩ := f1
  exact hQ hi _ _ zi (up _ _ n2 of) ⟨o1, up _ _ n3 p1, q1⟩ (f2.at fun o e => up _ o n4 e) pi ei fun c o c1 c2 c3 c4 e => up c o c1 (kf c o c1 c2 c3 c4 e)
theorem next_end {z ti to i1 i2 : Addr} {k1 : Nat} {x : Str} {t : Tok} {a b : Value} {Q : Fin → Shared → Prop} (hh : A.handled = none) (n3 : i1 ≠ z)
    (gz : IsZip s.heap z ti to .none) (gi : IsPair s.heap ti (.ref i1) (.ref i2)) (go : IsPair s.heap to a b) (g1 : s.heap.IsStrIter i1 Sg x t k1) (hc : x.cps[k1]? = none)
    (hE : ∀ h' e, (∀ c o, c ≠ z → c ≠ to → c ≠ i1 → c ≠ i2 → s.heap.get? c = some o → h'.get? c = some o) → (∃ o, h'.get? e = some o ∧ o.cls = .type "StopIteration") → E (.ref e) { s with heap := h' }) :
    wpAny (model prog w) A (Builtin.«zip.__next__» ⟨[.ref z], []⟩) Q E s := by
  show wpAny _ _ (field (.ref z) 2 >>= _) _ _ _
  refine wpAny_bind (wpAny_field gz rfl (x := .bool false) rfl ?_)
  show wpAny _ _ (field (.ref z) 3 >>= _) _ _ _
  refine wpAny_bind (wpAny_field gz rfl (x := .ref ti) rfl ?_)
  refine wpAny_bind (wpAny_seqItems gi rfl ?_)
  show wpAny _ _ (Builtin.SmallTypes.ownedTupleIsFree (.ref z) >>= _) _ _ _
  refine wpAny_bind ?_
  unfold Builtin.SmallTypes.ownedTupleIsFree
  refine wpAny_bind (wpAny_field gz rfl (x := .none) rfl (wpAny_pure ?_))
  simp only [if_true]
  refine wpAny_bind (wpAny_rule ?_)
  refine wpAny_bind (wpAny_field gz rfl (x := .ref to) rfl ?_)
  refine wpAny_bind (wpAny_setField_rec gz (by simp) fun ha za sa => ?_)
  replace za : IsZip ha z ti to .ellipsis := za
  refine wpAny_bind ?_
  simp only [List.zipIdx_cons, List.zipIdx_nil, List.forIn_cons, List.forIn_nil]
  refine wpAny_bind (wpAny_bind (wpAny_onRaise ?_))
  show wpAny _ _ (Builtin.SmallTypes.nextOf (.ref i1) >>= _) _ _ _
  refine wpAny_bind (wpAny_nextOf_ascii_end hh (g1.extBut sa.extBut n3) hc fun hb e sb he => ?_)
  obtain ⟨oe, hoe, hce⟩ := he
  have zb : IsZip hb z ti to .ellipsis := sb _ _ n3.symm za
  have off : e ≠ z := by
    rintro rfl
    rw [zb] at hoe
    cases hoe
    simp at hce
  exact wpAny_setField_rec zb (by simp) fun hd _ sd => hE hd e (fun c o c1 _ c3 _ q => sd.extBut _ _ c1 (sb _ _ c3 (sa.extBut _ _ c1 q))) ⟨oe, sd.extBut _ _ off hoe, hce⟩
end
end KZ
namespace KZ
open PySem
section
variable {prog : Program} {w : World} {A : Around} {E : Value → Shared → Prop} {s : Shared}
theorem py_item {z ti to i1 i2 l2 : Addr} {k1 k2 c : Nat} {x : Str} {t : Tok} {ys : Array Value} {y a b : Value} {Q : Option Value → Shared → Prop} (nz : ti ≠ z ∧ to ≠ z ∧ i1 ≠ z ∧ i2 ≠ z) (nt : to ≠ i1 ∧ to ≠ i2 ∧ i1 ≠ i2) (nl : l2 ≠ z ∧ l2 ≠ to ∧ l2 ≠ i1)
    (gz : IsZip s.heap z ti to .none) (gi : IsPair s.heap ti (.ref i1) (.ref i2)) (go : IsPair s.heap to a b) (g1 : s.heap.IsStrIter i1 Sg x t k1) (g2 : s.heap.IsTupleIter i2 l2 k2) (gl : s.heap.IsTuple l2 ys)
    (hc : x.cps[k1]? = some c) (hy : ys[k2]? = some y)
    (hQ : ∀ h' tk u, IsZip h' z ti to (rawInt s.heap.objs.size) → IsPair h' to (.str ⟨#[c]⟩ u) y → h'.IsStrIter i1 Sg x t (k1 + 1) → h'.IsTupleIter i2 l2 (k2 + 1) → IsPair h' s.heap.objs.size (.str ⟨#[c]⟩ u) y → h'.objs.size = s.heap.objs.size + 1 →
      (∀ c o, c ≠ z → c ≠ to → c ≠ i1 → c ≠ i2 → s.heap.get? c = some o → h'.get? c = some o) → Q (some (.ref s.heap.objs.size)) { s with heap := h', toks := tk }) :
    wpAny (model prog w) A (pyNext (.ref z)) Q E s := by
  have ty : s.TypeIs (.ref z) "zip" := ⟨_, gz, rfl⟩
  unfold pyNext
  exact wpAny_bind (wpAny_attempt (wpAny_callSpecial?_slot (name := Str.ofString "__next__") ty F.slot_zip_next (wpAny_call_entry F.slot_zip_next ty F.entry_zip_next
    (next_item nz nt nl gz gi go g1 g2 gl hc hy fun h' tk u a1 a2 a3 a4 a5 a6 a7 => wpAny_pure (hQ h' tk u a1 a2 a3 a4 a5 a6 a7)) (F.args_zip_next_1 _))))
theorem py_end {z ti to i1 i2 : Addr} {k1 : Nat} {x : Str} {t : Tok} {a b : Value} {Q : Option Value → Shared → Prop} (hh : A.handled = none) (n3 : i1 ≠ z)
    (gz : IsZip s.heap z ti to .none) (gi : IsPair s.heap ti (.ref i1) (.ref i2)) (go : IsPair s.heap to a b) (g1 : s.heap.IsStrIter i1 Sg x t k1) (hc : x.cps[k1]? = none)
    (hQ : ∀ h', (∀ c o, c ≠ z → c ≠ to → c ≠ i1 → c ≠ i2 → s.heap.get? c = some o → h'.get? c = some o) → Q none { s with heap := h' }) : wpAny (model prog w) A (pyNext (.ref z)) Q E s := by
  have ty : s.TypeIs (.ref z) "zip" := ⟨_, gz, rfl⟩
  unfold pyNext
  refine wpAny_bind (wpAny_attempt (wpAny_callSpecial?_slot (name := Str.ofString "__next__") ty F.slot_zip_next (wpAny_call_entry F.slot_zip_next ty F.entry_zip_next
    (next_end hh n3 gz gi go g1 hc fun h' e k he => ?_) (F.args_zip_next_1 _))))
  obtain ⟨o, ho, hc⟩ := he
  exact wpAny_bind (wpAny_isInstance (T := "StopIteration") (b := true) ⟨o, ho, hc⟩ isSubtype_stop (wpAny_pure (hQ _ k)))
end
/-- the heap behind zip(x, l2), step by step -/
abbrev h1 (h : Heap) (x : Str) (t : Tok) : Heap := h.push { cls := .type Sg, data := .fields #[.str x t, .int 0 0] }
abbrev h2 (h : Heap) (x : Str) (t : Tok) (l2 : Addr) : Heap := (h1 h x t).push { cls := .type "tuple_iterator", data := .fields #[.ref l2, .int 0 0] }
abbrev h3 (h : Heap) (x : Str) (t : Tok) (l2 : Addr) : Heap := (h2 h x t l2).push { cls := .type "tuple", data := .seq #[.ref h.objs.size, .ref (h1 h x t).objs.size] }
abbrev h4 (h : Heap) (x : Str) (t : Tok) (l2 : Addr) : Heap := (h3 h x t l2).push { cls := .type "tuple", data := .seq #[.none, .none] }
abbrev h5 (h : Heap) (x : Str) (t : Tok) (l2 : Addr) : Heap := (h4 h x t l2).push { cls := .type "zip", data := .fields #[.none, .bool false, .bool false, .ref (h2 h x t l2).objs.size, .ref (h3 h x t l2).objs.size] }
theorem meets_new (x : Str) (t : Tok) (l2 : Addr) (ys : Array Value) (plain : x.cps.all (· < 128) = true) :
    Meets (Builtin.«zip.__new__» ⟨[.type "zip", .str x t, .ref l2], []⟩) (fun _ R s => s.heap.IsTuple l2 ys ∧ R (.ok (.ret (.ref (h4 s.heap x t l2).objs.size))) { s with heap := h5 s.heap x t l2 }) :=
  .of_wp fun prog w A R s h => by
    obtain ⟨hp, g, d, tk, os⟩ := s
    obtain ⟨hl, h⟩ := h
    have sub := sub_zip
    have L2 : Heap.IsTuple (Shared.heap ⟨hp.push { cls := .type Sg, data := .fields #[.str x t, .int 0 0] }, g, d, tk, os⟩) l2 ys := Heap.IsTuple.push hl _
    wp_walk using wpAny_pyIter_ascii plain, wpAny_pyIter_tuple L2
    exact ⟨_, rfl, h⟩
end KZ
set_option Elab.async false
set_option linter.unusedVariables false
set_option maxRecDepth 100000
set_option maxHeartbeats 1000000
namespace KZ
open PySem PySem.Spec PyProof.Rows L2
def ItzS (K : PySem.W.Frag) (x : Str) (b : Addr) : It :=
  ⟨fun i H => i < x.cps.size ∧ ∃ (ys : List V) (y : V), SqT K H b ys ∧ ys[i]? = some y,
    fun i H v H' => ∃ T c y, v = .ref T ∧ H T = none ∧ H' = upd H T (.tup [.str ⟨#[c]⟩, y]) ∧ x.cps[i]? = some c ∧ ∀ ys, SqT K H b ys → ys[i]? = some y,
    fun i _ => x.cps.size ≤ i⟩
def Std (x : Str) (t : Tok) (b z ti to i1 i2 : Addr) (i : Nat) (h : Heap) : Prop := IsZip h z ti to .none ∧ IsPair h ti (.ref i1) (.ref i2) ∧ (∃ u v, IsPair h to u v) ∧ h.IsStrIter i1 Sg x t i ∧ h.IsTupleIter i2 b i
theorem five {z ti to i1 i2 c : Addr} (h : c ∈ [z, ti, to, i1, i2]) : c = z ∨ c = ti ∨ c = to ∨ c = i1 ∨ c = i2 := by simpa using h
theorem turn {P : Program} {w : World} {K : PySem.W.Frag} {elts : List Expr} {kk : Nat} {tpos : Pos} {x : Str} {t : Tok} {b z ti to i1 i2 : Addr}
    (nz : ti ≠ z ∧ to ≠ z ∧ i1 ≠ z ∧ i2 ≠ z) (nt : to ≠ i1 ∧ to ≠ i2 ∧ i1 ≠ i2) (nl : b ≠ z ∧ b ≠ to ∧ b ≠ i1) (ni : ti ≠ to ∧ ti ≠ i1 ∧ ti ≠ i2) :
    Turn P w K (.Tuple elts kk tpos) (ItzS K x b) [z, ti, to, i1, i2] z (Std x t b z ti to i1 i2) where
  mem := by simp
  obj := by
    rintro i h ⟨g1, g2, ⟨u, v, g3⟩, ⟨o1, e1, _, d1⟩, ⟨o2, e2, _, d2⟩⟩ c hc
    rcases five hc with q | q | q | q | q <;> rw [q]
    · exact ⟨_, g1, fun v q => nomatch q⟩
    · exact ⟨_, g2, fun v q => nomatch q⟩
    · exact ⟨_, g3, fun v q => nomatch q⟩
    · exact ⟨o1, e1, fun v q => by rw [d1] at q; cases q⟩
    · exact ⟨o2, e2, fun v q => by rw [d2] at q; cases q⟩
  keep := by
    rintro i h h' ⟨g1, g2, ⟨u, v, g3⟩, ⟨o1, e1, r1⟩, g5⟩ k
    exact ⟨k z (by simp) _ g1, k ti (by simp) _ g2, ⟨u, v, k to (by simp) _ g3⟩, ⟨o1, k i1 (by simp) _ e1, r1⟩, g5.at fun o q => k i2 (by simp) o q⟩
  item := by
    intro X hP hw hK hc i pins s σ H E I hf st hg
    subst hP hw hK
    obtain ⟨g1, g2, ⟨u, v, g3⟩, g4, g5⟩ := st
    obtain ⟨hi, ys, y, hq, hy⟩ := hg
    obtain ⟨its, rv, p, _⟩ := I.tuple hq
    obtain ⟨uy, hu, ru⟩ := rv.get hy
    have hx : x.cps[i]? = some x.cps[i] := Array.getElem?_eq_getElem hi
    have zl : z < s.heap.objs.size := Heap.lt_size g1
    refine py_item nz nt nl g1 g2 g3 g4 g5 p hx (y := uy) (by simpa using hu) fun h' tk ux z' to' a1 a2 hT sz k => ?_
    refine ⟨_, rfl, wpAny_letOwnedTupleGo_zip (s := { s with heap := h', toks := tk }) z' fun h'' z'' sb => ?_⟩
    have hT2 : h''.get? s.heap.objs.size = some { cls := .type "tuple", data := .seq #[.str ⟨#[x.cps[i]]⟩ ux, uy] } := (sb.2 _ (Nat.ne_of_gt zl)).trans hT
    have new : ObjOk X.prog X.w (upd H s.heap.objs.size (.tup [.str ⟨#[x.cps[i]]⟩, y])) h'' s.heap.objs.size (.tup [.str ⟨#[x.cps[i]]⟩, y]) :=
      ⟨by show 2 ≤ sizeLine; decide, [_, uy], .cons ⟨_, rfl⟩ (.cons ru .nil), ⟨_, hT2, rfl, _, rfl⟩⟩
    have I1 : Inv X pins σ (upd H s.heap.objs.size (.tup [.str ⟨#[x.cps[i]]⟩, y])) { s with heap := h'', toks := tk } :=
      I.turnedNew (t' := tk) (ch := [z, ti, to, i1, i2]) (fun c o hb q => (sb.2 c (fun q' => hb (by simp [q']))).trans (k c o (fun q' => hb (by simp [q'])) (fun q' => hb (by simp [q'])) (fun q' => hb (by simp [q'])) (fun q' => hb (by simp [q'])) q)) hf (Nat.le_refl _) new
    obtain ⟨o1, p1, q1⟩ := a1
    refine ⟨.ref s.heap.objs.size, _, I1, rfl, ⟨_, _, y, rfl, I.hok.fresh (Nat.le_refl _), rfl, hx, fun l hl => by rw [I.tuple_inj hl hq]; exact hy⟩,
      ⟨z'', (sb.2 _ nz.1).trans (k _ _ nz.1 ni.1 ni.2.1 ni.2.2 g2), ⟨_, uy, (sb.2 _ nz.2.1).trans to'⟩, ⟨o1, (sb.2 _ nz.2.2.1).trans p1, q1⟩, a2.at fun o q => (sb.2 _ nz.2.2.2).trans q⟩, fun c hcm => ?_⟩
    have lt : c < s.heap.objs.size := by
      rcases five hcm with q | q | q | q | q <;> rw [q]
      · exact zl
      · exact Heap.lt_size g2
      · exact Heap.lt_size g3
      · obtain ⟨_, e1, _⟩ := g4; exact Heap.lt_size e1
      · obtain ⟨_, e2, _⟩ := g5; exact Heap.lt_size e2
    rw [upd_ne (Nat.ne_of_lt lt)]
    exact (hf c hcm).1
  done := by
    intro X hP hw hK hc i pins s σ H E I hf st hg
    subst hP hw hK
    obtain ⟨g1, g2, ⟨u, v, g3⟩, g4, g5⟩ := st
    exact py_end (I.ok.hd hc) nz.2.2.1 g1 g2 g3 g4 (Array.getElem?_eq_none hg) fun h' k => ⟨rfl, I.turnedL (t' := s.toks) (ch := [z, ti, to, i1, i2]) (fun c o hb q =>
      k c o (fun q' => hb (by simp [q'])) (fun q' => hb (by simp [q'])) (fun q' => hb (by simp [q'])) (fun q' => hb (by simp [q'])) q) hf⟩
  self := fun A i s Q E st h => wpAny_pyIter_zip st.1 h
def iZipS (K : PySem.W.Frag) (ta : TA) : TI := fun σ H R => ta σ H fun vs H1 => ∃ (x : Str) (b : Addr) (ys : List V), vs = [.str x, .ref b] ∧ x.cps.all (· < 128) = true ∧ H1 b = some (.tup ys) ∧ R (ItzS K x b) H1
theorem pi_zipS {X : Cx} {e e2 : Expr} {ta : TA} {p pos tpos : Pos} {elts : List Expr} {kk : Nat} (hg : Gl X "zip") (hm : X.mg "zip" = none) (ha : PA X [e, e2] ta)
    (hs : starEach [e, e2] X.env = (false, eval e X.env) :: starEach [e2] X.env := by rfl) (hpl : (backTo pos (starEach [e2] X.env)).any (·.1) = false := by rfl) :
    PI X (.Tuple elts kk tpos) (.Call (.Name "zip" p) [e, e2] [] pos) (iZipS X.K ta) := by
  refine ⟨fun pins s σ H R I h => ?_⟩
  refine Call_ (ld_blt I hg hm PyProof.Rows.boot_zip (PyProof.Rows.callWith_type1 (thn (ha.run pos pins s σ H _ I h) fun us s1 ⟨vs, H1, I1, r1, q1⟩ => ?_) hs hpl))
  obtain ⟨x, b, ys, rfl, plain, hb, q⟩ := q1
  obtain ⟨u1, u2, rfl, ru1, ru2⟩ := vals2 r1
  obtain ⟨t, rfl⟩ := ru1
  cases ru2
  obtain ⟨_, its, rv, ot, ho, hc, n, hd⟩ := I1.hok _ _ hb
  have hT : s1.heap.IsTuple b its.toArray := ⟨ot, ho, hc, n, hd⟩
  have bl : b < s1.heap.objs.size := Heap.lt_size ho
  refine callType_new F.called_zip (by decide) (F.typeCall_zip_2 _ _) (F.newCall_zip_2 _ _) (fun obj => F.args_object_init_3 obj _ _) F.entry_zip_new (meets_new x t b its.toArray plain) ⟨hT, ?_⟩
  have z1 : (h1 s1.heap x t).objs.size = s1.heap.objs.size + 1 := Heap.size_push ..
  have z2 : (h2 s1.heap x t b).objs.size = s1.heap.objs.size + 2 := by rw [Heap.size_push, z1]
  have z3 : (h3 s1.heap x t b).objs.size = s1.heap.objs.size + 3 := by rw [Heap.size_push, z2]
  have z4 : (h4 s1.heap x t b).objs.size = s1.heap.objs.size + 4 := by rw [Heap.size_push, z3]
  have g5 : (h5 s1.heap x t b).get? (h4 s1.heap x t b).objs.size = some _ := Heap.get?_push_size _ rfl
  have g4 : (h5 s1.heap x t b).get? (h3 s1.heap x t b).objs.size = some _ := Heap.get?_push_of_some _ (Heap.get?_push_size _ rfl)
  have g3 : (h5 s1.heap x t b).get? (h2 s1.heap x t b).objs.size = some _ := Heap.get?_push_of_some _ (Heap.get?_push_of_some _ (Heap.get?_push_size _ rfl))
  have g2 : (h5 s1.heap x t b).get? (h1 s1.heap x t).objs.size = some _ := Heap.get?_push_of_some _ (Heap.get?_push_of_some _ (Heap.get?_push_of_some _ (Heap.get?_push_size _ rfl)))
  have g1 : (h5 s1.heap x t b).get? s1.heap.objs.size = some _ := Heap.get?_push_of_some _ (Heap.get?_push_of_some _ (Heap.get?_push_of_some _ (Heap.get?_push_of_some _ (Heap.get?_push_size _ rfl))))
  have keep : ∀ c o, s1.heap.get? c = some o → (h5 s1.heap x t b).get? c = some o := fun c o e =>
    Heap.get?_push_of_some _ (Heap.get?_push_of_some _ (Heap.get?_push_of_some _ (Heap.get?_push_of_some _ (Heap.get?_push_of_some _ e))))
  show _ ∧ _
  rw [z2, z3, z4] at g5
  rw [z1, z2] at g3
  rw [z3] at g4
  rw [z1] at g2
  rw [z4]
  refine ⟨⟨_, g5, rfl⟩, wpAny_pyIter_zip g5 ?_⟩
  have D := PySem.W.ktu_apart s1.heap.objs.size b b bl bl
  have I2 : Inv X pins σ H1 { s1 with heap := h5 s1.heap x t b } := I1.kept (t' := s1.toks) keep
  refine ⟨s1.heap.objs.size + 4, [s1.heap.objs.size + 4, s1.heap.objs.size + 2, s1.heap.objs.size + 3, s1.heap.objs.size, s1.heap.objs.size + 1], _, _, H1, rfl, I2,
    turn (t := t) ⟨D.TIz, D.TOz, D.i1z, D.i2z⟩ ⟨D.TOi1, D.TOi2, D.i12⟩ ⟨D.l2z, D.l2TO, D.l2i1⟩ ⟨D.TITO, D.TIi1, D.TIi2⟩, ⟨g5, g3, ⟨_, _, g4⟩, ⟨_, g1, rfl, rfl⟩, ⟨_, g2, rfl, rfl⟩⟩, fun c hcm => ?_, q⟩
  have le : s1.heap.objs.size ≤ c := by
    rcases five hcm with z | z | z | z | z <;> rw [z] <;> first | exact Nat.le_add_right _ _ | exact Nat.le_refl _
  exact I1.fpOk le (I1.hok.fresh le)
/-- a loop over zip of a text and a tuple as long -/
theorem for_zipS {K : PySem.W.Frag} {x : Str} {b : Addr} {ys : List V} {g : TG} {tb : TS} {D : Ends} {σ : L2.St} {H : Hp} (hl : x.cps.size = ys.length) (Pv : Nat → L2.St → Hp → Prop) (h0 : Pv 0 σ H) (hq : ∀ i σ H, Pv i σ H → SqT K H b ys)
    (hs : ∀ (i c : Nat) (y : V) (T : Addr) (σ : L2.St) (H : Hp), x.cps[i]? = some c → ys[i]? = some y → Pv i σ H → H T = none → g (.ref T) σ (upd H T (.tup [.str ⟨#[c]⟩, y])) fun σ2 H2 => tb { D with nx := Pv (i + 1), ct := Pv (i + 1), bk := D.nx } σ2 H2)
    (hd : ∀ σ H, Pv x.cps.size σ H → D.nx σ H) :
    ∃ W : Nat → Nat → L2.St → Hp → Prop, (∃ m, W 0 m σ H) ∧ ∀ i m σ H, W i m σ H →
      ((ItzS K x b).stop i H ∧ D.nx σ H) ∨ ((ItzS K x b).go i H ∧ ∃ N : L2.St → Hp → Prop, (∀ σ' H', N σ' H' → ∃ m', m' < m ∧ W (i + 1) m' σ' H') ∧ ∀ v H', (ItzS K x b).yld i H v H' → g v σ H' fun σ2 H2 => tb { D with nx := N, ct := N, bk := D.nx } σ2 H2) := by
  refine ⟨fun i m σ H => m = x.cps.size - i ∧ i ≤ x.cps.size ∧ Pv i σ H, ⟨_, rfl, Nat.zero_le _, h0⟩, ?_⟩
  rintro i m σ H ⟨rfl, hi, p⟩
  by_cases lt : i < x.cps.size
  · have hy : ys[i]? = some ys[i] := List.getElem?_eq_getElem (by omega)
    refine Or.inr ⟨⟨lt, ys, _, hq i σ H p, hy⟩, Pv (i + 1), fun σ' H' p' => ⟨x.cps.size - (i + 1), by omega, rfl, lt, p'⟩, ?_⟩
    rintro v H' ⟨T, c, y', rfl, hT, rfl, hc, f⟩
    exact hs i c y' T σ H hc (f ys (hq i σ H p)) p hT
  · obtain rfl : i = x.cps.size := by omega
    exact Or.inl ⟨Nat.le_refl _, hd σ H p⟩
end KZ
set_option Elab.async false
set_option linter.unusedVariables false
set_option maxRecDepth 100000
set_option maxHeartbeats 1000000
/-! Data looked at: kinds, terms, names; heaps without one object; isinstance of data. -/
namespace KA
open PySem PySem.Spec PyProof.Rows L2

/-! ### a heap without one object -/
def hid (p : Addr) (H : Hp) : Hp := fun b => if b = p then none else H b
theorem hid_ne {p b : Addr} {H : Hp} (h : b ≠ p) : hid p H b = H b := if_neg h
theorem hid_at {p : Addr} {H : Hp} : hid p H p = none := if_pos rfl
theorem hid_some {p b : Addr} {H : Hp} {o : HO} (h : hid p H b = some o) : b ≠ p ∧ H b = some o := by
  by_cases e : b = p
  · subst e
    rw [hid_at] at h
    cases h
  · rw [hid_ne e] at h
    exact ⟨e, h⟩
theorem hid_sub {p : Addr} {H : Hp} : Same (hid p H) H := fun b o h => (hid_some h).2
theorem hid_upd {p : Addr} {H : Hp} {o : HO} : hid p (upd H p o) = hid p H := by
  funext b
  by_cases e : b = p
  · subst e
    rw [hid_at, hid_at]
  · rw [hid_ne e, hid_ne e, upd_ne e]
theorem Same.less {p : Addr} {H H' : Hp} (h : Same H H') : Same (hid p H) (hid p H') := fun b o e => by
  obtain ⟨n, e'⟩ := hid_some e
  rw [hid_ne n]
  exact h b o e'
theorem Same.new {H : Hp} {q : Addr} {o : HO} (h : H q = none) : Same H (upd H q o) := fun b u e => by
  rw [upd_ne (ne_of_none e h)]
  exact e
/-- what is new stands in the rest, too -/
theorem Same.hidNew {p q : Addr} {H H' : Hp} {o : HO} (h : Same H (hid p H')) (n : H' q = none) : Same H (hid p (upd H' q o)) := fun b u e => by
  have e' := h b u e
  obtain ⟨n1, e2⟩ := hid_some e'
  rw [hid_ne n1, upd_ne (ne_of_none e2 n)]
  exact e2
theorem Same.at {H H' : Hp} (h : Same H H') {b : Addr} {o : HO} (e : H b = some o) : H' b = some o := h b o e
/-- a heap to which only new things came, and p, which H does not know, changed -/
theorem Same.to_hid {p : Addr} {H H' : Hp} (h : Same H H') (n : H p = none) : Same H (hid p H') := fun b o e => by
  rw [hid_ne (ne_of_none e n)]
  exact h b o e
theorem Same.mut {p : Addr} {H H' : Hp} {o : HO} (h : Same H H') (n : H p = none) : Same H (upd H' p o) := fun b u e => by
  rw [upd_ne (ne_of_none e n)]
  exact h b u e

/-! ### kinds of data -/
def isTupD : PyData → Bool | .tuple _ => true | _ => false
def isLstD : PyData → Bool | .list _ => true | _ => false
def isStrD : PyData → Bool | .str _ => true | _ => false
def isIntD : PyData → Bool | .int _ => true | .bool _ => true | _ => false
def isBoolD : PyData → Bool | .bool _ => true | _ => false
def tyD : PyData → String
  | .none => "NoneType" | .bool _ => "bool" | .int _ => "int" | .str _ => "str" | .list _ => "list" | .tuple _ => "tuple" | .dict _ => "dict"
theorem Dn.ty {K : PySem.W.Frag} {H : Hp} {v : V} {d : PyData} (h : Dn H v d) : TyX K H v (.type (tyD d)) := by
  cases h with
  | non => exact .base .non
  | bl b => exact .base (.bl b)
  | int i => exact .base (.int i)
  | str x => exact .base (.str x)
  | lst e _ => exact .base (.lst e)
  | tup e _ => exact .base (.tup e)
  | dic e _ _ => exact .base (.dK e)
theorem is_tup (d : PyData) : kitB (tyD d) "tuple" = some (isTupD d) := by
  have t : kitB "NoneType" "tuple" = some false ∧ kitB "bool" "tuple" = some false ∧ kitB "int" "tuple" = some false ∧ kitB "str" "tuple" = some false ∧ kitB "list" "tuple" = some false ∧ kitB "tuple" "tuple" = some true ∧ kitB "dict" "tuple" = some false := by decide +kernel
  obtain ⟨a, b, c, e, g, h, i⟩ := t
  cases d <;> first | exact a | exact b | exact c | exact e | exact g | exact h | exact i
theorem is_lst (d : PyData) : kitB (tyD d) "list" = some (isLstD d) := by
  have t : kitB "NoneType" "list" = some false ∧ kitB "bool" "list" = some false ∧ kitB "int" "list" = some false ∧ kitB "str" "list" = some false ∧ kitB "list" "list" = some true ∧ kitB "tuple" "list" = some false ∧ kitB "dict" "list" = some false := by decide +kernel
  obtain ⟨a, b, c, e, g, h, i⟩ := t
  cases d <;> first | exact a | exact b | exact c | exact e | exact g | exact h | exact i
theorem is_str (d : PyData) : kitB (tyD d) "str" = some (isStrD d) := by
  have t : kitB "NoneType" "str" = some false ∧ kitB "bool" "str" = some false ∧ kitB "int" "str" = some false ∧ kitB "str" "str" = some true ∧ kitB "list" "str" = some false ∧ kitB "tuple" "str" = some false ∧ kitB "dict" "str" = some false := by decide +kernel
  obtain ⟨a, b, c, e, g, h, i⟩ := t
  cases d <;> first | exact a | exact b | exact c | exact e | exact g | exact h | exact i
theorem is_int (d : PyData) : kitB (tyD d) "int" = some (isIntD d) := by
  have t : kitB "NoneType" "int" = some false ∧ kitB "bool" "int" = some true ∧ kitB "int" "int" = some true ∧ kitB "str" "int" = some false ∧ kitB "list" "int" = some false ∧ kitB "tuple" "int" = some false ∧ kitB "dict" "int" = some false := by decide +kernel
  obtain ⟨a, b, c, e, g, h, i⟩ := t
  cases d <;> first | exact a | exact b | exact c | exact e | exact g | exact h | exact i
theorem is_bool (d : PyData) : kitB (tyD d) "bool" = some (isBoolD d) := by
  have t : kitB "NoneType" "bool" = some false ∧ kitB "bool" "bool" = some true ∧ kitB "int" "bool" = some false ∧ kitB "str" "bool" = some false ∧ kitB "list" "bool" = some false ∧ kitB "tuple" "bool" = some false ∧ kitB "dict" "bool" = some false := by decide +kernel
  obtain ⟨a, b, c, e, g, h, i⟩ := t
  cases d <;> first | exact a | exact b | exact c | exact e | exact g | exact h | exact i
/-- isinstance(e, T) of data -/
def rIsD (T : String) (f : PyData → Bool) : List V → Hp → VK → Prop := fun xs H Q => ∃ x d, xs = [x, .ty T] ∧ Dn H x d ∧ Q (.bl (f d)) H
section
variable {X : Cx} {e : Expr} {te : TE} {p q pos : Pos}
theorem call_isD {T : String} {f : PyData → Bool} (hf : ∀ d, kitB (tyD d) T = some (f d)) : CallR X (.builtin "isinstance") (rIsD T f) := by
  intro pins s σ H xs us Q I r h
  obtain ⟨x, d, rfl, hd, k⟩ := h
  exact call_isi pins s σ H _ us Q I r ⟨x, .ty T, _, _, _, rfl, .ty T, hd.ty, kit_ty (hf d), k⟩
theorem pe_isD {n : Str} {T : String} {f : PyData → Bool} (hf : ∀ d, kitB (tyD d) T = some (f d)) (he : PE X e te) (hm : X.mg "isinstance" = none) (hn : X.mg n = none) (hv : bootBuiltins n = some (.type T)) (hg : Gl X "isinstance" := by rfl) (hg2 : Gl X n := by rfl)
    (hne : n ≠ "__name__" := by decide) (hnd : (n == ("__debug__" : Str)) = false := by decide)
    (a1 : starEach [e, .Name n q] X.env = (false, eval e X.env) :: starEach [.Name n q] X.env := by rfl) (a2 : (backTo pos (starEach [.Name n q] X.env)).any (·.1) = false := by rfl) (a3 : starEach [.Name n q] X.env = (false, eval (.Name n q) X.env) :: starEach [] X.env := by rfl) :
    PE X (.Call (.Name "isinstance" p) [e, .Name n q] [] pos) (tCB (rIsD T f) (tCons te (tCons (tC (.ty T)) tNil))) :=
  pe_callB (X := X) (p := p) (pos := pos) (call_isD hf) hg hm (by decide +kernel) (pa_cons he (pa_cons (pe_bltn (v := .ty T) hg2 hn hv rfl hne hnd) pa_nil a3) a1) (by decide) (by decide) a1 a2
end
/-! ### a comprehension over a text -/
theorem lc_str {x : Str} {g : TG} {tt : TT} {te : TE} {vs : List Nat} {σ : L2.St} {H1 : Hp} {D : Addr} {Qd : Hp → Prop} (Pv : Nat → Hp → Prop) (h0 : Pv 0 (upd H1 D (.lst [])))
    (hs : ∀ (i c : Nat) (H : Hp), x.cps[i]? = some c → Pv i H → g (.str ⟨#[c]⟩) (wipe σ vs) H fun σ2 H2 => wipe σ2 vs = wipe σ vs ∧ tt σ2 H2 fun b H3 =>
      if b = true then te σ2 H3 fun y H4 => ∃ acc, H4 D = some (.lst acc) ∧ acc.length < sizeLine ∧ Pv (i + 1) (upd H4 D (.lst (acc ++ [y]))) else Pv (i + 1) H3) (hd : ∀ H, Pv x.cps.size H → Qd H) :
    ∃ W : Nat → Nat → Hp → Prop, (∃ m, W 0 m (upd H1 D (.lst []))) ∧ ∀ i m H, W i m H →
      ((Its x).stop i H ∧ Qd H) ∨ ((Its x).go i H ∧ ∃ Nx : Hp → Prop, (∀ H', Nx H' → ∃ m', m' < m ∧ W (i + 1) m' H') ∧ ∀ v H', (Its x).yld i H v H' → g v (wipe σ vs) H' fun σ2 H2 => wipe σ2 vs = wipe σ vs ∧ tt σ2 H2 fun b H3 =>
        if b = true then te σ2 H3 fun y H4 => ∃ acc, H4 D = some (.lst acc) ∧ acc.length < sizeLine ∧ Nx (upd H4 D (.lst (acc ++ [y]))) else Nx H3) := by
  refine ⟨fun i m H => m = x.cps.size - i ∧ i ≤ x.cps.size ∧ Pv i H, ⟨_, rfl, Nat.zero_le _, h0⟩, ?_⟩
  rintro i m H ⟨rfl, hi, p⟩
  by_cases lt : i < x.cps.size
  · refine Or.inr ⟨lt, Pv (i + 1), fun H' p' => ⟨x.cps.size - (i + 1), by omega, rfl, lt, p'⟩, ?_⟩
    rintro v H' ⟨rfl, c, hc, rfl⟩
    exact hs i c _ hc p
  · obtain rfl : i = x.cps.size := by omega
    exact Or.inl ⟨Nat.le_refl _, hd H p⟩
theorem yes {σ : L2.St} {H : Hp} {Q : Bool → Hp → Prop} (h : Q true H) : tYes σ H Q := h
theorem take_snoc {α : Type} {xs : List α} {i : Nat} {x : α} (h : xs[i]? = some x) : xs.take (i + 1) = xs.take i ++ [x] := by
  rw [List.take_add_one, h]
  rfl
end KA
set_option Elab.async false
set_option linter.unusedVariables false
set_option maxRecDepth 100000
set_option maxHeartbeats 1000000
/-! The program's defs. -/
namespace KP
open PySem PySem.Spec PyProof.Rows L2 KA

/-! ### what it reckons, on data -/
def cntB (lo : Int) : PyData → Bool | .int i => decide (lo ≤ i) | _ => false
def wholeB (lo hi : Int) : PyData → Bool | .int i => decide (lo ≤ i) && decide (i ≤ hi) | _ => false
def letterB (c : Nat) : Bool := decide (97 ≤ c) && decide (c ≤ 122)
def letters : Str := "abcdefghijklmnopqrstuvwxyz"
def noNames : List Str := ["all", "fun", "same", "self", "put"]
def nameX (x : Str) : Bool := !(noNames.any fun y => y == x) && (decide (1 ≤ x.length) && decide (x.length ≤ 8) && x.cps.toList.all letterB)
def nameB : PyData → Bool | .str x => nameX x | _ => false
def parts (z : Str) : Option Nat :=
  if z = "all" then some 2 else if z = "fun" then some 2 else if z = "app" then some 2 else if z = "same" then some 3 else if z = "self" then some 2 else if z = "put" then some 3 else none
def leafB (w : Str) : List PyData → Bool
  | [x] => if w = "at" then cntB 0 x else if w = "kind" then wholeB 0 5 x else (decide (w = "name") || decide (w = "thing")) && nameB x
  | [x, y] => nameB x && (if w = "maker" then cntB 0 y else decide (w = "eater") && wholeB 0 5 y)
  | _ => false
mutual
def tm : PyData → Bool
  | .tuple (.str w :: ds) => (match parts w with
    | some n => decide (ds.length = n) && tmAll ds
    | none => leafB w ds)
  | _ => false
def tmAll : List PyData → Bool
  | [] => true
  | d :: ds => tm d && tmAll ds
end
mutual
/-- how many data there are in it -/
def nodes : PyData → Nat
  | .tuple ds => nodesAll ds + 1
  | _ => 1
def nodesAll : List PyData → Nat
  | [] => 0
  | d :: ds => nodes d + nodesAll ds
end

mutual
/-- its leaves are small -/
def fine : PyData → Bool
  | .int i => decide (-(10 ^ 31) ≤ i) && decide (i ≤ 10 ^ 31)
  | .str x => decide (x.length ≤ 20) && x.cps.toList.all fun c => decide (c < 128)
  | .list ds => fineAll ds
  | .tuple ds => fineAll ds
  | .dict kvs => fineKv kvs
  | _ => true
def fineAll : List PyData → Bool
  | [] => true
  | d :: ds => fine d && fineAll ds
def fineKv : List (PyData × PyData) → Bool
  | [] => true
  | (k, v) :: r => fine k && fine v && fineKv r
end
theorem letters_list : letters.cps.toList = [97, 98, 99, 100, 101, 102, 103, 104, 105, 106, 107, 108, 109, 110, 111, 112, 113, 114, 115, 116, 117, 118, 119, 120, 121, 122] := by decide +kernel
theorem in_letters (c : Nat) : decide (c ∈ letters.cps.toList) = letterB c := by
  rw [letters_list]
  unfold letterB
  rw [← Bool.decide_and]
  apply decide_eq_decide.mpr
  simp only [List.mem_cons, List.not_mem_nil, or_false]
  omega

/-! ### the text by places -/
def top (i : Nat) : Stmt := PySem.Challenge.pw_kernelpapers_k02_parts_and_spots.main.body.getD i (.Pass ⟨0, 0, 0, 0⟩)
abbrev sWhole : Stmt := top 18
abbrev sCount : Stmt := top 19
abbrev sName : Stmt := top 20
abbrev sTerm : Stmt := top 21
abbrev sLeaf : Stmt := top 22
abbrev sSpot : Stmt := top 23

/-- what the top has left, but for the defs -/
structure Txt (K : PySem.W.Frag) (w : World) (mg : Str → Option Value) : Prop where
  isi : mg "isinstance" = none
  int : mg "int" = none
  bool : mg "bool" = none
  str : mg "str" = none
  tuple : mg "tuple" = none
  list : mg "list" = none
  dict : mg "dict" = none
  len : mg "len" = none
  all : mg "all" = none
  max : mg "max" = none
  min : mg "min" = none
  range : mg "range" = none
  zip : mg "zip" = none
  repr : mg "repr" = none
  letters : ∃ u, mg "LETTERS" = some u ∧ RelV (.str KP.letters) u
  most : ∃ u, mg "MOST_LETTERS" = some u ∧ RelV (.int 8) u
  highest : ∃ u, mg "HIGHEST" = some u ∧ RelV (.int 5) u
  no : ∃ a o its n, mg "NO_NAMES" = some (.ref a) ∧ K.lookup a = some o ∧ o.cls = .type "tuple" ∧ o.data = .seq its n ∧ its.size ≤ sizeLine ∧ Vals (noNames.map V.str) its.toList
  parted : ∃ a es n, mg "PARTED" = some (.ref a) ∧ KDict K w a es n ∧ ∀ z, ∃ r, PySem.W.nsIn K a z = some r ∧ RelO ((parts z).map fun n => V.int (n : Int)) r

/-! ### promises -/
def spCount : Sp := fun vs H Q _ => ∃ v d lo, vs = [v, .int lo] ∧ Dn H v d ∧ ∀ H', Same H H' → Q (.bl (cntB lo d)) H'
def spWhole : Sp := fun vs H Q _ => ∃ v d lo hi, vs = [v, .int lo, .int hi] ∧ Dn H v d ∧ ∀ H', Same H H' → Q (.bl (wholeB lo hi d)) H'
def sp1 (ok : PyData → Prop) (f : PyData → Bool) : Sp := fun vs H Q _ => ∃ v d, vs = [v] ∧ Dn H v d ∧ ok d ∧ ∀ H', Same H H' → Q (.bl (f d)) H'

section
variable {P : Program} {w : World} {K : PySem.W.Frag} {mg : Str → Option Value} {base : Heap}
theorem scCount : FnScope ["thing", "low"] ["thing", "low"] (defScope sCount) := ⟨rfl, rfl, rfl, by decide +kernel, rfl, by decide +kernel, by decide +kernel⟩
theorem ok_count {f : Addr} {fd : FuncData} {dvs : List V} {kws : List (Str × V)} (F : FunD K "is_count" "is_count" (defArgs sCount) (defBody sCount) (defScope sCount) dvs kws f fd) (T : Txt K w mg) : FnOk P w K mg base CX0 1 f fd ["thing", "low"] spCount := by
  refine F.ok scCount (fun vs H Q E h => ?_) (fun cdv A outer s H vs Q E hr h => ?_)
  · obtain ⟨v, d, lo, rfl, _⟩ := h
    rfl
  · obtain ⟨v, d, lo, rfl, hd, k⟩ := h
    refine ⟨_, pss_one (ps_ret (pe_and (pe_isD is_int (pv 0) T.isi T.int (by decide +kernel)) (pe_and (pe_not (pe_isD is_bool (pv 0) T.isi T.bool (by decide +kernel))) (pe_one (pe_cmpR op_ge (pv 0) (pv 1) (nomark _)))))), ?_⟩
    have k0 := k H (Same.refl H)
    refine ⟨v, rfl, v, d, rfl, hd, _, rfl, ?_⟩
    cases hd with
    | int i => exact iteT ⟨_, rfl, .int i, _, rfl, .int i, _, rfl, _, rfl, iteT ⟨_, rfl, _, rfl, i, lo, rfl, rfl, k0⟩⟩
    | bl b => exact iteT ⟨_, rfl, .bl b, _, rfl, .bl b, _, rfl, _, rfl, iteF k0⟩
    | non => exact iteF k0
    | str x => exact iteF k0
    | lst _ _ => exact iteF k0
    | tup _ _ => exact iteF k0
    | dic _ _ _ => exact iteF k0
theorem scWhole : FnScope ["thing", "low", "high"] ["thing", "low", "high"] (defScope sWhole) := ⟨rfl, rfl, rfl, by decide +kernel, rfl, by decide +kernel, by decide +kernel⟩
theorem ok_whole {f : Addr} {fd : FuncData} (F : Fun K "is_whole" "is_whole" sWhole f fd) (T : Txt K w mg) (C : C8.Cal P w K mg base 1 "is_count" spCount []) : FnOk P w K mg base CX0 2 f fd ["thing", "low", "high"] spWhole := by
  refine F.ok scWhole (fun vs H Q E h => ?_) (fun cdv A outer s H vs Q E hr h => ?_)
  · obtain ⟨v, d, lo, hi, rfl, _⟩ := h
    rfl
  · obtain ⟨v, d, lo, hi, rfl, hd, k⟩ := h
    refine ⟨_, pss_one (ps_ret (pe_and (C8.pe_c C hr (by decide) rfl (pa_cons (pv 0) (pa_cons (pv 1) pa_nil))) (pe_one (pe_cmpR op_le (pv 0) (pv 2) (nomark _))))), ?_⟩
    refine ⟨v, rfl, _, rfl, v, d, lo, rfl, hd, fun H' S => ⟨_, rfl, ?_⟩⟩
    have k0 := k H' S
    cases hd with
    | int i =>
      refine ite2 (fun h => ?_) (fun h => ?_)
      · refine ⟨_, rfl, _, rfl, i, hi, rfl, rfl, ?_⟩
        have e : wholeB lo hi (.int i) = decide (i ≤ hi) := by
          show (decide (lo ≤ i) && decide (i ≤ hi)) = _
          rw [show decide (lo ≤ i) = true from h, Bool.true_and]
        rw [e] at k0
        exact k0
      · have e : wholeB lo hi (.int i) = false := by
          show (decide (lo ≤ i) && decide (i ≤ hi)) = _
          rw [show decide (lo ≤ i) = false by simpa [cntB] using h, Bool.false_and]
        rw [e] at k0
        exact k0
    | bl b => exact iteF k0
    | non => exact iteF k0
    | str x => exact iteF k0
    | lst _ _ => exact iteF k0
    | tup _ _ => exact iteF k0
    | dic _ _ _ => exact iteF k0
theorem scName : FnScope ["thing", "letter"] ["thing"] (defScope sName) := ⟨rfl, rfl, rfl, by decide +kernel, rfl, by decide +kernel, by decide +kernel⟩
theorem ok_name {f : Addr} {fd : FuncData} (F : Fun K "is_name" "is_name" sName f fd) (T : Txt K w mg) : FnOk P w K mg base CX0 1 f fd ["thing"] (sp1 (fun d => fine d = true) nameB) := by
  refine F.ok scName (fun vs H Q E h => ?_) (fun cdv A outer s H vs Q E hr h => ?_)
  · obtain ⟨v, d, rfl, _⟩ := h
    rfl
  · obtain ⟨v, d, rfl, hd, hf, k⟩ := h
    obtain ⟨na, no, nits, nn, nm, nl, nc, ndt, nsz, nv⟩ := T.no
    refine ⟨_, pss_cons (ps_if (PW.pt (pw_or (pt_not (pt_val (pe_isD is_str (pv 0) T.isi T.str (by decide +kernel)))) (pw_or1 (pt_cmpR op_in_seq (pv 0) (pe_glob (v := .ref na) rfl nm rfl) rfl))))
        (pss_one (ps_ret pe_bl)) pss_nil)
      (pss_one (ps_ret (pe_and (pe_chain op_le op_le pe_int (pe_callB call_len_str (by rfl) T.len PySem.boot_len (pa_cons (pv 0) pa_nil)) (C8.pe_gc rfl T.most))
        (pe_one (pe_callB (cr_all rfl) (by rfl) T.all (by decide +kernel) (pa_cons (pe_lc (own := [("letter", 1)]) (g := gName 1) (tt := tYes) rfl scName.nd (pi_str (pv 0)) (blkOk_by (N := ["thing", "letter"]) (sc := defScope sName) (by decide +kernel))
          (fun _ _ _ _ _ => pg_name (i := 1) scName.nd rfl (Or.inl rfl)) (fun _ _ _ _ _ => pts_nil) (fun _ _ _ _ _ => pe_cmpR op_in_sign (pv 1) (C8.pe_gc rfl T.letters) rfl)) pa_nil)))))), ?_⟩
    refine ⟨v, rfl, v, d, rfl, hd, _, rfl, ?_⟩
    have k0 := k H (Same.refl H)
    cases hd with
    | str x =>
      have fx : x.length ≤ 20 ∧ (x.cps.toList.all fun c => decide (c < 128)) = true := by simpa [fine] using hf
      have nT : SqT K H na (noNames.map V.str) := Or.inr ⟨no, nits, nn, nl, nc, ndt, nsz, nv⟩
      refine iteF ⟨.str x, rfl, na, _, rfl, Or.inr nT, rfl, rfl, _, rfl, ?_⟩
      have eN : inV (.str x) (noNames.map V.str) = noNames.any fun y => y == x := by
        unfold inV
        rw [List.any_map]
        rfl
      refine ite2 (fun h => ?_) (fun h => ?_)
      · have e : nameB (.str x) = false := by
          show (!(noNames.any fun y => y == x) && _) = false
          rw [← eN, show inV (.str x) (noNames.map V.str) = true from h]
          rfl
        rw [e] at k0
        exact k0
      · have hin : inV (.str x) (noNames.map V.str) = false := by simpa using h
        have e : nameB (.str x) = (decide (1 ≤ x.length) && decide (x.length ≤ 8) && x.cps.toList.all letterB) := by
          show (!(noNames.any fun y => y == x) && _) = _
          rw [← eN, hin]
          rfl
        rw [e] at k
        refine ⟨.str x, rfl, x, rfl, (by show x.length ≤ sizeLine; exact Nat.le_trans fx.1 (by decide)), 1, _, rfl, rfl, _, rfl, ?_⟩
        refine ite2 (fun h1 => ?_) (fun h1 => ?_)
        · have h1 : decide ((1 : Int) ≤ (x.length : Int)) = true := h1
          refine ⟨_, _, rfl, rfl, _, rfl, ?_⟩
          refine ite2 (fun h2 => ?_) (fun h2 => ?_)
          · have h2 : decide ((x.length : Int) ≤ 8) = true := h2
            refine ⟨.str x, rfl, x, rfl, fun D hD => lc_str (fun i H' => H' D = some (.lst ((x.cps.toList.take i).map fun c => V.bl (letterB c))) ∧ Same H H') ⟨upd_same, Same.new hD⟩ ?_ ?_⟩
            · rintro i c H' hc ⟨hl, S⟩
              refine ⟨rfl, yes (iteT ?_)⟩
              refine ⟨.str ⟨#[c]⟩, rfl, c, letters, rfl, rfl, ?_⟩
              refine ⟨_, hl, ?_, ?_, Same.mut S hD⟩
              · rw [List.length_map, List.length_take]
                have : x.cps.toList.length ≤ 20 := fx.1
                exact Nat.lt_of_le_of_lt (Nat.le_trans (Nat.min_le_right _ _) this) (by decide)
              · rw [upd_same, in_letters, take_snoc (x := c) (by simpa using hc), List.map_append]
                rfl
            · rintro H' ⟨hl, S⟩
              refine ⟨D, x.cps.toList.map letterB, rfl, Or.inl (Or.inl ?_), ?_⟩
              · rw [hl, List.take_of_length_le (by simp), List.map_map]
                rfl
              · have e2 : (x.cps.toList.map letterB).all id = (decide (1 ≤ x.length) && decide (x.length ≤ 8) && x.cps.toList.all letterB) := by
                  have a1 : decide (1 ≤ x.length) = true := by
                    have := of_decide_eq_true h1
                    exact decide_eq_true (by omega)
                  have a2 : decide (x.length ≤ 8) = true := by
                    have := of_decide_eq_true h2
                    exact decide_eq_true (by omega)
                  rw [a1, a2, List.all_map]
                  rfl
                rw [e2]
                exact k H' S
          · have h2 : ¬ decide ((x.length : Int) ≤ 8) = true := h2
            have a2 : decide (x.length ≤ 8) = false := by
              simp only [decide_eq_true_eq] at h2
              exact decide_eq_false (by omega)
            have := k H (Same.refl H)
            rw [a2, Bool.and_false, Bool.false_and] at this
            exact this
        · have h1 : ¬ decide ((1 : Int) ≤ (x.length : Int)) = true := h1
          have a1 : decide (1 ≤ x.length) = false := by
            simp only [decide_eq_true_eq] at h1
            exact decide_eq_false (by omega)
          have := k H (Same.refl H)
          rw [a1, Bool.false_and, Bool.false_and] at this
          exact ⟨_, rfl, iteF this⟩
    | int i => exact iteT k0
    | bl b => exact iteT k0
    | non => exact iteT k0
    | lst _ _ => exact iteT k0
    | tup _ _ => exact iteT k0
    | dic _ _ _ => exact iteT k0
theorem beq_dec (x y : Str) : (x == y) = decide (y = x) := by
  by_cases h : y = x
  · subst h
    rw [decide_eq_true rfl]
    exact beq_self_eq_true _
  · rw [decide_eq_false h]
    exact beq_eq_false_iff_ne.mpr fun e => h e.symm
def spLeaf : Sp := fun vs H Q _ => ∃ v wd ds, vs = [v] ∧ Dn H v (.tuple (.str wd :: ds)) ∧ fineAll ds = true ∧ (∀ H', Same H H' → Q (.bl (leafB wd ds)) H')
theorem scLeaf : FnScope ["thing", "word"] ["thing"] (defScope sLeaf) := ⟨rfl, rfl, rfl, by decide +kernel, rfl, by decide +kernel, by decide +kernel⟩
theorem tup_inv {H : Hp} {v : V} {ds : List PyData} (h : Dn H v (.tuple ds)) : ∃ a xs, v = .ref a ∧ H a = some (.tup xs) ∧ DnAll H xs ds := by
  cases h with
  | tup e r => exact ⟨_, _, rfl, e, r⟩
theorem str_inv {H : Hp} {v : V} {x : Str} (h : Dn H v (.str x)) : v = .str x := by
  cases h
  rfl
theorem cons_inv {H : Hp} {xs : List V} {d : PyData} {ds : List PyData} (h : DnAll H xs (d :: ds)) : ∃ y ys, xs = y :: ys ∧ Dn H y d ∧ DnAll H ys ds := by
  cases h with
  | cons a b => exact ⟨_, _, rfl, a, b⟩
theorem nil_inv {H : Hp} {xs : List V} (h : DnAll H xs []) : xs = [] := by
  cases h
  rfl
theorem ok_leaf {f : Addr} {fd : FuncData} (F : Fun K "_is_leaf" "_is_leaf" sLeaf f fd) (T : Txt K w mg) (C0 : C8.Cal P w K mg base 1 "is_count" spCount [.int 0]) (CW : C8.Cal P w K mg base 2 "is_whole" spWhole [])
    (CN : C8.Cal P w K mg base 1 "is_name" (sp1 (fun d => fine d = true) nameB) []) : FnOk P w K mg base CX0 3 f fd ["thing"] spLeaf := by
  refine F.ok scLeaf (fun vs H Q E h => ?_) (fun cdv A outer s H vs Q E hr h => ?_)
  · obtain ⟨v, wd, ds, rfl, _⟩ := h
    rfl
  · obtain ⟨v, wd, ds, rfl, hd, hf, k⟩ := h
    refine ⟨_, pss_cons (ps_set (i := 1) scLeaf.nd rfl (Or.inl rfl) (pe_ix ix_tup (pv 0) pe_int (fun _ _ => rfl)))
      (pss_cons (ps_if (pt_cmpR op_eq (pe_callB call_len_seq (by rfl) T.len PySem.boot_len (pa_cons (pv 0) pa_nil)) pe_int (nomark _))
        (pss_cons (ps_if (pt_cmpR op_eq (pv 1) pe_str (nomark _)) (pss_one (ps_ret (C8.pe_c C0 hr (by decide) rfl (pa_cons (pe_ix ix_tup (pv 0) pe_int (fun _ _ => rfl)) pa_nil)))) pss_nil)
          (pss_cons (ps_if (pt_cmpR op_eq (pv 1) pe_str (nomark _)) (pss_one (ps_ret (C8.pe_c CW hr (by decide) rfl (pa_cons (pe_ix ix_tup (pv 0) pe_int (fun _ _ => rfl)) (pa_cons pe_int (pa_cons (C8.pe_gc rfl T.highest) pa_nil)))))) pss_nil)
            (pss_one (ps_ret (pe_and (pe_cmpR op_in_seq (pv 1) (pe_tup (pa_cons pe_str (pa_cons pe_str pa_nil))) rfl) (pe_one (C8.pe_c CN hr (by decide) rfl (pa_cons (pe_ix ix_tup (pv 0) pe_int (fun _ _ => rfl)) pa_nil))))))))
        pss_nil)
      (pss_cons (ps_if (PW.pt (pw_or (pt_cmpR op_ne (pe_callB call_len_seq (by rfl) T.len PySem.boot_len (pa_cons (pv 0) pa_nil)) pe_int (nomark _))
          (pw_or1 (pt_not (pt_val (C8.pe_c CN hr (by decide) rfl (pa_cons (pe_ix ix_tup (pv 0) pe_int (fun _ _ => rfl)) pa_nil))))))) (pss_one (ps_ret pe_bl)) pss_nil)
      (pss_cons (ps_if (pt_cmpR op_eq (pv 1) pe_str (nomark _)) (pss_one (ps_ret (C8.pe_c C0 hr (by decide) rfl (pa_cons (pe_ix ix_tup (pv 0) pe_int (fun _ _ => rfl)) pa_nil)))) pss_nil)
      (pss_one (ps_ret (pe_and (pe_cmpR op_eq (pv 1) pe_str (nomark _)) (pe_one (C8.pe_c CW hr (by decide) rfl (pa_cons (pe_ix ix_tup (pv 0) pe_int (fun _ _ => rfl)) (pa_cons pe_int (pa_cons (C8.pe_gc rfl T.highest) pa_nil)))))))))))
      , ?_⟩
    obtain ⟨a, xs0, rfl, ha, hx0⟩ := tup_inv hd
    obtain ⟨x0, xs, rfl, h0, hx⟩ := cons_inv hx0
    obtain rfl := str_inv h0
    clear hx0 hd h0
    have sT : SqT K H a (.str wd :: xs) := SqT.of ha
    refine ⟨_, rfl, a, _, 0, _, rfl, rfl, sT, at_of (j := 0) rfl rfl, ?_⟩
    refine ⟨_, rfl, a, _, rfl, Or.inr sT, rfl, _, rfl, ?_⟩
    match ds, hx, hf, k with
    | [], hx, hf, k =>
      obtain rfl := nil_inv hx
      refine iteF ⟨_, rfl, a, _, rfl, Or.inr sT, rfl, _, rfl, iteT ?_⟩
      exact k H (Same.refl H)
    | [d1], hx, hf, k =>
      obtain ⟨x1, xs1, rfl, h1, hx1⟩ := cons_inv hx
      obtain rfl := nil_inv hx1
      have f1 : fine d1 = true := by simpa [fineAll] using hf
      refine iteT ⟨_, rfl, rfl, _, rfl, ?_⟩
      refine ite2 (fun c1 => ?_) (fun c1 => ?_)
      · have c1 : wd = "at" := V.str.inj (of_decide_eq_true c1)
        refine ⟨_, rfl, a, _, 1, _, rfl, rfl, sT, at_of (j := 1) rfl rfl, x1, d1, 0, rfl, h1, fun H' S => ?_⟩
        have k' := k H' S
        rw [show leafB wd [d1] = cntB 0 d1 from if_pos c1] at k'
        exact k'
      · have c1 : ¬ wd = "at" := fun e => c1 (decide_eq_true (congrArg V.str e))
        refine ⟨_, rfl, rfl, _, rfl, ?_⟩
        refine ite2 (fun c2 => ?_) (fun c2 => ?_)
        · have c2 : wd = "kind" := V.str.inj (of_decide_eq_true c2)
          refine ⟨_, rfl, a, _, 1, _, rfl, rfl, sT, at_of (j := 1) rfl rfl, x1, d1, 0, 5, rfl, h1, fun H' S => ?_⟩
          have k' := k H' S
          rw [show leafB wd [d1] = wholeB 0 5 d1 from (if_neg c1).trans (if_pos c2)] at k'
          exact k'
        · have c2 : ¬ wd = "kind" := fun e => c2 (decide_eq_true (congrArg V.str e))
          have e0 : leafB wd [d1] = ((decide (wd = "name") || decide (wd = "thing")) && nameB d1) := (if_neg c1).trans (if_neg c2)
          rw [e0] at k
          refine ⟨_, rfl, (by show 2 ≤ sizeLine; decide), fun p hp => ⟨p, _, rfl, Or.inr (SqT.of upd_same), rfl, rfl, _, rfl, ?_⟩⟩
          have ei : inV (.str wd) [.str "name", .str "thing"] = (decide (wd = "name") || decide (wd = "thing")) := by
            unfold inV
            simp only [List.any_cons, List.any_nil, Bool.or_false, eqV]
            rw [beq_dec, beq_dec]
          have sN : Same H (upd H p (.tup [.str "name", .str "thing"])) := Same.new hp
          refine ite2 (fun c3 => ?_) (fun c3 => ?_)
          · have c3 : inV (.str wd) [.str "name", .str "thing"] = true := c3
            refine ⟨_, rfl, a, _, 1, _, rfl, rfl, SqT.of (sN _ _ ha), at_of (j := 1) rfl rfl, x1, d1, rfl, Dn.mono sN h1, f1, fun H' S => ?_⟩
            have k' := k H' (sN.trans S)
            rw [← ei, c3, Bool.true_and] at k'
            exact k'
          · have c3 : inV (.str wd) [.str "name", .str "thing"] = false := by simpa using c3
            have k' := k _ sN
            rw [← ei, c3, Bool.false_and] at k'
            exact k'
    | [d1, d2], hx, hf, k =>
      obtain ⟨x1, xs1, rfl, h1, hx1⟩ := cons_inv hx
      obtain ⟨x2, xs2, rfl, h2, hx2⟩ := cons_inv hx1
      obtain rfl := nil_inv hx2
      have f1 : fine d1 = true := by
        have : fine d1 = true ∧ fine d2 = true := by simpa [fineAll] using hf
        exact this.1
      refine iteF ⟨_, rfl, a, _, rfl, Or.inr sT, rfl, _, rfl, iteF ?_⟩
      refine ⟨_, rfl, a, _, 1, _, rfl, rfl, sT, at_of (j := 1) rfl rfl, x1, d1, rfl, h1, f1, fun H' S => ⟨_, rfl, ?_⟩⟩
      have ha' := S _ _ ha
      have sT' : SqT K H' a [.str wd, x1, x2] := SqT.of ha'
      have e0 : leafB wd [d1, d2] = (nameB d1 && (if wd = "maker" then cntB 0 d2 else decide (wd = "eater") && wholeB 0 5 d2)) := rfl
      rw [e0] at k
      cases c : nameB d1 with
      | false =>
        refine iteT ?_
        have k' := k H' S
        rw [c] at k'
        exact k'
      | true =>
        rw [c, Bool.true_and] at k
        refine iteF ⟨_, rfl, rfl, _, rfl, ?_⟩
        refine ite2 (fun c1 => ?_) (fun c1 => ?_)
        · have c1 : wd = "maker" := V.str.inj (of_decide_eq_true c1)
          refine ⟨_, rfl, a, _, 2, _, rfl, rfl, sT', at_of (j := 2) rfl rfl, x2, d2, 0, rfl, Dn.mono S h2, fun H2 S2 => ?_⟩
          have k' := k H2 (S.trans S2)
          rw [if_pos c1] at k'
          exact k'
        · have c1 : ¬ wd = "maker" := fun e => c1 (decide_eq_true (congrArg V.str e))
          rw [if_neg c1] at k
          refine ⟨_, rfl, rfl, _, rfl, ?_⟩
          refine ite2 (fun c2 => ?_) (fun c2 => ?_)
          · have c2 : wd = "eater" := V.str.inj (of_decide_eq_true c2)
            refine ⟨_, rfl, a, _, 2, _, rfl, rfl, sT', at_of (j := 2) rfl rfl, x2, d2, 0, 5, rfl, Dn.mono S h2, fun H2 S2 => ?_⟩
            have k' := k H2 (S.trans S2)
            rw [decide_eq_true c2, Bool.true_and] at k'
            exact k'
          · have c2 : ¬ wd = "eater" := fun e => c2 (decide_eq_true (congrArg V.str e))
            have k' := k H' S
            rw [decide_eq_false c2, Bool.false_and] at k'
            exact k'
    | d1 :: d2 :: d3 :: ds, hx, hf, k =>
      obtain ⟨x1, xs1, rfl, h1, hx1⟩ := cons_inv hx
      obtain ⟨x2, xs2, rfl, h2, hx2⟩ := cons_inv hx1
      obtain ⟨x3, xs3, rfl, h3, hx3⟩ := cons_inv hx2
      have n2 : decide (V.int (((.str wd : V) :: x1 :: x2 :: x3 :: xs3).length : Int) = V.int 2) = false := decide_eq_false fun e => by
        have := V.int.inj e
        simp only [List.length_cons] at this
        omega
      have n3 : decide (V.int (((.str wd : V) :: x1 :: x2 :: x3 :: xs3).length : Int) = V.int 3) = false := decide_eq_false fun e => by
        have := V.int.inj e
        simp only [List.length_cons] at this
        omega
      rw [n2]
      refine iteF ⟨_, rfl, a, _, rfl, Or.inr sT, rfl, _, rfl, ?_⟩
      rw [n3]
      exact iteT (k H (Same.refl H))
end
end KP
set_option Elab.async false
set_option linter.unusedVariables false
set_option maxRecDepth 100000
set_option maxHeartbeats 1000000
namespace KP
open PySem PySem.Spec PyProof.Rows L2 KA
theorem tm_parts {wd : Str} {ds : List PyData} {n : Nat} (h : parts wd = some n) : tm (.tuple (.str wd :: ds)) = (decide (ds.length = n) && tmAll ds) := by simp only [tm, h]
theorem tm_leaf {wd : Str} {ds : List PyData} (h : parts wd = none) : tm (.tuple (.str wd :: ds)) = leafB wd ds := by simp only [tm, h]
theorem tmAll_append : ∀ (ds es : List PyData), tmAll (ds ++ es) = (tmAll ds && tmAll es)
  | [], es => by simp [tmAll]
  | d :: ds, es => by simp only [List.cons_append, tmAll, tmAll_append ds es, Bool.and_assoc]
theorem nodesAll_append : ∀ (ds es : List PyData), nodesAll (ds ++ es) = nodesAll ds + nodesAll es
  | [], es => by simp [nodesAll]
  | d :: ds, es => by simp only [List.cons_append, nodesAll, nodesAll_append ds es, Nat.add_assoc]
theorem fineAll_append : ∀ (ds es : List PyData), fineAll (ds ++ es) = (fineAll ds && fineAll es)
  | [], es => by simp [fineAll]
  | d :: ds, es => by simp only [List.cons_append, fineAll, fineAll_append ds es, Bool.and_assoc]
theorem nodes_pos (d : PyData) : 0 < nodes d := by cases d <;> simp [nodes]
theorem len_nodes : ∀ ds : List PyData, ds.length ≤ nodesAll ds
  | [] => Nat.zero_le _
  | d :: ds => by
    have := len_nodes ds
    have := nodes_pos d
    simp only [List.length_cons, nodesAll]
    omega
theorem unsnoc {H : Hp} : ∀ {ds : List PyData} {d : PyData} {xs : List V}, DnAll H xs (ds ++ [d]) → ∃ ys y, xs = ys ++ [y] ∧ DnAll H ys ds ∧ Dn H y d
  | [], d, xs, h => by
    obtain ⟨y, ys, rfl, h1, h2⟩ := cons_inv h
    obtain rfl := nil_inv h2
    exact ⟨[], y, rfl, .nil, h1⟩
  | e :: ds, d, xs, h => by
    obtain ⟨y, ys, rfl, h1, h2⟩ := cons_inv h
    obtain ⟨zs, z, rfl, h3, h4⟩ := unsnoc h2
    exact ⟨y :: zs, z, rfl, .cons h1 h3, h4⟩
theorem isTup_false {d : PyData} (h : isTupD d = false) : tm d = false := by
  cases d <;> first | (cases h; done) | simp [tm]
theorem isStr_false {d : PyData} {ds : List PyData} (h : isStrD d = false) : tm (.tuple (d :: ds)) = false := by
  cases d <;> first | (cases h; done) | simp [tm]
theorem sIx1 (n : Nat) : HT.sIx (n + 1) 0 (some 1) = 1 := (HT.sIx_nat (n + 1) 0 1).trans (by omega)
section
variable {P : Program} {w : World} {K : PySem.W.Frag} {mg : Str → Option Value} {base : Heap}
def okT (d : PyData) : Prop := fine d = true ∧ nodes d ≤ 1000000
theorem scTerm : FnScope ["thing", "waiting", "part"] ["thing"] (defScope sTerm) := ⟨rfl, rfl, rfl, by decide +kernel, rfl, by decide +kernel, by decide +kernel⟩
theorem ok_term {f : Addr} {fd : FuncData} (F : Fun K "is_term" "is_term" sTerm f fd) (T : Txt K w mg) (CL : C8.Cal P w K mg base 3 "_is_leaf" spLeaf []) : FnOk P w K mg base CX0 4 f fd ["thing"] (sp1 okT tm) := by
  refine F.ok scTerm (fun vs H Q E h => ?_) (fun cdv A outer s H vs Q E hr h => ?_)
  · obtain ⟨v, d, rfl, _⟩ := h
    rfl
  · obtain ⟨v, d, rfl, hd, ⟨hf, hn⟩, k⟩ := h
    obtain ⟨pa, es, en, pm, PD, pn⟩ := T.parted
    refine ⟨_, pss_cons (ps_set (i := 1) scTerm.nd rfl (Or.inl rfl) (pe_lst (pa_cons (pv 0) pa_nil)))
      (pss_cons (ps_while PassesOwn.never (pt_truth (pv 1) (by intro _; rfl))
        (pss_cons (ps_set (i := 2) scTerm.nd rfl (Or.inl rfl) (pe_bm0 PySem.F.plainAttrs_list PySem.F.slot_list_pop PySem.F.type_list_pop mt_pop (pv 1)))
        (pss_cons (ps_if (PW.pt (pw_or (pt_not (pt_val (pe_isD is_tup (pv 2) T.isi T.tuple (by decide +kernel)))) (pw_or (pt_not (pt_truth (pv 2) (by intro _; rfl)))
            (pw_or1 (pt_not (pt_val (pe_isD is_str (pe_ix ix_tup (pv 2) pe_int (fun _ _ => rfl)) T.isi T.str (by decide +kernel)))))))) (pss_one (ps_ret pe_bl)) pss_nil)
        (pss_one (ps_if (pt_cmpR (op_notIn_kd PD) (pe_ix ix_tup (pv 2) pe_int (fun _ _ => rfl)) (pe_glob (v := .ref pa) rfl pm rfl) rfl)
          (pss_one (ps_if (pt_not (pt_val (C8.pe_c CL hr (by decide) rfl (pa_cons (pv 2) pa_nil)))) (pss_one (ps_ret pe_bl)) pss_nil))
          (pss_one (ps_if (pt_cmpR op_ne (pe_callB call_len_seq (by rfl) T.len PySem.boot_len (pa_cons (pv 2) pa_nil)) (pe_op op_add (pe_ix ix_kdict (pe_glob (v := .ref pa) rfl pm rfl) (pe_ix ix_tup (pv 2) pe_int (fun _ _ => rfl)) (fun _ _ => rfl)) pe_int) (nomark _))
            (pss_one (ps_ret pe_bl))
            (pss_one (ps_expr (pe_bm PySem.F.plainAttrs_list PySem.F.slot_list_extend PySem.F.type_list_extend mt_grow (pv 1) (pa_cons (pe_slice sl_tupA (pv 2) (po_some pe_int) po_none) pa_nil)))))))))))
      (pss_one (ps_ret pe_bl))), ?_⟩
    refine ⟨v, rfl, (by show 1 ≤ sizeLine; decide), fun l hl => ?_⟩
    refine ⟨fun m σ H' => ∃ xs ds pv, σ = [some v, some (.ref l), pv] ∧ H' l = some (.lst xs) ∧ DnAll (hid l H') xs ds ∧ Same H (hid l H') ∧ fineAll ds = true ∧ tmAll ds = tm d ∧ nodesAll ds = m ∧ m ≤ 1000000,
      ⟨nodes d, [v], [d], none, rfl, upd_same, ?_, ?_, ?_, ?_, ?_, hn⟩, ?_⟩
    · rw [hid_upd]
      exact .one (Dn.mono (Same.to_hid (Same.refl H) hl) hd)
    · rw [hid_upd]
      exact Same.to_hid (Same.refl H) hl
    · simp [fineAll, hf]
    · simp [tmAll]
    · simp [nodesAll]
    rintro m σ H' ⟨xs, ds, pv0, rfl, eL, dA, S, fA, tA, nA, mA⟩
    refine ⟨_, rfl, !xs.isEmpty, Or.inl ⟨xs, SqL.of eL, rfl⟩, ?_⟩
    rcases List.eq_nil_or_concat ds with rfl | ⟨ds, dl, rfl⟩
    · obtain rfl := nil_inv dA
      refine iteF ?_
      have k' := k H' (S.trans hid_sub)
      rw [← tA] at k'
      exact k'
    · rw [List.concat_eq_append] at dA fA tA nA
      obtain ⟨ys, y, rfl, dY, dy⟩ := unsnoc dA
      rw [fineAll_append] at fA
      rw [tmAll_append] at tA
      rw [nodesAll_append] at nA
      have fA : fineAll ds = true ∧ fine dl = true := by simpa [fineAll] using fA
      have tA : (tmAll ds && tm dl) = tm d := by simpa [tmAll] using tA
      have nA : nodesAll ds + nodes dl = m := by simpa [nodesAll] using nA
      have ne : (!(ys ++ [y]).isEmpty) = true := by simp
      rw [ne]
      refine iteT ?_
      refine ⟨fun σ' H2 => ∃ m', m' < m ∧ ∃ xs ds pv, σ' = [some v, some (.ref l), pv] ∧ H2 l = some (.lst xs) ∧ DnAll (hid l H2) xs ds ∧ Same H (hid l H2) ∧ fineAll ds = true ∧ tmAll ds = tm d ∧ nodesAll ds = m' ∧ m' ≤ 1000000, fun σ' H2 z => z, ?_⟩
      refine ⟨_, rfl, Or.inl ⟨rfl, _, SqL.of eL⟩, l, _, y, rfl, rfl, eL, by simp, ?_⟩
      rw [List.dropLast_concat]
      -- behind the pop
      have S1 : Same H (hid l (upd H' l (.lst ys))) := by rw [hid_upd]; exact S
      have e1 : upd H' l (.lst ys) l = some (.lst ys) := upd_same
      have dY1 : DnAll (hid l (upd H' l (.lst ys))) ys ds := by rw [hid_upd]; exact dY
      have dy1 : Dn (hid l (upd H' l (.lst ys))) y dl := by rw [hid_upd]; exact dy
      generalize upd H' l (.lst ys) = H1 at S1 e1 dY1 dy1
      have out : tm dl = false → Q (.bl false) H1 := fun e => by
        have k' := k H1 (S1.trans hid_sub)
        rw [← tA, e, Bool.and_false] at k'
        exact k'
      refine ⟨y, rfl, y, dl, rfl, Dn.mono hid_sub dy1, _, rfl, ?_⟩
      cases hT : isTupD dl with
      | false => exact iteT (out (isTup_false hT))
      | true =>
        obtain ⟨dt, rfl⟩ : ∃ dt, dl = .tuple dt := by cases dl <;> first | exact ⟨_, rfl⟩ | cases hT
        obtain ⟨a, zs, rfl, ha, dz⟩ := tup_inv dy1
        have ha1 : H1 a = some (.tup zs) := hid_sub _ _ ha
        refine iteF ⟨_, rfl, !zs.isEmpty, Or.inr (Or.inl ⟨zs, SqT.of ha1, rfl⟩), ?_⟩
        cases dt with
        | nil =>
          obtain rfl := nil_inv dz
          exact iteT (out (by simp [tm]))
        | cons d0 dr =>
          obtain ⟨z0, zs, rfl, h0, dz1⟩ := cons_inv dz
          refine iteF ⟨_, rfl, a, _, 0, _, rfl, rfl, SqT.of ha1, at_of (j := 0) rfl rfl, z0, d0, rfl, Dn.mono hid_sub h0, _, rfl, ?_⟩
          cases hS : isStrD d0 with
          | false => exact iteT (out (isStr_false hS))
          | true =>
            obtain ⟨wd, rfl⟩ : ∃ wd, d0 = .str wd := by cases d0 <;> first | exact ⟨_, rfl⟩ | cases hS
            obtain rfl := str_inv h0
            have fdr : fineAll dr = true := by
              have := fA.2
              simp only [fine, fineAll, Bool.and_eq_true] at this
              exact this.2
            have ndl : nodes (.tuple (.str wd :: dr)) = nodesAll dr + 2 := by
              simp only [nodes, nodesAll]
              omega
            obtain ⟨r, hr1, hr2⟩ := pn wd
            refine iteF ⟨_, rfl, a, _, 0, _, rfl, rfl, SqT.of ha1, at_of (j := 0) rfl rfl, wd, r, rfl, rfl, hr1, _, rfl, ?_⟩
            cases hp : parts wd with
            | none =>
              rw [hp] at hr2
              obtain rfl : r = none := by
                cases r with
                | none => rfl
                | some u => exact hr2.elim
              refine iteT ⟨_, rfl, .ref a, wd, dr, rfl, Dn.mono hid_sub (.tup ha dz), fdr, fun H2 S2 => ⟨_, rfl, ?_⟩⟩
              have e2 : H2 l = some (.lst ys) := S2 _ _ e1
              have S2' : Same (hid l H1) (hid l H2) := Same.less S2
              cases hL : leafB wd dr with
              | false =>
                refine iteT ?_
                have k' := k H2 ((S1.trans hid_sub).trans S2)
                rw [← tA, tm_leaf hp, hL, Bool.and_false] at k'
                exact k'
              | true =>
                refine iteF ⟨nodesAll ds, by omega, ys, ds, _, rfl, e2, DnAll.mono S2' dY1, S1.trans S2', fA.1, ?_, rfl, by omega⟩
                rw [← tA, tm_leaf hp, hL, Bool.and_true]
            | some n =>
              rw [hp] at hr2
              obtain ⟨u, rfl, ru⟩ : ∃ u, r = some u ∧ RelV (.int (n : Int)) u := by
                cases r with
                | none => exact hr2.elim
                | some u => exact ⟨u, rfl, hr2⟩
              refine iteF ⟨_, rfl, a, _, rfl, Or.inr (SqT.of ha1), ?_⟩
              refine ⟨_, rfl, a, _, 0, _, rfl, rfl, SqT.of ha1, at_of (j := 0) rfl rfl, pa, wd, .int (n : Int), rfl, rfl, ⟨es, en, u, PD.at_, PD.lit, hr1, ru⟩, (n : Int), 1, rfl, rfl, rfl, _, rfl, ?_⟩
              have elen : decide (V.int (((.str wd : V) :: zs).length : Int) = V.int ((n : Int) + 1)) = decide (dr.length = n) := by
                have := dz1.length
                by_cases c : dr.length = n
                · rw [decide_eq_true c]
                  exact decide_eq_true (congrArg V.int (by rw [List.length_cons]; omega))
                · rw [decide_eq_false c]
                  refine decide_eq_false fun e => c ?_
                  have := V.int.inj e
                  rw [List.length_cons] at this
                  omega
              rw [elen]
              cases hl2 : decide (dr.length = n) with
              | false =>
                refine iteT (out ?_)
                rw [tm_parts hp, hl2, Bool.false_and]
              | true =>
                have lenb := len_nodes ds
                have lend := len_nodes dr
                have lz := dz1.length
                have ly := dY1.length
                have cut : cutV (.str wd :: zs) (some 1) none = zs := by
                  unfold cutV
                  rw [HT.sIx_none, show HT.sIx ((.str wd : V) :: zs).length 0 (some 1) = 1 from sIx1 zs.length]
                  rw [List.length_cons]
                  show List.take (zs.length + 1 - 1) zs = zs
                  rw [Nat.add_sub_cancel, List.take_length]
                refine iteF ⟨_, rfl, Or.inl ⟨rfl, _, SqL.of e1⟩, _, rfl, 1, rfl, a, _, rfl, SqT.of ha1, fun z => ?_, fun _ p hp' => ?_⟩
                · have := z.1
                  rw [show HT.sIx ((.str wd : V) :: zs).length 0 (some 1) = 1 from sIx1 zs.length] at this
                  omega
                · rw [cut]
                  have lp : l ≠ p := ne_of_none e1 hp'
                  have e2 : upd H1 p (.tup zs) l = some (.lst ys) := (upd_ne lp).trans e1
                  refine ⟨l, p, ys, zs, rfl, rfl, e2, upd_same, ?_, ?_⟩
                  · rw [ly, lz]
                    exact Nat.le_trans (by omega : ds.length + dr.length ≤ 1000000) (by decide)
                  · have S3 : Same (hid l H1) (hid l (upd (upd H1 p (.tup zs)) l (.lst (ys ++ zs)))) := by
                      rw [hid_upd]
                      exact Same.less (Same.new hp')
                    refine ⟨nodesAll ds + nodesAll dr, by omega, ys ++ zs, ds ++ dr, _, rfl, upd_same, DnAll.mono S3 (dY1.append dz1), S1.trans S3, ?_, ?_, ?_, by omega⟩
                    · rw [fineAll_append, fA.1, fdr]
                      rfl
                    · rw [tmAll_append, ← tA, tm_parts hp, hl2, Bool.true_and]
                    · rw [nodesAll_append]
def spotB : PyData → Bool | .tuple ds => ds.all (cntB 0) | _ => false
theorem _root_.KA.DnAll.at {H : Hp} {xs : List V} {ds : List PyData} {i : Nat} {x : V} (r : DnAll H xs ds) (h : xs[i]? = some x) : ∃ d, ds[i]? = some d ∧ Dn H x d := by
  have lt : i < ds.length := by
    have := (List.getElem?_eq_some_iff.mp h).1
    have := r.length
    omega
  obtain ⟨v, hv, hd⟩ := r.get (List.getElem?_eq_getElem lt)
  rw [h] at hv
  cases hv
  exact ⟨_, List.getElem?_eq_getElem lt, hd⟩
theorem scSpot : FnScope ["thing", "at"] ["thing"] (defScope sSpot) := ⟨rfl, rfl, rfl, by decide +kernel, rfl, by decide +kernel, by decide +kernel⟩
theorem ok_spot {f : Addr} {fd : FuncData} (F : Fun K "is_spot" "is_spot" sSpot f fd) (T : Txt K w mg) (C0 : C8.Cal P w K mg base 1 "is_count" spCount [.int 0]) : FnOk P w K mg base CX0 2 f fd ["thing"] (sp1 okT spotB) := by
  refine F.ok scSpot (fun vs H Q E h => ?_) (fun cdv A outer s H vs Q E hr h => ?_)
  · obtain ⟨v, d, rfl, _⟩ := h
    rfl
  · obtain ⟨v, d, rfl, hd, ⟨hf, hn⟩, k⟩ := h
    refine ⟨_, pss_one (ps_ret (pe_and (pe_isD is_tup (pv 0) T.isi T.tuple (by decide +kernel)) (pe_one (pe_callB (cr_all rfl) (by rfl) T.all (by decide +kernel) (pa_cons (pe_lc (own := [("at", 1)]) (g := gName 1) (tt := tYes) rfl scSpot.nd (pi_tup (pv 0)) (blkOk_by (N := ["thing", "at"]) (sc := defScope sSpot) (by decide +kernel))
          (fun _ _ _ _ _ => pg_name (i := 1) scSpot.nd rfl (Or.inl rfl)) (fun _ _ _ _ _ => pts_nil) (fun _ _ _ _ _ => C8.pe_c C0 hr (by decide) rfl (pa_cons (pv 1) pa_nil))) pa_nil))))), ?_⟩
    have k0 := k H (Same.refl H)
    refine ⟨v, rfl, v, d, rfl, hd, _, rfl, ?_⟩
    cases hd with
    | @tup a xs ds ha hx =>
      have lx := hx.length
      have ln : ds.length ≤ 1000000 := by
        have := len_nodes ds
        simp only [nodes] at hn
        omega
      refine iteT ⟨.ref a, rfl, a, rfl, ⟨xs, SqT.of ha⟩, fun D hD => lc_tup (K := K) (a := a) (xs := xs) (fun i H' => H' D = some (.lst ((ds.take i).map fun d => V.bl (cntB 0 d))) ∧ Same H H') ⟨upd_same, Same.new hD⟩ (fun i H' _ p => SqT.of (p.2 _ _ ha)) ?_ ?_⟩
      · rintro i x H' hi ⟨hl, S⟩
        obtain ⟨d, hd, dx⟩ := hx.at hi
        refine ⟨rfl, yes (iteT ?_)⟩
        refine ⟨x, rfl, x, d, 0, rfl, Dn.mono S dx, fun H2 S2 => ⟨_, S2 _ _ hl, ?_, ?_, Same.mut (S.trans S2) hD⟩⟩
        · rw [List.length_map, List.length_take]
          exact Nat.lt_of_le_of_lt (Nat.le_trans (Nat.min_le_right _ _) ln) (by decide)
        · rw [upd_same, take_snoc hd, List.map_append]
          rfl
      · rintro H' ⟨hl, S⟩
        refine ⟨D, ds.map (cntB 0), rfl, Or.inl (Or.inl ?_), ?_⟩
        · rw [hl, List.take_of_length_le (by omega), List.map_map]
          rfl
        · have e2 : (ds.map (cntB 0)).all id = spotB (.tuple ds) := by
            rw [List.all_map]
            rfl
          rw [e2]
          exact k H' S
    | int i => exact iteF k0
    | bl b => exact iteF k0
    | non => exact iteF k0
    | str x => exact iteF k0
    | lst _ _ => exact iteF k0
    | dic _ _ _ => exact iteF k0
end
end KP
set_option Elab.async false
set_option linter.unusedVariables false
set_option maxRecDepth 100000
set_option maxHeartbeats 1000000
/-! The law's own defs: the purse and what is drawn from it. -/
namespace KP
open PySem PySem.Spec PyProof.Rows L2 KA
abbrev sCell : Stmt := top 32
abbrev sPurse : Stmt := top 33
abbrev sTake : Stmt := top 34
abbrev sForms : Stmt := top 35
abbrev sWord : Stmt := top 36
abbrev sTm : Stmt := top 37
abbrev sAny : Stmt := top 38
abbrev sLaw : Stmt := top 45

/-- a purse at p, from which at most n were mixed -/
def Purse (H : Hp) (p : Addr) (n : Nat) : Prop := ∃ a b c : Int, H p = some (.lst [.int a, .int b, .int c]) ∧ 0 ≤ a ∧ 0 ≤ b ∧ b < 2147483629 ∧ 0 ≤ c ∧ c ≤ (n : Int)
theorem Purse.more {H : Hp} {p : Addr} {n m : Nat} (h : Purse H p n) (l : n ≤ m) : Purse H p m := by
  obtain ⟨a, b, c, e, h1, h2, h3, h4, h5⟩ := h
  exact ⟨a, b, c, e, h1, h2, h3, h4, by omega⟩
theorem Purse.mono {H H' : Hp} {p : Addr} {n : Nat} (h : Purse H p n) (S : Same H H') : Purse H' p n := by
  obtain ⟨a, b, c, e, r⟩ := h
  exact ⟨a, b, c, S _ _ e, r⟩
def maxN : Nat := 1000000000

def spCell (K : PySem.W.Frag) : Sp := fun vs H Q _ => ∃ (a : Addr) (ns : List Int) (j : Nat), vs = [.ref a, .int (j : Int)] ∧ SqL K H a (ns.map V.int) ∧ ∀ z, Q (.int z) H
def spPurse : Sp := fun vs H Q _ => ∃ z, vs = [.int z] ∧ ∀ p H', H p = none → Same H H' → Purse H' p 0 → Q (.ref p) H'
def spTake : Sp := fun vs H Q _ => ∃ (p : Addr) (n : Nat) (m : Int), vs = [.ref p, .int m] ∧ Purse H p n ∧ n ≤ maxN ∧ 0 < m ∧ m < 1073741824 ∧ ∀ r H', 0 ≤ r → r < m → Purse H' p (n + 1) → Same (hid p H) (hid p H') → Q (.int r) H'
section
variable {P : Program} {w : World} {K : PySem.W.Frag} {mg : Str → Option Value} {base : Heap}
theorem scCell : FnScope ["_law_script", "_law_k"] ["_law_script", "_law_k"] (defScope sCell) := ⟨rfl, rfl, rfl, by decide +kernel, rfl, by decide +kernel, by decide +kernel⟩
theorem ok_cell {f : Addr} {fd : FuncData} (F : Fun K "_law_cell" "_law_cell" sCell f fd) (T : Txt K w mg) : FnOk P w K mg base CX0 1 f fd ["_law_script", "_law_k"] (spCell K) := by
  refine F.ok scCell (fun vs H Q E h => ?_) (fun cdv A outer s H vs Q E hr h => ?_)
  · obtain ⟨a, ns, j, rfl, _⟩ := h
    rfl
  · obtain ⟨a, ns, j, rfl, hS, k⟩ := h
    refine ⟨_, pss_cons (ps_if (pt_cmpR op_lt (pv 1) (pe_callB call_len_seq (by rfl) T.len PySem.boot_len (pa_cons (pv 0) pa_nil)) (nomark _)) (pss_one (ps_ret (pe_ix ix_list (pv 0) (pv 1) (fun _ _ => rfl)))) pss_nil)
      (pss_one (ps_ret (pe_op op_add (pe_op op_mul pe_int (pv 1)) pe_int))), ?_⟩
    refine ⟨_, rfl, _, rfl, a, _, rfl, Or.inl hS, _, _, rfl, rfl, _, rfl, ?_⟩
    refine ite2 (fun h => ?_) (fun h => ?_)
    · have lt := of_decide_eq_true h
      rw [List.length_map] at lt
      have lt : j < ns.length := by omega
      refine ⟨_, rfl, _, rfl, a, _, _, _, rfl, rfl, hS, at_of (j := j) rfl (by rw [List.getElem?_map, List.getElem?_eq_getElem lt]; rfl), k _⟩
    · exact ⟨_, rfl, _, _, rfl, rfl, Or.inl ⟨by decide, by decide⟩, _, _, rfl, rfl, k _⟩
theorem scPurse : FnScope ["_law_cell_here"] ["_law_cell_here"] (defScope sPurse) := ⟨rfl, rfl, rfl, by decide +kernel, rfl, by decide +kernel, by decide +kernel⟩
theorem ok_purse {f : Addr} {fd : FuncData} (F : Fun K "_law_purse" "_law_purse" sPurse f fd) (T : Txt K w mg) : FnOk P w K mg base CX0 1 f fd ["_law_cell_here"] spPurse := by
  refine F.ok scPurse (fun vs H Q E h => ?_) (fun cdv A outer s H vs Q E hr h => ?_)
  · obtain ⟨z, rfl, _⟩ := h
    rfl
  · obtain ⟨z, rfl, k⟩ := h
    refine ⟨_, pss_one (ps_ret (pe_lst (pa_cons (pe_callB (call_max2 rfl) (by rfl) T.max (by decide +kernel) (pa_cons pe_int (pa_cons (pe_op op_sub (pv 0) (pe_op op_pow pe_int pe_int)) pa_nil)))
      (pa_cons (pe_op op_mod (pv 0) pe_int) (pa_cons pe_int pa_nil))))), ?_⟩
    refine ⟨_, rfl, 10, 18, rfl, rfl, ⟨by decide, by decide, by decide⟩, _, _, rfl, rfl, 0, _, rfl, _, rfl, z, 2147483629, rfl, rfl, (by show (0 : Int) < 2147483629; decide), (by show 3 ≤ sizeLine; decide), fun p hp => ?_⟩
    refine k p _ hp (Same.new hp) ⟨_, _, 0, upd_same, ?_, Int.emod_nonneg _ (by decide), Int.emod_lt_of_pos _ (by decide), Int.le_refl _, Int.le_refl _⟩
    split <;> omega
theorem scTake : FnScope ["_law_purse_here", "_law_many", "_law_digit", "_law_one", "_law_other"] ["_law_purse_here", "_law_many"] (defScope sTake) := ⟨rfl, rfl, rfl, by decide +kernel, rfl, by decide +kernel, by decide +kernel⟩
theorem ok_take {f : Addr} {fd : FuncData} (F : Fun K "_law_take" "_law_take" sTake f fd) (T : Txt K w mg) : FnOk P w K mg base CX0 1 f fd ["_law_purse_here", "_law_many"] spTake := by
  refine F.ok scTake (fun vs H Q E h => ?_) (fun cdv A outer s H vs Q E hr h => ?_)
  · obtain ⟨p, n, m, rfl, _⟩ := h
    rfl
  · obtain ⟨p, n, m, rfl, ⟨a, b, c, e, ha, hb, hb2, hc, hc2⟩, hn, hm, hm2, k⟩ := h
    refine ⟨_, pss_cons (ps_if (pt_cmpR op_gt (pe_ix ix_list (pv 0) pe_int (fun _ _ => rfl)) pe_int (nomark _))
        (pss_cons (ps_set (i := 2) scTake.nd rfl (Or.inl rfl) (pe_op op_mod (pe_ix ix_list (pv 0) pe_int (fun _ _ => rfl)) (pv 1)))
        (pss_cons (ps_asg (pe_op op_fdiv (pe_ix ix_list (pv 0) pe_int (fun _ _ => rfl)) (pv 1)) (pg_sub (pv 0) pe_int set_list))
        (pss_one (ps_ret (pv 2))))) pss_nil)
      (pss_cons (ps_asg (pe_op op_add (pe_ix ix_list (pv 0) pe_int (fun _ _ => rfl)) pe_int) (pg_sub (pv 0) pe_int set_list))
      (pss_cons (ps_set (i := 3) scTake.nd rfl (Or.inl rfl) (pe_op op_mod (pe_op op_pow (pe_op op_add (pe_op op_add (pe_ix ix_list (pv 0) pe_int (fun _ _ => rfl)) (pe_op op_mul pe_int (pe_ix ix_list (pv 0) pe_int (fun _ _ => rfl)))) pe_int) pe_int) pe_int))
      (pss_cons (ps_set (i := 4) scTake.nd rfl (Or.inl rfl) (pe_op op_mod (pe_op op_pow (pe_op op_add (pe_op op_mul (pe_ix ix_list (pv 0) pe_int (fun _ _ => rfl)) (pe_ix ix_list (pv 0) pe_int (fun _ _ => rfl))) pe_int) pe_int) pe_int))
      (pss_one (ps_ret (pe_op op_mod (pe_op op_fdiv (pe_op op_add (pe_op op_mul (pv 3) pe_int) (pv 4)) pe_int) (pv 1))))))), ?_⟩
    have sL : ∀ {H' : Hp} {xs : List V}, H' p = some (.lst xs) → SqL K H' p xs := fun h => SqL.of h
    refine ⟨_, rfl, p, _, 0, _, rfl, rfl, sL e, at_of (j := 0) rfl rfl, _, _, rfl, rfl, _, rfl, ?_⟩
    refine ite2 (fun h => ?_) (fun h => ?_)
    · have pos : 0 < a := of_decide_eq_true h
      refine ⟨_, rfl, p, _, 0, _, rfl, rfl, sL e, at_of (j := 0) rfl rfl, _, rfl, a, m, rfl, rfl, hm, ?_⟩
      refine ⟨_, rfl, p, _, 0, _, rfl, rfl, sL e, at_of (j := 0) rfl rfl, _, rfl, a, m, rfl, rfl, ⟨hm, hm2⟩, ?_⟩
      refine ⟨_, rfl, p, _, 0, 0, rfl, rfl, e, rfl, ?_⟩
      refine ⟨_, rfl, ?_⟩
      refine k _ _ (Int.emod_nonneg _ (by omega)) (Int.emod_lt_of_pos _ hm) ⟨a / m, b, c, upd_same, Int.ediv_nonneg ha (by omega), hb, hb2, hc, by omega⟩ ?_
      rw [hid_upd]
      exact Same.refl _
    · have e1 : upd H p (.lst [.int a, .int b, .int (c + 1)]) p = some (.lst [.int a, .int b, .int (c + 1)]) := upd_same
      have S1 : Same (hid p H) (hid p (upd H p (.lst [.int a, .int b, .int (c + 1)]))) := by rw [hid_upd]; exact Same.refl _
      refine ⟨_, rfl, p, _, 2, _, rfl, rfl, sL e, at_of (j := 2) rfl rfl, c, 1, rfl, rfl, ?_⟩
      refine ⟨_, rfl, p, _, 2, 2, rfl, rfl, e, rfl, ?_⟩
      have hcN : c + 1 ≤ 1000000001 := by
        unfold maxN at hn
        omega
      have m0 : 0 ≤ b * (c + 1) := Int.mul_nonneg hb (by omega)
      have m1 : b * (c + 1) ≤ 2147483629 * 1000000001 := Int.mul_le_mul (by omega) (by omega) (by omega) (by omega)
      have q1 : (b + 6113 * (c + 1) + 31).natAbs < 2 ^ 64 := by omega
      have q2 : (b * (c + 1) + 89753).natAbs < 2 ^ 64 := by
        generalize b * (c + 1) = t at m0 m1
        omega
      refine ⟨_, rfl, p, _, 1, _, rfl, rfl, sL e1, at_of (j := 1) rfl rfl, _, rfl, p, _, 2, _, rfl, rfl, sL e1, at_of (j := 2) rfl rfl, 6113, c + 1, rfl, rfl, Or.inl ⟨by decide, by decide⟩, b, _, rfl, rfl, _, _, rfl, rfl, _, 5, rfl, rfl, ⟨by decide, by decide, q1⟩, _, _, rfl, rfl, (by show (0 : Int) < 2147483647; decide), ?_⟩
      refine ⟨_, rfl, p, _, 1, _, rfl, rfl, sL e1, at_of (j := 1) rfl rfl, _, rfl, p, _, 2, _, rfl, rfl, sL e1, at_of (j := 2) rfl rfl, b, c + 1, rfl, rfl, Or.inl ⟨by omega, by omega⟩, _, _, rfl, rfl, _, 3, rfl, rfl, ⟨by decide, by decide, q2⟩, _, _, rfl, rfl, (by show (0 : Int) < 2147483587; decide), ?_⟩
      refine ⟨_, rfl, _, _, rfl, rfl, Or.inr ⟨by decide, by decide⟩, _, rfl, _, _, rfl, rfl, _, 8, rfl, rfl, ⟨by decide, by decide⟩, _, rfl, _, m, rfl, rfl, hm, ?_⟩
      exact k _ _ (Int.emod_nonneg _ (by omega)) (Int.emod_lt_of_pos _ hm) ⟨a, b, c + 1, e1, ha, hb, hb2, by omega, by omega⟩ S1
end
end KP
set_option Elab.async false
set_option linter.unusedVariables false
set_option maxRecDepth 100000
set_option maxHeartbeats 1000000
namespace KP
open PySem PySem.Spec PyProof.Rows L2 KA
/-! ### what stands behind each word -/
def formsA : List (Key × V) := [(.inr "at", .str "n"), (.inr "kind", .str "h"), (.inr "all", .str "tt"), (.inr "fun", .str "tt"), (.inr "app", .str "tt"), (.inr "name", .str "w"), (.inr "thing", .str "w"), (.inr "maker", .str "wn")]
def formsB : List (Key × V) := [(.inr "eater", .str "wh"), (.inr "same", .str "ttt"), (.inr "self", .str "tt"), (.inr "put", .str "ttt")]
def formsK : List (Key × V) := formsA ++ formsB
theorem formsA_eq : mergeK [] formsA = formsA := by decide +kernel
theorem formsB_eq : mergeK [] formsB = formsB := by decide +kernel
theorem formsK_eq : mergeK [] (formsA ++ formsB) = formsK := by decide +kernel
theorem paired_append {α β : Type} {F : α → β → Prop} : ∀ {xs zs : List α} {ys ws : List β}, Paired F xs ys → Paired F zs ws → Paired F (xs ++ zs) (ys ++ ws)
  | _, _, _, _, .nil, s => s
  | _, _, _, _, .cons r t, s => .cons r (paired_append t s)
theorem paired_map {α β : Type} {F G : α → β → Prop} (f : ∀ a b, F a b → G a b) : ∀ {xs : List α} {ys : List β}, Paired F xs ys → Paired G xs ys
  | _, _, .nil => .nil
  | _, _, .cons r t => .cons (f _ _ r) (paired_map f t)
def spForms : Sp := fun vs H Q _ => vs = [] ∧ ∀ p H', H p = none → Same H H' → H' p = some (.dK formsK) → Q (.ref p) H'
section
variable {X : Cx} {k j : Nat} {x : Str} {sp : Sp} {dvs : List V} {p pos : Pos}
theorem pe_c0 (c : C8.Cal X.prog X.w X.K X.mg X.base k x sp dvs) (hr : Room j X.A) (hk : k ≤ j) (hg : Gl X x) (hdb : (x == ("__debug__" : Str)) = false := by decide) : PE X (.Call (.Name x p) [] [] pos) (tCall sp dvs C8.E0 tNil) := by
  obtain ⟨f, fd, ps, ds, F, hm, kp, b, d⟩ := c.ex
  exact pe_call0 F (hr.mono hk) hg hm kp b d pass0 hdb
end
section
variable {P : Program} {w : World} {K : PySem.W.Frag} {mg : Str → Option Value} {base : Heap}
theorem scForms : FnScope ["_law_forms_here", "_law_more"] [] (defScope sForms) := ⟨rfl, rfl, rfl, by decide +kernel, rfl, by decide +kernel, by decide +kernel⟩
theorem ok_forms {f : Addr} {fd : FuncData} (F : Fun K "_law_forms" "_law_forms" sForms f fd) (T : Txt K w mg) : FnOk P w K mg base CX0 1 f fd [] spForms := by
  refine F.ok scForms (fun vs H Q E h => ?_) (fun cdv A outer s H vs Q E hr h => ?_)
  · obtain ⟨rfl, _⟩ := h
    rfl
  · obtain ⟨rfl, k⟩ := h
    refine ⟨_, pss_cons (ps_set (i := 0) scForms.nd rfl (Or.inl rfl) (pe_disp (pps_cons pe_str pe_str (pps_cons pe_str pe_str (pps_cons pe_str pe_str (pps_cons pe_str pe_str (pps_cons pe_str pe_str (pps_cons pe_str pe_str (pps_cons pe_str pe_str (pps_cons pe_str pe_str pps_nil)))))))) (by rfl) (by rfl) (fun z => by cases z) (by decide)))
      (pss_cons (ps_set (i := 1) scForms.nd rfl (Or.inl rfl) (pe_disp (pps_cons pe_str pe_str (pps_cons pe_str pe_str (pps_cons pe_str pe_str (pps_cons pe_str pe_str pps_nil)))) (by rfl) (by rfl) (fun z => by cases z) (by decide)))
      (pss_one (ps_ret (pe_callTy (call_dictP rfl) (by rfl) T.dict (by decide +kernel) (pa_cons (pe_op op_cat (LiI.pe_listItems rfl (pv 0) (by rfl) T.list (by decide +kernel)) (LiI.pe_listItems rfl (pv 1) (by rfl) T.list (by decide +kernel))) pa_nil))))), ?_⟩
    refine fun a ha => ⟨upd_same, formsA, rfl, by decide, ?_⟩
    rw [formsA_eq, upd_upd]
    have S1 : Same H (upd H a (.dK formsA)) := Same.new ha
    refine fun b hb => ⟨upd_same, formsB, rfl, by decide, ?_⟩
    rw [formsB_eq, upd_upd]
    have S2 : Same (upd H a (.dK formsA)) (upd (upd H a (.dK formsA)) b (.dK formsB)) := Same.new hb
    have ea : upd (upd H a (.dK formsA)) b (.dK formsB) a = some (.dK formsA) := S2 _ _ upd_same
    have eb : upd (upd H a (.dK formsA)) b (.dK formsB) b = some (.dK formsB) := upd_same
    have S12 := S1.trans S2
    generalize upd (upd H a (.dK formsA)) b (.dK formsB) = H2 at ea eb S12
    refine ⟨_, rfl, a, formsA, rfl, ea, fun H3 p3 ts3 S3 n3 m3 o3 e3 r3 => ?_⟩
    refine ⟨_, rfl, b, formsB, rfl, S3 _ _ eb, fun H4 p4 ts4 S4 n4 m4 o4 e4 r4 => ?_⟩
    refine ⟨p3, p4, _, _, rfl, rfl, S4 _ _ e3, e4, ?_, fun q hq => ?_⟩
    · rw [List.length_map, List.length_map, Paired.length r3, Paired.length r4]
      decide
    have S5 : Same H4 (upd H4 q (.lst (ts3.map V.ref ++ ts4.map V.ref))) := Same.new hq
    refine ⟨q, ts3 ++ ts4, formsA ++ formsB, rfl, ?_, ?_, fun z hz => ?_⟩
    · rw [List.map_append]
      exact SqL.of upd_same
    · exact paired_append (paired_map (fun t kv e => SqT.of (S5 _ _ (S4 _ _ e))) r3) (paired_map (fun t kv e => SqT.of (S5 _ _ e)) r4)
    · rw [formsK_eq]
      have S15 := ((S12.trans S3).trans S4).trans S5
      exact k z _ (S15.free hz) (S15.trans (Same.new hz)) upd_same
end
end KP
set_option Elab.async false
set_option linter.unusedVariables false
set_option maxRecDepth 100000
set_option maxHeartbeats 1000000
namespace KP
open PySem PySem.Spec PyProof.Rows L2 KA
/-! ### a name drawn -/
theorem fold_codes (cs : List Nat) : ∀ acc : Array Nat, (((cs.map fun c => (⟨#[c]⟩ : Str)).foldl (fun acc p => acc ++ (Str.ofString "").cps ++ p.cps) acc)).toList = acc.toList ++ cs := by
  have e0 : (Str.ofString "").cps = #[] := by decide +kernel
  rw [e0]
  induction cs with
  | nil => intro acc; simp
  | cons c cs ih =>
    intro acc
    rw [List.map_cons, List.foldl_cons, ih]
    simp
theorem join_codes (cs : List Nat) : (Txt.join (Str.ofString "") (cs.map fun c => (⟨#[c]⟩ : Str))).cps.toList = cs := by
  cases cs with
  | nil => decide +kernel
  | cons c cs =>
    show (((cs.map fun c => (⟨#[c]⟩ : Str)).foldl (fun acc p => acc ++ (Str.ofString "").cps ++ p.cps) (#[c] : Array Nat))).toList = c :: cs
    rw [fold_codes]
    rfl
theorem sum_ones (cs : List Nat) : ((cs.map fun c => (⟨#[c]⟩ : Str)).map (·.length)).sum = cs.length := by
  induction cs with
  | nil => rfl
  | cons c cs ih =>
    rw [List.map_cons, List.map_cons, List.sum_cons, ih, List.length_cons]
    show 1 + cs.length = cs.length + 1
    omega
theorem letter_at {r : Int} (h0 : 0 ≤ r) (h1 : r < 26) : ∃ c, atI letters.cps.toList r = some c ∧ letterB c = true := by
  obtain ⟨j, rfl⟩ : ∃ j : Nat, r = (j : Int) := ⟨r.toNat, by omega⟩
  have len : letters.cps.toList.length = 26 := by decide +kernel
  have lt : j < letters.cps.toList.length := by rw [len]; omega
  refine ⟨letters.cps.toList[j], atI_nat (List.getElem?_eq_getElem lt), ?_⟩
  rw [← in_letters]
  exact decide_eq_true (List.getElem_mem lt)
theorem inV_no (x : Str) : inV (.str x) [.str "all", .str "fun", .str "same", .str "self", .str "put"] = noNames.any fun y => y == x := rfl
theorem Same.hidMut {p D : Addr} {G H : Hp} {o : HO} (h : Same G (hid p H)) (n : G D = none) : Same G (hid p (upd H D o)) := fun b u e => by
  have e' := h b u e
  obtain ⟨n1, e2⟩ := hid_some e'
  rw [hid_ne n1, upd_ne (ne_of_none e n)]
  exact e2
theorem hid_none {p D : Addr} {H : Hp} (h : H D = none) : hid p H D = none := by
  by_cases e : D = p
  · rw [e, hid_at]
  · rw [hid_ne e, h]
theorem q_ok : ∀ y ∈ noNames, nameX ((("q" : Str)) ++ y) = true := by decide +kernel
theorem q_len : ∀ y ∈ noNames, ("q" : Str).length + y.length ≤ 8 := by decide +kernel
def spWord : Sp := fun vs H Q _ => ∃ (p : Addr) (n : Nat), vs = [.ref p] ∧ Purse H p n ∧ n + 10 ≤ maxN ∧ ∀ x H', nameX x = true → Purse H' p (n + 10) → Same (hid p H) (hid p H') → Q (.str x) H'
section
variable {P : Program} {w : World} {K : PySem.W.Frag} {mg : Str → Option Value} {base : Heap}
theorem scWord : FnScope ["_law_purse_here", "_law_letters", "_law_word_here", "_law_k"] ["_law_purse_here"] (defScope sWord) := ⟨rfl, rfl, rfl, by decide +kernel, rfl, by decide +kernel, by decide +kernel⟩
theorem ok_word {f : Addr} {fd : FuncData} (F : Fun K "_law_word" "_law_word" sWord f fd) (T : Txt K w mg) (CT : C8.Cal P w K mg base 1 "_law_take" spTake []) : FnOk P w K mg base CX0 2 f fd ["_law_purse_here"] spWord := by
  refine F.ok scWord (fun vs H Q E h => ?_) (fun cdv A outer s H vs Q E hr h => ?_)
  · obtain ⟨p, n, rfl, _⟩ := h
    rfl
  · obtain ⟨p, n, rfl, hp, hn, k⟩ := h
    refine ⟨_, pss_cons (ps_set (i := 1) scWord.nd rfl (Or.inr rfl) pe_str)
      (pss_cons (ps_set (i := 2) scWord.nd rfl (Or.inl rfl) (pe_join pe_str (pe_lc (own := [("_law_k", 3)]) (g := gName 3) (tt := tYes) rfl scWord.nd
          (pi_range1 (by rfl) T.range (pa_cons (pe_op op_add pe_int (C8.pe_c CT hr (by decide) rfl (pa_cons (pv 0) (pa_cons pe_int pa_nil)))) pa_nil))
          (blkOk_by (N := ["_law_purse_here", "_law_letters", "_law_word_here", "_law_k"]) (sc := defScope sWord) (by decide +kernel))
          (fun _ _ _ _ _ => pg_name (i := 3) scWord.nd rfl (Or.inl rfl)) (fun _ _ _ _ _ => pts_nil) (fun _ _ _ _ _ => pe_ix ix_str (pv 1) (C8.pe_c CT hr (by decide) rfl (pa_cons (pv 0) (pa_cons pe_int pa_nil))) (fun _ _ => rfl)))))
      (pss_one (ps_ret (pe_ifExp (pt_cmpR op_in_seq (pv 2) (pe_tup (pa_cons pe_str (pa_cons pe_str (pa_cons pe_str (pa_cons pe_str (pa_cons pe_str pa_nil)))))) rfl) (pe_op op_add_str pe_str (pv 2)) (pv 2))))), ?_⟩
    refine ⟨⟨_, rfl⟩, .ref p, rfl, p, n, 8, rfl, hp, by omega, by decide, by decide, fun r H1 r0 r1 p1 S1 => ?_⟩
    refine ⟨1, r, rfl, rfl, 1 + r, rfl, by omega, by omega, fun D hD => ?_⟩
    have pD : p ≠ D := by
      obtain ⟨_, _, _, e, _⟩ := p1
      exact ne_of_none e hD
    refine lc_range (lo := 0) (n := (1 + r).toNat) (fun i H' => ∃ cs : List Nat, H' D = some (.lst (cs.map fun c => V.str ⟨#[c]⟩)) ∧ cs.length = i ∧ cs.all letterB = true ∧ Purse H' p (n + 1 + i) ∧ Same (hid p H1) (hid p H')) ?_ ?_ ?_
    · refine ⟨[], upd_same, rfl, rfl, p1.mono (Same.new hD), Same.less (Same.new hD)⟩
    · rintro i H' hi ⟨cs, eD, el, eA, pp, S⟩
      refine ⟨rfl, yes (iteT ?_)⟩
      refine ⟨.str letters, rfl, .ref p, rfl, p, n + 1 + i, 26, rfl, pp, by omega, by decide, by decide, fun t H2 t0 t1 p2 S2 => ?_⟩
      obtain ⟨c, hc, lc⟩ := letter_at t0 t1
      refine ⟨letters, t, c, rfl, rfl, by decide +kernel, hc, cs.map fun c => V.str ⟨#[c]⟩, ?_, ?_, cs ++ [c], ?_, ?_, ?_, ?_, ?_⟩
      · exact hid_sub _ _ (S2 _ _ (by rw [hid_ne pD.symm]; exact eD))
      · rw [List.length_map, el]
        exact Nat.lt_of_lt_of_le hi (Nat.le_trans (by omega : (1 + r).toNat ≤ 8) (by decide))
      · rw [upd_same, List.map_append]
        rfl
      · rw [List.length_append, el]
        rfl
      · rw [List.all_append, eA]
        simp [lc]
      · obtain ⟨a, b, c', e, q⟩ := p2
        refine ⟨a, b, c', by rw [upd_ne pD]; exact e, ?_⟩
        have : ((n + 1 + i + 1 : Nat) : Int) = ((n + 1 + (i + 1) : Nat) : Int) := by omega
        rw [← this]
        exact q
      · exact Same.hidMut (S.trans S2) (hid_none hD)
    · rintro H' ⟨cs, eD, el, eA, pp, S⟩
      refine ⟨Str.ofString "", D, cs.map fun c => ⟨#[c]⟩, rfl, rfl, Or.inl ?_, ?_, ?_⟩
      · rw [List.map_map]
        exact SqL.of eD
      · rw [sum_ones, List.length_map]
        have : (Str.ofString "").length = 0 := by decide +kernel
        rw [this]
        omega
      · have S0 : Same (hid p H) (hid p H') := S1.trans S
        have el : cs.length = (1 + r).toNat := el
        have codes := join_codes cs
        have len : (Txt.join (Str.ofString "") (cs.map fun c => (⟨#[c]⟩ : Str))).length = cs.length := by
          show (Txt.join (Str.ofString "") (cs.map fun c => (⟨#[c]⟩ : Str))).cps.size = cs.length
          rw [← Array.length_toList, codes]
        generalize Txt.join (Str.ofString "") (cs.map fun c => (⟨#[c]⟩ : Str)) = x at codes len
        have pn : Purse H' p (n + 10) := pp.more (by omega)
        refine ⟨_, rfl, (by show 5 ≤ sizeLine; decide), fun q hq => ⟨q, _, rfl, Or.inr (SqT.of upd_same), rfl, rfl, _, rfl, ?_⟩⟩
        have S3 : Same (hid p H) (hid p (upd H' q (.tup [.str "all", .str "fun", .str "same", .str "self", .str "put"]))) := S0.trans (Same.less (Same.new hq))
        have p3 : Purse (upd H' q (.tup [.str "all", .str "fun", .str "same", .str "self", .str "put"])) p (n + 10) := pn.mono (Same.new hq)
        refine ite2 (fun c => ?_) (fun c => ?_)
        · have c : (noNames.any fun y => y == x) = true := c
          obtain ⟨y, hy, ey⟩ := List.any_eq_true.mp c
          obtain rfl : y = x := eq_of_beq ey
          exact ⟨_, rfl, "q", y, rfl, rfl, Nat.le_trans (q_len y hy) (by decide), k _ _ (q_ok y hy) p3 S3⟩
        · have c : ¬ (noNames.any fun y => y == x) = true := c
          have c : (noNames.any fun y => y == x) = false := Bool.eq_false_iff.mpr c
          refine ⟨_, rfl, k x _ ?_ p3 S3⟩
          unfold nameX
          rw [c, codes, eA, len, el]
          rw [decide_eq_true (by omega : 1 ≤ (1 + r).toNat), decide_eq_true (by omega : (1 + r).toNat ≤ 8)]
          rfl
end
end KP
set_option Elab.async false
set_option linter.unusedVariables false
set_option maxRecDepth 100000
set_option maxHeartbeats 1000000
namespace KP
open PySem PySem.Spec PyProof.Rows L2 KA
/-! ### how large data is when it is shown -/
mutual
def wt : PyData → Nat
  | .int _ => 40
  | .str _ => 220
  | .list ds => wtAll ds + 4
  | .tuple ds => wtAll ds + 4
  | .dict kvs => wtKv kvs + 4
  | _ => 5
def wtAll : List PyData → Nat
  | [] => 0
  | d :: ds => wt d + 2 + wtAll ds
def wtKv : List (PyData × PyData) → Nat
  | [] => 0
  | (k, v) :: r => wt k + wt v + 4 + wtKv r
end
theorem join_len (ts : List Str) : (Str.join ", " ts).length ≤ (ts.map (·.length)).sum + 2 * ts.length := by
  rw [← StrLaws.glued_eq_join, size_glued]
  have e : (Str.ofString ", ").length = 2 := by decide +kernel
  rw [e]
  omega
theorem len_app (x y : Str) : (x ++ y).length = x.length + y.length := by
  show (x.cps ++ y.cps).size = _
  exact Array.size_append
theorem int_len {i : Int} (h : -(10 ^ 31) ≤ i ∧ i ≤ 10 ^ 31) : (Str.ofString (toString i)).length ≤ 40 := by
  have b : i.natAbs < 10 ^ 32 := by omega
  have l := int_text_length_le10 (k := 32) (by decide) b
  rw [PySem.ofString_length]
  omega
theorem log2_small {i : Int} (h : -(10 ^ 31) ≤ i ∧ i ≤ 10 ^ 31) : i.natAbs.log2 < 1920 := by
  by_cases h0 : i.natAbs = 0
  · rw [h0]
    decide
  · rw [Nat.log2_lt h0]
    exact Nat.lt_of_lt_of_le (by omega : i.natAbs < 2 ^ 110) (Nat.pow_le_pow_right (by decide) (by decide))
mutual
theorem shown_le : ∀ d : PyData, fine d = true → d.shown.length ≤ wt d ∧ d.showable = true
  | .none, _ => by
    rw [PyData.shown_none]
    exact ⟨by decide +kernel, rfl⟩
  | .bool b, _ => by
    rw [PyData.shown_bool]
    exact ⟨by cases b <;> decide +kernel, rfl⟩
  | .int i, h => by
    have h' : -(10 ^ 31) ≤ i ∧ i ≤ 10 ^ 31 := by simpa [fine] using h
    rw [PyData.shown_int]
    exact ⟨int_len h', by simpa [PyData.showable] using log2_small h'⟩
  | .str x, h => by
    have h' : x.length ≤ 20 ∧ ∀ c ∈ x.cps.toList, c < 128 := by simpa only [fine, Bool.and_eq_true, decide_eq_true_eq, List.all_eq_true] using h
    rw [PyData.shown_str]
    have := StrLaws.reprText_len x fun c hc => Nat.lt_of_lt_of_le (h'.2 c hc) (by decide)
    have e : wt (.str x) = 220 := rfl
    exact ⟨by omega, rfl⟩
  | .list ds, h => by
    have h' : fineAll ds = true := by simpa only [fine] using h
    obtain ⟨h1, h2⟩ := shownAll_le ds h'
    rw [PyData.shown_list, len_app, len_app]
    have j := join_len (PyData.shownAll ds)
    rw [PyData.shownAll_length] at j
    have e1 : (Str.ofString "[").length = 1 := by decide +kernel
    have e2 : (Str.ofString "]").length = 1 := by decide +kernel
    rw [e1, e2]
    exact ⟨by simp only [wt]; omega, by simpa only [PyData.showable] using h2⟩
  | .tuple ds, h => by
    have h' : fineAll ds = true := by simpa only [fine] using h
    obtain ⟨h1, h2⟩ := shownAll_le ds h'
    rw [PyData.shown_tuple, len_app, len_app]
    have j := join_len (PyData.shownAll ds)
    rw [PyData.shownAll_length] at j
    have e1 : (Str.ofString "(").length = 1 := by decide +kernel
    have e2 : (Str.ofString (if (ds.length == 1) = true then ",)" else ")")).length ≤ 2 := by
      split <;> decide +kernel
    rw [e1]
    exact ⟨by simp only [wt]; omega, by simpa only [PyData.showable] using h2⟩
  | .dict kvs, h => by
    have h' : fineKv kvs = true := by simpa only [fine] using h
    obtain ⟨h1, h2, h3⟩ := shownKv_le kvs h'
    rw [PyData.shown_dict, len_app, len_app]
    have j := join_len (PyData.shownKv kvs)
    rw [h3] at j
    have e1 : (Str.ofString "{").length = 1 := by decide +kernel
    have e2 : (Str.ofString "}").length = 1 := by decide +kernel
    rw [e1, e2]
    exact ⟨by simp only [wt]; omega, by simpa only [PyData.showable] using h2⟩
theorem shownAll_le : ∀ ds : List PyData, fineAll ds = true → ((PyData.shownAll ds).map (·.length)).sum + 2 * ds.length ≤ wtAll ds ∧ PyData.showableAll ds = true
  | [], _ => ⟨by simp [PyData.shownAll_nil], rfl⟩
  | d :: ds, h => by
    have h' : fine d = true ∧ fineAll ds = true := by simpa only [fineAll, Bool.and_eq_true] using h
    obtain ⟨a1, a2⟩ := shown_le d h'.1
    obtain ⟨b1, b2⟩ := shownAll_le ds h'.2
    rw [PyData.shownAll_cons, List.map_cons, List.sum_cons]
    refine ⟨?_, by simp only [PyData.showableAll, a2, b2, Bool.and_self]⟩
    simp only [wtAll, List.length_cons]
    omega
theorem shownKv_le : ∀ kvs : List (PyData × PyData), fineKv kvs = true → ((PyData.shownKv kvs).map (·.length)).sum + 2 * kvs.length ≤ wtKv kvs ∧ PyData.showableKv kvs = true ∧ (PyData.shownKv kvs).length = kvs.length
  | [], _ => ⟨by simp [PyData.shownKv_nil], rfl, by simp [PyData.shownKv_nil]⟩
  | (k, v) :: r, h => by
    have h' : (fine k = true ∧ fine v = true) ∧ fineKv r = true := by simpa only [fineKv, Bool.and_eq_true] using h
    obtain ⟨a1, a2⟩ := shown_le k h'.1.1
    obtain ⟨b1, b2⟩ := shown_le v h'.1.2
    obtain ⟨c1, c2, c3⟩ := shownKv_le r h'.2
    rw [PyData.shownKv_cons, List.map_cons, List.sum_cons, len_app, len_app]
    have e1 : (Str.ofString ": ").length = 2 := by decide +kernel
    rw [e1]
    refine ⟨?_, by simp only [PyData.showableKv, a2, b2, c2, Bool.and_self], by rw [List.length_cons, List.length_cons, c3]⟩
    simp only [wtKv, List.length_cons]
    omega
end
mutual
theorem nodes_wt : ∀ d : PyData, nodes d ≤ wt d
  | .none => by simp [nodes, wt]
  | .bool b => by simp [nodes, wt]
  | .int i => by simp [nodes, wt]
  | .str x => by simp [nodes, wt]
  | .list ds => by simp [nodes, wt]
  | .dict ds => by simp [nodes, wt]
  | .tuple ds => by
    have := nodesAll_wt ds
    simp only [nodes, wt]
    omega
theorem nodesAll_wt : ∀ ds : List PyData, nodesAll ds ≤ wtAll ds
  | [] => Nat.le_refl _
  | d :: ds => by
    have := nodes_wt d
    have := nodesAll_wt ds
    simp only [nodesAll, wtAll]
    omega
end
/-- small data: how deep, how large -/
def Bd (dp sz : Nat) (d : PyData) : Prop := fine d = true ∧ d.depth ≤ dp ∧ wt d ≤ sz
def BdAll (dp sz : Nat) (ds : List PyData) : Prop := fineAll ds = true ∧ PyData.depthAll ds ≤ dp ∧ wtAll ds ≤ sz
theorem Bd.mono {a b c e : Nat} {d : PyData} (h : Bd a b d) (h1 : a ≤ c) (h2 : b ≤ e) : Bd c e d := ⟨h.1, Nat.le_trans h.2.1 h1, Nat.le_trans h.2.2 h2⟩
theorem BdAll.mono {a b c e : Nat} {d : List PyData} (h : BdAll a b d) (h1 : a ≤ c) (h2 : b ≤ e) : BdAll c e d := ⟨h.1, Nat.le_trans h.2.1 h1, Nat.le_trans h.2.2 h2⟩
theorem BdAll.nil {a b : Nat} : BdAll a b [] := ⟨rfl, Nat.zero_le _, Nat.zero_le _⟩
theorem wtAll_append : ∀ ds es : List PyData, wtAll (ds ++ es) = wtAll ds + wtAll es
  | [], es => by simp [wtAll]
  | d :: ds, es => by simp only [List.cons_append, wtAll, wtAll_append ds es]; omega
theorem depthAll_append : ∀ ds es : List PyData, PyData.depthAll (ds ++ es) = max (PyData.depthAll ds) (PyData.depthAll es)
  | [], es => by simp [PyData.depthAll]
  | d :: ds, es => by simp only [List.cons_append, PyData.depthAll, depthAll_append ds es]; omega
theorem BdAll.append {a b c : Nat} {ds es : List PyData} (h : BdAll a b ds) (g : BdAll a c es) : BdAll a (b + c) (ds ++ es) := by
  obtain ⟨h1, h2, h3⟩ := h
  obtain ⟨g1, g2, g3⟩ := g
  refine ⟨by rw [fineAll_append, h1, g1]; rfl, by rw [depthAll_append]; omega, by rw [wtAll_append]; omega⟩
theorem BdAll.cons {a b c : Nat} {d : PyData} {ds : List PyData} (h : Bd a b d) (g : BdAll a c ds) : BdAll a (b + 2 + c) (d :: ds) := by
  obtain ⟨h1, h2, h3⟩ := h
  obtain ⟨g1, g2, g3⟩ := g
  refine ⟨by simp only [fineAll, h1, g1, Bool.and_self], by simp only [PyData.depthAll]; omega, by simp only [wtAll]; omega⟩
theorem BdAll.one {a b : Nat} {d : PyData} (h : Bd a b d) : BdAll a (b + 2) [d] := BdAll.cons (c := 0) h BdAll.nil
theorem Bd.tup {a b : Nat} {ds : List PyData} (h : BdAll a b ds) : Bd (a + 1) (b + 4) (.tuple ds) :=
  ⟨by simpa only [fine] using h.1, by simp only [PyData.depth]; exact Nat.succ_le_succ h.2.1, by simp only [wt]; exact Nat.add_le_add_right h.2.2 4⟩
theorem Bd.lst {a b : Nat} {ds : List PyData} (h : BdAll a b ds) : Bd (a + 1) (b + 4) (.list ds) :=
  ⟨by simpa only [fine] using h.1, by simp only [PyData.depth]; exact Nat.succ_le_succ h.2.1, by simp only [wt]; exact Nat.add_le_add_right h.2.2 4⟩
theorem Bd.int {i : Int} (h : -(10 ^ 31) ≤ i ∧ i ≤ 10 ^ 31) : Bd 0 40 (.int i) := ⟨by simpa [fine] using h, Nat.le_refl _, Nat.le_refl _⟩
theorem name_fine {x : Str} (h : nameX x = true) : fine (.str x) = true := by
  unfold nameX at h
  simp only [Bool.and_eq_true, decide_eq_true_eq, List.all_eq_true] at h
  obtain ⟨_, ⟨_, h1⟩, h2⟩ := h
  simp only [fine, Bool.and_eq_true, decide_eq_true_eq, List.all_eq_true]
  refine ⟨by omega, fun c hc => ?_⟩
  have := h2 c hc
  unfold letterB at this
  simp only [Bool.and_eq_true, decide_eq_true_eq] at this
  omega
theorem Bd.str {x : Str} (h : fine (.str x) = true) : Bd 0 220 (.str x) := ⟨h, Nat.le_refl _, Nat.le_refl _⟩
end KP
set_option Elab.async false
set_option linter.unusedVariables false
set_option maxRecDepth 100000
set_option maxHeartbeats 1000000
namespace KP
open PySem PySem.Spec PyProof.Rows L2 KA
/-- a def under its name, every parameter given -/
structure Dfn (K : PySem.W.Frag) (mg : Str → Option Value) (x : Str) (st : Stmt) (f : Addr) (fd : FuncData) (ps : List Str) : Prop where
  fn : Fun K x x st f fd
  mgf : mg x = some (.ref f)
  b : Binds K fd ps []
theorem Dfn.cal {P : Program} {w : World} {K : PySem.W.Frag} {mg : Str → Option Value} {base : Heap} {x : Str} {st : Stmt} {f : Addr} {fd : FuncData} {ps : List Str} {k : Nat} {sp : Sp} (D : Dfn K mg x st f fd ps) (F : FnOk P w K mg base CX0 k f fd ps sp) :
    C8.Cal P w K mg base k x sp [] := ⟨f, fd, ps, [], F, D.mgf, D.fn.kp, D.b, .nil⟩
/-! ### a walk over a text -/
theorem for_str {x : Str} {g : TG} {tb : TS} {D : Ends} {σ : L2.St} {H : Hp} (Pv : Nat → L2.St → Hp → Prop) (h0 : Pv 0 σ H)
    (hs : ∀ (i c : Nat) (σ : L2.St) (H : Hp), x.cps[i]? = some c → Pv i σ H → g (.str ⟨#[c]⟩) σ H fun σ2 H2 => tb { D with nx := Pv (i + 1), ct := Pv (i + 1), bk := D.nx } σ2 H2) (hd : ∀ σ H, Pv x.cps.size σ H → D.nx σ H) :
    ∃ W : Nat → Nat → L2.St → Hp → Prop, (∃ m, W 0 m σ H) ∧ ∀ i m σ H, W i m σ H →
      ((Its x).stop i H ∧ D.nx σ H) ∨ ((Its x).go i H ∧ ∃ N : L2.St → Hp → Prop, (∀ σ' H', N σ' H' → ∃ m', m' < m ∧ W (i + 1) m' σ' H') ∧ ∀ v H', (Its x).yld i H v H' → g v σ H' fun σ2 H2 => tb { D with nx := N, ct := N, bk := D.nx } σ2 H2) := by
  refine ⟨fun i m σ H => m = x.cps.size - i ∧ i ≤ x.cps.size ∧ Pv i σ H, ⟨_, rfl, Nat.zero_le _, h0⟩, ?_⟩
  rintro i m σ H ⟨rfl, hi, p⟩
  by_cases lt : i < x.cps.size
  · refine Or.inr ⟨lt, Pv (i + 1), fun σ' H' p' => ⟨x.cps.size - (i + 1), by omega, rfl, lt, p'⟩, ?_⟩
    rintro v H' ⟨rfl, c, hc, rfl⟩
    exact hs i c σ _ hc p
  · obtain rfl : i = x.cps.size := by omega
    exact Or.inl ⟨Nat.le_refl _, hd σ H p⟩
/-! ### words and what stands behind them -/
def wl : List Str := ["at", "at", "kind", "name", "thing", "maker", "eater", "all", "fun", "app", "app", "same", "self", "put"]
theorem wl_split : Txt.split (Str.ofString "at at kind name thing maker eater all fun app app same self put") (Str.ofString " ") = wl := by decide +kernel
def leaves : List (Str × List Nat) := [("at", [110]), ("kind", [104]), ("name", [119]), ("thing", [119]), ("maker", [119, 110]), ("eater", [119, 104])]
def parted : List (Str × List Nat) := [("all", [116, 116]), ("fun", [116, 116]), ("app", [116, 116]), ("same", [116, 116, 116]), ("self", [116, 116]), ("put", [116, 116, 116])]
theorem draw7 : ∀ j < 7, ∃ e ∈ leaves, wl[j]? = some e.1 := by decide +kernel
theorem draw14 : ∀ j < 14, ∃ e ∈ leaves ++ parted, wl[j]? = some e.1 := by decide +kernel
theorem form_of : ∀ e ∈ leaves ++ parted, valV formsK (.inr e.1) = some (.str ⟨e.2.toArray⟩) ∧ e.2.length ≤ 3 ∧ ∀ c ∈ e.2, c = 110 ∨ c = 104 ∨ c = 119 ∨ c = 116 := by decide +kernel
theorem leaf_not : ∀ e ∈ leaves, ∀ c ∈ e.2, c ≠ 116 := by decide +kernel
def tst (c : Nat) (d : PyData) : Bool := if c = 110 then cntB 0 d else if c = 104 then wholeB 0 5 d else if c = 119 then nameB d else tm d
def tstAll : List Nat → List PyData → Bool
  | [], [] => true
  | c :: cs, d :: ds => tst c d && tstAll cs ds
  | _, _ => false
theorem tstAll_snoc : ∀ {cs : List Nat} {ds : List PyData} {c : Nat} {d : PyData}, tstAll cs ds = true → tst c d = true → tstAll (cs ++ [c]) (ds ++ [d]) = true
  | [], [], c, d, _, h => by simp [tstAll, h]
  | a :: cs, b :: ds, c, d, h, h' => by
    have h : tst a b = true ∧ tstAll cs ds = true := by simpa [tstAll] using h
    have ih := tstAll_snoc h.2 h'
    simp only [List.cons_append, tstAll, h.1, ih, Bool.and_self]
  | [], _ :: _, _, _, h, _ => by simp [tstAll] at h
  | _ :: _, [], _, _, h, _ => by simp [tstAll] at h
theorem tst_parts : ∀ {n : Nat} {ds : List PyData}, tstAll (List.replicate n 116) ds = true → ds.length = n ∧ tmAll ds = true
  | 0, [], _ => ⟨rfl, rfl⟩
  | 0, _ :: _, h => by simp [tstAll] at h
  | n + 1, [], h => by simp [List.replicate_succ, tstAll] at h
  | n + 1, d :: ds, h => by
    rw [List.replicate_succ] at h
    have h : tst 116 d = true ∧ tstAll (List.replicate n 116) ds = true := by simpa only [tstAll, Bool.and_eq_true] using h
    obtain ⟨h1, h2⟩ := tst_parts h.2
    have h3 : tm d = true := h.1
    exact ⟨by rw [List.length_cons, h1], by simp only [tmAll, h3, h2, Bool.and_self]⟩
theorem parted_rep : ∀ e ∈ parted, ∃ n, n ≤ 3 ∧ e.2 = List.replicate n 116 ∧ parts e.1 = some n := by decide +kernel
theorem leaf_none : ∀ e ∈ leaves, parts e.1 = none := by decide +kernel
theorem one {c : Nat} : ∀ {ds : List PyData}, tstAll [c] ds = true → ∃ d, ds = [d] ∧ tst c d = true
  | [d], h => ⟨d, rfl, by simpa [tstAll] using h⟩
  | [], h => by simp [tstAll] at h
  | _ :: _ :: _, h => by simp [tstAll] at h
theorem two {a b : Nat} : ∀ {ds : List PyData}, tstAll [a, b] ds = true → ∃ d e, ds = [d, e] ∧ tst a d = true ∧ tst b e = true
  | [d, e], h => ⟨d, e, rfl, by simpa [tstAll] using h⟩
  | [], h => by simp [tstAll] at h
  | [_], h => by simp [tstAll] at h
  | _ :: _ :: _ :: _, h => by simp [tstAll] at h
theorem built {e : Str × List Nat} {ds : List PyData} (he : e ∈ leaves ++ parted) (h : tstAll e.2 ds = true) : tm (.tuple (.str e.1 :: ds)) = true := by
  rcases List.mem_append.mp he with he | he
  · rw [tm_leaf (leaf_none e he)]
    have he' : e = ((("at" : Str), [110]) : Str × List Nat) ∨ e = ((("kind" : Str), [104]) : Str × List Nat) ∨ e = ((("name" : Str), [119]) : Str × List Nat) ∨ e = ((("thing" : Str), [119]) : Str × List Nat) ∨ e = ((("maker" : Str), [119, 110]) : Str × List Nat) ∨ e = ((("eater" : Str), [119, 104]) : Str × List Nat) := by
      unfold leaves at he
      simpa only [List.mem_cons, List.not_mem_nil, or_false] using he
    rcases he' with rfl | rfl | rfl | rfl | rfl | rfl
    · obtain ⟨d, rfl, h1⟩ := one h
      exact h1
    · obtain ⟨d, rfl, h1⟩ := one h
      exact h1
    · obtain ⟨d, rfl, h1⟩ := one h
      exact h1
    · obtain ⟨d, rfl, h1⟩ := one h
      exact h1
    · obtain ⟨d, d', rfl, h1, h2⟩ := two h
      have h1 : nameB d = true := h1
      have h2 : cntB 0 d' = true := h2
      show (nameB d && cntB 0 d') = true
      rw [h1, h2]
      rfl
    · obtain ⟨d, d', rfl, h1, h2⟩ := two h
      have h1 : nameB d = true := h1
      have h2 : wholeB 0 5 d' = true := h2
      show (nameB d && (true && wholeB 0 5 d')) = true
      rw [h1, h2]
      rfl
  · obtain ⟨n, _, hr, hp⟩ := parted_rep e he
    rw [hr] at h
    obtain ⟨h1, h2⟩ := tst_parts h
    rw [tm_parts hp, h1, h2, decide_eq_true rfl]
    rfl
end KP
set_option Elab.async false
set_option linter.unusedVariables false
set_option maxRecDepth 100000
set_option maxHeartbeats 1000000
/-! Rules of one's own: == and != of data; P.__init__(self, ..), P a class of one's own over ValueError that has none. -/
namespace KA
open PySem PySem.Spec PyProof.Rows L2
section
variable {X : Cx}
def rEqD : R2 := fun x y H Q => ∃ d e, Dn H x d ∧ Dn H y e ∧ SeqAt.shaped d = true ∧ SeqAt.shaped e = true ∧ Q (.bl (PyData.eqv d e)) H
theorem op_eqD (hu : X.A.units + 64 < cLine) : OpR X (compareOp .Eq) rEqD := by
  intro pins s σ H x y v u Q I rx ry h
  obtain ⟨d, e, hd, he, sd, se, q⟩ := h
  obtain ⟨as, ra⟩ := Dn.reads I.hok hd rx
  obtain ⟨bs, rb⟩ := Dn.reads I.hok he ry
  exact eq_dataH ra rb sd se hu ⟨.bl (PyData.eqv d e), H, I, rfl, q⟩
def rNeD : R2 := fun x y H Q => ∃ d e, Dn H x d ∧ Dn H y e ∧ SeqAt.shaped d = true ∧ SeqAt.shaped e = true ∧ Q (.bl (!PyData.eqv d e)) H
theorem op_neD (hu : X.A.units + 64 < cLine) : OpR X (compareOp .NotEq) rNeD := by
  intro pins s σ H x y v u Q I rx ry h
  obtain ⟨d, e, hd, he, sd, se, q⟩ := h
  obtain ⟨as, ra⟩ := Dn.reads I.hok hd rx
  obtain ⟨bs, rb⟩ := Dn.reads I.hok he ry
  exact ne_dataH ra rb sd se hu ⟨.bl (!PyData.eqv d e), H, I, rfl, q⟩
/-- what the written part says of a class of one's own that has its __init__ from ValueError -/
structure UpC (K : PySem.W.Frag) (C : Addr) : Prop where
  kp : PySem.W.keepIn K (.ref C) = true
  sp : PySem.W.specialIn K (.ref C) "__getattribute__" = some (some (.builtin "type.__getattribute__"))
  rd : ∃ mc, PySem.W.readsIn K C mc = true ∧ PySem.W.findCls K (.ref C) mc "__init__" = some (.val (.builtin "ValueError.__init__"))
theorem pe_upinit {x : Str} {U : Addr} {e : Expr} {es : List Expr} {ta : TA} {p1 p2 pos : Pos} {pl : Sem Bool} (T : UpC X.K U) (hg : Gl X x) (hm : X.mg x = some (.ref U)) (ha : PA X (e :: es) ta) (hdb : (x == ("__debug__" : Str)) = false := by decide)
    (hc : eval (.Call (.Attribute (.Name x p1) "__init__" p2) (e :: es) [] pos) X.env = (do
      let ov ← eval (.Name x p1) X.env
      standAt p2.atName
      let (f, first) ← holding [ov] (getMethod ov "__init__" pl)
      callWith pos f first (backTo pos (starEach (e :: es) X.env)) (backToKw pos (keywordEach [] X.env))) := by rfl)
    (he : starEach (e :: es) X.env = (false, eval e X.env) :: starEach es X.env := by rfl) (hpl : (backTo pos (starEach es X.env)).any (·.1) = false := by rfl) :
    PE X (.Call (.Attribute (.Name x p1) "__init__" p2) (e :: es) [] pos) (tVeI X.K ta) := by
  refine ⟨fun pins s σ H Q I h => ?_⟩
  obtain ⟨mc, rd, fc⟩ := T.rd
  refine PySem.W.methodCall_KW (ld_glob I hg hm ?_ hdb) hc
  refine PySem.W.method_cls I.kIn T.sp ?_
  refine PySem.W.cls_value I.kIn rd fc (by decide +kernel) ?_
  show wpAny _ _ (callWith pos (Value.builtin "ValueError.__init__") [] (backTo pos (starEach (e :: es) X.env)) []) _ _ _
  refine PyProof.Rows.callWith_method1 (thn (ha.run pos pins _ σ H _ (I.tok _) h) fun us s1 ⟨vs, H1, I1, r1, a, C, ws, ev, hl, T', ea, q⟩ => ?_) he hpl
  subst ev
  cases r1 with
  | @cons _ u0 _ ur ra rw' =>
    obtain rfl : u0 = Value.ref a := ra
    have hlen : ur.length ≤ sizeLine := by
      rw [← Paired.length rw', sizeLine_eq]
      omega
    exact oinit_ok T' I1 ea hlen fun s' J => ⟨.non, H1, J, rfl, q⟩
end
end KA
set_option Elab.async false
set_option linter.unusedVariables false
set_option maxRecDepth 100000
set_option maxHeartbeats 1000000
/-! Slots by what they have: data; a list that only this slot has; else. What an expression, a statement makes of them. -/
namespace OW
open PySem PySem.Spec PyProof.Rows L2 KA

structure Mo where
  P : V → Hp → Prop
  mono : ∀ {v : V} {H H' : Hp}, Same H H' → P v H → P v H'
inductive Sl where
  | un
  | any
  | d (x : PyData)
  | l (xs : List PyData)
  | p (P : Mo)
  | la (a : Addr) (xs : List PyData)
  | wa (a : Addr) (xs : List PyData)
def uns (n : Nat) : List Sl := List.replicate n .un
abbrev Am := Nat → Option Addr
abbrev fl : Nat := 100000
open Classical in
noncomputable def vw (Z : Addr → Prop) (A : Am) (H : Hp) : Hp := fun b => if Z b ∨ ∃ i, A i = some b then none else H b
def aset (A : Am) (i : Nat) (o : Option Addr) : Am := fun j => if j = i then o else A j
theorem aset_at {A : Am} {i : Nat} {o : Option Addr} : aset A i o i = o := if_pos rfl
theorem aset_ne {A : Am} {i j : Nat} {o : Option Addr} (h : j ≠ i) : aset A i o j = A j := if_neg h
section
variable {Z : Addr → Prop} {A A' : Am} {H H' : Hp} {b : Addr} {o : HO}
theorem vw_some (h : vw Z A H b = some o) : ¬ Z b ∧ (∀ i, A i ≠ some b) ∧ H b = some o := by
  unfold vw at h
  split at h
  · cases h
  · rename_i n
    exact ⟨fun z => n (Or.inl z), fun i e => n (Or.inr ⟨i, e⟩), h⟩
theorem vw_mk (h : ¬ Z b) (h1 : ∀ i, A i ≠ some b) (h2 : H b = some o) : vw Z A H b = some o := by
  unfold vw
  rw [if_neg]
  · exact h2
  · rintro (z | ⟨i, e⟩)
    · exact h z
    · exact h1 i e
theorem vw_sub : Same (vw Z A H) H := fun b o e => (vw_some e).2.2
theorem vw_up (S : Same H H') : Same (vw Z A H) (vw Z A H') := fun b o e => by
  obtain ⟨h1, h2, h3⟩ := vw_some e
  exact vw_mk h1 h2 (S _ _ h3)
/-- fewer owned: more is seen -/
theorem vw_less (h : ∀ i a, A' i = some a → ∃ j, A j = some a) : Same (vw Z A H) (vw Z A' H) := fun b o e => by
  obtain ⟨h1, h2, h3⟩ := vw_some e
  exact vw_mk h1 (fun i z => let ⟨j, q⟩ := h i b z; h2 j q) h3
/-- what is owned changes -/
theorem vw_mut {a : Addr} {i : Nat} (h : A i = some a) : vw Z A (upd H a o) = vw Z A H := by
  funext b
  unfold vw
  split
  · rfl
  · rename_i n
    have : b ≠ a := fun e => n (Or.inr ⟨i, by rw [e]; exact h⟩)
    rw [upd_ne this]
end
def ArOk (W : Hp) (v : V) : Sl → Prop
  | .d x => Dn W v x
  | .p P => P.P v W
  | _ => False
def ArAll (W : Hp) : List V → List Sl → Prop
  | [], [] => True
  | v :: vs, s :: ss => ArOk W v s ∧ ArAll W vs ss
  | _, _ => False
theorem ArOk.mono {W W' : Hp} (S : Same W W') {v : V} : ∀ {s : Sl}, ArOk W v s → ArOk W' v s
  | .d _, h => Dn.mono S h
  | .p P, h => P.mono S h
  | .un, h | .any, h | .l _, h | .la _ _, h | .wa _ _, h => h.elim
theorem ArAll.mono {W W' : Hp} (S : Same W W') : ∀ {vs : List V} {ss : List Sl}, ArAll W vs ss → ArAll W' vs ss
  | [], [], _ => trivial
  | _ :: _, _ :: _, h => ⟨h.1.mono S, ArAll.mono S h.2⟩
  | [], _ :: _, h => h.elim
  | _ :: _, [], h => h.elim
theorem ArAll.length {W : Hp} : ∀ {vs : List V} {ss : List Sl}, ArAll W vs ss → vs.length = ss.length
  | [], [], _ => rfl
  | _ :: _, _ :: _, h => congrArg (· + 1) (ArAll.length h.2)
  | [], _ :: _, h => h.elim
  | _ :: _, [], h => h.elim
theorem ArAll.append {W : Hp} : ∀ {vs ws : List V} {ss ts : List Sl}, ArAll W vs ss → ArAll W ws ts → ArAll W (vs ++ ws) (ss ++ ts)
  | [], _, [], _, _, g => g
  | _ :: _, _, _ :: _, _, h, g => ⟨h.1, ArAll.append h.2 g⟩
  | [], _, _ :: _, _, h, _ => h.elim
  | _ :: _, _, [], _, h, _ => h.elim
theorem arAll_d {W : Hp} : ∀ {vs : List V} {xs : List PyData}, DnAll W vs xs → ArAll W vs (xs.map Sl.d)
  | _, _, .nil => trivial
  | _, _, .cons h t => ⟨h, arAll_d t⟩
def SlOk (W H : Hp) (u : Option (Option V)) (o : Option Addr) : Sl → Prop
  | .un => u = some none ∧ o = none
  | .any => o = none
  | .d x => o = none ∧ ∃ v, u = some (some v) ∧ Dn W v x
  | .l xs => ∃ a vs, o = some a ∧ u = some (some (.ref a)) ∧ H a = some (.lst vs) ∧ DnAll W vs xs
  | .p P => o = none ∧ ∃ v, u = some (some v) ∧ P.P v W
  | .la a xs => ∃ vs, o = some a ∧ u = some (some (.ref a)) ∧ H a = some (.lst vs) ∧ DnAll W vs xs
  | .wa a xs => ∃ vs, o = some a ∧ H a = some (.lst vs) ∧ DnAll W vs xs
theorem SlOk.mono {W W' H H' : Hp} {u : Option (Option V)} {o : Option Addr} (S : Same W W') (k : ∀ a vs, o = some a → H a = some (.lst vs) → H' a = some (.lst vs)) : ∀ {s : Sl}, SlOk W H u o s → SlOk W' H' u o s
  | .un, h => h
  | .any, h => h
  | .d _, ⟨h, v, e, r⟩ => ⟨h, v, e, Dn.mono S r⟩
  | .l _, ⟨a, vs, e, e1, e2, r⟩ => ⟨a, vs, e, e1, k a vs e e2, DnAll.mono S r⟩
  | .p P, ⟨h, v, e, r⟩ => ⟨h, v, e, P.mono S r⟩
  | .la a _, ⟨vs, e, e1, e2, r⟩ => ⟨vs, e, e1, k a vs e e2, DnAll.mono S r⟩
  | .wa a _, ⟨vs, e, e2, r⟩ => ⟨vs, e, k a vs e e2, DnAll.mono S r⟩
/-- what belongs to others: Z, as it stands in G; F: what was there when the def began; B: the list of its first slot is the caller's -/
structure Fr where
  Z : Addr → Prop
  B : Option Addr
  G : Hp
  F : Hp
structure Rp (c : Fr) (A : Am) (ρ : List Sl) (σ : L2.St) (H : Hp) : Prop where
  len : σ.length = ρ.length
  sz : ρ.length < fl
  inj : ∀ i j a, A i = some a → A j = some a → i = j
  off : ∀ i a, A i = some a → ¬ c.Z a
  live : ∀ i a, A i = some a → H a ≠ none
  keep : ∀ a, c.Z a → c.G a ≠ none ∧ H a = c.G a
  old : Same c.F (vw c.Z A H)
  bor : ∀ p, c.B = some p → A 0 = some p
  sl : ∀ i s, ρ[i]? = some s → SlOk (vw c.Z A H) H σ[i]? (A i) s
section
variable {c : Fr} {A A' : Am} {ρ ρ' : List Sl} {σ : L2.St} {H H' : Hp}
theorem Rp.up (R : Rp c A ρ σ H) (S : Same H H') : Rp c A ρ σ H' where
  len := R.len
  sz := R.sz
  inj := R.inj
  off := R.off
  live i a e := by
    obtain ⟨o, h⟩ := Option.ne_none_iff_exists'.mp (R.live i a e)
    rw [S _ _ h]
    simp
  keep a z := by
    obtain ⟨h1, h2⟩ := R.keep a z
    refine ⟨h1, ?_⟩
    obtain ⟨o, h⟩ := Option.ne_none_iff_exists'.mp h1
    rw [h] at h2 ⊢
    exact S _ _ h2
  old := R.old.trans (vw_up S)
  bor := R.bor
  sl i s e := (R.sl i s e).mono (vw_up S) fun a vs _ h => S _ _ h
/-- less is owned -/
theorem Rp.rel (R : Rp c A ρ σ H) (h : ∀ i a, A' i = some a → A i = some a) (h0 : A' 0 = A 0) (hs : ∀ i s, ρ[i]? = some s → A' i = A i) : Rp c A' ρ σ H where
  len := R.len
  sz := R.sz
  inj i j a e e' := R.inj i j a (h _ _ e) (h _ _ e')
  off i a e := R.off i a (h _ _ e)
  live i a e := R.live i a (h _ _ e)
  keep := R.keep
  old := R.old.trans (vw_less fun i a e => ⟨i, h _ _ e⟩)
  bor p e := by rw [h0]; exact R.bor p e
  sl i s e := by
    rw [hs i s e]
    exact (R.sl i s e).mono (vw_less fun i a e => ⟨i, h _ _ e⟩) fun a vs _ h => h
theorem idx_small (hρ : ρ.length < fl) {i : Nat} {s : Sl} (e : ρ[i]? = some s) : i ≠ fl := by
  have := (List.getElem?_eq_some_iff.mp e).1
  omega
theorem Rp.land (R : Rp c A ρ σ H) : Rp c (aset A fl none) ρ σ H := by
  refine R.rel (fun i a e => ?_) (aset_ne (by decide)) (fun i s e => aset_ne (idx_small R.sz e))
  by_cases q : i = fl
  · rw [q, aset_at] at e
    cases e
  · rw [aset_ne q] at e
    exact e
theorem vw_land {Z : Addr → Prop} {i : Nat} : Same (vw Z A H) (vw Z (aset A i none) H) := vw_less fun j a e => by
  by_cases q : j = i
  · rw [q, aset_at] at e
    cases e
  · rw [aset_ne q] at e
    exact ⟨j, e⟩
/-- a new list, not yet in a slot -/
theorem vw_fly {Z : Addr → Prop} {a : Addr} {o : HO} (n : H a = none) : Same (vw Z A H) (vw Z (aset A fl (some a)) (upd H a o)) := fun b u e => by
  obtain ⟨h1, h2, h3⟩ := vw_some e
  have nb : b ≠ a := ne_of_none h3 n
  refine vw_mk h1 (fun i z => ?_) (by rw [upd_ne nb]; exact h3)
  by_cases q : i = fl
  · rw [q, aset_at] at z
    exact nb (Option.some.inj z).symm
  · rw [aset_ne q] at z
    exact h2 i z
theorem Rp.fly (R : Rp c A ρ σ H) {a : Addr} {o : HO} (n : H a = none) : Rp c (aset A fl (some a)) ρ σ (upd H a o) where
  len := R.len
  sz := R.sz
  inj i j b e e' := by
    by_cases q : i = fl
    · by_cases q' : j = fl
      · rw [q, q']
      · rw [q, aset_at] at e
        rw [aset_ne q'] at e'
        cases e
        exact absurd n (R.live _ _ e')
    · rw [aset_ne q] at e
      by_cases q' : j = fl
      · rw [q', aset_at] at e'
        cases e'
        exact absurd n (R.live _ _ e)
      · rw [aset_ne q'] at e'
        exact R.inj _ _ _ e e'
  off i b e z := by
    by_cases q : i = fl
    · rw [q, aset_at] at e
      cases e
      obtain ⟨h1, h2⟩ := R.keep _ z
      rw [n] at h2
      exact h1 h2.symm
    · rw [aset_ne q] at e
      exact R.off _ _ e z
  live i b e := by
    by_cases q : b = a
    · rw [q, upd_same]
      simp
    · rw [upd_ne q]
      by_cases q' : i = fl
      · rw [q', aset_at] at e
        exact absurd (Option.some.inj e).symm q
      · rw [aset_ne q'] at e
        exact R.live _ _ e
  keep b z := by
    obtain ⟨h1, h2⟩ := R.keep b z
    have nb : b ≠ a := fun e => by
      rw [e, n] at h2
      rw [e] at h1
      exact h1 h2.symm
    exact ⟨h1, by rw [upd_ne nb]; exact h2⟩
  old := R.old.trans (vw_fly n)
  bor p e := by rw [aset_ne (by decide)]; exact R.bor p e
  sl i s e := by
    rw [aset_ne (idx_small R.sz e)]
    exact (R.sl i s e).mono (vw_fly n) fun b vs _ h => by rw [upd_ne (ne_of_none h n)]; exact h
/-- a slot gets a value that isn't owned -/
theorem Rp.set (R : Rp c A ρ σ H) {i : Nat} {v : V} {s : Sl} (i0 : i ≠ 0) (h : SlOk (vw c.Z A H) H (some (some v)) none s) : Rp c (aset A i none) (ρ.set i s) (σ.set i (some v)) H where
  len := by rw [List.length_set, List.length_set, R.len]
  sz := by rw [List.length_set]; exact R.sz
  inj k j a e e' := by
    by_cases q : k = i
    · rw [q, aset_at] at e
      cases e
    · by_cases q' : j = i
      · rw [q', aset_at] at e'
        cases e'
      · rw [aset_ne q] at e
        rw [aset_ne q'] at e'
        exact R.inj _ _ _ e e'
  off k a e := by
    by_cases q : k = i
    · rw [q, aset_at] at e
      cases e
    · rw [aset_ne q] at e
      exact R.off _ _ e
  live k a e := by
    by_cases q : k = i
    · rw [q, aset_at] at e
      cases e
    · rw [aset_ne q] at e
      exact R.live _ _ e
  keep := R.keep
  old := R.old.trans vw_land
  bor p e := by rw [aset_ne i0.symm]; exact R.bor p e
  sl j t e := by
    by_cases q : j = i
    · subst q
      rw [aset_at]
      have lt := (List.getElem?_eq_some_iff.mp e).1
      rw [List.length_set] at lt
      rw [List.getElem?_set_self (by rw [R.len]; exact lt)]
      rw [List.getElem?_set_self lt] at e
      cases e
      exact h.mono vw_land fun _ _ z _ => by cases z
    · rw [List.getElem?_set_ne (Ne.symm q)] at e ⊢
      rw [aset_ne q]
      exact (R.sl j t e).mono vw_land fun _ _ _ z => z
/-- a slot gets the new list -/
theorem Rp.setL (R : Rp c A ρ σ H) {i : Nat} {a : Addr} {vs : List V} {xs : List PyData} (i0 : i ≠ 0) (hi : i < ρ.length) (e : A fl = some a) (ha : H a = some (.lst vs)) (dx : DnAll (vw c.Z A H) vs xs) : Rp c (aset (aset A i (some a)) fl none) (ρ.set i (.l xs)) (σ.set i (some (.ref a))) H := by
  have ne : i ≠ fl := by have := R.sz; omega
  have back : ∀ j b, aset (aset A i (some a)) fl none j = some b → (j = i ∧ b = a) ∨ (j ≠ i ∧ j ≠ fl ∧ A j = some b) := fun j b z => by
    by_cases q : j = fl
    · rw [q, aset_at] at z
      cases z
    · rw [aset_ne q] at z
      by_cases q' : j = i
      · rw [q', aset_at] at z
        exact Or.inl ⟨q', (Option.some.inj z).symm⟩
      · rw [aset_ne q'] at z
        exact Or.inr ⟨q', q, z⟩
  have more : Same (vw c.Z A H) (vw c.Z (aset (aset A i (some a)) fl none) H) := vw_less fun j b z => by
    rcases back j b z with ⟨_, rfl⟩ | ⟨_, _, z⟩
    · exact ⟨_, e⟩
    · exact ⟨_, z⟩
  refine ⟨by rw [List.length_set, List.length_set, R.len], by rw [List.length_set]; exact R.sz, ?_, ?_, ?_, R.keep, R.old.trans more, ?_, ?_⟩
  · intro k j b z z'
    rcases back k b z with ⟨q1, q2⟩ | ⟨n1, n2, y⟩
    · rcases back j _ z' with ⟨q3, _⟩ | ⟨n3, n4, y'⟩
      · rw [q1, q3]
      · exact absurd (R.inj _ _ _ (q2 ▸ y') e) n4
    · rcases back j b z' with ⟨q3, q4⟩ | ⟨n3, n4, y'⟩
      · exact absurd (R.inj _ _ _ (q4 ▸ y) e) n2
      · exact R.inj _ _ _ y y'
  · intro j b z
    rcases back j b z with ⟨rfl, rfl⟩ | ⟨n1, n2, z⟩
    · exact R.off _ _ e
    · exact R.off _ _ z
  · intro j b z
    rcases back j b z with ⟨rfl, rfl⟩ | ⟨n1, n2, z⟩
    · exact R.live _ _ e
    · exact R.live _ _ z
  · intro p q
    rw [aset_ne (by decide), aset_ne i0.symm]
    exact R.bor p q
  · intro j t z
    by_cases q : j = i
    · subst q
      rw [aset_ne ne, aset_at]
      rw [List.getElem?_set_self (by rw [R.len]; exact hi)]
      rw [List.getElem?_set_self hi] at z
      cases z
      exact ⟨a, vs, rfl, rfl, ha, DnAll.mono more dx⟩
    · rw [List.getElem?_set_ne (Ne.symm q)] at z ⊢
      rw [aset_ne (idx_small R.sz z), aset_ne q]
      exact (R.sl j t z).mono more fun _ _ _ h => h
/-- an owned list changes -/
theorem Rp.mut (R : Rp c A ρ σ H) {i : Nat} {a : Addr} {vs : List V} {xs ys : List PyData} (h : ρ[i]? = some (.l ys)) (e : A i = some a) (dx : DnAll (vw c.Z A H) vs xs) : Rp c A (ρ.set i (.l xs)) σ (upd H a (.lst vs)) := by
  have hv : vw c.Z A (upd H a (.lst vs)) = vw c.Z A H := vw_mut e
  refine ⟨by rw [List.length_set, R.len], by rw [List.length_set]; exact R.sz, R.inj, R.off, ?_, ?_, ?_, R.bor, ?_⟩
  · intro j b z
    by_cases q : b = a
    · rw [q, upd_same]
      simp
    · rw [upd_ne q]
      exact R.live _ _ z
  · intro b z
    have nb : b ≠ a := fun q => R.off _ _ e (q ▸ z)
    rw [upd_ne nb]
    exact R.keep b z
  · rw [hv]
    exact R.old
  · intro j t z
    rw [hv]
    by_cases q : j = i
    · subst q
      have lt := (List.getElem?_eq_some_iff.mp h).1
      rw [List.getElem?_set_self lt] at z
      cases z
      obtain ⟨a', vs', e1, e2, e3, _⟩ := R.sl j _ h
      rw [e] at e1
      cases e1
      exact ⟨a, vs, e, e2, upd_same, dx⟩
    · rw [List.getElem?_set_ne (Ne.symm q)] at z
      refine (R.sl j t z).mono (Same.refl _) fun b ws e' hb => ?_
      have nb : b ≠ a := fun eb => q (R.inj _ _ _ e' (eb ▸ e))
      rw [upd_ne nb]
      exact hb
/-- an owned list is given away: it is data from then on -/
theorem Rp.freeze (R : Rp c A ρ σ H) {i : Nat} {xs : List PyData} (i0 : i ≠ 0) (h : ρ[i]? = some (.l xs)) : ∃ a, A i = some a ∧ σ[i]? = some (some (.ref a)) ∧ Dn (vw c.Z (aset A i none) H) (.ref a) (.list xs) ∧ Rp c (aset A i none) (ρ.set i (.d (.list xs))) σ H := by
  obtain ⟨a, vs, e, e1, e2, dx⟩ := R.sl i _ h
  have nf : vw c.Z (aset A i none) H a = some (.lst vs) := vw_mk (R.off _ _ e) (fun j z => by
    by_cases q : j = i
    · rw [q, aset_at] at z
      cases z
    · rw [aset_ne q] at z
      exact q (R.inj _ _ _ z e)) e2
  have dn : Dn (vw c.Z (aset A i none) H) (.ref a) (.list xs) := .lst nf (DnAll.mono vw_land dx)
  refine ⟨a, e, e1, dn, ?_⟩
  refine ⟨by rw [List.length_set, R.len], by rw [List.length_set]; exact R.sz, ?_, ?_, ?_, R.keep, R.old.trans vw_land, ?_, ?_⟩
  · intro k j b z z'
    by_cases q : k = i
    · rw [q, aset_at] at z
      cases z
    · by_cases q' : j = i
      · rw [q', aset_at] at z'
        cases z'
      · rw [aset_ne q] at z
        rw [aset_ne q'] at z'
        exact R.inj _ _ _ z z'
  · intro k b z
    by_cases q : k = i
    · rw [q, aset_at] at z
      cases z
    · rw [aset_ne q] at z
      exact R.off _ _ z
  · intro k b z
    by_cases q : k = i
    · rw [q, aset_at] at z
      cases z
    · rw [aset_ne q] at z
      exact R.live _ _ z
  · intro p z
    rw [aset_ne i0.symm]
    exact R.bor p z
  · intro j t z
    by_cases q : j = i
    · subst q
      have lt := (List.getElem?_eq_some_iff.mp h).1
      rw [List.getElem?_set_self lt] at z
      cases z
      rw [aset_at]
      exact ⟨rfl, _, e1, dn⟩
    · rw [List.getElem?_set_ne (Ne.symm q)] at z
      rw [aset_ne q]
      exact (R.sl j t z).mono vw_land fun _ _ _ h => h
end
end OW
set_option Elab.async false
set_option linter.unusedVariables false
set_option maxRecDepth 100000
set_option maxHeartbeats 1000000
namespace OW
open PySem PySem.Spec PyProof.Rows L2 KA
/-! ### what an expression gives: s (data, or else), a new list, arguments, a truth -/
def Ev (te : TE) (ρ : List Sl) (s : Sl) (ρ' : List Sl) : Prop := ∀ (c : Fr) (A : Am) (σ : L2.St) (H : Hp) (Q : VK), Rp c A ρ σ H → A fl = none →
  (∀ v A' H', Rp c A' ρ' σ H' → A' fl = none → Same (vw c.Z A H) (vw c.Z A' H') → ArOk (vw c.Z A' H') v s → Q v H') → te σ H Q
def El (te : TE) (ρ : List Sl) (xs : List PyData) (ρ' : List Sl) : Prop := ∀ (c : Fr) (A : Am) (σ : L2.St) (H : Hp) (Q : VK), Rp c A ρ σ H → A fl = none →
  (∀ a vs A' H', Rp c A' ρ' σ H' → A' fl = some a → Same (vw c.Z A H) (vw c.Z A' H') → H' a = some (.lst vs) → DnAll (vw c.Z A' H') vs xs → Q (.ref a) H') → te σ H Q
def Es (ta : TA) (ρ : List Sl) (ss : List Sl) (ρ' : List Sl) : Prop := ∀ (c : Fr) (A : Am) (σ : L2.St) (H : Hp) (Q : List V → Hp → Prop), Rp c A ρ σ H → A fl = none →
  (∀ vs A' H', Rp c A' ρ' σ H' → A' fl = none → Same (vw c.Z A H) (vw c.Z A' H') → ArAll (vw c.Z A' H') vs ss → Q vs H') → ta σ H Q
def Eds (ta : TA) (ρ : List Sl) (xs : List PyData) (ρ' : List Sl) : Prop := ∀ (c : Fr) (A : Am) (σ : L2.St) (H : Hp) (Q : List V → Hp → Prop), Rp c A ρ σ H → A fl = none →
  (∀ vs A' H', Rp c A' ρ' σ H' → A' fl = none → Same (vw c.Z A H) (vw c.Z A' H') → DnAll (vw c.Z A' H') vs xs → Q vs H') → ta σ H Q
def Et (tt : TT) (ρ : List Sl) (b : Bool) (ρ' : List Sl) : Prop := ∀ (c : Fr) (A : Am) (σ : L2.St) (H : Hp) (Q : Bool → Hp → Prop), Rp c A ρ σ H → A fl = none →
  (∀ A' H', Rp c A' ρ' σ H' → A' fl = none → Same (vw c.Z A H) (vw c.Z A' H') → Q b H') → tt σ H Q
def Eo (to : TO) (ρ : List Sl) (o : Option Int) (ρ' : List Sl) : Prop := ∀ (c : Fr) (A : Am) (σ : L2.St) (H : Hp) (Q : Option Int → Hp → Prop), Rp c A ρ σ H → A fl = none →
  (∀ A' H', Rp c A' ρ' σ H' → A' fl = none → Same (vw c.Z A H) (vw c.Z A' H') → Q o H') → to σ H Q
section
variable {ρ ρ' ρ1 ρ2 ρ3 : List Sl} {te ta tb tu : TE} {s s' : Sl} {x y z : PyData} {i : Nat} {tr : TA} {xs ys : List PyData} {ss : List Sl}
theorem new_view {c : Fr} {A : Am} {σ : L2.St} {H H' : Hp} (R : Rp c A ρ σ H) {b : Addr} {o : HO} (n : H b = none) (e : H' b = some o) : vw c.Z A H' b = some o := by
  refine vw_mk (fun z => ?_) (fun i z => ?_) e
  · obtain ⟨h1, h2⟩ := R.keep _ z
    rw [n] at h2
    exact h1 h2.symm
  · exact R.live _ _ z n
theorem ev_c {v : V} (h : ∀ W, ArOk W v s) : Ev (tC v) ρ s ρ := fun c A σ H Q R f q => q v A H R f (Same.refl _) (h _)
theorem ev_int {n : Int} : Ev (tC (.int n)) ρ (.d (.int n)) ρ := ev_c fun _ => .int n
theorem ev_str {n : Str} : Ev (tC (.str n)) ρ (.d (.str n)) ρ := ev_c fun _ => .str n
theorem ev_bl {n : Bool} : Ev (tC (.bl n)) ρ (.d (.bool n)) ρ := ev_c fun _ => .bl n
theorem ev_non : Ev (tC .non) ρ (.d .none) ρ := ev_c fun _ => .non
theorem ev_var (h : ρ[i]? = some (.d x)) : Ev (tVar i) ρ (.d x) ρ := fun c A σ H Q R f q => by
  obtain ⟨_, v, e, dn⟩ := R.sl i _ h
  exact ⟨v, e, q v A H R f (Same.refl _) dn⟩
theorem ev_varp {P : Mo} (h : ρ[i]? = some (.p P)) : Ev (tVar i) ρ (.p P) ρ := fun c A σ H Q R f q => by
  obtain ⟨_, v, e, dn⟩ := R.sl i _ h
  exact ⟨v, e, q v A H R f (Same.refl _) dn⟩
/-- the list goes out of its slot -/
theorem ev_varF (h : ρ[i]? = some (.l xs)) (i0 : i ≠ 0 := by decide) : Ev (tVar i) ρ (.d (.list xs)) (ρ.set i (.d (.list xs))) := fun c A σ H Q R f q => by
  obtain ⟨a, e, e1, dn, R'⟩ := R.freeze i0 h
  have nf : fl ≠ i := (idx_small R.sz h).symm
  exact ⟨_, e1, q _ _ H R' (by rw [aset_ne nf]; exact f) vw_land dn⟩
theorem Ev.of_el (h : El te ρ xs ρ') : Ev te ρ (.d (.list xs)) ρ' := fun c A σ H Q R f q => h c A σ H Q R f fun a vs A' H' R' f' S e dx => by
  refine q _ _ _ R'.land aset_at (S.trans vw_land) (.lst (vw_mk (R'.off _ _ f') (fun j z => ?_) e) (DnAll.mono vw_land dx))
  by_cases j' : j = fl
  · rw [j', aset_at] at z
    cases z
  · rw [aset_ne j'] at z
    exact j' (R'.inj _ _ _ z f')
theorem es_nil : Es tNil ρ [] ρ := fun c A σ H Q R f q => q [] A H R f (Same.refl _) trivial
theorem es_cons (h : Ev te ρ s ρ1) (g : Es tr ρ1 ss ρ2) : Es (tCons te tr) ρ (s :: ss) ρ2 := fun c A σ H Q R f q =>
  h c A σ H _ R f fun v A1 H1 R1 f1 S1 o1 => g c A1 σ H1 _ R1 f1 fun vs A2 H2 R2 f2 S2 o2 => q _ A2 H2 R2 f2 (S1.trans S2) ⟨o1.mono S2, o2⟩
theorem eds_nil : Eds tNil ρ [] ρ := fun c A σ H Q R f q => q [] A H R f (Same.refl _) .nil
theorem eds_cons (h : Ev te ρ (.d x) ρ1) (g : Eds tr ρ1 xs ρ2) : Eds (tCons te tr) ρ (x :: xs) ρ2 := fun c A σ H Q R f q =>
  h c A σ H _ R f fun v A1 H1 R1 f1 S1 o1 => g c A1 σ H1 _ R1 f1 fun vs A2 H2 R2 f2 S2 o2 => q _ A2 H2 R2 f2 (S1.trans S2) (.cons (Dn.mono S2 o1) o2)
theorem ev_tup (h : Eds tr ρ xs ρ') (len : xs.length ≤ sizeLine := by simp [sizeLine_eq]) : Ev (tTup tr) ρ (.d (.tuple xs)) ρ' := fun c A σ H Q R f q =>
  h c A σ H _ R f fun vs A1 H1 R1 f1 S1 o1 => ⟨by rw [o1.length]; exact len, fun a ha =>
    q _ A1 _ (R1.up (Same.new ha)) f1 (S1.trans (vw_up (Same.new ha))) (.tup (new_view R1 ha upd_same) (DnAll.mono (vw_up (Same.new ha)) o1))⟩
theorem el_lst (h : Eds tr ρ xs ρ') (len : xs.length ≤ sizeLine := by simp [sizeLine_eq]) : El (tLst tr) ρ xs ρ' := fun c A σ H Q R f q =>
  h c A σ H _ R f fun vs A1 H1 R1 f1 S1 o1 => ⟨by rw [o1.length]; exact len, fun a ha =>
    q a vs _ _ (R1.fly ha) aset_at (S1.trans (vw_fly ha)) upd_same (DnAll.mono (vw_fly ha) o1)⟩
/-! ### a function of values: of the things ss it gives s; a new list -/
def FV (r : List V → Hp → VK → Prop) (ss : List Sl) (s : Sl) : Prop := ∀ (W H : Hp) (vs : List V) (Q : VK), Same W H → ArAll W vs ss →
  (∀ u H', Same H H' → (∀ W', Same W W' → (∀ b o, H b = none → H' b = some o → W' b = some o) → ArOk W' u s) → Q u H') → r vs H Q
def FL (r : List V → Hp → VK → Prop) (ss : List Sl) (xs : List PyData) : Prop := ∀ (W H : Hp) (vs : List V) (Q : VK), Same W H → ArAll W vs ss →
  (∀ a us, H a = none → DnAll W us xs → Q (.ref a) (upd H a (.lst us))) → r vs H Q
def FV2 (r : R2) (s s' t : Sl) : Prop := ∀ (W H : Hp) (v w : V) (Q : VK), Same W H → ArOk W v s → ArOk W w s' →
  (∀ u H', Same H H' → (∀ W', Same W W' → (∀ b o, H b = none → H' b = some o → W' b = some o) → ArOk W' u t) → Q u H') → r v w H Q
def FL2 (r : R2) (s s' : Sl) (xs : List PyData) : Prop := ∀ (W H : Hp) (v w : V) (Q : VK), Same W H → ArOk W v s → ArOk W w s' →
  (∀ a us, H a = none → DnAll W us xs → Q (.ref a) (upd H a (.lst us))) → r v w H Q
theorem ev_fn {r : List V → Hp → VK → Prop} (h : Es tr ρ ss ρ') (g : FV r ss s) : Ev (tCB r tr) ρ s ρ' := fun c A σ H Q R f q =>
  h c A σ H _ R f fun vs A1 H1 R1 f1 S1 o1 => g _ H1 vs Q vw_sub o1 fun u H2 S2 o2 =>
    q u A1 H2 (R1.up S2) f1 (S1.trans (vw_up S2)) (o2 _ (vw_up S2) fun b o n e => new_view R1 n e)
theorem el_fn {r : List V → Hp → VK → Prop} (h : Es tr ρ ss ρ') (g : FL r ss xs) : El (tCB r tr) ρ xs ρ' := fun c A σ H Q R f q =>
  h c A σ H _ R f fun vs A1 H1 R1 f1 S1 o1 => g _ H1 vs Q vw_sub o1 fun a us n dx =>
    q a us _ _ (R1.fly n) aset_at (S1.trans (vw_fly n)) upd_same (DnAll.mono (vw_fly n) dx)
theorem ev_op {r : R2} {t : Sl} (h : Ev ta ρ s ρ1) (h' : Ev tb ρ1 s' ρ2) (g : FV2 r s s' t) : Ev (tOp r ta tb) ρ t ρ2 := fun c A σ H Q R f q =>
  h c A σ H _ R f fun v A1 H1 R1 f1 S1 o1 => h' c A1 σ H1 _ R1 f1 fun w A2 H2 R2 f2 S2 o2 => g _ H2 v w Q vw_sub (o1.mono S2) o2 fun u H3 S3 o3 =>
    q u A2 H3 (R2.up S3) f2 ((S1.trans S2).trans (vw_up S3)) (o3 _ (vw_up S3) fun b o n e => new_view R2 n e)
theorem el_op {r : R2} (h : Ev ta ρ s ρ1) (h' : Ev tb ρ1 s' ρ2) (g : FL2 r s s' xs) : El (tOp r ta tb) ρ xs ρ2 := fun c A σ H Q R f q =>
  h c A σ H _ R f fun v A1 H1 R1 f1 S1 o1 => h' c A1 σ H1 _ R1 f1 fun w A2 H2 R2 f2 S2 o2 => g _ H2 v w Q vw_sub (o1.mono S2) o2 fun a us n dx =>
    q a us _ _ (R2.fly n) aset_at ((S1.trans S2).trans (vw_fly n)) upd_same (DnAll.mono (vw_fly n) dx)
theorem Ev.is (h : Ev te ρ (.d x) ρ') (e : x = y) : Ev te ρ (.d y) ρ' := e ▸ h
theorem Et.is {tt : TT} {b b' : Bool} (h : Et tt ρ b ρ') (e : b = b') : Et tt ρ b' ρ' := e ▸ h
theorem El.is (h : El te ρ xs ρ') (e : xs = ys) : El te ρ ys ρ' := e ▸ h
/-! tests -/
theorem bool_v {W : Hp} {v : V} {b : Bool} (h : ArOk W v (.d (.bool b))) : v = .bl b := by
  cases h
  rfl
theorem int_v {W : Hp} {v : V} {n : Int} (h : ArOk W v (.d (.int n))) : v = .int n := by
  cases h
  rfl
theorem str_v {W : Hp} {v : V} {n : Str} (h : ArOk W v (.d (.str n))) : v = .str n := by
  cases h
  rfl
theorem non_v {W : Hp} {v : V} (h : ArOk W v (.d .none)) : v = .non := by
  cases h
  rfl
theorem tup_v {W : Hp} {v : V} {ds : List PyData} (h : ArOk W v (.d (.tuple ds))) : ∃ a vs, v = .ref a ∧ W a = some (.tup vs) ∧ DnAll W vs ds := by
  cases h with
  | tup e r => exact ⟨_, _, rfl, e, r⟩
theorem lst_v {W : Hp} {v : V} {ds : List PyData} (h : ArOk W v (.d (.list ds))) : ∃ a vs, v = .ref a ∧ W a = some (.lst vs) ∧ DnAll W vs ds := by
  cases h with
  | lst e r => exact ⟨_, _, rfl, e, r⟩
theorem et_test {b : Bool} (h : Ev te ρ (.d (.bool b)) ρ') : Et (tTest te) ρ b ρ' := fun c A σ H Q R f q =>
  h c A σ H _ R f fun v A1 H1 R1 f1 S1 o1 => ⟨b, bool_v o1, q A1 H1 R1 f1 S1⟩
theorem et_B {b : Bool} (h : Ev te ρ (.d (.bool b)) ρ') : Et (tB te) ρ b ρ' := fun c A σ H Q R f q =>
  h c A σ H _ R f fun v A1 H1 R1 f1 S1 o1 => ⟨b, bool_v o1, q A1 H1 R1 f1 S1⟩
theorem et_not {tt : TT} {b : Bool} (h : Et tt ρ b ρ') : Et (tNot tt) ρ (!b) ρ' := fun c A σ H Q R f q => h c A σ H _ R f q
/-- b isn't asked where a is false: then all stays as a leaves it -/
theorem et_and {t u : TT} {a b : Bool} (h : Et t ρ a ρ1) (g : a = true → Et u ρ1 b ρ2) (hn : a = false → ρ2 = ρ1 := by intros; rfl) : Et (tAnd t u) ρ (a && b) ρ2 := fun c A σ H Q R f q =>
  h c A σ H _ R f fun A1 H1 R1 f1 S1 => by
    cases a with
    | true => exact g rfl c A1 σ H1 _ R1 f1 fun A2 H2 R2 f2 S2 => q A2 H2 R2 f2 (S1.trans S2)
    | false => exact q A1 H1 (by rw [hn rfl]; exact R1) f1 S1
theorem et_or {t u : TT} {a b : Bool} (h : Et t ρ a ρ1) (g : a = false → Et u ρ1 b ρ2) (hn : a = true → ρ2 = ρ1 := by intros; rfl) : Et (tOr t u) ρ (a || b) ρ2 := fun c A σ H Q R f q =>
  h c A σ H _ R f fun A1 H1 R1 f1 S1 => by
    cases a with
    | false => exact g rfl c A1 σ H1 _ R1 f1 fun A2 H2 R2 f2 S2 => q A2 H2 R2 f2 (S1.trans S2)
    | true => exact q A1 H1 (by rw [hn rfl]; exact R1) f1 S1
theorem ev_andV {a b : Bool} (h : Ev ta ρ (.d (.bool a)) ρ1) (g : a = true → Ev tb ρ1 (.d (.bool b)) ρ2) (hn : a = false → ρ2 = ρ1 := by intros; rfl) : Ev (tAndV ta tb) ρ (.d (.bool (a && b))) ρ2 := fun c A σ H Q R f q =>
  h c A σ H _ R f fun v A1 H1 R1 f1 S1 o1 => ⟨a, bool_v o1, by
    cases a with
    | true => exact g rfl c A1 σ H1 _ R1 f1 fun v A2 H2 R2 f2 S2 o2 => q v A2 H2 R2 f2 (S1.trans S2) o2
    | false => exact q _ A1 H1 (by rw [hn rfl]; exact R1) f1 S1 (.bl false)⟩
theorem ev_orV {a b : Bool} (h : Ev ta ρ (.d (.bool a)) ρ1) (g : a = false → Ev tb ρ1 (.d (.bool b)) ρ2) (hn : a = true → ρ2 = ρ1 := by intros; rfl) : Ev (tOrV ta tb) ρ (.d (.bool (a || b))) ρ2 := fun c A σ H Q R f q =>
  h c A σ H _ R f fun v A1 H1 R1 f1 S1 o1 => ⟨a, bool_v o1, by
    cases a with
    | false => exact g rfl c A1 σ H1 _ R1 f1 fun v A2 H2 R2 f2 S2 o2 => q v A2 H2 R2 f2 (S1.trans S2) o2
    | true => exact q _ A1 H1 (by rw [hn rfl]; exact R1) f1 S1 (.bl true)⟩
theorem ev_notV {a : Bool} (h : Ev ta ρ (.d (.bool a)) ρ1) : Ev (tNotV ta) ρ (.d (.bool (!a))) ρ1 := fun c A σ H Q R f q =>
  h c A σ H _ R f fun v A1 H1 R1 f1 S1 o1 => ⟨a, bool_v o1, q _ A1 H1 R1 f1 S1 (.bl _)⟩
theorem ev_if {t : TT} {b : Bool} (h : Et t ρ b ρ1) (h1 : b = true → Ev ta ρ1 s ρ2) (h2 : b = false → Ev tb ρ1 s ρ2) : Ev (tIf t ta tb) ρ s ρ2 := fun c A σ H Q R f q =>
  h c A σ H _ R f fun A1 H1 R1 f1 S1 => by
    cases b with
    | true => exact h1 rfl c A1 σ H1 _ R1 f1 fun v A2 H2 R2 f2 S2 o2 => q v A2 H2 R2 f2 (S1.trans S2) o2
    | false => exact h2 rfl c A1 σ H1 _ R1 f1 fun v A2 H2 R2 f2 S2 o2 => q v A2 H2 R2 f2 (S1.trans S2) o2
theorem el_if {t : TT} {b : Bool} (h : Et t ρ b ρ1) (h1 : b = true → El ta ρ1 xs ρ2) (h2 : b = false → El tb ρ1 xs ρ2) : El (tIf t ta tb) ρ xs ρ2 := fun c A σ H Q R f q =>
  h c A σ H _ R f fun A1 H1 R1 f1 S1 => by
    cases b with
    | true => exact h1 rfl c A1 σ H1 _ R1 f1 fun a vs A2 H2 R2 f2 S2 => q a vs A2 H2 R2 f2 (S1.trans S2)
    | false => exact h2 rfl c A1 σ H1 _ R1 f1 fun a vs A2 H2 R2 f2 S2 => q a vs A2 H2 R2 f2 (S1.trans S2)
theorem eo_none : Eo tNoPart ρ none ρ := fun c A σ H Q R f q => q A H R f (Same.refl _)
theorem eo_some {n : Int} (h : Ev te ρ (.d (.int n)) ρ') : Eo (tPart te) ρ (some n) ρ' := fun c A σ H Q R f q =>
  h c A σ H _ R f fun v A1 H1 R1 f1 S1 o1 => ⟨n, int_v o1, q A1 H1 R1 f1 S1⟩
end
end OW
set_option Elab.async false
set_option linter.unusedVariables false
set_option maxRecDepth 100000
set_option maxHeartbeats 1000000
namespace OW
open PySem PySem.Spec PyProof.Rows L2 KA
/-! ### promises -/
noncomputable def hz (Z : Addr → Prop) (H : Hp) : Hp := vw Z (fun _ => none) H
theorem hz_some {Z : Addr → Prop} {H : Hp} {b : Addr} {o : HO} (h : hz Z H b = some o) : ¬ Z b ∧ H b = some o := ⟨(vw_some h).1, (vw_some h).2.2⟩
theorem hz_mk {Z : Addr → Prop} {H : Hp} {b : Addr} {o : HO} (h : ¬ Z b) (e : H b = some o) : hz Z H b = some o := vw_mk h (fun i z => by cases z) e
abbrev zz (Z : Addr → Prop) (A : Am) : Addr → Prop := fun b => Z b ∨ ∃ i, A i = some b
theorem hz_eq {Z : Addr → Prop} {A : Am} {H : Hp} : hz (zz Z A) H = vw Z A H := by
  funext b
  by_cases h : zz Z A b
  · have e1 : vw Z A H b = none := by unfold vw; rw [if_pos h]
    have e2 : hz (zz Z A) H b = none := by unfold hz vw; rw [if_pos (Or.inl h)]
    rw [e1, e2]
  · have e1 : vw Z A H b = H b := by unfold vw; rw [if_neg h]
    have e2 : hz (zz Z A) H b = H b := by
      unfold hz vw
      rw [if_neg]
      rintro (z | ⟨i, z⟩)
      · exact h z
      · cases z
    rw [e1, e2]
theorem vw_hz {Z : Addr → Prop} {A : Am} {H : Hp} : Same (vw Z A H) (hz Z H) := fun b o e => hz_mk (vw_some e).1 (vw_some e).2.2
inductive Rv where
  | d (x : PyData)
  | l (xs : List PyData)
  | p (P : Mo)
def RvOk (Z : Addr → Prop) (H H' : Hp) (v : V) : Rv → Prop
  | .d x => Dn (hz Z H') v x
  | .l xs => ∃ a vs, v = .ref a ∧ H a = none ∧ H' a = some (.lst vs) ∧ DnAll (hid a (hz Z H')) vs xs
  | .p P => P.P v (hz Z H')
def spD (n : Nat) (T : List Sl → (Rv → Prop) → Prop) : Sp := fun vs H Q _ => ∃ (Z : Addr → Prop) (as : List Sl) (K : Rv → Prop), (∀ a, Z a → H a ≠ none) ∧ ArAll (hz Z H) vs as ∧ as.length = n ∧ T as K ∧
  ∀ r v H', K r → Same H H' → RvOk Z H H' v r → Q v H'
def spB (n : Nat) (T : List PyData → List Sl → (Rv → List PyData → Prop) → Prop) : Sp := fun vs H Q _ => ∃ (Z : Addr → Prop) (p : Addr) (cs : List V) (c : List PyData) (ws : List V) (as : List Sl) (K : Rv → List PyData → Prop),
  vs = .ref p :: ws ∧ Z p ∧ (∀ a, Z a → H a ≠ none) ∧ H p = some (.lst cs) ∧ DnAll (hz Z H) cs c ∧ ArAll (hz Z H) ws as ∧ as.length = n ∧ T c as K ∧
  ∀ r c' cs' v H', K r c' → H' p = some (.lst cs') → DnAll (hz Z H') cs' c' → (∀ a, Z a → a ≠ p → H' a = H a) → Same (hz Z H) (hz Z H') → RvOk Z H H' v r → Q v H'
section
variable {c : Fr} {A : Am} {ρ ρ' ρ1 ρ2 : List Sl} {σ : L2.St} {H H' : Hp} {ta te : TE} {tr : TA} {x : PyData} {xs : List PyData} {s : Sl} {ss ds : List Sl} {i : Nat}
theorem vw_adopt {Z : Addr → Prop} {a : Addr} : Same (hid a (vw Z A H)) (vw Z (aset A fl (some a)) H) := fun b o e => by
  obtain ⟨n, e⟩ := hid_some e
  obtain ⟨h1, h2, h3⟩ := vw_some e
  refine vw_mk h1 (fun j z => ?_) h3
  by_cases q : j = fl
  · rw [q, aset_at] at z
    exact n (Option.some.inj z).symm
  · rw [aset_ne q] at z
    exact h2 j z
theorem Rp.adopt (R : Rp c A ρ σ H) (S : Same H H') {a : Addr} {o : HO} (n : H a = none) (e : H' a = some o) : Rp c (aset A fl (some a)) ρ σ H' := by
  have S1 : Same H (hid a H') := Same.to_hid S n
  have R1 := (R.up S1).fly (a := a) (o := o) hid_at
  have e1 : upd (hid a H') a o = H' := by
    funext b
    by_cases q : b = a
    · rw [q, upd_same, e]
    · rw [upd_ne q, hid_ne q]
  rw [e1] at R1
  exact R1
theorem ev_call {n : Nat} {T : List Sl → (Rv → Prop) → Prop} {dvs : List V} {E : XK} (h : Es tr ρ ss ρ') (hd : ∀ W, ArAll W dvs ds) (hn : (ss ++ ds).length = n) (g : T (ss ++ ds) fun r => r = .d x) : Ev (tCall (spD n T) dvs E tr) ρ (.d x) ρ' := fun c A σ H Q R f q =>
  h c A σ H _ R f fun vs A1 H1 R1 f1 S1 o1 => by
    refine ⟨zz c.Z A1, ss ++ ds, _, ?_, by rw [hz_eq]; exact o1.append (hd _), hn, g, fun r v H' hr S o => ?_⟩
    · rintro a (z | ⟨i, z⟩)
      · rw [(R1.keep a z).2]
        exact (R1.keep a z).1
      · exact R1.live _ _ z
    · subst hr
      have o : Dn (hz (zz c.Z A1) H') v x := o
      rw [hz_eq] at o
      exact q v A1 H' (R1.up S) f1 (S1.trans (vw_up S)) o
theorem evp_call {n : Nat} {T : List Sl → (Rv → Prop) → Prop} {dvs : List V} {E : XK} {P : Mo} (h : Es tr ρ ss ρ') (hd : ∀ W, ArAll W dvs ds) (hn : (ss ++ ds).length = n) (g : T (ss ++ ds) fun r => r = .p P) : Ev (tCall (spD n T) dvs E tr) ρ (.p P) ρ' := fun c A σ H Q R f q =>
  h c A σ H _ R f fun vs A1 H1 R1 f1 S1 o1 => by
    refine ⟨zz c.Z A1, ss ++ ds, _, ?_, by rw [hz_eq]; exact o1.append (hd _), hn, g, fun r v H' hr S o => ?_⟩
    · rintro a (z | ⟨i, z⟩)
      · rw [(R1.keep a z).2]
        exact (R1.keep a z).1
      · exact R1.live _ _ z
    · subst hr
      have o : P.P v (hz (zz c.Z A1) H') := o
      rw [hz_eq] at o
      exact q v A1 H' (R1.up S) f1 (S1.trans (vw_up S)) o
theorem el_call {n : Nat} {T : List Sl → (Rv → Prop) → Prop} {dvs : List V} {E : XK} (h : Es tr ρ ss ρ') (hd : ∀ W, ArAll W dvs ds) (hn : (ss ++ ds).length = n) (g : T (ss ++ ds) fun r => r = .l xs) : El (tCall (spD n T) dvs E tr) ρ xs ρ' := fun c A σ H Q R f q =>
  h c A σ H _ R f fun vs A1 H1 R1 f1 S1 o1 => by
    refine ⟨zz c.Z A1, ss ++ ds, _, ?_, by rw [hz_eq]; exact o1.append (hd _), hn, g, fun r v H' hr S o => ?_⟩
    · rintro a (z | ⟨i, z⟩)
      · rw [(R1.keep a z).2]
        exact (R1.keep a z).1
      · exact R1.live _ _ z
    · subst hr
      obtain ⟨a, us, rfl, n, e, dx⟩ := o
      rw [hz_eq] at dx
      refine q a us _ H' (R1.adopt S n e) aset_at (S1.trans ?_) e (DnAll.mono vw_adopt dx)
      exact fun b o z => vw_adopt (A := A1) b o (by rw [hid_ne (ne_of_none (vw_some z).2.2 n)]; exact vw_up S _ _ z)
theorem ar_nil : ∀ W : Hp, ArAll W [] [] := fun _ => trivial
theorem Rp.back (R : Rp c A ρ σ H) {i : Nat} {p : Addr} {c0 c1 : List PyData} {cs : List V} (h : ρ[i]? = some (.l c0)) (e : A i = some p) (e' : H' p = some (.lst cs)) (dx : DnAll (hz (zz c.Z A) H') cs c1) (hz' : ∀ a, zz c.Z A a → a ≠ p → H' a = H a) (S : Same (hz (zz c.Z A) H) (hz (zz c.Z A) H')) :
    Rp c A (ρ.set i (.l c1)) σ H' := by
  have S2 : Same H (fun b => if b = p then H p else H' b) := fun b o z => by
    show (if b = p then H p else H' b) = some o
    by_cases q : b = p
    · rw [if_pos q, ← q]
      exact z
    · rw [if_neg q]
      by_cases q' : zz c.Z A b
      · rw [hz' b q' q]
        exact z
      · exact (hz_some (S _ _ (hz_mk q' z))).2
  have R2 := R.up S2
  have ev : vw c.Z A (fun b => if b = p then H p else H' b) = vw c.Z A H' := by
    funext b
    unfold vw
    split
    · rfl
    · rename_i q
      have : b ≠ p := fun z => q (Or.inr ⟨i, z ▸ e⟩)
      exact if_neg this
  have R3 := R2.mut (vs := cs) (xs := c1) h e (by rw [ev, ← hz_eq]; exact dx)
  have e3 : upd (fun b => if b = p then H p else H' b) p (.lst cs) = H' := by
    funext b
    by_cases q : b = p
    · rw [q, upd_same, e']
    · rw [upd_ne q]
      exact if_neg q
  rw [e3] at R3
  exact R3
theorem vw_back {Z : Addr → Prop} (S : Same (hz (zz Z A) H) (hz (zz Z A) H')) : Same (vw Z A H) (vw Z A H') := by
  rw [hz_eq, hz_eq] at S
  exact S
theorem ev_callB {n : Nat} {T : List PyData → List Sl → (Rv → List PyData → Prop) → Prop} {dvs : List V} {E : XK} {c00 c0 c1 : List PyData} (h0 : ρ[i]? = some (.l c00)) (h : Es tr ρ ss ρ1) (hi : ρ1[i]? = some (.l c0)) (hd : ∀ W, ArAll W dvs ds) (hn : (ss ++ ds).length = n) (g : T c0 (ss ++ ds) fun r c' => r = .d x ∧ c' = c1) :
    Ev (tCall (spB n T) dvs E (tCons (tVar i) tr)) ρ (.d x) (ρ1.set i (.l c1)) := fun c A σ H Q R f q => by
  obtain ⟨p0, _, _, e0, _, _⟩ := R.sl i _ h0
  refine ⟨_, e0, h c A σ H _ R f fun vs A1 H1 R1 f1 S1 o1 => ?_⟩
  obtain ⟨p, cs, ep, e1, eH, dc⟩ := R1.sl i _ hi
  rw [e0] at e1
  cases e1
  refine ⟨zz c.Z A1, p0, cs, c0, vs ++ dvs, ss ++ ds, _, rfl, Or.inr ⟨i, ep⟩, ?_, eH, by rw [hz_eq]; exact dc, by rw [hz_eq]; exact o1.append (hd _), hn, g, fun r c' cs' v H' hr e' dc' k S o => ?_⟩
  · rintro a (z | ⟨j, z⟩)
    · rw [(R1.keep a z).2]
      exact (R1.keep a z).1
    · exact R1.live _ _ z
  · obtain ⟨rfl, rfl⟩ := hr
    have o : Dn (hz (zz c.Z A1) H') v x := o
    have R2 := R1.back hi ep e' dc' k S
    rw [hz_eq] at o
    exact q v A1 H' R2 f1 (S1.trans (vw_back S)) o
end
end OW
set_option Elab.async false
set_option linter.unusedVariables false
set_option maxRecDepth 100000
set_option maxHeartbeats 1000000
namespace OW
open PySem PySem.Spec PyProof.Rows L2 KA
/-! ### statements -/
structure KK where
  nx : List Sl → Prop
  rt : Rv → List Sl → Prop
  bk : List Sl → Prop := fun _ => False
  ct : List Sl → Prop := fun _ => False
def RvAt (c : Fr) (A : Am) (H : Hp) (v : V) : Rv → Prop
  | .d x => A fl = none ∧ Dn (vw c.Z A H) v x
  | .l xs => ∃ a vs, A fl = some a ∧ v = .ref a ∧ H a = some (.lst vs) ∧ DnAll (vw c.Z A H) vs xs
  | .p P => A fl = none ∧ P.P v (vw c.Z A H)
structure DK (c : Fr) (K : KK) (D : Ends) : Prop where
  nx : ∀ ρ A σ H, K.nx ρ → Rp c A ρ σ H → A fl = none → D.nx σ H
  rt : ∀ r ρ v A σ H, K.rt r ρ → Rp c A ρ σ H → RvAt c A H v r → D.rt v H
  bk : ∀ ρ A σ H, K.bk ρ → Rp c A ρ σ H → A fl = none → D.bk σ H
  ct : ∀ ρ A σ H, K.ct ρ → Rp c A ρ σ H → A fl = none → D.ct σ H
def Sm (t : TS) (ρ : List Sl) (K : KK) : Prop := ∀ (c : Fr) (A : Am) (σ : L2.St) (H : Hp) (D : Ends), Rp c A ρ σ H → A fl = none → DK c K D → t D σ H
/-- a target takes s -/
def Tg (g : TG) (s : Sl) (ρ ρ' : List Sl) : Prop := ∀ (c : Fr) (A : Am) (σ : L2.St) (H : Hp) (v : V) (Q : L2.St → Hp → Prop), Rp c A ρ σ H → A fl = none → ArOk (vw c.Z A H) v s →
  (∀ A' σ' H', Rp c A' ρ' σ' H' → A' fl = none → Same (vw c.Z A H) (vw c.Z A' H') → Q σ' H') → g v σ H Q
def Tgs (g : TGs) (ss : List Sl) (ρ ρ' : List Sl) : Prop := ∀ (c : Fr) (A : Am) (σ : L2.St) (H : Hp) (vs : List V) (Q : L2.St → Hp → Prop), Rp c A ρ σ H → A fl = none → ArAll (vw c.Z A H) vs ss →
  (∀ A' σ' H', Rp c A' ρ' σ' H' → A' fl = none → Same (vw c.Z A H) (vw c.Z A' H') → Q σ' H') → g vs σ H Q
section
variable {ρ ρ' ρ1 ρ2 : List Sl} {te ta tb : TE} {s s' : Sl} {x y : PyData} {i : Nat} {tr : TA} {xs ys : List PyData} {ss : List Sl} {t u : TS} {K : KK} {g : TG} {gs : TGs} {KF : PySem.W.Frag}
theorem ArOk.sl {W H : Hp} {v : V} : ∀ {s : Sl}, ArOk W v s → SlOk W H (some (some v)) none s
  | .d _, h => ⟨rfl, v, rfl, h⟩
  | .p _, h => ⟨rfl, v, rfl, h⟩
  | .un, h | .any, h | .l _, h | .la _ _, h | .wa _ _, h => h.elim
theorem tg_name (i0 : i ≠ 0 := by decide) (i1 : i ≠ fl := by decide) : Tg (gName i) s ρ (ρ.set i s) := fun c A σ H v Q R f o q =>
  q _ _ H (R.set i0 o.sl) (by rw [aset_ne i1.symm]; exact f) vw_land
theorem tgs_nil : Tgs gNil [] ρ ρ := fun c A σ H vs Q R f o q => by
  cases vs with
  | nil => exact ⟨rfl, q A σ H R f (Same.refl _)⟩
  | cons _ _ => exact o.elim
theorem tgs_cons (h : Tg g s ρ ρ1) (k : Tgs gs ss ρ1 ρ2) : Tgs (gCons g gs) (s :: ss) ρ ρ2 := fun c A σ H vs Q R f o q => by
  cases vs with
  | nil => exact o.elim
  | cons v vs => exact ⟨v, vs, rfl, h c A σ H v _ R f o.1 fun A1 σ1 H1 R1 f1 S1 => k c A1 σ1 H1 vs _ R1 f1 (o.2.mono S1) fun A2 σ2 H2 R2 f2 S2 => q A2 σ2 H2 R2 f2 (S1.trans S2)⟩
theorem tg_tup {n : Nat} (h : Tgs gs (xs.map Sl.d) ρ ρ1) (len : xs.length = n := by rfl) : Tg (gTup KF n gs) (.d (.tuple xs)) ρ ρ1 := fun c A σ H v Q R f o q => by
  obtain ⟨a, vs, rfl, e, dx⟩ := tup_v o
  exact ⟨a, vs, rfl, SqT.of (vw_sub _ _ e), dx.length.trans len, h c A σ H vs _ R f (arAll_d dx) q⟩
theorem sm_next (k : K.nx ρ) : Sm tNext ρ K := fun c A σ H D R f dk => dk.nx _ _ _ _ k R f
theorem sm_seq (h : Sm t ρ { K with nx := fun ρ' => Sm u ρ' K }) : Sm (tSeq t u) ρ K := fun c A σ H D R f dk =>
  h c A σ H { D with nx := u D } R f ⟨fun ρ' A' σ' H' hk R' f' => hk c A' σ' H' D R' f' dk, dk.rt, dk.bk, dk.ct⟩
theorem sm_break (k : K.bk ρ) : Sm tBreak ρ K := fun c A σ H D R f dk => dk.bk _ _ _ _ k R f
theorem sm_cont (k : K.ct ρ) : Sm tCont ρ K := fun c A σ H D R f dk => dk.ct _ _ _ _ k R f
theorem sm_asg (h : Ev te ρ s ρ1) (hg : Tg g s ρ1 ρ2) (k : K.nx ρ2) : Sm (tAsg te g) ρ K := fun c A σ H D R f dk =>
  h c A σ H _ R f fun v A1 H1 R1 f1 S1 o1 => hg c A1 σ H1 v _ R1 f1 o1 fun A2 σ2 H2 R2 f2 S2 => dk.nx _ _ _ _ k R2 f2
theorem sm_set (h : Ev te ρ s ρ1) (k : K.nx (ρ1.set i s)) (i0 : i ≠ 0 := by decide) (i1 : i ≠ fl := by decide) : Sm (tAsg te (gName i)) ρ K := sm_asg h (tg_name i0 i1) k
theorem sm_setL (h : El te ρ xs ρ1) (k : K.nx (ρ1.set i (.l xs))) (i0 : i ≠ 0 := by decide) (hi : i < ρ1.length := by simp [uns]) : Sm (tAsg te (gName i)) ρ K := fun c A σ H D R f dk =>
  h c A σ H _ R f fun a vs A1 H1 R1 f1 S1 e dx => dk.nx _ _ _ _ k (R1.setL i0 hi f1 e dx) aset_at
theorem sm_drop (h : Ev te ρ s ρ1) (k : K.nx ρ1) : Sm (tDrop te) ρ K := fun c A σ H D R f dk => h c A σ H _ R f fun v A1 H1 R1 f1 S1 o1 => dk.nx _ _ _ _ k R1 f1
theorem sm_ret (h : Ev te ρ (.d x) ρ1) (k : K.rt (.d x) ρ1) : Sm (tRet te) ρ K := fun c A σ H D R f dk => h c A σ H _ R f fun v A1 H1 R1 f1 S1 o1 => dk.rt _ _ v _ σ _ k R1 ⟨f1, o1⟩
theorem sm_retP {P : Mo} (h : Ev te ρ (.p P) ρ1) (k : K.rt (.p P) ρ1) : Sm (tRet te) ρ K := fun c A σ H D R f dk => h c A σ H _ R f fun v A1 H1 R1 f1 S1 o1 => dk.rt _ _ v _ σ _ k R1 ⟨f1, o1⟩
theorem sm_retL (h : El te ρ xs ρ1) (k : K.rt (.l xs) ρ1) : Sm (tRet te) ρ K := fun c A σ H D R f dk => h c A σ H _ R f fun a vs A1 H1 R1 f1 S1 e dx => dk.rt _ _ _ _ σ _ k R1 ⟨a, vs, f1, rfl, e, dx⟩
/-- the list in a slot is told (the slot isn't the caller's) -/
theorem vw_toFl {Z : Addr → Prop} {A : Am} {H : Hp} {a : Addr} (e : A i = some a) : Same (vw Z A H) (vw Z (aset (aset A i none) fl (some a)) H) := vw_less fun j b z => by
  by_cases q : j = fl
  · rw [q, aset_at] at z
    exact ⟨i, by rw [e, ← z]⟩
  · rw [aset_ne q] at z
    by_cases q' : j = i
    · rw [q', aset_at] at z
      cases z
    · rw [aset_ne q'] at z
      exact ⟨j, z⟩
theorem Rp.toFl {c : Fr} {A : Am} {σ : L2.St} {H : Hp} (R : Rp c A ρ σ H) {a : Addr} (i0 : i ≠ 0) (h : ρ[i]? = some (.l xs)) (e : A i = some a) : Rp c (aset (aset A i none) fl (some a)) (ρ.set i .any) σ H := by
  have ni : i ≠ fl := idx_small R.sz h
  have back : ∀ j b, aset (aset A i none) fl (some a) j = some b → (j = fl ∧ b = a) ∨ (j ≠ i ∧ j ≠ fl ∧ A j = some b) := fun j b z => by
    by_cases q : j = fl
    · rw [q, aset_at] at z
      exact Or.inl ⟨q, (Option.some.inj z).symm⟩
    · rw [aset_ne q] at z
      by_cases q' : j = i
      · rw [q', aset_at] at z
        cases z
      · rw [aset_ne q'] at z
        exact Or.inr ⟨q', q, z⟩
  refine ⟨by rw [List.length_set, R.len], by rw [List.length_set]; exact R.sz, ?_, ?_, ?_, R.keep, R.old.trans (vw_toFl e), ?_, ?_⟩
  · intro k j b z z'
    rcases back k b z with ⟨q1, q2⟩ | ⟨n1, n2, y⟩
    · rcases back j b z' with ⟨q3, _⟩ | ⟨n3, n4, y'⟩
      · rw [q1, q3]
      · exact absurd (R.inj _ _ _ (q2 ▸ y') e) n3
    · rcases back j b z' with ⟨q3, q4⟩ | ⟨n3, n4, y'⟩
      · exact absurd (R.inj _ _ _ (q4 ▸ y) e) n1
      · exact R.inj _ _ _ y y'
  · intro j b z
    rcases back j b z with ⟨_, q⟩ | ⟨_, _, y⟩
    · rw [q]
      exact R.off _ _ e
    · exact R.off _ _ y
  · intro j b z
    rcases back j b z with ⟨_, q⟩ | ⟨_, _, y⟩
    · rw [q]
      exact R.live _ _ e
    · exact R.live _ _ y
  · intro p z
    rw [aset_ne (by decide), aset_ne i0.symm]
    exact R.bor p z
  · intro j t z
    by_cases q : j = i
    · subst q
      have lt := (List.getElem?_eq_some_iff.mp h).1
      rw [List.getElem?_set_self lt] at z
      cases z
      show aset (aset A j none) fl (some a) j = none
      rw [aset_ne ni, aset_at]
    · rw [List.getElem?_set_ne (Ne.symm q)] at z
      rw [aset_ne (idx_small R.sz z), aset_ne q]
      exact (R.sl j t z).mono (vw_toFl e) fun _ _ _ h => h
theorem el_var (h : ρ[i]? = some (.l xs)) (i0 : i ≠ 0 := by decide) : El (tVar i) ρ xs (ρ.set i .any) := fun c A σ H Q R f q => by
  obtain ⟨a, vs, e, e1, e2, dx⟩ := R.sl i _ h
  exact ⟨_, e1, q a vs _ H (R.toFl i0 h e) aset_at (vw_toFl e) e2 (DnAll.mono (vw_toFl e) dx)⟩
theorem sm_retN (k : K.rt (.d .none) ρ) : Sm tRetN ρ K := fun c A σ H D R f dk => dk.rt _ _ _ _ σ _ k R ⟨f, .non⟩
theorem sm_if {tt : TT} {b : Bool} (h : Et tt ρ b ρ1) (h1 : b = true → Sm t ρ1 K) (h2 : b = false → Sm u ρ1 K) : Sm (tIfS tt t u) ρ K := fun c A σ H D R f dk =>
  h c A σ H _ R f fun A1 H1 R1 f1 S1 => by
    cases b with
    | true => exact h1 rfl c A1 σ H1 D R1 f1 dk
    | false => exact h2 rfl c A1 σ H1 D R1 f1 dk
theorem sm_mono {K K' : KK} (h : Sm t ρ K) (nx : ∀ ρ, K.nx ρ → K'.nx ρ) (rt : ∀ r ρ, K.rt r ρ → K'.rt r ρ) (bk : ∀ ρ, K.bk ρ → K'.bk ρ) (ct : ∀ ρ, K.ct ρ → K'.ct ρ) : Sm t ρ K' := fun c A σ H D R f dk =>
  h c A σ H D R f ⟨fun ρ A σ H k => dk.nx ρ A σ H (nx ρ k), fun r ρ v A σ H k => dk.rt r ρ v A σ H (rt r ρ k), fun ρ A σ H k => dk.bk ρ A σ H (bk ρ k), fun ρ A σ H k => dk.ct ρ A σ H (ct ρ k)⟩
/-! loops -/
theorem dn_at {H : Hp} {xs : List V} {ds : List PyData} {i : Nat} {x : V} (r : DnAll H xs ds) (h : xs[i]? = some x) : ∃ d, ds[i]? = some d ∧ Dn H x d := by
  have lt := (List.getElem?_eq_some_iff.mp h).1
  have lt' : i < ds.length := by rw [← r.length]; exact lt
  obtain ⟨v, e, dn⟩ := r.get (List.getElem?_eq_getElem lt')
  rw [h] at e
  cases e
  exact ⟨_, List.getElem?_eq_getElem lt', dn⟩
def Fr.to (c : Fr) (F : Hp) : Fr := { c with F := F }
theorem Rp.refr {c : Fr} {A : Am} {σ : L2.St} {H : Hp} (R : Rp c A ρ σ H) : Rp (c.to (vw c.Z A H)) A ρ σ H := ⟨R.len, R.sz, R.inj, R.off, R.live, R.keep, Same.refl _, R.bor, R.sl⟩
theorem Rp.unfr {c : Fr} {A : Am} {σ : L2.St} {H F : Hp} (R : Rp (c.to F) A ρ σ H) (S : Same c.F F) : Rp c A ρ σ H := ⟨R.len, R.sz, R.inj, R.off, R.live, R.keep, S.trans R.old, R.bor, R.sl⟩
def Stp (c : Fr) (R : List Sl → Prop) (σ' : L2.St) (H' : Hp) : Prop := ∃ ρ' A', R ρ' ∧ Rp c A' ρ' σ' H' ∧ A' fl = none
theorem DK.body {c : Fr} {F : Hp} {D : Ends} {R : List Sl → Prop} (dk : DK c K D) (S : Same c.F F) : DK (c.to F) { nx := R, ct := R, bk := K.nx, rt := K.rt } { D with nx := Stp (c.to F) R, ct := Stp (c.to F) R, bk := D.nx } :=
  ⟨fun ρ A σ H k R f => ⟨ρ, A, k, R, f⟩, fun r ρ v A σ H k R o => dk.rt r ρ v A σ H k (R.unfr S) o, fun ρ A σ H k R f => dk.nx ρ A σ H k (R.unfr S) f, fun ρ A σ H k R f => ⟨ρ, A, k, R, f⟩⟩
/-- one turn of a loop: its item taken, its suite -/
def Turn (g : TG) (t : TS) (x : Sl) (ρ : List Sl) (R : List Sl → Prop) (K : KK) : Prop := ∃ ρ2, Tg g x ρ ρ2 ∧ Sm t ρ2 { nx := R, ct := R, bk := K.nx, rt := K.rt }
theorem Turn.run {R : List Sl → Prop} (h : Turn g t s ρ R K) {c : Fr} {F : Hp} {A : Am} {σ : L2.St} {H : Hp} {v : V} {D : Ends} (R' : Rp (c.to F) A ρ σ H) (f : A fl = none) (o : ArOk (vw c.Z A H) v s) (S : Same c.F F) (dk : DK c K D) :
    g v σ H fun σ2 H2 => t { D with nx := Stp (c.to F) R, ct := Stp (c.to F) R, bk := D.nx } σ2 H2 := by
  obtain ⟨ρ2, hg, hb⟩ := h
  exact hg (c.to F) A σ H v _ R' f o fun A2 σ2 H2 R2 f2 S2 => hb (c.to F) A2 σ2 H2 _ R2 f2 (dk.body S)
theorem eds_one {c : Fr} {A : Am} {H : Hp} {vs : List V} {W : Hp} (h : DnAll W vs [x]) : ∃ v, vs = [v] ∧ Dn W v x := by
  cases h with
  | cons a b =>
    cases b
    exact ⟨_, rfl, a⟩
theorem sm_forRange {ta : TA} {n : Int} (h : Eds ta ρ [.int n] ρ1) (small : -(2 ^ 62) ≤ n ∧ n < 2 ^ 62) (R : Nat → List Sl → Prop) (h0 : R 0 ρ1)
    (hs : ∀ (j : Nat) ρ', (j : Int) < n → R j ρ' → Turn g t (.d (.int (j : Int))) ρ' (R (j + 1)) K) (hd : ∀ ρ', R n.toNat ρ' → K.nx ρ') : Sm (tFor (iRng1 ta) g t) ρ K := fun c A σ H D R0 f dk =>
  h c A σ H _ R0 f fun vs A1 H1 R1 f1 S1 o1 => by
    obtain ⟨v, rfl, o⟩ := eds_one (c := c) (A := A) (H := H) o1
    obtain rfl := int_v o
    refine ⟨n, rfl, small.1, small.2, for_range (lo := 0) (n := n.toNat) (fun j σ' H' => Stp (c.to (vw c.Z A1 H1)) (R j) σ' H') ⟨ρ1, A1, h0, R1.refr, f1⟩ ?_ ?_⟩
    · rintro j σ' H' hj ⟨ρ', A', r, R', f'⟩
      rw [Int.zero_add]
      exact (hs j ρ' (by omega) r).run R' f' (.int _) R1.old dk
    · rintro σ' H' ⟨ρ', A', r, R', f'⟩
      exact dk.nx _ _ _ _ (hd _ r) (R'.unfr R1.old) f'
theorem sm_forRange2 {ta : TA} {lo n : Int} (h : Eds ta ρ [.int lo, .int n] ρ1) (small : (-(2 ^ 62) ≤ lo ∧ lo < 2 ^ 62) ∧ -(2 ^ 62) ≤ n ∧ n < 2 ^ 62) (R : Nat → List Sl → Prop) (h0 : R 0 ρ1)
    (hs : ∀ (j : Nat) ρ', lo + (j : Int) < n → R j ρ' → Turn g t (.d (.int (lo + (j : Int)))) ρ' (R (j + 1)) K) (hd : ∀ ρ', R (n - lo).toNat ρ' → K.nx ρ') : Sm (tFor (iRng2 ta) g t) ρ K := fun c A σ H D R0 f dk =>
  h c A σ H _ R0 f fun vs A1 H1 R1 f1 S1 o1 => by
    obtain ⟨v, u, rfl, o, o'⟩ : ∃ v u, vs = [v, u] ∧ Dn _ v (.int lo) ∧ Dn _ u (.int n) := by
      cases o1 with
      | cons a b =>
        obtain ⟨u, rfl, o⟩ := eds_one (c := c) (A := A) (H := H) b
        exact ⟨_, _, rfl, a, o⟩
    obtain rfl := int_v o
    obtain rfl := int_v o'
    refine ⟨lo, n, rfl, ⟨small.1.1, small.1.2, small.2.1, small.2.2⟩, for_range (lo := lo) (n := (n - lo).toNat) (fun j σ' H' => Stp (c.to (vw c.Z A1 H1)) (R j) σ' H') ⟨ρ1, A1, h0, R1.refr, f1⟩ ?_ ?_⟩
    · rintro j σ' H' hj ⟨ρ', A', r, R', f'⟩
      exact (hs j ρ' (by omega) r).run R' f' (.int _) R1.old dk
    · rintro σ' H' ⟨ρ', A', r, R', f'⟩
      exact dk.nx _ _ _ _ (hd _ r) (R'.unfr R1.old) f'
theorem sm_forL (h : Ev te ρ (.d (.list xs)) ρ1) (R : Nat → List Sl → Prop) (h0 : R 0 ρ1) (hs : ∀ (j : Nat) x ρ', xs[j]? = some x → R j ρ' → Turn g t (.d x) ρ' (R (j + 1)) K) (hd : ∀ ρ', R xs.length ρ' → K.nx ρ') : Sm (tFor (iList KF te) g t) ρ K := fun c A σ H D R0 f dk =>
  h c A σ H _ R0 f fun v A1 H1 R1 f1 S1 o1 => by
    obtain ⟨a, vs, rfl, e, dx⟩ := lst_v o1
    refine ⟨a, rfl, ⟨_, SqL.of (vw_sub _ _ e)⟩, for_list (xs := vs) (fun j σ' H' => Stp (c.to (vw c.Z A1 H1)) (R j) σ' H') ⟨ρ1, A1, h0, R1.refr, f1⟩ ?_ ?_ ?_⟩
    · rintro j σ' H' _ ⟨ρ', A', r, R', f'⟩
      exact SqL.of (vw_sub _ _ (R'.old _ _ e))
    · rintro j w σ' H' hj ⟨ρ', A', r, R', f'⟩
      obtain ⟨x, hx, dn⟩ := dn_at (DnAll.mono R'.old dx) hj
      exact (hs j x ρ' hx r).run R' f' dn R1.old dk
    · rintro σ' H' ⟨ρ', A', r, R', f'⟩
      rw [dx.length] at r
      exact dk.nx _ _ _ _ (hd _ r) (R'.unfr R1.old) f'
theorem sm_forT (h : Ev te ρ (.d (.tuple xs)) ρ1) (R : Nat → List Sl → Prop) (h0 : R 0 ρ1) (hs : ∀ (j : Nat) x ρ', xs[j]? = some x → R j ρ' → Turn g t (.d x) ρ' (R (j + 1)) K) (hd : ∀ ρ', R xs.length ρ' → K.nx ρ') : Sm (tFor (iTup KF te) g t) ρ K := fun c A σ H D R0 f dk =>
  h c A σ H _ R0 f fun v A1 H1 R1 f1 S1 o1 => by
    obtain ⟨a, vs, rfl, e, dx⟩ := tup_v o1
    refine ⟨a, rfl, ⟨_, SqT.of (vw_sub _ _ e)⟩, for_tup (xs := vs) (fun j σ' H' => Stp (c.to (vw c.Z A1 H1)) (R j) σ' H') ⟨ρ1, A1, h0, R1.refr, f1⟩ ?_ ?_ ?_⟩
    · rintro j σ' H' _ ⟨ρ', A', r, R', f'⟩
      exact SqT.of (vw_sub _ _ (R'.old _ _ e))
    · rintro j w σ' H' hj ⟨ρ', A', r, R', f'⟩
      obtain ⟨x, hx, dn⟩ := dn_at (DnAll.mono R'.old dx) hj
      exact (hs j x ρ' hx r).run R' f' dn R1.old dk
    · rintro σ' H' ⟨ρ', A', r, R', f'⟩
      rw [dx.length] at r
      exact dk.nx _ _ _ _ (hd _ r) (R'.unfr R1.old) f'
theorem sm_while {tt : TT} (W : Nat → List Sl → Prop) (h0 : ∃ m, W m ρ) (hs : ∀ m ρ', W m ρ' → ∃ b ρ2, Et tt ρ' b ρ2 ∧ (b = true → Sm t ρ2 { nx := fun ρ3 => ∃ m', m' < m ∧ W m' ρ3, ct := fun ρ3 => ∃ m', m' < m ∧ W m' ρ3, bk := K.nx, rt := K.rt }) ∧ (b = false → K.nx ρ2)) : Sm (tWhile tt t) ρ K := fun c A σ H D R f dk => by
  obtain ⟨m0, h0⟩ := h0
  refine ⟨fun m σ' H' => Stp c (W m) σ' H', ⟨m0, ρ, A, h0, R, f⟩, ?_⟩
  rintro m σ' H' ⟨ρ', A', r, R', f'⟩
  obtain ⟨b, ρ2, ht, h1, h2⟩ := hs m ρ' r
  refine ht c A' σ' H' _ R' f' fun A2 H2 R2 f2 S2 => ?_
  cases b with
  | true =>
    refine ⟨fun σ3 H3 => ∃ m', m' < m ∧ Stp c (W m') σ3 H3, fun σ3 H3 z => z, h1 rfl c A2 σ' H2 _ R2 f2 ⟨?_, dk.rt, dk.nx, ?_⟩⟩
    · rintro ρ3 A3 σ3 H3 ⟨m', lt, w⟩ R3 f3
      exact ⟨m', lt, ρ3, A3, w, R3, f3⟩
    · rintro ρ3 A3 σ3 H3 ⟨m', lt, w⟩ R3 f3
      exact ⟨m', lt, ρ3, A3, w, R3, f3⟩
  | false => exact dk.nx _ _ _ _ (h2 rfl) R2 f2
end
end OW
set_option Elab.async false
set_option linter.unusedVariables false
set_option maxRecDepth 100000
set_option maxHeartbeats 1000000
namespace OW
open PySem PySem.Spec PyProof.Rows L2 KA
/-! ### defs -/
section
variable {P : Program} {w : World} {K : PySem.W.Frag} {mg : Str → Option Value} {base : Heap} {c : Fr} {A : Am} {ρ ρ' : List Sl} {σ : L2.St} {H H' : Hp}
theorem arAll_at {W : Hp} : ∀ {vs : List V} {ss : List Sl} {i : Nat} {s : Sl}, ArAll W vs ss → ss[i]? = some s → ∃ v, vs[i]? = some v ∧ ArOk W v s
  | v :: vs, t :: ss, 0, s, h, e => by
    cases e
    exact ⟨v, rfl, h.1⟩
  | v :: vs, t :: ss, i + 1, s, h, e => arAll_at (i := i) h.2 e
  | [], [], _, _, _, e => by cases e
  | [], _ :: _, _, _, h, _ => h.elim
  | _ :: _, [], _, _, h, _ => h.elim
theorem start_len {N : List Str} {vs : List V} {n : Nat} (h : vs.length = n) : (start N vs).length = n + (N.length - n) := by
  unfold L2.start
  rw [List.length_append, List.length_map, List.length_replicate, h]
theorem start_arg {N : List Str} {vs : List V} {i : Nat} {v : V} (h : vs[i]? = some v) : (start N vs)[i]? = some (some v) := by
  unfold L2.start
  have lt := (List.getElem?_eq_some_iff.mp h).1
  rw [List.getElem?_append_left (by rw [List.length_map]; exact lt), List.getElem?_map, h]
  rfl
theorem start_un {N : List Str} {vs : List V} {i : Nat} (h : vs.length ≤ i) (h' : i < vs.length + (N.length - vs.length)) : (start N vs)[i]? = some none := by
  unfold L2.start
  rw [List.getElem?_append_right (by rw [List.length_map]; exact h), List.getElem?_replicate, List.length_map, if_pos (by omega)]
theorem rp_start {N : List Str} {vs : List V} {as : List Sl} {n : Nat} {Z : Addr → Prop} (hN : n + N.length < fl) (hZ : ∀ a, Z a → H a ≠ none) (ha : ArAll (hz Z H) vs as) (hl : as.length = n) :
    Rp ⟨Z, none, H, hz Z H⟩ (fun _ => none) (as ++ uns (N.length - n)) (start N vs) H where
  len := by
    have := ha.length
    rw [start_len (this.trans hl), List.length_append, hl, uns, List.length_replicate]
  sz := by
    rw [List.length_append, hl, uns, List.length_replicate]
    omega
  inj i j a e := by cases e
  off i a e := by cases e
  live i a e := by cases e
  keep a z := ⟨hZ a z, rfl⟩
  old := Same.refl _
  bor p e := by cases e
  sl i s e := by
    have len := ha.length
    by_cases q : i < as.length
    · rw [List.getElem?_append_left q] at e
      obtain ⟨v, e1, o⟩ := arAll_at ha e
      rw [start_arg e1]
      exact o.sl
    · rw [List.getElem?_append_right (by omega), uns, List.getElem?_replicate] at e
      split at e
      · rename_i lt
        cases e
        rw [start_un (by omega) (by omega)]
        exact ⟨rfl, rfl⟩
      · cases e
theorem rv_out {r : Rv} {v : V} {Z : Addr → Prop} (hF : ∀ b o, H b = some o → ¬ Z b → (c.B ≠ some b) → vw c.Z A H' b = some o) (hZ : ∀ b, Z b → c.Z b ∨ ∃ i, i ≠ fl ∧ A i = some b) (hinj : ∀ i j a, A i = some a → A j = some a → i = j) (hoff : ∀ i a, A i = some a → ¬ c.Z a) (hB : ∀ p, c.B = some p → A 0 = some p) (o : RvAt c A H' v r) : RvOk Z H H' v r := by
  have up : Same (vw c.Z A H') (hz Z H') := fun b o e => by
    obtain ⟨h1, h2, h3⟩ := vw_some e
    refine hz_mk (fun z => ?_) h3
    rcases hZ b z with z | ⟨i, _, z⟩
    · exact h1 z
    · exact h2 i z
  cases r with
  | d x => exact Dn.mono up o.2
  | p P => exact P.mono up o.2
  | l xs =>
    obtain ⟨a, vs, f, rfl, e, dx⟩ := o
    refine ⟨a, vs, rfl, ?_, e, DnAll.mono (fun b o z => ?_) dx⟩
    · cases q : H a with
      | none => rfl
      | some u =>
        have nZ : ¬ Z a := fun z => by
          rcases hZ a z with z | ⟨i, n, z⟩
          · exact hoff _ _ f z
          · exact n (hinj _ _ _ z f)
        have nB : c.B ≠ some a := fun z => by
          have := hinj _ _ _ (hB _ z) f
          exact absurd this (by decide)
        exact absurd f ((vw_some (hF a u q nZ nB)).2.1 fl)
    · rw [hid_ne]
      · exact up _ _ z
      · intro q
        exact (vw_some z).2.1 fl (by rw [q]; exact f)
theorem fn_d {x qual : Str} {st : Stmt} {f : Addr} {fd : FuncData} {N ps : List Str} {k n : Nat} {T : List Sl → (Rv → Prop) → Prop} (F : Fun K x qual st f fd) (S : FnScope N ps (defScope st)) (hn : ps.length = n := by rfl) (hN : n + N.length < fl := by decide)
    (body : ∀ (cdv : Value) (A : Around) (outer : List Env) (s : Shared) (H : Hp) (E : XK), Room k (A.deeper (envOfC qual (defScope st) s.heap.objs.size f cdv)) →
      ∃ t, PSs (cxOf CX0 P w K mg base N qual (defScope st) f cdv A outer s H E).nox (defBody st) t ∧ ∀ as Kr, as.length = n → T as Kr → Sm t (as ++ uns (N.length - n)) { nx := fun _ => Kr (.d .none), rt := fun r _ => Kr r }) :
    FnOk P w K mg base CX0 (k + 1) f fd ps (spD n T) := by
  refine F.ok S (fun vs H Q E h => ?_) (fun cdv A outer s H vs Q E hr h => ?_)
  · obtain ⟨Z, as, Kr, hZ, ha, hl, _⟩ := h
    rw [ha.length, hl, hn]
  · obtain ⟨Z, as, Kr, hZ, ha, hl, hT, go⟩ := h
    obtain ⟨t, ht, hb⟩ := body cdv A outer s H E hr
    refine ⟨t, ht, hb as Kr hl hT ⟨Z, none, H, hz Z H⟩ _ _ H _ (rp_start hN hZ ha hl) rfl ?_⟩
    have same : ∀ {A' : Am} {ρ' : List Sl} {σ' : L2.St} {H' : Hp}, Rp ⟨Z, none, H, hz Z H⟩ A' ρ' σ' H' → Same H H' := fun R b o e => by
      by_cases z : Z b
      · rw [(R.keep b z).2]
        exact e
      · exact (vw_some (R.old _ _ (hz_mk z e))).2.2
    refine ⟨fun ρ' A' σ' H' hk R f => go _ _ _ hk (same R) .non, fun r ρ' v A' σ' H' hk R o => go r v H' hk (same R) ?_, fun _ _ _ _ h => h.elim, fun _ _ _ _ h => h.elim⟩
    exact rv_out (fun b o e nz _ => R.old _ _ (hz_mk nz e)) (fun b z => Or.inl z) R.inj R.off R.bor o
theorem rp_startB {N : List Str} {ws cs : List V} {ct : List PyData} {as : List Sl} {n : Nat} {Z : Addr → Prop} {p : Addr} (hN : n + 1 + N.length < fl) (hp : Z p) (hZ : ∀ a, Z a → H a ≠ none) (ep : H p = some (.lst cs)) (dc : DnAll (hz Z H) cs ct) (ha : ArAll (hz Z H) ws as) (hl : as.length = n) :
    Rp ⟨fun a => Z a ∧ a ≠ p, some p, H, hz Z H⟩ (aset (fun _ => none) 0 (some p)) (.l ct :: (as ++ uns (N.length - (n + 1)))) (start N (.ref p :: ws)) H := by
  have hv : vw (fun a => Z a ∧ a ≠ p) (aset (fun _ => none) 0 (some p)) H = hz Z H := by
    funext b
    by_cases z : Z b
    · have e2 : hz Z H b = none := by unfold hz vw; rw [if_pos (Or.inl z)]
      rw [e2]
      unfold vw
      rw [if_pos]
      by_cases q : b = p
      · exact Or.inr ⟨0, by rw [q]; exact aset_at⟩
      · exact Or.inl ⟨z, q⟩
    · have e2 : hz Z H b = H b := by
        unfold hz vw
        rw [if_neg]
        rintro (q | ⟨i, q⟩)
        · exact z q
        · cases q
      rw [e2]
      unfold vw
      rw [if_neg]
      rintro (q | ⟨i, q⟩)
      · exact z q.1
      · by_cases i0 : i = 0
        · rw [i0, aset_at] at q
          cases q
          exact z hp
        · rw [aset_ne i0] at q
          cases q
  have one : ∀ {i : Nat} {a : Addr}, aset (fun _ => none) 0 (some p) i = some a → i = 0 ∧ a = p := fun {i a} q => by
    by_cases i0 : i = 0
    · rw [i0, aset_at] at q
      exact ⟨i0, (Option.some.inj q).symm⟩
    · rw [aset_ne i0] at q
      cases q
  have len := ha.length
  refine ⟨?_, ?_, ?_, ?_, ?_, ?_, by rw [hv]; exact Same.refl _, ?_, ?_⟩
  · rw [start_len (n := n + 1) (by rw [List.length_cons]; omega), List.length_cons, List.length_append, hl, uns, List.length_replicate]
    omega
  · rw [List.length_cons, List.length_append, hl, uns, List.length_replicate]
    omega
  · intro i j a e e'
    rw [(one e).1, (one e').1]
  · intro i a e z
    exact z.2 (one e).2
  · intro i a e
    rw [(one e).2, ep]
    simp
  · intro a z
    exact ⟨hZ a z.1, rfl⟩
  · intro q e
    rw [aset_at]
    exact e
  · intro i s e
    rw [hv]
    cases i with
    | zero =>
      cases e
      exact ⟨p, cs, aset_at, start_arg rfl, ep, dc⟩
    | succ i =>
      rw [aset_ne (Nat.succ_ne_zero i)]
      rw [List.getElem?_cons_succ] at e
      by_cases q : i < as.length
      · rw [List.getElem?_append_left q] at e
        obtain ⟨v, e1, o⟩ := arAll_at ha e
        rw [start_arg (v := v) (by rw [List.getElem?_cons_succ]; exact e1)]
        exact o.sl
      · rw [List.getElem?_append_right (by omega), uns, List.getElem?_replicate] at e
        split at e
        · rename_i lt
          cases e
          rw [start_un (by rw [List.length_cons]; omega) (by rw [List.length_cons]; omega)]
          exact ⟨rfl, rfl⟩
        · cases e
theorem fn_b {x qual : Str} {st : Stmt} {f : Addr} {fd : FuncData} {N ps : List Str} {k n : Nat} {T : List PyData → List Sl → (Rv → List PyData → Prop) → Prop} (F : Fun K x qual st f fd) (S : FnScope N ps (defScope st)) (hn : ps.length = n + 1 := by rfl) (hN : n + 1 + N.length < fl := by decide)
    (body : ∀ (cdv : Value) (A : Around) (outer : List Env) (s : Shared) (H : Hp) (E : XK), Room k (A.deeper (envOfC qual (defScope st) s.heap.objs.size f cdv)) →
      ∃ t, PSs (cxOf CX0 P w K mg base N qual (defScope st) f cdv A outer s H E).nox (defBody st) t ∧ ∀ ct as Kr, as.length = n → T ct as Kr →
        Sm t (.l ct :: (as ++ uns (N.length - (n + 1)))) { nx := fun ρ => ∃ c', ρ[0]? = some (.l c') ∧ Kr (.d .none) c', rt := fun r ρ => ∃ c', ρ[0]? = some (.l c') ∧ Kr r c' }) :
    FnOk P w K mg base CX0 (k + 1) f fd ps (spB n T) := by
  refine F.ok S (fun vs H Q E h => ?_) (fun cdv A outer s H vs Q E hr h => ?_)
  · obtain ⟨Z, p, cs, ct, ws, as, Kr, rfl, hp, hZ, ep, dc, ha, hl, _⟩ := h
    rw [List.length_cons, ha.length, hl, hn]
  · obtain ⟨Z, p, cs, ct, ws, as, Kr, rfl, hp, hZ, ep, dc, ha, hl, hT, go⟩ := h
    obtain ⟨t, ht, hb⟩ := body cdv A outer s H E hr
    refine ⟨t, ht, hb ct as Kr hl hT ⟨fun a => Z a ∧ a ≠ p, some p, H, hz Z H⟩ _ _ H _ (rp_startB hN hp hZ ep dc ha hl) rfl ?_⟩
    have fin : ∀ {A' : Am} {ρ' : List Sl} {σ' : L2.St} {H' : Hp} {c' : List PyData} {r : Rv} {v : V}, Rp ⟨fun a => Z a ∧ a ≠ p, some p, H, hz Z H⟩ A' ρ' σ' H' → ρ'[0]? = some (.l c') → Kr r c' → RvAt ⟨fun a => Z a ∧ a ≠ p, some p, H, hz Z H⟩ A' H' v r → Q v H' := by
      intro A' ρ' σ' H' c' r v R h0 hk o
      obtain ⟨a, cs', e1, e2, e3, dc'⟩ := R.sl 0 _ h0
      have := R.bor p rfl
      rw [e1] at this
      cases this
      have up : Same (vw (fun b => Z b ∧ b ≠ p) A' H') (hz Z H') := fun b u e => by
        obtain ⟨h1, h2, h3⟩ := vw_some e
        refine hz_mk (fun z => h1 ⟨z, fun q => h2 0 (by rw [q]; exact e1)⟩) h3
      refine go r c' cs' v H' hk e3 (DnAll.mono up dc') (fun b z n => (R.keep b ⟨z, n⟩).2) (fun b u e => up _ _ (R.old _ _ e)) ?_
      refine rv_out (fun b u e nz _ => R.old _ _ (hz_mk nz e)) (fun b z => ?_) R.inj R.off R.bor o
      by_cases q : b = p
      · exact Or.inr ⟨0, by decide, by rw [q]; exact e1⟩
      · exact Or.inl ⟨z, q⟩
    refine ⟨fun ρ' A' σ' H' hk R f => ?_, fun r ρ' v A' σ' H' hk R o => ?_, fun _ _ _ _ h => h.elim, fun _ _ _ _ h => h.elim⟩
    · obtain ⟨c', h0, hk⟩ := hk
      exact fin R h0 hk ⟨f, .non⟩
    · obtain ⟨c', h0, hk⟩ := hk
      exact fin R h0 hk o
end
end OW
set_option Elab.async false
set_option linter.unusedVariables false
set_option maxRecDepth 100000
set_option maxHeartbeats 1000000
namespace OW
open PySem PySem.Spec PyProof.Rows L2 KA
/-! ### walks -/
def Jk (W : Hp) (J : It) (xs : List PyData) : Prop :=
  (∀ (i : Nat) x H, xs[i]? = some x → Same W H → J.go i H ∧ ∀ v H', J.yld i H v H' → Same H H' ∧ ∀ W', Same W W' → (∀ b o, H b = none → H' b = some o → W' b = some o) → Dn W' v x) ∧ ∀ H, Same W H → J.stop xs.length H
theorem Jk.mono {W W' : Hp} {J : It} {xs : List PyData} (h : Jk W J xs) (S : Same W W') : Jk W' J xs := ⟨fun i x H e s => let ⟨a, b⟩ := h.1 i x H e (S.trans s); ⟨a, fun v H' y => let ⟨p, q⟩ := b v H' y; ⟨p, fun W2 s2 k => q W2 (S.trans s2) k⟩⟩, fun H s => h.2 H (S.trans s)⟩
def Fi (wi : TI) (ρ : List Sl) (xs : List PyData) (ρ1 : List Sl) : Prop := ∀ (c : Fr) (A : Am) (σ : L2.St) (H : Hp) (R : It → Hp → Prop), Rp c A ρ σ H → A fl = none →
  (∀ J A' H', Rp c A' ρ1 σ H' → A' fl = none → Same (vw c.Z A H) (vw c.Z A' H') → Jk (vw c.Z A' H') J xs → R J H') → wi σ H R
section
variable {ρ ρ' ρ1 ρ2 : List Sl} {te ta tb : TE} {s s' : Sl} {x y : PyData} {i : Nat} {tr : TA} {xs ys : List PyData} {ss : List Sl} {t u : TS} {K : KK} {g : TG} {gs : TGs} {KF : PySem.W.Frag} {wi : TI}
theorem sm_for (h : Fi wi ρ xs ρ1) (R : Nat → List Sl → Prop) (h0 : R 0 ρ1) (hs : ∀ (j : Nat) x ρ', xs[j]? = some x → R j ρ' → Turn g t (.d x) ρ' (R (j + 1)) K) (hd : ∀ ρ', R xs.length ρ' → K.nx ρ') : Sm (tFor wi g t) ρ K := fun c A σ H D R0 f dk =>
  h c A σ H _ R0 f fun J A1 H1 R1 f1 S1 jk => by
    refine ⟨fun j m σ' H' => m = xs.length - j ∧ j ≤ xs.length ∧ Stp (c.to (vw c.Z A1 H1)) (R j) σ' H', ⟨xs.length, by simp, Nat.zero_le _, ρ1, A1, h0, R1.refr, f1⟩, ?_⟩
    rintro j m σ' H' ⟨rfl, hj, ρ', A', r, R', f'⟩
    have S' : Same (vw c.Z A1 H1) H' := R'.old.trans vw_sub
    by_cases lt : j < xs.length
    · have e := List.getElem?_eq_getElem lt
      obtain ⟨go, yl⟩ := jk.1 j _ H' e S'
      refine Or.inr ⟨go, Stp (c.to (vw c.Z A1 H1)) (R (j + 1)), fun σ2 H2 p => ⟨xs.length - (j + 1), by omega, rfl, lt, p⟩, fun v H2 y => ?_⟩
      obtain ⟨S2, dn⟩ := yl v H2 y
      exact (hs j _ ρ' e r).run (R'.up S2) f' (dn _ (R'.old.trans (vw_up S2)) fun b o n e => new_view R' n e) R1.old dk
    · have e : j = xs.length := by omega
      subst e
      exact Or.inl ⟨jk.2 H' S', dk.nx _ _ _ _ (hd _ r) (R'.unfr R1.old) f'⟩
theorem fi_list (h : Ev te ρ (.d (.list xs)) ρ1) : Fi (iList KF te) ρ xs ρ1 := fun c A σ H R R0 f k => h c A σ H _ R0 f fun v A1 H1 R1 f1 S1 o1 => by
  obtain ⟨a, vs, rfl, e, dx⟩ := lst_v o1
  refine ⟨a, rfl, ⟨_, SqL.of (vw_sub _ _ e)⟩, k _ _ _ R1 f1 S1 ⟨fun i x H2 ex S => ?_, fun H2 S => ?_⟩⟩
  · have lt : i < vs.length := by rw [dx.length]; exact (List.getElem?_eq_some_iff.mp ex).1
    refine ⟨⟨vs, vs[i], SqL.of (S _ _ e), List.getElem?_eq_getElem lt⟩, fun v H3 ⟨q1, q2⟩ => ?_⟩
    subst q1
    refine ⟨Same.refl _, fun W' S' _ => ?_⟩
    obtain ⟨x', e', dn⟩ := dn_at dx (q2 vs (SqL.of (S _ _ e)))
    rw [ex] at e'
    cases e'
    exact Dn.mono S' dn
  · exact ⟨vs, SqL.of (S _ _ e), by rw [dx.length]; exact Nat.le_refl _⟩
theorem fi_tup (h : Ev te ρ (.d (.tuple xs)) ρ1) : Fi (iTup KF te) ρ xs ρ1 := fun c A σ H R R0 f k => h c A σ H _ R0 f fun v A1 H1 R1 f1 S1 o1 => by
  obtain ⟨a, vs, rfl, e, dx⟩ := tup_v o1
  refine ⟨a, rfl, ⟨_, SqT.of (vw_sub _ _ e)⟩, k _ _ _ R1 f1 S1 ⟨fun i x H2 ex S => ?_, fun H2 S => ?_⟩⟩
  · have lt : i < vs.length := by rw [dx.length]; exact (List.getElem?_eq_some_iff.mp ex).1
    refine ⟨⟨vs, vs[i], SqT.of (S _ _ e), List.getElem?_eq_getElem lt⟩, fun v H3 ⟨q1, q2⟩ => ?_⟩
    subst q1
    refine ⟨Same.refl _, fun W' S' _ => ?_⟩
    obtain ⟨x', e', dn⟩ := dn_at dx (q2 vs (SqT.of (S _ _ e)))
    rw [ex] at e'
    cases e'
    exact Dn.mono S' dn
  · exact ⟨vs, SqT.of (S _ _ e), by rw [dx.length]; exact Nat.le_refl _⟩
def rngD (n : Nat) : List PyData := (List.range n).map fun i : Nat => .int (i : Int)
theorem rngD_at {n i : Nat} (h : (rngD n)[i]? = some x) : i < n ∧ x = .int (i : Int) := by
  unfold rngD at h
  rw [List.getElem?_map] at h
  by_cases q : i < n
  · rw [List.getElem?_range q] at h
    exact ⟨q, (Option.some.inj h).symm⟩
  · rw [List.getElem?_eq_none (by rw [List.length_range]; omega)] at h
    cases h
theorem rngD_len (n : Nat) : (rngD n).length = n := by unfold rngD; rw [List.length_map, List.length_range]
theorem dn_one {W : Hp} {vs : List V} (h : DnAll W vs [x]) : ∃ v, vs = [v] ∧ Dn W v x := by
  cases h with
  | cons a b =>
    cases b
    exact ⟨_, rfl, a⟩
theorem dn_two {W : Hp} {vs : List V} (h : DnAll W vs [x, y]) : ∃ v u, vs = [v, u] ∧ Dn W v x ∧ Dn W u y := by
  cases h with
  | cons a b =>
    obtain ⟨u, rfl, o⟩ := dn_one b
    exact ⟨_, _, rfl, a, o⟩
theorem fi_rng1 {n : Int} (h : Eds tr ρ [.int n] ρ1) (small : -(2 ^ 62) ≤ n ∧ n < 2 ^ 62) : Fi (iRng1 tr) ρ (rngD n.toNat) ρ1 := fun c A σ H R R0 f k => h c A σ H _ R0 f fun vs A1 H1 R1 f1 S1 o1 => by
  obtain ⟨v, rfl, o⟩ := dn_one o1
  obtain rfl := int_v o
  refine ⟨n, rfl, small.1, small.2, k _ _ _ R1 f1 S1 ⟨fun i x H2 ex S => ?_, fun H2 S => ?_⟩⟩
  · obtain ⟨lt, rfl⟩ := rngD_at ex
    refine ⟨lt, fun v H3 ⟨q1, q2⟩ => ?_⟩
    subst q1
    subst q2
    rw [Int.zero_add]
    exact ⟨Same.refl _, fun W' _ _ => .int _⟩
  · rw [rngD_len]
    exact Nat.le_refl n.toNat
theorem fi_rng2 {lo n : Int} (h : Eds tr ρ [.int lo, .int n] ρ1) (small : (-(2 ^ 62) ≤ lo ∧ lo < 2 ^ 62) ∧ -(2 ^ 62) ≤ n ∧ n < 2 ^ 62) : Fi (iRng2 tr) ρ ((List.range (n - lo).toNat).map fun i : Nat => .int (lo + (i : Int))) ρ1 := fun c A σ H R R0 f k => h c A σ H _ R0 f fun vs A1 H1 R1 f1 S1 o1 => by
  obtain ⟨v, u, rfl, o, o'⟩ := dn_two o1
  obtain rfl := int_v o
  obtain rfl := int_v o'
  refine ⟨lo, n, rfl, ⟨small.1.1, small.1.2, small.2.1, small.2.2⟩, k _ _ _ R1 f1 S1 ⟨fun i x H2 ex S => ?_, fun H2 S => ?_⟩⟩
  · rw [List.getElem?_map] at ex
    by_cases q : i < (n - lo).toNat
    · rw [List.getElem?_range q] at ex
      obtain rfl := Option.some.inj ex
      refine ⟨q, fun v H3 ⟨q1, q2⟩ => ?_⟩
      subst q1
      subst q2
      exact ⟨Same.refl _, fun W' _ _ => .int _⟩
    · rw [List.getElem?_eq_none (by rw [List.length_range]; omega)] at ex
      cases ex
  · rw [List.length_map, List.length_range]
    exact Nat.le_refl (n - lo).toNat
/-- reversed(range(n)) -/
theorem fi_revR {n : Int} (h : Ev te ρ (.d (.int n)) ρ1) (small : -(2 ^ 62) ≤ n ∧ n < 2 ^ 62) : Fi (iRevR (tRg1 te)) ρ (rngD n.toNat).reverse ρ1 := fun c A σ H R R0 f k => h c A σ H _ R0 f fun v A1 H1 R1 f1 S1 o1 => by
  obtain rfl := int_v o1
  refine ⟨n, rfl, by decide, by decide, small.1, small.2, k _ _ _ R1 f1 S1 ⟨fun i x H2 ex S => ?_, fun H2 S => ?_⟩⟩
  · have lt : i < n.toNat := by
      have := (List.getElem?_eq_some_iff.mp ex).1
      rw [List.length_reverse, rngD_len] at this
      exact this
    rw [List.getElem?_reverse (by rw [rngD_len]; exact lt), rngD_len] at ex
    obtain ⟨_, rfl⟩ := rngD_at ex
    refine ⟨by rw [Int.sub_zero]; exact lt, fun v H3 ⟨q1, q2⟩ => ?_⟩
    subst q1
    subst q2
    refine ⟨Same.refl _, fun W' _ _ => ?_⟩
    have e : (0 : Int) + (((n - 0).toNat : Nat) : Int) - 1 + ((i : Nat) : Int) * (-1) = ((n.toNat - 1 - i : Nat) : Int) := by
      rw [Int.sub_zero]
      omega
    show Dn W' (V.int ((0 : Int) + (((n - 0).toNat : Nat) : Int) - 1 + ((i : Nat) : Int) * (-1))) _
    rw [e]
    exact .int _
  · rw [List.length_reverse, rngD_len, Int.sub_zero]
    exact Nat.le_refl n.toNat
theorem fi_revA_l (h : Ev te ρ (.d (.list xs)) ρ1) : Fi (RT.iRevA KF te) ρ xs.reverse ρ1 := fun c A σ H R R0 f k => h c A σ H _ R0 f fun v A1 H1 R1 f1 S1 o1 => by
  obtain ⟨a, vs, rfl, e, dx⟩ := lst_v o1
  refine ⟨a, vs, rfl, Or.inl ⟨SqL.of (vw_sub _ _ e), k _ _ _ R1 f1 S1 ⟨fun i x H2 ex S => ?_, fun H2 S => ?_⟩⟩⟩
  · have lt : i < vs.length := by rw [dx.length, ← List.length_reverse]; exact (List.getElem?_eq_some_iff.mp ex).1
    refine ⟨⟨lt, vs, vs[vs.length - 1 - i], SqL.of (S _ _ e), List.getElem?_eq_getElem (by omega)⟩, fun v H3 ⟨q1, q2⟩ => ?_⟩
    subst q1
    refine ⟨Same.refl _, fun W' S' _ => ?_⟩
    obtain ⟨x', e', dn⟩ := dn_at dx (q2 vs (SqL.of (S _ _ e)))
    rw [List.getElem?_reverse (by rw [← dx.length]; exact lt), ← dx.length] at ex
    rw [ex] at e'
    cases e'
    exact Dn.mono S' dn
  · rw [List.length_reverse]
    show vs.length ≤ xs.length
    rw [dx.length]
    exact Nat.le_refl _
theorem fi_revA_t (h : Ev te ρ (.d (.tuple xs)) ρ1) : Fi (RT.iRevA KF te) ρ xs.reverse ρ1 := fun c A σ H R R0 f k => h c A σ H _ R0 f fun v A1 H1 R1 f1 S1 o1 => by
  obtain ⟨a, vs, rfl, e, dx⟩ := tup_v o1
  refine ⟨a, vs, rfl, Or.inr ⟨SqT.of (vw_sub _ _ e), k _ _ _ R1 f1 S1 ⟨fun i x H2 ex S => ?_, fun H2 S => ?_⟩⟩⟩
  · have lt : i < vs.length := by rw [dx.length, ← List.length_reverse]; exact (List.getElem?_eq_some_iff.mp ex).1
    refine ⟨⟨lt, vs, vs[vs.length - 1 - i], SqT.of (S _ _ e), List.getElem?_eq_getElem (by omega)⟩, fun v H3 ⟨q1, q2⟩ => ?_⟩
    subst q1
    refine ⟨Same.refl _, fun W' S' _ => ?_⟩
    obtain ⟨x', e', dn⟩ := dn_at dx (q2 vs (SqT.of (S _ _ e)))
    rw [List.getElem?_reverse (by rw [← dx.length]; exact lt), ← dx.length] at ex
    rw [ex] at e'
    cases e'
    exact Dn.mono S' dn
  · rw [List.length_reverse]
    show vs.length ≤ xs.length
    rw [dx.length]
    exact Nat.le_refl _
def enumD : Nat → List PyData → List PyData
  | _, [] => []
  | n, x :: xs => .tuple [.int (n : Int), x] :: enumD (n + 1) xs
theorem enumD_len : ∀ (n : Nat) (xs : List PyData), (enumD n xs).length = xs.length
  | _, [] => rfl
  | n, _ :: xs => congrArg (· + 1) (enumD_len (n + 1) xs)
theorem enumD_at : ∀ {n i : Nat} {xs : List PyData} {y : PyData}, (enumD n xs)[i]? = some y → ∃ x, xs[i]? = some x ∧ y = .tuple [.int ((n + i : Nat) : Int), x]
  | n, 0, x :: xs, y, h => by
    cases h
    exact ⟨x, rfl, rfl⟩
  | n, i + 1, x :: xs, y, h => by
    obtain ⟨z, e1, e2⟩ := enumD_at (n := n + 1) (i := i) (xs := xs) h
    refine ⟨z, e1, ?_⟩
    rw [e2, show n + 1 + i = n + (i + 1) by omega]
  | _, _, [], _, h => by cases h
theorem fi_enum (h : Eds tr ρ [.list xs] ρ1) : Fi (iEnum KF tr) ρ (enumD 0 xs) ρ1 := fun c A σ H R R0 f k => h c A σ H _ R0 f fun vs A1 H1 R1 f1 S1 o1 => by
  obtain ⟨v, rfl, o⟩ := dn_one o1
  obtain ⟨a, vs, rfl, e, dx⟩ := lst_v o
  refine ⟨a, vs, rfl, SqL.of (vw_sub _ _ e), k _ _ _ R1 f1 S1 ⟨fun i x H2 ex S => ?_, fun H2 S => ?_⟩⟩
  · have lt : i < vs.length := by rw [dx.length, ← enumD_len 0 xs]; exact (List.getElem?_eq_some_iff.mp ex).1
    refine ⟨⟨vs, vs[i], SqL.of (S _ _ e), List.getElem?_eq_getElem lt⟩, fun v H3 ⟨T, y, q1, q2, q3, q4⟩ => ?_⟩
    subst q1
    subst q3
    refine ⟨Same.new q2, fun W' S' nw => ?_⟩
    obtain ⟨x', e', dn⟩ := dn_at dx (q4 vs (SqL.of (S _ _ e)))
    obtain ⟨x2, e2, rfl⟩ := enumD_at ex
    rw [e2] at e'
    cases e'
    rw [Nat.zero_add]
    exact .tup (nw _ _ q2 upd_same) (.cons (.int _) (.one (Dn.mono S' dn)))
  · exact ⟨vs, SqL.of (S _ _ e), by rw [dx.length, enumD_len]; exact Nat.le_refl _⟩
def zipD (xs ys : List PyData) : List PyData := (xs.zip ys).map fun p => .tuple [p.1, p.2]
theorem zipD_at {i : Nat} {z : PyData} (h : (zipD xs ys)[i]? = some z) : ∃ x y, xs[i]? = some x ∧ ys[i]? = some y ∧ z = .tuple [x, y] := by
  unfold zipD at h
  rw [List.getElem?_map] at h
  cases e : (xs.zip ys)[i]? with
  | none => rw [e] at h; cases h
  | some p =>
    rw [e] at h
    obtain ⟨e1, e2⟩ := List.getElem?_zip_eq_some.mp e
    exact ⟨_, _, e1, e2, (Option.some.inj h).symm⟩
theorem zipD_len : (zipD xs ys).length = min xs.length ys.length := by unfold zipD; rw [List.length_map, List.length_zip]
theorem fi_zip (h : Eds tr ρ [.list xs, .list ys] ρ1) : Fi (iZip KF tr) ρ (zipD xs ys) ρ1 := fun c A σ H R R0 f k => h c A σ H _ R0 f fun vs A1 H1 R1 f1 S1 o1 => by
  obtain ⟨v, u, rfl, o, o'⟩ := dn_two o1
  obtain ⟨a, vs, rfl, e, dx⟩ := lst_v o
  obtain ⟨b, us, rfl, e', dy⟩ := lst_v o'
  refine ⟨a, b, vs, us, rfl, SqL.of (vw_sub _ _ e), SqL.of (vw_sub _ _ e'), k _ _ _ R1 f1 S1 ⟨fun i x H2 ex S => ?_, fun H2 S => ?_⟩⟩
  · obtain ⟨x1, y1, ex1, ey1, rfl⟩ := zipD_at ex
    have lt : i < vs.length := by rw [dx.length]; exact (List.getElem?_eq_some_iff.mp ex1).1
    have lt' : i < us.length := by rw [dy.length]; exact (List.getElem?_eq_some_iff.mp ey1).1
    refine ⟨⟨vs, us, vs[i], us[i], SqL.of (S _ _ e), SqL.of (S _ _ e'), List.getElem?_eq_getElem lt, List.getElem?_eq_getElem lt'⟩, fun v H3 ⟨T, x, y, q1, q2, q3, q4, q5⟩ => ?_⟩
    subst q1
    subst q3
    refine ⟨Same.new q2, fun W' S' nw => ?_⟩
    obtain ⟨x', e1, d1⟩ := dn_at dx (q4 vs (SqL.of (S _ _ e)))
    obtain ⟨y', e2, d2⟩ := dn_at dy (q5 us (SqL.of (S _ _ e')))
    rw [ex1] at e1
    rw [ey1] at e2
    cases e1
    cases e2
    exact .tup (nw _ _ q2 upd_same) (.cons (Dn.mono S' d1) (.one (Dn.mono S' d2)))
  · refine ⟨vs, us, SqL.of (S _ _ e), SqL.of (S _ _ e'), ?_⟩
    rw [dx.length, dy.length, zipD_len]
    omega
theorem fi_str {z : Str} (h : Ev te ρ (.d (.str z)) ρ1) : Fi (iStr te) ρ (z.cps.toList.map fun c => .str ⟨#[c]⟩) ρ1 := fun c A σ H R R0 f k => h c A σ H _ R0 f fun v A1 H1 R1 f1 S1 o1 => by
  obtain rfl := str_v o1
  refine ⟨z, rfl, k _ _ _ R1 f1 S1 ⟨fun i x H2 ex S => ?_, fun H2 S => ?_⟩⟩
  · rw [List.getElem?_map] at ex
    cases e : z.cps.toList[i]? with
    | none => rw [e] at ex; cases ex
    | some cc =>
      rw [e] at ex
      obtain rfl := Option.some.inj ex
      have lt := (List.getElem?_eq_some_iff.mp e).1
      refine ⟨(by show i < z.cps.size; simpa using lt), fun v H3 ⟨q1, c1, q2, q3⟩ => ?_⟩
      subst q1
      subst q3
      have : z.cps.toList[i]? = some c1 := by simpa using q2
      rw [e] at this
      cases this
      exact ⟨Same.refl _, fun W' _ _ => .str _⟩
  · show z.cps.size ≤ _
    rw [List.length_map]
    simp
end
end OW
set_option Elab.async false
set_option linter.unusedVariables false
set_option maxRecDepth 100000
set_option maxHeartbeats 1000000
namespace OW
open PySem PySem.Spec PyProof.Rows L2 KA
/-! ### operators, built-ins, methods -/
def isV (v : V) : Mo := ⟨fun u _ => u = v, fun _ h => h⟩
section
variable {ρ ρ' ρ1 ρ2 : List Sl} {te ta tb ti : TE} {s s' : Sl} {x y : PyData} {i j k : Nat} {tr : TA} {xs ys : List PyData} {ss : List Sl} {t u : TS} {K : KK} {g : TG} {KF : PySem.W.Frag} {tl th : TO}
theorem ev_cv {v : V} : Ev (tC v) ρ (.p (isV v)) ρ := ev_c fun _ => rfl
theorem isv_v {W : Hp} {v u : V} (h : ArOk W u (.p (isV v))) : u = v := h
/-- results that are the same in every heap -/
theorem fv2_s {r : R2} {z : V} (hz : ∀ W, ArOk W z s) {p q : Sl} (h : ∀ (W H : Hp) (v w : V) (Q : VK), Same W H → ArOk W v p → ArOk W w q → Q z H → r v w H Q) : FV2 r p q s := fun W H v w Q S a b k => h W H v w Q S a b (k z H (Same.refl _) fun W' _ _ => hz W')
theorem fv_s {r : List V → Hp → VK → Prop} {z : V} (hz : ∀ W, ArOk W z s) (h : ∀ (W H : Hp) (vs : List V) (Q : VK), Same W H → ArAll W vs ss → Q z H → r vs H Q) : FV r ss s := fun W H vs Q S a k => h W H vs Q S a (k z H (Same.refl _) fun W' _ _ => hz W')
theorem dI (i : Int) : ∀ W, ArOk W (.int i) (.d (.int i)) := fun _ => Dn.int _
theorem dB (i : Bool) : ∀ W, ArOk W (.bl i) (.d (.bool i)) := fun _ => Dn.bl _
theorem dS (i : Str) : ∀ W, ArOk W (.str i) (.d (.str i)) := fun _ => Dn.str _
theorem fv_int {f : Int → Int → Int} {m n : Int} : FV2 (rI0 fun i j => .int (f i j)) (.d (.int m)) (.d (.int n)) (.d (.int (f m n))) := fv2_s (dI (f m n)) fun W H v w Q S a b q => ⟨m, n, int_v a, int_v b, q⟩
theorem fv_intC {C : Int → Int → Prop} {f : Int → Int → Int} {m n : Int} (h : C m n) : FV2 (rI C fun i j => .int (f i j)) (.d (.int m)) (.d (.int n)) (.d (.int (f m n))) := fv2_s (dI (f m n)) fun W H v w Q S a b q => ⟨m, n, int_v a, int_v b, h, q⟩
theorem fv_cmpI {f : Int → Int → Bool} {m n : Int} : FV2 (rI0 fun i j => .bl (f i j)) (.d (.int m)) (.d (.int n)) (.d (.bool (f m n))) := fv2_s (dB (f m n)) fun W H v w Q S a b q => ⟨m, n, int_v a, int_v b, q⟩
theorem fv_eqS {a b : Str} : FV2 rEq (.d (.str a)) (.d (.str b)) (.d (.bool (decide (a = b)))) := fv2_s (dB (decide (a = b))) fun W H v w Q S o o' q => by
  obtain rfl := str_v o
  obtain rfl := str_v o'
  refine ⟨rfl, ?_⟩
  rw [show decide (V.str a = V.str b) = decide (a = b) from by simp]
  exact q
theorem fv_neS {a b : Str} : FV2 rNe (.d (.str a)) (.d (.str b)) (.d (.bool (!decide (a = b)))) := fv2_s (dB (!decide (a = b))) fun W H v w Q S o o' q => by
  obtain rfl := str_v o
  obtain rfl := str_v o'
  refine ⟨rfl, ?_⟩
  rw [show decide (V.str a = V.str b) = decide (a = b) from by simp]
  exact q
theorem fv_eqI {a b : Int} : FV2 rEq (.d (.int a)) (.d (.int b)) (.d (.bool (decide (a = b)))) := fv2_s (dB (decide (a = b))) fun W H v w Q S o o' q => by
  obtain rfl := int_v o
  obtain rfl := int_v o'
  refine ⟨rfl, ?_⟩
  rw [show decide (V.int a = V.int b) = decide (a = b) from by simp]
  exact q
theorem fv_neI {a b : Int} : FV2 rNe (.d (.int a)) (.d (.int b)) (.d (.bool (!decide (a = b)))) := fv2_s (dB (!decide (a = b))) fun W H v w Q S o o' q => by
  obtain rfl := int_v o
  obtain rfl := int_v o'
  refine ⟨rfl, ?_⟩
  rw [show decide (V.int a = V.int b) = decide (a = b) from by simp]
  exact q
theorem fv_eqD (sx : SeqAt.shaped x = true) (sy : SeqAt.shaped y = true) : FV2 rEqD (.d x) (.d y) (.d (.bool (PyData.eqv x y))) := fv2_s (dB (PyData.eqv x y)) fun W H v w Q S o o' q => ⟨x, y, Dn.mono S o, Dn.mono S o', sx, sy, q⟩
theorem fv_neD (sx : SeqAt.shaped x = true) (sy : SeqAt.shaped y = true) : FV2 rNeD (.d x) (.d y) (.d (.bool (!PyData.eqv x y))) := fv2_s (dB (!PyData.eqv x y)) fun W H v w Q S o o' q => ⟨x, y, Dn.mono S o, Dn.mono S o', sx, sy, q⟩
def noneD : PyData → Bool | .none => true | _ => false
theorem dn_non {W : Hp} {v : V} (h : Dn W v x) : decide (v = .non) = noneD x := by
  cases h <;> first | rfl | (exact decide_eq_false (by simp))
theorem fv_isN : FV2 (fun x y H Q => y = .non ∧ Q (.bl (decide (x = .non))) H) (.d x) (.d .none) (.d (.bool (noneD x))) := fv2_s (dB (noneD x)) fun W H v w Q S o o' q => by
  refine ⟨non_v o', ?_⟩
  rw [dn_non o]
  exact q
theorem fv_notN : FV2 (fun x y H Q => y = .non ∧ Q (.bl (!decide (x = .non))) H) (.d x) (.d .none) (.d (.bool (!noneD x))) := fv2_s (dB (!noneD x)) fun W H v w Q S o o' q => by
  refine ⟨non_v o', ?_⟩
  rw [dn_non o]
  exact q
theorem atI_dn {W : Hp} {vs : List V} {n : Int} (dx : DnAll W vs xs) (h : atI xs n = some x) : ∃ v, atI vs n = some v ∧ Dn W v x := by
  unfold atI at h ⊢
  rw [dx.length]
  cases e : ixN xs.length n with
  | none => rw [e] at h; cases h
  | some j =>
    rw [e] at h
    exact dx.get h
theorem fv_ixT {n : Int} (h : atI xs n = some x) : FV2 (rIxT KF) (.d (.tuple xs)) (.d (.int n)) (.d x) := fun W H v w Q S o o' q => by
  obtain rfl := int_v o'
  obtain ⟨a, vs, rfl, e, dx⟩ := tup_v o
  obtain ⟨u, e1, dn⟩ := atI_dn dx h
  exact ⟨a, vs, n, u, rfl, rfl, SqT.of (S _ _ e), e1, q u H (Same.refl _) fun W' S' _ => Dn.mono S' dn⟩
theorem fv_ixL {n : Int} (h : atI xs n = some x) : FV2 (rIxL KF) (.d (.list xs)) (.d (.int n)) (.d x) := fun W H v w Q S o o' q => by
  obtain rfl := int_v o'
  obtain ⟨a, vs, rfl, e, dx⟩ := lst_v o
  obtain ⟨u, e1, dn⟩ := atI_dn dx h
  exact ⟨a, vs, n, u, rfl, rfl, SqL.of (S _ _ e), e1, q u H (Same.refl _) fun W' S' _ => Dn.mono S' dn⟩
theorem fv_ixS {z : Str} {n : Int} {c : Nat} (hz : z.length ≤ sizeLine) (h : atI z.cps.toList n = some c) : FV2 rIxS (.d (.str z)) (.d (.int n)) (.d (.str ⟨#[c]⟩)) := fv2_s (dS ⟨#[c]⟩) fun W H v w Q S o o' q => ⟨z, n, c, str_v o, int_v o', hz, h, q⟩
theorem at_nat {α : Type} {xs : List α} {v : α} {j : Nat} (h : xs[j]? = some v) : atI xs (j : Int) = some v := by
  have lt := (List.getElem?_eq_some_iff.mp h).1
  unfold atI ixN
  rw [if_pos (Int.natCast_nonneg j), if_pos (by omega)]
  show xs[((j : Nat) : Int).toNat]? = some v
  rw [Int.toNat_natCast]
  exact h
theorem at0 {α : Type} {x : α} {xs : List α} : atI (x :: xs) 0 = some x := at_nat (j := 0) rfl
theorem at1 {α : Type} {x y : α} {xs : List α} : atI (x :: y :: xs) 1 = some y := at_nat (j := 1) rfl
theorem at2 {α : Type} {x y z : α} {xs : List α} : atI (x :: y :: z :: xs) 2 = some z := at_nat (j := 2) rfl
theorem at3 {α : Type} {x y z u : α} {xs : List α} : atI (x :: y :: z :: u :: xs) 3 = some u := at_nat (j := 3) rfl
/-- an owned list's item, length -/
theorem ev_ixO {n : Int} (h0 : ρ[k]? = some (.l ys)) (h : Ev ti ρ (.d (.int n)) ρ1) (h1 : ρ1[k]? = some (.l xs)) (e : atI xs n = some x) : Ev (tOp (rIxL KF) (tVar k) ti) ρ (.d x) ρ1 := fun c A σ H Q R f q => by
  obtain ⟨a, _, _, e1, _, _⟩ := R.sl k _ h0
  refine ⟨_, e1, h c A σ H _ R f fun w A1 H1 R1 f1 S1 o1 => ?_⟩
  obtain rfl := int_v o1
  obtain ⟨b, vs, _, e2, e3, dx⟩ := R1.sl k _ h1
  rw [e1] at e2
  cases e2
  obtain ⟨v, e4, dn⟩ := atI_dn dx e
  exact ⟨a, vs, n, v, rfl, rfl, SqL.of e3, e4, q v A1 H1 R1 f1 S1 dn⟩
theorem fv_lenL : FV (fun xs H Q => ∃ p ys, xs = [.ref p] ∧ (SqL KF H p ys ∨ SqT KF H p ys) ∧ Q (.int ys.length) H) [.d (.list xs)] (.d (.int (xs.length : Int))) := fv_s (dI (xs.length : Int)) fun W H vs Q S o q => by
  match vs, o with
  | [v], o =>
    obtain ⟨a, ws, rfl, e, dx⟩ := lst_v o.1
    exact ⟨a, ws, rfl, Or.inl (SqL.of (S _ _ e)), by rw [dx.length]; exact q⟩
theorem fv_lenT : FV (fun xs H Q => ∃ p ys, xs = [.ref p] ∧ (SqL KF H p ys ∨ SqT KF H p ys) ∧ Q (.int ys.length) H) [.d (.tuple xs)] (.d (.int (xs.length : Int))) := fv_s (dI (xs.length : Int)) fun W H vs Q S o q => by
  match vs, o with
  | [v], o =>
    obtain ⟨a, ws, rfl, e, dx⟩ := tup_v o.1
    exact ⟨a, ws, rfl, Or.inr (SqT.of (S _ _ e)), by rw [dx.length]; exact q⟩
theorem ev_lenO (h : ρ[k]? = some (.l xs)) : Ev (tCB (fun xs H Q => ∃ p ys, xs = [.ref p] ∧ (SqL KF H p ys ∨ SqT KF H p ys) ∧ Q (.int ys.length) H) (tCons (tVar k) tNil)) ρ (.d (.int (xs.length : Int))) ρ := fun c A σ H Q R f q => by
  obtain ⟨a, vs, _, e2, e3, dx⟩ := R.sl k _ h
  exact ⟨_, e2, a, vs, rfl, Or.inl (SqL.of e3), by rw [dx.length]; exact q _ A H R f (Same.refl _) (.int _)⟩
theorem et_truO (h : ρ[k]? = some (.l xs)) : Et (fun σ H Q => tVar k σ H fun x H' => ∃ k, TruV KF x H' k ∧ Q k H') ρ (!xs.isEmpty) ρ := fun c A σ H Q R f q => by
  obtain ⟨a, vs, _, e2, e3, dx⟩ := R.sl k _ h
  refine ⟨_, e2, _, Or.inl ⟨vs, SqL.of e3, rfl⟩, ?_⟩
  have e : vs.isEmpty = xs.isEmpty := by cases dx <;> rfl
  rw [e]
  exact q A H R f (Same.refl _)
theorem et_truL (h : Ev te ρ (.d (.list xs)) ρ1) : Et (fun σ H Q => te σ H fun x H' => ∃ k, TruV KF x H' k ∧ Q k H') ρ (!xs.isEmpty) ρ1 := fun c A σ H Q R f q =>
  h c A σ H _ R f fun v A1 H1 R1 f1 S1 o1 => by
    obtain ⟨a, vs, rfl, e, dx⟩ := lst_v o1
    refine ⟨_, Or.inl ⟨vs, SqL.of (vw_sub _ _ e), rfl⟩, ?_⟩
    have e : vs.isEmpty = xs.isEmpty := by cases dx <;> rfl
    rw [e]
    exact q A1 H1 R1 f1 S1
theorem et_truT (h : Ev te ρ (.d (.tuple xs)) ρ1) : Et (fun σ H Q => te σ H fun x H' => ∃ k, TruV KF x H' k ∧ Q k H') ρ (!xs.isEmpty) ρ1 := fun c A σ H Q R f q =>
  h c A σ H _ R f fun v A1 H1 R1 f1 S1 o1 => by
    obtain ⟨a, vs, rfl, e, dx⟩ := tup_v o1
    refine ⟨_, Or.inr (Or.inl ⟨vs, SqT.of (vw_sub _ _ e), rfl⟩), ?_⟩
    have e : vs.isEmpty = xs.isEmpty := by cases dx <;> rfl
    rw [e]
    exact q A1 H1 R1 f1 S1
/-! stars in a display -/
theorem eds_star (h : Ev te ρ (.d (.tuple xs)) ρ1) (h' : Eds tr ρ1 ys ρ2) : Eds (StX.tStar KF te tr) ρ (xs ++ ys) ρ2 := fun c A σ H Q R f q =>
  h c A σ H _ R f fun v A1 H1 R1 f1 S1 o1 => by
    obtain ⟨a, vs, rfl, e, dx⟩ := tup_v o1
    exact ⟨a, vs, rfl, Or.inl (SqT.of (vw_sub _ _ e)), h' c A1 σ H1 _ R1 f1 fun ws A2 H2 R2 f2 S2 o2 => q _ A2 H2 R2 f2 (S1.trans S2) ((DnAll.mono S2 dx).append o2)⟩
theorem eds_starL (h : Ev te ρ (.d (.list xs)) ρ1) (h' : Eds tr ρ1 ys ρ2) : Eds (StX.tStar KF te tr) ρ (xs ++ ys) ρ2 := fun c A σ H Q R f q =>
  h c A σ H _ R f fun v A1 H1 R1 f1 S1 o1 => by
    obtain ⟨a, vs, rfl, e, dx⟩ := lst_v o1
    exact ⟨a, vs, rfl, Or.inr (SqL.of (vw_sub _ _ e)), h' c A1 σ H1 _ R1 f1 fun ws A2 H2 R2 f2 S2 o2 => q _ A2 H2 R2 f2 (S1.trans S2) ((DnAll.mono S2 dx).append o2)⟩
/-! slices -/
def cutD (xs : List PyData) (lo hi : Option Int) : List PyData := (xs.drop (HT.sIx xs.length 0 lo)).take (HT.sIx xs.length xs.length hi - HT.sIx xs.length 0 lo)
theorem dn_cut {W : Hp} {vs : List V} {lo hi : Option Int} (dx : DnAll W vs xs) : DnAll W (cutV vs lo hi) (cutD xs lo hi) := by
  unfold cutV cutD
  rw [dx.length]
  exact (dx.drop _).take _
theorem cutD_from {n : Nat} (h : n ≤ xs.length) : cutD xs (some (n : Int)) none = xs.drop n := by
  unfold cutD
  rw [HT.sIx_none, HT.sIx_nat, Nat.min_eq_left h, List.take_of_length_le]
  rw [List.length_drop]
  exact Nat.le_refl _
theorem cutD_to {n : Nat} (h : n ≤ xs.length) : cutD xs none (some (n : Int)) = xs.take n := by
  unfold cutD
  rw [HT.sIx_none, HT.sIx_nat, List.drop_zero, Nat.sub_zero, Nat.min_eq_left h]
theorem cutD_to' {n : Nat} : cutD xs none (some (n : Int)) = xs.take n := by
  unfold cutD
  rw [HT.sIx_none, HT.sIx_nat, List.drop_zero, Nat.sub_zero]
  by_cases h : n ≤ xs.length
  · rw [Nat.min_eq_left h]
  · rw [Nat.min_eq_right (by omega), List.take_of_length_le (Nat.le_refl _), List.take_of_length_le (by omega)]
theorem cutD_from' {n : Nat} : cutD xs (some (n : Int)) none = xs.drop n := by
  by_cases h : n ≤ xs.length
  · exact cutD_from h
  · unfold cutD
    rw [HT.sIx_none, HT.sIx_nat, Nat.min_eq_right (by omega), Nat.sub_self, List.take_zero, List.drop_of_length_le (by omega)]
theorem ev_slA {lo hi : Option Int} (h : Ev te ρ (.d (.tuple xs)) ρ') (h1 : Eo tl ρ' lo ρ1) (h2 : Eo th ρ1 hi ρ2) : Ev (tSl (rSlA KF) te tl th) ρ (.d (.tuple (cutD xs lo hi))) ρ2 := fun c A σ H Q R f q =>
  h c A σ H _ R f fun v A1 H1 R1 f1 S1 o1 => h1 c A1 σ H1 _ R1 f1 fun A2 H2 R2 f2 S2 => h2 c A2 σ H2 _ R2 f2 fun A3 H3 R3 f3 S3 => by
    obtain ⟨a, vs, rfl, e, dx⟩ := tup_v (o1.mono (S2.trans S3))
    refine ⟨a, vs, rfl, SqT.of (vw_sub _ _ e), fun z => ?_, fun _ b hb => ?_⟩
    · refine q _ A3 H3 R3 f3 ((S1.trans S2).trans S3) ?_
      have e' : cutD xs lo hi = xs := by
        unfold cutD
        rw [← dx.length, z.1, z.2, List.drop_zero, Nat.sub_zero, dx.length, List.take_length]
      rw [e']
      exact .tup e dx
    · exact q _ A3 _ (R3.up (Same.new hb)) f3 (((S1.trans S2).trans S3).trans (vw_up (Same.new hb))) (.tup (new_view R3 hb upd_same) (DnAll.mono (vw_up (Same.new hb)) (dn_cut dx)))
theorem el_slL {lo hi : Option Int} (h : Ev te ρ (.d (.list xs)) ρ') (h1 : Eo tl ρ' lo ρ1) (h2 : Eo th ρ1 hi ρ2) : El (tSl (rSlL KF) te tl th) ρ (cutD xs lo hi) ρ2 := fun c A σ H Q R f q =>
  h c A σ H _ R f fun v A1 H1 R1 f1 S1 o1 => h1 c A1 σ H1 _ R1 f1 fun A2 H2 R2 f2 S2 => h2 c A2 σ H2 _ R2 f2 fun A3 H3 R3 f3 S3 => by
    obtain ⟨a, vs, rfl, e, dx⟩ := lst_v (o1.mono (S2.trans S3))
    exact ⟨a, vs, rfl, SqL.of (vw_sub _ _ e), fun b hb => q b _ _ _ (R3.fly hb) aset_at (((S1.trans S2).trans S3).trans (vw_fly hb)) upd_same (DnAll.mono (vw_fly hb) (dn_cut dx))⟩
theorem el_slO {lo hi : Option Int} (h0 : ρ[k]? = some (.l ys)) (h1 : Eo tl ρ lo ρ1) (h2 : Eo th ρ1 hi ρ2) (h3 : ρ2[k]? = some (.l xs)) : El (tSl (rSlL KF) (tVar k) tl th) ρ (cutD xs lo hi) ρ2 := fun c A σ H Q R f q => by
  obtain ⟨a, _, _, e1, _, _⟩ := R.sl k _ h0
  refine ⟨_, e1, h1 c A σ H _ R f fun A2 H2 R2 f2 S2 => h2 c A2 σ H2 _ R2 f2 fun A3 H3 R3 f3 S3 => ?_⟩
  obtain ⟨b, vs, _, e2, e3, dx⟩ := R3.sl k _ h3
  rw [e1] at e2
  cases e2
  exact ⟨a, vs, rfl, SqL.of e3, fun b hb => q b _ _ _ (R3.fly hb) aset_at ((S2.trans S3).trans (vw_fly hb)) upd_same (DnAll.mono (vw_fly hb) (dn_cut dx))⟩
/-! sums -/
theorem fl_cat (len : xs.length + ys.length ≤ sizeLine) : FL2 rCat (.d (.list xs)) (.d (.list ys)) (xs ++ ys) := fun W H v w Q S o o' q => by
  obtain ⟨a, vs, rfl, e, dx⟩ := lst_v o
  obtain ⟨b, ws, rfl, e', dy⟩ := lst_v o'
  exact ⟨a, b, vs, ws, rfl, rfl, S _ _ e, S _ _ e', by rw [dx.length, dy.length]; exact len, fun p hp => q p _ hp (dx.append dy)⟩
theorem fv_catA (len : xs.length + ys.length ≤ sizeLine) : FV2 (rCatA KF) (.d (.tuple xs)) (.d (.tuple ys)) (.d (.tuple (xs ++ ys))) := fun W H v w Q S o o' q => by
  obtain ⟨a, vs, rfl, e, dx⟩ := tup_v o
  obtain ⟨b, ws, rfl, e', dy⟩ := tup_v o'
  refine ⟨a, b, vs, ws, rfl, rfl, SqT.of (S _ _ e), SqT.of (S _ _ e'), by rw [dx.length, dy.length]; exact len, fun z => ?_, fun _ z => ?_, fun _ _ p hp => ?_⟩
  · subst z
    cases dx
    exact q _ H (Same.refl _) fun W' S' _ => .tup (S' _ _ e') (DnAll.mono S' dy)
  · subst z
    cases dy
    rw [List.append_nil] at q
    exact q _ H (Same.refl _) fun W' S' _ => .tup (S' _ _ e) (DnAll.mono S' dx)
  · exact q _ _ (Same.new hp) fun W' S' nw => .tup (nw _ _ hp upd_same) (DnAll.mono S' (dx.append dy))
theorem fv_repT {n : Int} (h : xs ≠ [] ∧ 2 ≤ n ∧ n ≤ 1000 ∧ xs.length ≤ 1000) : FV2 (rRepT KF) (.d (.tuple xs)) (.d (.int n)) (.d (.tuple (List.replicate n.toNat xs).flatten)) := fun W H v w Q S o o' q => by
  obtain rfl := int_v o'
  obtain ⟨a, vs, rfl, e, dx⟩ := tup_v o
  refine ⟨a, n, vs, rfl, rfl, SqT.of (S _ _ e), fun z => ?_, h.2.1, h.2.2.1, by rw [dx.length]; exact h.2.2.2, fun p hp => ?_⟩
  · subst z
    cases dx
    exact h.1 rfl
  · refine q _ _ (Same.new hp) fun W' S' nw => .tup (nw _ _ hp upd_same) (DnAll.mono S' ?_)
    have : ∀ m : Nat, DnAll W (List.replicate m vs).flatten (List.replicate m xs).flatten := fun m => by
      induction m with
      | zero => exact .nil
      | succ m ih => exact dx.append ih
    exact this _
/-! built-ins -/
theorem fv_isD {T : String} {f : PyData → Bool} : FV (rIsD T f) [.d x, .p (isV (.ty T))] (.d (.bool (f x))) := fv_s (dB (f x)) fun W H vs Q S o q => by
  match vs, o with
  | [v, w], o =>
    obtain rfl := isv_v o.2.1
    exact ⟨v, x, rfl, Dn.mono S o.1, q⟩
theorem inV_str {W : Hp} (a : Str) : ∀ {vs : List V} {bs : List Str}, DnAll W vs (bs.map .str) → vs.all flatV = true ∧ inV (.str a) vs = bs.any fun b => b == a
  | [], [], _ => ⟨rfl, rfl⟩
  | v :: vs, b :: bs, h => by
    cases h with
    | cons h t =>
      cases h
      obtain ⟨p, q⟩ := inV_str a t
      refine ⟨by rw [List.all_cons, p]; rfl, ?_⟩
      unfold inV at q ⊢
      rw [List.any_cons, List.any_cons, q]
      rfl
theorem fv_inT {a : Str} {bs : List Str} : FV2 (rIn KF false) (.d (.str a)) (.d (.tuple (bs.map .str))) (.d (.bool (bs.any fun b => b == a))) := fv2_s (dB (bs.any fun b => b == a)) fun W H v w Q S o o' q => by
  obtain rfl := str_v o
  obtain ⟨p, vs, rfl, e, dx⟩ := tup_v o'
  obtain ⟨h1, h2⟩ := inV_str a dx
  exact ⟨p, vs, rfl, Or.inr (SqT.of (S _ _ e)), rfl, h1, by rw [h2]; exact q⟩
theorem fv_intB {b : Bool} : FV (fun xs H Q => (∃ i, xs = [.int i] ∧ Q (.int i) H) ∨ ∃ k, xs = [.bl k] ∧ Q (.int (if k then 1 else 0)) H) [.d (.bool b)] (.d (.int (if b then 1 else 0))) := fv_s (dI (if b then 1 else 0)) fun W H vs Q S o q => by
  match vs, o with
  | [v], o =>
    obtain rfl := bool_v o.1
    exact Or.inr ⟨b, rfl, q⟩
theorem fv_max2 {m n : Int} : FV (fun xs H Q => ∃ i j, xs = [.int i, .int j] ∧ Q (.int (if j > i then j else i)) H) [.d (.int m), .d (.int n)] (.d (.int (if n > m then n else m))) := fv_s (dI (if n > m then n else m)) fun W H vs Q S o q => by
  match vs, o with
  | [v, w], o =>
    obtain rfl := int_v o.1
    obtain rfl := int_v o.2.1
    exact ⟨m, n, rfl, q⟩
theorem fv_min2 {m n : Int} : FV (fun xs H Q => ∃ i j, xs = [.int i, .int j] ∧ Q (.int (if j < i then j else i)) H) [.d (.int m), .d (.int n)] (.d (.int (if n < m then n else m))) := fv_s (dI (if n < m then n else m)) fun W H vs Q S o q => by
  match vs, o with
  | [v, w], o =>
    obtain rfl := int_v o.1
    obtain rfl := int_v o.2.1
    exact ⟨m, n, rfl, q⟩
theorem dn_bools {W : Hp} : ∀ {vs : List V} {bs : List Bool}, DnAll W vs (bs.map .bool) → vs = bs.map V.bl
  | [], [], _ => rfl
  | v :: vs, b :: bs, h => by
    cases h with
    | cons h t =>
      cases h
      rw [dn_bools t]
      rfl
theorem fv_all {bs : List Bool} : FV (rAll KF) [.d (.list (bs.map .bool))] (.d (.bool (bs.all id))) := fv_s (dB (bs.all id)) fun W H vs Q S o q => by
  match vs, o with
  | [v], o =>
    obtain ⟨a, ws, rfl, e, dx⟩ := lst_v o.1
    obtain rfl := dn_bools dx
    exact ⟨a, bs, rfl, SqL.of (S _ _ e), q⟩
theorem fv_any {bs : List Bool} : FV (rAny KF) [.d (.list (bs.map .bool))] (.d (.bool (bs.any id))) := fv_s (dB (bs.any id)) fun W H vs Q S o q => by
  match vs, o with
  | [v], o =>
    obtain ⟨a, ws, rfl, e, dx⟩ := lst_v o.1
    obtain rfl := dn_bools dx
    exact ⟨a, bs, rfl, SqL.of (S _ _ e), q⟩
theorem fl_listL : FL (fun xs H Q => ∃ p ys, xs = [.ref p] ∧ (SqL KF H p ys ∨ SqT KF H p ys) ∧ ∀ l, H l = none → Q (.ref l) (upd H l (.lst ys))) [.d (.list xs)] xs := fun W H vs Q S o q => by
  match vs, o with
  | [v], o =>
    obtain ⟨a, ws, rfl, e, dx⟩ := lst_v o.1
    exact ⟨a, ws, rfl, Or.inl (SqL.of (S _ _ e)), fun l hl => q l ws hl dx⟩
theorem fl_listT : FL (fun xs H Q => ∃ p ys, xs = [.ref p] ∧ (SqL KF H p ys ∨ SqT KF H p ys) ∧ ∀ l, H l = none → Q (.ref l) (upd H l (.lst ys))) [.d (.tuple xs)] xs := fun W H vs Q S o q => by
  match vs, o with
  | [v], o =>
    obtain ⟨a, ws, rfl, e, dx⟩ := tup_v o.1
    exact ⟨a, ws, rfl, Or.inr (SqT.of (S _ _ e)), fun l hl => q l ws hl dx⟩
theorem fv_tupL : FV (fun xs H Q => ∃ p ys, xs = [.ref p] ∧ ((SqL KF H p ys ∧ ∀ l, H l = none → Q (.ref l) (upd H l (.tup ys))) ∨ (SqT KF H p ys ∧ Q (.ref p) H))) [.d (.list xs)] (.d (.tuple xs)) := fun W H vs Q S o q => by
  match vs, o with
  | [v], o =>
    obtain ⟨a, ws, rfl, e, dx⟩ := lst_v o.1
    exact ⟨a, ws, rfl, Or.inl ⟨SqL.of (S _ _ e), fun l hl => q _ _ (Same.new hl) fun W' S' nw => .tup (nw _ _ hl upd_same) (DnAll.mono S' dx)⟩⟩
theorem fv_tupT : FV (fun xs H Q => ∃ p ys, xs = [.ref p] ∧ ((SqL KF H p ys ∧ ∀ l, H l = none → Q (.ref l) (upd H l (.tup ys))) ∨ (SqT KF H p ys ∧ Q (.ref p) H))) [.d (.tuple xs)] (.d (.tuple xs)) := fun W H vs Q S o q => by
  match vs, o with
  | [v], o =>
    obtain ⟨a, ws, rfl, e, dx⟩ := tup_v o.1
    exact ⟨a, ws, rfl, Or.inr ⟨SqT.of (S _ _ e), q _ H (Same.refl _) fun W' S' _ => .tup (S' _ _ e) (DnAll.mono S' dx)⟩⟩
theorem fv_repr (h1 : x.showable = true) (h2 : x.shown.length ≤ sizeLine) (h3 : x.depth ≤ 100) : FV rRepr [.d x] (.d (.str x.shown)) := fv_s (dS x.shown) fun W H vs Q S o q => by
  match vs, o with
  | [v], o => exact ⟨v, x, rfl, Dn.mono S o.1, h1, h2, h3, q⟩
/-! methods of owned lists -/
theorem sm_app (h0 : ρ[k]? = some (.l ys)) (h : Ev te ρ (.d x) ρ1) (h1 : ρ1[k]? = some (.l xs)) (len : xs.length < sizeLine) (q : K.nx (ρ1.set k (.l (xs ++ [x])))) : Sm (tDrop (tBM KF "list" rAppend (tVar k) (tCons te tNil))) ρ K := fun c A σ H D R f dk => by
  obtain ⟨a, vs0, _, e1, e2, _⟩ := R.sl k _ h0
  refine ⟨_, e1, Or.inl ⟨rfl, vs0, SqL.of e2⟩, h c A σ H _ R f fun w A1 H1 R1 f1 S1 o1 => ?_⟩
  obtain ⟨b, vs, ea, e3, e4, dx⟩ := R1.sl k _ h1
  rw [e1] at e3
  cases e3
  refine ⟨a, vs, w, rfl, rfl, e4, by rw [dx.length]; exact len, dk.nx _ _ _ _ q (R1.mut h1 ea (dx.snoc o1)) f1⟩
theorem dn_unsnoc {W : Hp} : ∀ {xs : List PyData} {x : PyData} {vs : List V}, DnAll W vs (xs ++ [x]) → ∃ ws v, vs = ws ++ [v] ∧ DnAll W ws xs ∧ Dn W v x
  | [], x, vs, h => by
    obtain ⟨v, rfl, d⟩ := dn_one h
    exact ⟨[], v, rfl, .nil, d⟩
  | y :: xs, x, vs, h => by
    cases h with
    | cons a b =>
      obtain ⟨ws, v, rfl, d1, d2⟩ := dn_unsnoc b
      exact ⟨_ :: ws, v, rfl, .cons a d1, d2⟩
theorem ev_pop (h0 : ρ[k]? = some (.l (xs ++ [x]))) : Ev (tBM0 KF "list" rPop (tVar k)) ρ (.d x) (ρ.set k (.l xs)) := fun c A σ H Q R f q => by
  obtain ⟨a, vs0, ea, e1, e2, dx⟩ := R.sl k _ h0
  obtain ⟨ws, v, rfl, d1, d2⟩ := dn_unsnoc dx
  refine ⟨_, e1, Or.inl ⟨rfl, _, SqL.of e2⟩, a, _, v, rfl, rfl, e2, ?_, ?_⟩
  · rw [List.length_append, List.length_singleton, Nat.add_sub_cancel, List.getElem?_append_right (Nat.le_refl _), Nat.sub_self]
    rfl
  · rw [List.dropLast_concat]
    have hv : vw c.Z A (upd H a (.lst ws)) = vw c.Z A H := vw_mut ea
    exact q v A _ (R.mut h0 ea d1) f (by rw [hv]; exact Same.refl _) (by rw [hv]; exact d2)
theorem sm_rev (h0 : ρ[k]? = some (.l xs)) (q : K.nx (ρ.set k (.l xs.reverse))) : Sm (tDrop (tBM0 KF "list" rReverse (tVar k))) ρ K := fun c A σ H D R f dk => by
  obtain ⟨a, vs, ea, e1, e2, dx⟩ := R.sl k _ h0
  have rv : ∀ {vs : List V} {xs : List PyData}, DnAll (vw c.Z A H) vs xs → DnAll (vw c.Z A H) vs.reverse xs.reverse := fun {vs xs} h => by
    induction h using DnAll.rec (motive_1 := fun _ _ _ => True) with
    | nil => exact .nil
    | cons a b _ ih =>
      rw [List.reverse_cons, List.reverse_cons]
      exact ih.snoc a
    | _ => trivial
  exact ⟨_, e1, Or.inl ⟨rfl, _, SqL.of e2⟩, a, vs, rfl, rfl, e2, dk.nx _ _ _ _ q (R.mut h0 ea (rv dx)) f⟩
theorem dn_set {W : Hp} : ∀ {vs : List V} {xs : List PyData} {v : V} {x : PyData} (n : Nat), DnAll W vs xs → Dn W v x → DnAll W (vs.set n v) (xs.set n x)
  | _, _, _, _, _, .nil, _ => .nil
  | _, _, _, _, 0, .cons a b, d => .cons d b
  | _, _, _, _, n + 1, .cons a b, d => .cons a (dn_set n b d)
theorem sm_setI {m : Nat} {z : Int} (h0 : ρ1[k]? = some (.l ys)) (h : Ev te ρ (.d x) ρ1) (hi : Ev ti ρ1 (.d (.int z)) ρ2) (h1 : ρ2[k]? = some (.l xs)) (e : ixN xs.length z = some m) (q : K.nx (ρ2.set k (.l (xs.set m x)))) : Sm (tAsg te (gSub (tVar k) ti rSetL)) ρ K := fun c A σ H D R f dk =>
  h c A σ H _ R f fun w A1 H1 R1 f1 S1 o1 => by
    obtain ⟨a, vs0, _, e1, e2, _⟩ := R1.sl k _ h0
    refine ⟨_, e1, hi c A1 σ H1 _ R1 f1 fun u A2 H2 R2 f2 S2 o2 => ?_⟩
    obtain rfl := int_v o2
    obtain ⟨b, vs, ea, e3, e4, dx⟩ := R2.sl k _ h1
    rw [e1] at e3
    cases e3
    exact ⟨a, vs, z, m, rfl, rfl, e4, by rw [dx.length]; exact e, dk.nx _ _ _ _ q (R2.mut h1 ea (dn_set m dx (o1.mono S2))) f2⟩
end
end OW
set_option Elab.async false
set_option linter.unusedVariables false
set_option maxRecDepth 100000
set_option maxHeartbeats 1000000
namespace OW
open PySem PySem.Spec PyProof.Rows L2 KA
/-! ### comprehensions -/
section
variable {c : Fr} {A A' : Am} {ρ ρ' : List Sl} {σ : L2.St} {H H' : Hp}
theorem Rp.mutFl (R : Rp c A ρ σ H) {a : Addr} {o : HO} (e : A fl = some a) : Rp c A ρ σ (upd H a o) := by
  have hv : vw c.Z A (upd H a o) = vw c.Z A H := vw_mut e
  refine ⟨R.len, R.sz, R.inj, R.off, ?_, ?_, by rw [hv]; exact R.old, R.bor, ?_⟩
  · intro j b z
    by_cases q : b = a
    · rw [q, upd_same]
      simp
    · rw [upd_ne q]
      exact R.live _ _ z
  · intro b z
    have nb : b ≠ a := fun q => R.off _ _ e (q ▸ z)
    rw [upd_ne nb]
    exact R.keep b z
  · intro j t z
    rw [hv]
    refine (R.sl j t z).mono (Same.refl _) fun b ws e' hb => ?_
    have nb : b ≠ a := fun q => idx_small R.sz z (R.inj _ _ _ e' (q ▸ e))
    rw [upd_ne nb]
    exact hb
/-- the new list D counts as another's while the rest goes on -/
def Fr.park (c : Fr) (D : Addr) (H : Hp) (F : Hp) : Fr := ⟨fun b => c.Z b ∨ b = D, c.B, H, F⟩
theorem vw_park {D : Addr} (e : A fl = some D) (inj : ∀ i j a, A i = some a → A j = some a → i = j) : vw (fun b => c.Z b ∨ b = D) (aset A fl none) H = vw c.Z A H := by
  funext b
  unfold vw
  have : ((c.Z b ∨ b = D) ∨ ∃ i, aset A fl none i = some b) ↔ (c.Z b ∨ ∃ i, A i = some b) := by
    constructor
    · rintro ((z | z) | ⟨i, z⟩)
      · exact Or.inl z
      · exact Or.inr ⟨fl, by rw [z]; exact e⟩
      · by_cases q : i = fl
        · rw [q, aset_at] at z
          cases z
        · rw [aset_ne q] at z
          exact Or.inr ⟨i, z⟩
    · rintro (z | ⟨i, z⟩)
      · exact Or.inl (Or.inl z)
      · by_cases q : i = fl
        · rw [q, e] at z
          cases z
          exact Or.inl (Or.inr rfl)
        · exact Or.inr ⟨i, by rw [aset_ne q]; exact z⟩
  by_cases q : c.Z b ∨ ∃ i, A i = some b
  · rw [if_pos q, if_pos (this.mpr q)]
  · rw [if_neg q, if_neg fun z => q (this.mp z)]
theorem Rp.park (R : Rp c A ρ σ H) {D : Addr} (e : A fl = some D) : Rp (c.park D H (vw c.Z A H)) (aset A fl none) ρ σ H := by
  have back : ∀ {i a}, aset A fl none i = some a → i ≠ fl ∧ A i = some a := fun {i a} z => by
    by_cases q : i = fl
    · rw [q, aset_at] at z
      cases z
    · rw [aset_ne q] at z
      exact ⟨q, z⟩
  have hv := vw_park (c := c) (H := H) e R.inj
  refine ⟨R.len, R.sz, fun i j a z z' => R.inj _ _ _ (back z).2 (back z').2, ?_, fun i a z => R.live _ _ (back z).2, ?_, ?_, ?_, ?_⟩
  · rintro i a z (w | w)
    · exact R.off _ _ (back z).2 w
    · exact (back z).1 (R.inj _ _ _ (back z).2 (w ▸ e))
  · rintro a (z | z)
    · exact ⟨by show H a ≠ none; rw [(R.keep a z).2]; exact (R.keep a z).1, rfl⟩
    · exact ⟨by show H a ≠ none; rw [z]; exact R.live _ _ e, rfl⟩
  · show Same (vw c.Z A H) (vw (fun b => c.Z b ∨ b = D) (aset A fl none) H)
    rw [hv]
    exact Same.refl _
  · intro p z
    rw [aset_ne (by decide)]
    exact R.bor p z
  · intro i s z
    show SlOk (vw (fun b => c.Z b ∨ b = D) (aset A fl none) H) H σ[i]? (aset A fl none i) s
    rw [hv, aset_ne (idx_small R.sz z)]
    exact R.sl i s z
theorem vw_unpark {D : Addr} (f : A fl = none) : vw c.Z (aset A fl (some D)) H = vw (fun b => c.Z b ∨ b = D) A H := by
  funext b
  unfold vw
  have : (c.Z b ∨ ∃ i, aset A fl (some D) i = some b) ↔ ((c.Z b ∨ b = D) ∨ ∃ i, A i = some b) := by
    constructor
    · rintro (z | ⟨i, z⟩)
      · exact Or.inl (Or.inl z)
      · by_cases q : i = fl
        · rw [q, aset_at] at z
          exact Or.inl (Or.inr (Option.some.inj z).symm)
        · rw [aset_ne q] at z
          exact Or.inr ⟨i, z⟩
    · rintro ((z | z) | ⟨i, z⟩)
      · exact Or.inl z
      · exact Or.inr ⟨fl, by rw [z]; exact aset_at⟩
      · have q : i ≠ fl := fun q => by rw [q, f] at z; cases z
        exact Or.inr ⟨i, by rw [aset_ne q]; exact z⟩
  by_cases q : (c.Z b ∨ b = D) ∨ ∃ i, A i = some b
  · rw [if_pos q, if_pos (this.mpr q)]
  · rw [if_neg q, if_neg fun z => q (this.mp z)]
theorem Rp.unpark {c0 : Fr} {D : Addr} {H0 F : Hp} (R : Rp (c0.park D H0 F) A ρ σ H) (f : A fl = none) (nZ : ¬ c0.Z D) (hk : ∀ a, c0.Z a → c0.G a ≠ none ∧ H0 a = c0.G a) (hF : Same c0.F F) : Rp c0 (aset A fl (some D)) ρ σ H := by
  have nD : ∀ i, A i ≠ some D := fun i z => R.off _ _ z (Or.inr rfl)
  have hv := vw_unpark (c := c0) (H := H) (D := D) f
  refine ⟨R.len, R.sz, ?_, ?_, ?_, ?_, ?_, ?_, ?_⟩
  · intro i j a z z'
    by_cases q : i = fl
    · by_cases q' : j = fl
      · rw [q, q']
      · rw [q, aset_at] at z
        rw [aset_ne q'] at z'
        cases z
        exact absurd z' (nD j)
    · rw [aset_ne q] at z
      by_cases q' : j = fl
      · rw [q', aset_at] at z'
        cases z'
        exact absurd z (nD i)
      · rw [aset_ne q'] at z'
        exact R.inj _ _ _ z z'
  · intro i a z w
    by_cases q : i = fl
    · rw [q, aset_at] at z
      cases z
      exact nZ w
    · rw [aset_ne q] at z
      exact R.off _ _ z (Or.inl w)
  · intro i a z
    by_cases q : i = fl
    · rw [q, aset_at] at z
      cases z
      have := R.keep D (Or.inr rfl)
      rw [this.2]
      exact this.1
    · rw [aset_ne q] at z
      exact R.live _ _ z
  · intro a z
    have := R.keep a (Or.inl z)
    exact ⟨(hk a z).1, this.2.trans (hk a z).2⟩
  · rw [hv]
    exact hF.trans R.old
  · intro p z
    rw [aset_ne (by decide)]
    exact R.bor p z
  · intro i s z
    rw [hv, aset_ne (idx_small R.sz z)]
    exact R.sl i s z
/-- the one slot of a comprehension -/
theorem rp_wipe (R : Rp c A ρ σ H) {v : Nat} (h : ρ[v]? = some .any) : Rp c A (ρ.set v .un) (wipe σ [v]) H := by
  refine ⟨?_, by rw [List.length_set]; exact R.sz, R.inj, R.off, R.live, R.keep, R.old, R.bor, ?_⟩
  · rw [wipe_length, List.length_set, R.len]
  · intro i s z
    show SlOk _ _ (σ.set v none)[i]? _ _
    by_cases q : i = v
    · subst q
      have lt := (List.getElem?_eq_some_iff.mp h).1
      rw [List.getElem?_set_self lt] at z
      cases z
      rw [List.getElem?_set_self (by rw [R.len]; exact lt)]
      exact ⟨rfl, R.sl i _ h⟩
    · rw [List.getElem?_set_ne (Ne.symm q)] at z ⊢
      exact R.sl i s z
@[reducible] def Sl.free : Sl → Prop
  | .un | .any | .d _ | .p _ => True
  | _ => False
theorem rp_unwipe {σ2 : L2.St} (R : Rp c A ρ σ2 H) {v : Nat} (e : wipe σ2 [v] = wipe σ [v]) {s : Sl} (h : ρ[v]? = some s) (hs : s.free) : Rp c A (ρ.set v .any) σ H := by
  have len : σ2.length = σ.length := by
    have := congrArg List.length e
    rw [wipe_length, wipe_length] at this
    exact this
  refine ⟨by rw [List.length_set, ← len, R.len], by rw [List.length_set]; exact R.sz, R.inj, R.off, R.live, R.keep, R.old, R.bor, ?_⟩
  intro i t z
  by_cases q : i = v
  · subst q
    have lt := (List.getElem?_eq_some_iff.mp h).1
    rw [List.getElem?_set_self lt] at z
    cases z
    have o := R.sl i _ h
    show A i = none
    cases s with
    | un => exact o.2
    | any => exact o
    | d x => exact o.1
    | p P => exact o.1
    | l xs => exact hs.elim
    | la a xs => exact hs.elim
    | wa a xs => exact hs.elim
  · rw [List.getElem?_set_ne (Ne.symm q)] at z
    have e' : σ2[i]? = σ[i]? := by
      have := congrArg (fun l : L2.St => l[i]?) e
      show σ2[i]? = σ[i]?
      have h1 : (wipe σ2 [v])[i]? = σ2[i]? := List.getElem?_set_ne (Ne.symm q)
      have h2 : (wipe σ [v])[i]? = σ[i]? := List.getElem?_set_ne (Ne.symm q)
      rw [← h1, ← h2]
      exact this
    rw [← e']
    exact R.sl i t z
end
section
variable {ρ ρ0 : List Sl} {te : TE} {xs : List PyData} {wi : TI} {v : Nat}
/-- [te for v in xs]: R j, what stands ahead of turn j (the slot v is any), acc j what is made so far -/
theorem el_lc (h : Fi wi ρ xs ρ0) (R : Nat → List Sl) (acc : Nat → List PyData) (h0 : R 0 = ρ0.set v .any) (hv : ∃ s, ρ0[v]? = some s ∧ s.free) (ha : acc 0 = []) (v0 : v ≠ 0 := by decide)
    (len : ∀ j, j < xs.length → (acc j).length < sizeLine)
    (hs : ∀ j x, xs[j]? = some x → (R j)[v]? = some .any → ∃ y ρ4, Ev te ((R j).set v (.d x)) (.d y) ρ4 ∧ acc (j + 1) = acc j ++ [y] ∧ ρ4.set v .any = R (j + 1) ∧ ∃ s, ρ4[v]? = some s ∧ s.free) :
    El (tLc wi (gName v) tYes te [v]) ρ (acc xs.length) (R xs.length) := fun c A σ H Q R0 f q =>
  h c A σ H _ R0 f fun J A1 H1 R1 f1 S1 jk => fun D hD => by
    obtain ⟨s0, hs0, ns0⟩ := hv
    have any0 : Rp c A1 (ρ0.set v .any) σ H1 := rp_unwipe R1 rfl hs0 ns0
    have lt0 := (List.getElem?_eq_some_iff.mp hs0).1
    refine ⟨fun j m H' => m = xs.length - j ∧ j ≤ xs.length ∧ ∃ A' vs, Rp c A' (R j) σ H' ∧ (R j)[v]? = some .any ∧ A' fl = some D ∧ H' D = some (.lst vs) ∧ DnAll (vw c.Z A' H') vs (acc j) ∧ Same (vw c.Z A1 H1) (vw c.Z A' H'), ⟨xs.length, by simp, Nat.zero_le _, _, [], by rw [h0]; exact any0.fly hD, ?_, aset_at, upd_same, by rw [ha]; exact .nil, vw_fly hD⟩, ?_⟩
    · rw [h0, List.getElem?_set_self lt0]
    rintro j m H' ⟨rfl, hj, A', vs, R', an, f', eD, dx, S'⟩
    have SJ : Same (vw c.Z A1 H1) H' := S'.trans vw_sub
    by_cases lt : j < xs.length
    · have e := List.getElem?_eq_getElem lt
      obtain ⟨go, yl⟩ := jk.1 j _ H' e SJ
      refine Or.inr ⟨go, fun H2 => j + 1 ≤ xs.length ∧ ∃ A' vs, Rp c A' (R (j + 1)) σ H2 ∧ (R (j + 1))[v]? = some .any ∧ A' fl = some D ∧ H2 D = some (.lst vs) ∧ DnAll (vw c.Z A' H2) vs (acc (j + 1)) ∧ Same (vw c.Z A1 H1) (vw c.Z A' H2), fun H2 p => ⟨xs.length - (j + 1), by omega, rfl, p.1, p.2⟩, fun w H2 y => ?_⟩
      obtain ⟨S2, dn⟩ := yl w H2 y
      have R2 := R'.up S2
      have eD2 := S2 _ _ eD
      have dx2 : DnAll (vw c.Z A' H2) vs (acc j) := DnAll.mono (vw_up S2) dx
      have dw : Dn (vw c.Z A' H2) w xs[j] := dn _ (S'.trans (vw_up S2)) fun b o n e => new_view R' n e
      have P := R2.park f'
      have hvp := vw_park (c := c) (H := H2) f' R2.inj
      have PW := rp_wipe P an
      have PS := PW.set (i := v) (v := w) (s := .d xs[j]) v0 ⟨rfl, w, rfl, by
        show Dn (vw (fun b => c.Z b ∨ b = D) (aset A' fl none) H2) w xs[j]
        rw [hvp]
        exact dw⟩
      obtain ⟨y, ρ4, ev, ea, eR, s4, hs4, ns4⟩ := hs j _ e an
      rw [List.set_set] at PS
      have wip : wipe ((wipe σ [v]).set v (some w)) [v] = wipe σ [v] := by
        show ((σ.set v none).set v (some w)).set v none = σ.set v none
        rw [List.set_set, List.set_set]
      refine ⟨wip, ?_⟩
      have vfl : fl ≠ v := (idx_small R'.sz an).symm
      refine ev (c.park D H2 (vw c.Z A' H2)) _ _ H2 _ PS (by rw [aset_ne vfl]; exact aset_at) fun u A3 H3 R3 f3 S3 o3 => ?_
      have nZ : ¬ c.Z D := R2.off _ _ f'
      have U := R3.unpark f3 nZ (fun a z => R2.keep a z) R2.old
      have U1 := rp_unwipe U wip hs4 ns4
      have kD := (R3.keep D (Or.inr rfl)).2
      have eD3 : H3 D = some (.lst vs) := kD.trans eD2
      have hv3 := vw_unpark (c := c) (H := H3) (D := D) f3
      have o3' : Dn (vw c.Z (aset A3 fl (some D)) H3) u y := by
        rw [hv3]
        exact o3
      have SS : Same (vw c.Z A' H2) (vw c.Z (aset A3 fl (some D)) H3) := by
        rw [hv3]
        exact R3.old
      rw [eR] at U1
      refine ⟨vs, eD3, by rw [dx.length]; exact len j lt, lt, aset A3 fl (some D), vs ++ [u], U1.mutFl aset_at, ?_, aset_at, upd_same, ?_, ?_⟩
      · rw [← eR, List.getElem?_set_self (List.getElem?_eq_some_iff.mp hs4).1]
      · rw [vw_mut (A := aset A3 fl (some D)) (i := fl) aset_at, ea]
        exact (DnAll.mono SS dx2).snoc o3'
      · rw [vw_mut (A := aset A3 fl (some D)) (i := fl) aset_at]
        exact (S'.trans (vw_up S2)).trans SS
    · have e : j = xs.length := by omega
      subst e
      exact Or.inl ⟨jk.2 H' SJ, q D vs A' H' R' f' (S1.trans S') eD dx⟩
/-- .. where the element changes nothing -/
theorem el_lcP {f : PyData → PyData} (h : Fi wi ρ xs ρ0) (hv : ∃ s, ρ0[v]? = some s ∧ s.free) (len : xs.length ≤ sizeLine) (hs : ∀ x, x ∈ xs → Ev te (ρ0.set v (.d x)) (.d (f x)) (ρ0.set v (.d x))) (v0 : v ≠ 0 := by decide) :
    El (tLc wi (gName v) tYes te [v]) ρ (xs.map f) (ρ0.set v .any) := by
  obtain ⟨s0, hs0, ns0⟩ := hv
  have lt0 := (List.getElem?_eq_some_iff.mp hs0).1
  have := el_lc (te := te) h (fun _ => ρ0.set v .any) (fun j => (xs.take j).map f) rfl ⟨s0, hs0, ns0⟩ rfl v0 (fun j hj => by rw [List.length_map, List.length_take]; omega) fun j x e _ => by
    refine ⟨f x, ρ0.set v (.d x), ?_, ?_, by rw [List.set_set], .d x, List.getElem?_set_self lt0, trivial⟩
    · show Ev te ((ρ0.set v .any).set v (.d x)) _ _
      rw [List.set_set]
      exact hs x (List.mem_of_getElem? e)
    · show (xs.take (j + 1)).map f = (xs.take j).map f ++ [f x]
      rw [take_snoc e, List.map_append]
      rfl
  have e2 : (xs.take xs.length).map f = xs.map f := by rw [List.take_length]
  rw [← e2]
  exact this
end
end OW
set_option Elab.async false
set_option linter.unusedVariables false
set_option maxRecDepth 100000
set_option maxHeartbeats 2000000
namespace KP
open PySem PySem.Spec PyProof.Rows L2 KA OW
/-! ### terms taken apart -/
abbrev sPartsOf : Stmt := top 8
abbrev sPassed : Stmt := top 9
abbrev sAllSpots : Stmt := top 10
abbrev sReached : Stmt := top 11
abbrev sWithPart : Stmt := top 12
def partsD : PyData → List PyData
  | .tuple (.str wd :: ds) => if (parts wd).isSome = true then ds else []
  | _ => []
def passD (wd : Str) (i : Int) : Int := if i = 1 ∧ (wd = "all" ∨ wd = "fun") then 1 else 0
def wdD : PyData → Str
  | .tuple (.str wd :: _) => wd
  | _ => ""
def spotT (p : List Nat) : PyData := .tuple (p.map fun i : Nat => .int (i : Int))
mutual
def spotsF : PyData → List Nat → List (List Nat)
  | .tuple (.str w :: ds), p => p :: (if (parts w).isSome = true then spotsFL ds p 0 else [])
  | _, p => [p]
def spotsFL : List PyData → List Nat → Nat → List (List Nat)
  | [], _, _ => []
  | d :: ds, p, i => spotsF d (p ++ [i]) ++ spotsFL ds p (i + 1)
end
def pushP : List PyData → List Nat → Nat → List (PyData × List Nat)
  | [], _, _ => []
  | e :: es, p, i => (e, p ++ [i]) :: pushP es p (i + 1)
def itemT (q : PyData × List Nat) : PyData := .tuple [q.1, spotT q.2]
theorem tm_shape {d : PyData} (h : tm d = true) : ∃ wd ds, d = .tuple (.str wd :: ds) := by
  cases hT : isTupD d with
  | false =>
    rw [isTup_false hT] at h
    cases h
  | true =>
    obtain ⟨ds, rfl⟩ : ∃ ds, d = .tuple ds := by cases d <;> first | exact ⟨_, rfl⟩ | cases hT
    cases ds with
    | nil => simp [tm] at h
    | cons e ds =>
      cases hS : isStrD e with
      | false =>
        rw [isStr_false hS] at h
        cases h
      | true =>
        obtain ⟨wd, rfl⟩ : ∃ wd, e = .str wd := by cases e <;> first | exact ⟨_, rfl⟩ | cases hS
        exact ⟨wd, ds, rfl⟩
theorem parts_tm {d : PyData} (h : tm d = true) : tmAll (partsD d) = true := by
  obtain ⟨wd, ds, rfl⟩ := tm_shape h
  show tmAll (if (parts wd).isSome = true then ds else []) = true
  cases hp : parts wd with
  | none => rfl
  | some n =>
    rw [tm_parts hp] at h
    simp only [Bool.and_eq_true] at h
    exact h.2
theorem tmAll_mem : ∀ {ds : List PyData} {d : PyData}, tmAll ds = true → d ∈ ds → tm d = true
  | e :: ds, d, f, h => by
    have : tm e = true ∧ tmAll ds = true := by simpa only [tmAll, Bool.and_eq_true] using f
    rcases List.mem_cons.mp h with rfl | h
    · exact this.1
    · exact tmAll_mem this.2 h
theorem spotsF_eq {d : PyData} (h : tm d = true) (p : List Nat) : spotsF d p = p :: spotsFL (partsD d) p 0 := by
  obtain ⟨wd, ds, rfl⟩ := tm_shape h
  show p :: (if (parts wd).isSome = true then spotsFL ds p 0 else []) = p :: spotsFL (if (parts wd).isSome = true then ds else []) p 0
  split <;> rfl
theorem spotsFL_push : ∀ (ds : List PyData) (p : List Nat) (i : Nat), spotsFL ds p i = (pushP ds p i).flatMap fun q => spotsF q.1 q.2
  | [], _, _ => rfl
  | d :: ds, p, i => by
    show spotsF d (p ++ [i]) ++ spotsFL ds p (i + 1) = _
    rw [spotsFL_push ds p (i + 1)]
    rfl
theorem pushP_len : ∀ (ds : List PyData) (p : List Nat) (i : Nat), (pushP ds p i).length = ds.length
  | [], _, _ => rfl
  | _ :: ds, p, i => congrArg (· + 1) (pushP_len ds p (i + 1))
theorem pushP_at : ∀ {ds : List PyData} {p : List Nat} {i k : Nat} {e : PyData}, ds[k]? = some e → (pushP ds p i)[k]? = some (e, p ++ [i + k])
  | d :: ds, p, i, 0, e, h => by
    cases h
    rfl
  | d :: ds, p, i, k + 1, e, h => by
    have := pushP_at (p := p) (i := i + 1) (k := k) (ds := ds) h
    show (pushP ds p (i + 1))[k]? = _
    rw [this, show i + 1 + k = i + (k + 1) by omega]
theorem pushP_mem : ∀ {ds : List PyData} {p : List Nat} {i : Nat} {q : PyData × List Nat}, q ∈ pushP ds p i → q.1 ∈ ds
  | d :: ds, p, i, q, h => by
    rcases List.mem_cons.mp h with rfl | h
    · exact List.mem_cons_self
    · exact List.mem_cons_of_mem _ (pushP_mem h)
theorem pushP_plen : ∀ {ds : List PyData} {p : List Nat} {i : Nat} {q : PyData × List Nat}, q ∈ pushP ds p i → q.2.length = p.length + 1
  | d :: ds, p, i, q, h => by
    rcases List.mem_cons.mp h with rfl | h
    · show (p ++ [i]).length = p.length + 1
      rw [List.length_append, List.length_singleton]
    · exact pushP_plen h
theorem mem_nodes : ∀ {ds : List PyData} {d : PyData}, d ∈ ds → nodes d ≤ nodesAll ds
  | e :: ds, d, h => by
    show nodes d ≤ nodes e + nodesAll ds
    rcases List.mem_cons.mp h with rfl | h
    · omega
    · have := mem_nodes h
      omega
def load (ps : List (PyData × List Nat)) : Nat := (ps.map fun q => nodes q.1).sum
theorem load_append (a b : List (PyData × List Nat)) : load (a ++ b) = load a + load b := by unfold load; rw [List.map_append, List.sum_append]
theorem load_rev (a : List (PyData × List Nat)) : load a.reverse = load a := by
  unfold load
  rw [List.map_reverse, List.sum_reverse]
theorem load_push : ∀ (ds : List PyData) (p : List Nat) (i : Nat), load (pushP ds p i) = nodesAll ds
  | [], _, _ => rfl
  | d :: ds, p, i => by
    show nodes d + load (pushP ds p (i + 1)) = nodes d + nodesAll ds
    rw [load_push ds p (i + 1)]
theorem load_len (ps : List (PyData × List Nat)) : ps.length ≤ load ps := by
  induction ps with
  | nil => exact Nat.le_refl _
  | cons q ps ih =>
    have := nodes_pos q.1
    show ps.length + 1 ≤ nodes q.1 + load ps
    omega
theorem parts_nodes {d : PyData} (h : tm d = true) : nodesAll (partsD d) + 1 ≤ nodes d := by
  obtain ⟨wd, ds, rfl⟩ := tm_shape h
  show nodesAll (if (parts wd).isSome = true then ds else []) + 1 ≤ nodesAll (.str wd :: ds) + 1
  have e : nodesAll (.str wd :: ds) = 1 + nodesAll ds := rfl
  split
  · omega
  · show 0 + 1 ≤ _
    omega
section
variable {P : Program} {w : World} {K : PySem.W.Frag} {mg : Str → Option Value} {base : Heap}
theorem fv_parted {a : Addr} {z : Str} (pn : ∀ z, ∃ r, PySem.W.nsIn K a z = some r ∧ RelO ((parts z).map fun n => V.int (n : Int)) r) :
    FV2 (fun x y H Q => ∃ (z : Str) (r : Option Value), x = .str z ∧ y = .ref a ∧ PySem.W.nsIn K a z = some r ∧ Q (.bl r.isSome) H) (.d (.str z)) (.p (isV (.ref a))) (.d (.bool (parts z).isSome)) := by
  obtain ⟨r, h1, h2⟩ := pn z
  have e : r.isSome = (parts z).isSome := by
    cases hp : parts z with
    | none =>
      rw [hp] at h2
      cases r with
      | none => rfl
      | some u => exact h2.elim
    | some n =>
      rw [hp] at h2
      cases r with
      | none => exact h2.elim
      | some u => rfl
  exact fv2_s (dB (parts z).isSome) fun W H v u Q S o o' q => ⟨z, r, str_v o, isv_v o', h1, by rw [e]; exact q⟩
def tPartsOf : List Sl → (Rv → Prop) → Prop := fun as Kr => ∃ wd ds, as = [.d (.tuple (.str wd :: ds))] ∧ Kr (.d (.tuple (partsD (.tuple (.str wd :: ds)))))
theorem scPartsOf : FnScope ["term"] ["term"] (defScope sPartsOf) := ⟨rfl, rfl, rfl, by decide +kernel, rfl, by decide +kernel, by decide +kernel⟩
theorem ok_partsof {f : Addr} {fd : FuncData} (F : Fun K "parts_of" "parts_of" sPartsOf f fd) (T : Txt K w mg) : FnOk P w K mg base CX0 1 f fd ["term"] (spD 1 tPartsOf) := by
  obtain ⟨pa, es, en, pm, PD, pn⟩ := T.parted
  refine fn_d F scPartsOf (body := fun cdv A outer s H E hr => ⟨_, pss_cons (ps_if (pt_cmpR (op_in_kd PD) (pe_ix ix_tup (pv 0) pe_int (fun _ _ => rfl)) (pe_glob (v := .ref pa) rfl pm rfl) rfl) (pss_one (ps_ret (pe_slice sl_tupA (pv 0) (po_some pe_int) po_none))) pss_nil) (pss_one (ps_ret (pe_tup pa_nil))), ?_⟩)
  rintro as Kr _ ⟨wd, ds, rfl, k⟩
  have e0 : partsD (.tuple (.str wd :: ds)) = if (parts wd).isSome = true then ds else [] := rfl
  rw [e0] at k
  refine sm_seq (sm_if (et_test (ev_op (ev_op (ev_var rfl) ev_int (fv_ixT at0)) ev_cv (fv_parted pn))) (fun h => sm_ret (ev_slA (ev_var rfl) (eo_some ev_int) eo_none) ?_) fun h => sm_next (sm_ret (ev_tup eds_nil) ?_))
  · rw [if_pos h] at k
    rw [show (1 : Int) = ((1 : Nat) : Int) from rfl, cutD_from']
    exact k
  · rw [if_neg (by rw [h]; decide)] at k
    exact k
def tPassed : List Sl → (Rv → Prop) → Prop := fun as Kr => ∃ wd i, as = [.d (.str wd), .d (.int i)] ∧ Kr (.d (.int (passD wd i)))
theorem scPassed : FnScope ["word", "at"] ["word", "at"] (defScope sPassed) := ⟨rfl, rfl, rfl, by decide +kernel, rfl, by decide +kernel, by decide +kernel⟩
theorem ok_passed {f : Addr} {fd : FuncData} (F : Fun K "passed" "passed" sPassed f fd) : FnOk P w K mg base CX0 1 f fd ["word", "at"] (spD 2 tPassed) := by
  refine fn_d F scPassed (body := fun cdv A outer s H E hr => ⟨_, pss_cons (ps_if (PW.pt (pw_and (pt_cmpR op_eq (pv 1) pe_int (nomark _)) (pw_and1 (pt_cmpR op_in_seq (pv 0) (pe_tup (pa_cons pe_str (pa_cons pe_str pa_nil))) rfl)))) (pss_one (ps_ret pe_int)) pss_nil) (pss_one (ps_ret pe_int)), ?_⟩)
  rintro as Kr _ ⟨wd, i, rfl, k⟩
  refine sm_seq (sm_if (et_and (et_test (ev_op (ev_var rfl) ev_int fv_eqI)) fun _ => et_test (ev_op (ev_var rfl) (ev_tup (eds_cons ev_str (eds_cons ev_str eds_nil))) (fv_inT (bs := ["all", "fun"])))) (fun h => sm_ret ev_int ?_) fun h => sm_next (sm_ret ev_int ?_))
  · have e : passD wd i = 1 := by
      simp only [Bool.and_eq_true, decide_eq_true_eq, List.any_cons, List.any_nil, Bool.or_false, Bool.or_eq_true, beq_iff_eq] at h
      exact if_pos ⟨h.1, h.2.imp Eq.symm Eq.symm⟩
    rw [e] at k
    exact k
  · have e : passD wd i = 0 := by
      refine if_neg fun z => ?_
      have : (decide (i = 1) && (["all", "fun"] : List Str).any fun b => b == wd) = true := by
        simp only [Bool.and_eq_true, decide_eq_true_eq, List.any_cons, List.any_nil, Bool.or_false, Bool.or_eq_true, beq_iff_eq]
        exact ⟨z.1, z.2.imp Eq.symm Eq.symm⟩
      rw [h] at this
      cases this
    rw [e] at k
    exact k
def tAllSpots : List Sl → (Rv → Prop) → Prop := fun as Kr => ∃ d, as = [.d d] ∧ tm d = true ∧ nodes d ≤ 1000000 ∧ Kr (.l ((spotsF d []).map spotT))
abbrev nAllSpots : List Str := ["term", "found", "waiting", "part", "spot", "below", "at"]
theorem scAllSpots : FnScope nAllSpots ["term"] (defScope sAllSpots) := ⟨rfl, rfl, rfl, by decide +kernel, rfl, by decide +kernel, by decide +kernel⟩
theorem ok_allspots {f : Addr} {fd : FuncData} (F : Fun K "all_spots" "all_spots" sAllSpots f fd) (T : Txt K w mg) (Trev : mg "reversed" = none) (C_parts_of : C8.Cal P w K mg base 1 "parts_of" (spD 1 tPartsOf) []) : FnOk P w K mg base CX0 2 f fd ["term"] (spD 1 tAllSpots) := by
  refine fn_d F scAllSpots (body := fun cdv A outer s H E hr => ⟨_, (pss_cons (ps_set (i := 1) scAllSpots.nd rfl (Or.inl rfl) (pe_lst pa_nil))
      (pss_cons (ps_set (i := 2) scAllSpots.nd rfl (Or.inl rfl) (pe_lst (pa_cons (pe_tup (pa_cons (pv 0) (pa_cons (pe_tup pa_nil) pa_nil))) pa_nil)))
      (pss_cons (ps_while PassesOwn.never (pt_truth (pv 2) (by intro _; rfl)) (pss_cons (ps_asg (pe_bm0 PySem.F.plainAttrs_list PySem.F.slot_list_pop PySem.F.type_list_pop mt_pop (pv 2)) (pg_tup rfl (pgs_cons (pg_name (i := 3) scAllSpots.nd rfl (Or.inl rfl)) (pgs_cons (pg_name (i := 4) scAllSpots.nd rfl (Or.inl rfl)) pgs_nil))))
      (pss_cons (ps_expr (pe_bm PySem.F.plainAttrs_list PySem.F.slot_list_append PySem.F.type_list_append mt_append (pv 1) (pa_cons (pv 4) pa_nil)))
      (pss_cons (ps_set (i := 5) scAllSpots.nd rfl (Or.inl rfl) (C8.pe_c C_parts_of hr (by decide) rfl (pa_cons (pv 3) pa_nil)))
      (pss_one (ps_for PassesOwn.never rfl (pi_revR (by rfl) Trev (prg_1 (by rfl) T.range (pe_callB call_len_seq (by rfl) T.len PySem.boot_len (pa_cons (pv 5) pa_nil)))) (pg_name (i := 6) scAllSpots.nd rfl (Or.inl rfl)) (pss_one (ps_expr (pe_bm PySem.F.plainAttrs_list PySem.F.slot_list_append PySem.F.type_list_append mt_append (pv 2) (pa_cons (pe_tup (pa_cons (pe_ix ix_tup (pv 5) (pv 6) (fun _ _ => rfl)) (pa_cons (pe_tup (StX.pa_star (pv 4) (pa_cons (pv 6) pa_nil))) pa_nil))) pa_nil))))))))))
      (pss_one (ps_ret (pv 1)))))), ?_⟩)
  rintro as Kr _ ⟨d, rfl, td, nd, k⟩
  refine sm_seq (sm_setL (el_lst eds_nil) (sm_seq (sm_setL (el_lst (eds_cons (ev_tup (eds_cons (ev_var rfl) (eds_cons (ev_tup eds_nil) eds_nil))) eds_nil)) (sm_seq (sm_while
    (fun m ρ => ∃ (f : List (List Nat)) (ps : List (PyData × List Nat)) (s3 s4 s5 s6 : Sl), ρ = [.d d, .l (f.map spotT), .l (ps.map itemT), s3, s4, s5, s6] ∧ (∀ q ∈ ps, tm q.1 = true ∧ q.2.length + nodes q.1 ≤ nodes d) ∧ spotsF d [] = f ++ ps.reverse.flatMap (fun q => spotsF q.1 q.2) ∧ f.length + load ps ≤ nodes d ∧ m = load ps)
    ⟨_, [], [(d, [])], _, _, _, _, rfl, ?_, ?_, ?_, rfl⟩ ?_)))))
  · intro q hq
    rw [List.mem_singleton.mp hq]
    exact ⟨td, by show 0 + nodes d ≤ nodes d; omega⟩
  · show _ = [] ++ (spotsF d [] ++ [])
    rw [List.append_nil, List.nil_append]
  · show 0 + (nodes d + 0) ≤ nodes d
    omega
  rintro m ρ ⟨f, ps, s3, s4, s5, s6, rfl, tps, eq, ln, rfl⟩
  refine ⟨_, _, et_truO rfl, fun h => ?_, fun h => ?_⟩
  · obtain ⟨qs, q, rfl⟩ : ∃ qs q, ps = qs ++ [q] := by
      rcases List.eq_nil_or_concat ps with rfl | ⟨qs, q, rfl⟩
      · cases h
      · exact ⟨qs, q, by simp⟩
    obtain ⟨e, p⟩ := q
    have te : tm e = true ∧ p.length + nodes e ≤ nodes d := tps _ (List.mem_append_right _ List.mem_cons_self)
    obtain ⟨te, pe⟩ := te
    rw [List.map_append]
    obtain ⟨wd, ds, rfl⟩ := tm_shape te
    have lq : load (qs ++ [((.tuple (.str wd :: ds) : PyData), p)]) = load qs + nodes (.tuple (.str wd :: ds)) := by
      rw [load_append]
      rfl
    have pn := parts_nodes te
    generalize ed : (.tuple (.str wd :: ds) : PyData) = e at *
    have len1 := load_len qs
    have pl := len_nodes (partsD e)
    refine sm_seq (sm_asg (ev_pop (xs := qs.map itemT) (x := itemT (e, p)) rfl) (tg_tup (xs := [e, spotT p]) (tgs_cons tg_name (tgs_cons tg_name tgs_nil)))
      (sm_seq (sm_app rfl (ev_var rfl) rfl ?_ (sm_seq (sm_set (ev_call (x := .tuple (partsD e)) (es_cons (ev_var rfl) es_nil) ar_nil rfl ⟨wd, ds, by rw [ed]; rfl, by rw [ed]⟩)
        (sm_for (fi_revR (ev_fn (es_cons (ev_var rfl) es_nil) fv_lenT) ?_) (fun j ρ => ∃ s6, ρ = [.d d, .l ((f ++ [p]).map spotT), .l ((qs ++ (pushP (partsD e) p 0).reverse.take j).map itemT), .d e, .d (spotT p), .d (.tuple (partsD e)), s6]) ⟨s6, ?_⟩ (fun j x ρ ex r => ?_) fun ρ r => ?_))))))
    · rw [List.length_map]
      have : f.length ≤ 1000000 := by omega
      exact Nat.lt_of_le_of_lt this (by rw [sizeLine_eq]; decide)
    · constructor
      · omega
      · have : (partsD e).length ≤ 1000000 := by omega
        omega
    · rw [List.take_zero, List.append_nil, List.map_append]
      rfl
    · obtain ⟨s6, rfl⟩ := r
      have lt : j < (partsD e).length := by
        have := (List.getElem?_eq_some_iff.mp ex).1
        rw [List.length_reverse, rngD_len, Int.toNat_natCast] at this
        exact this
      rw [List.getElem?_reverse (by rw [rngD_len, Int.toNat_natCast]; exact lt), rngD_len, Int.toNat_natCast] at ex
      obtain ⟨_, rfl⟩ := rngD_at ex
      have hk := List.getElem?_eq_getElem (show (partsD e).length - 1 - j < (partsD e).length by omega)
      refine ⟨_, tg_name, sm_app rfl (ev_tup (eds_cons (ev_op (ev_var rfl) (ev_var rfl) (fv_ixT (at_nat hk))) (eds_cons (ev_tup (eds_star (ev_var rfl) (eds_cons (ev_var rfl) eds_nil)) ?_) eds_nil))) rfl ?_ ?_⟩
      · rw [List.length_append, List.length_map, List.length_singleton]
        have : p.length + 1 ≤ 1000000 := by omega
        exact Nat.le_trans this (by rw [sizeLine_eq]; decide)
      · rw [List.length_map, List.length_append]
        have : ((pushP (partsD e) p 0).reverse.take j).length ≤ (partsD e).length := by
          rw [List.length_take, List.length_reverse, pushP_len]
          omega
        have : qs.length + ((pushP (partsD e) p 0).reverse.take j).length ≤ 1000000 := by omega
        exact Nat.lt_of_le_of_lt this (by rw [sizeLine_eq]; decide)
      · refine ⟨.d (.int (((partsD e).length - 1 - j : Nat) : Int)), ?_⟩
        have hp : (pushP (partsD e) p 0).reverse[j]? = some ((partsD e)[(partsD e).length - 1 - j], p ++ [0 + ((partsD e).length - 1 - j)]) := by
          rw [List.getElem?_reverse (by rw [pushP_len]; exact lt), pushP_len]
          exact pushP_at hk
        rw [take_snoc hp, ← List.append_assoc, List.map_append (l₁ := qs ++ _), Nat.zero_add]
        have sp : spotT (p ++ [(partsD e).length - 1 - j]) = .tuple (p.map (fun i : Nat => PyData.int (i : Int)) ++ [.int (((partsD e).length - 1 - j : Nat) : Int)]) := by
          unfold spotT
          rw [List.map_append]
          rfl
        show _ = [_, _, Sl.l (_ ++ [.tuple [_, spotT (p ++ [(partsD e).length - 1 - j])]]), _, _, _, _]
        rw [sp]
        rfl
    · obtain ⟨s6, rfl⟩ := r
      have full : (rngD ((partsD e).length : Int).toNat).reverse.length = (partsD e).length := by rw [List.length_reverse, rngD_len, Int.toNat_natCast]
      rw [full]
      have tk : (pushP (partsD e) p 0).reverse.take (partsD e).length = (pushP (partsD e) p 0).reverse := List.take_of_length_le (by rw [List.length_reverse, pushP_len]; exact Nat.le_refl _)
      rw [tk]
      have ll : load (qs ++ (pushP (partsD e) p 0).reverse) = load qs + nodesAll (partsD e) := by rw [load_append, load_rev, load_push]
      refine ⟨_, ?_, f ++ [p], qs ++ (pushP (partsD e) p 0).reverse, _, _, _, _, rfl, ?_, ?_, ?_, rfl⟩
      · rw [ll, lq]
        omega
      · intro q hq
        rcases List.mem_append.mp hq with hq | hq
        · exact tps q (List.mem_append_left _ hq)
        · have hm := List.mem_reverse.mp hq
          refine ⟨tmAll_mem (parts_tm te) (pushP_mem hm), ?_⟩
          have n1 := mem_nodes (pushP_mem hm)
          have l1 := pushP_plen hm
          omega
      · rw [eq, List.reverse_append, List.reverse_append, List.reverse_reverse, List.flatMap_append, List.flatMap_append, ← spotsFL_push]
        show f ++ ((spotsF e p ++ []) ++ _) = _
        rw [List.append_nil, spotsF_eq te, List.append_assoc]
        rfl
      · rw [ll, List.length_append, List.length_singleton]
        omega
  · have e0 : ps = [] := by cases ps with | nil => rfl | cons _ _ => cases h
    subst e0
    refine sm_retL (el_var rfl) ?_
    rw [eq, show (([] : List (PyData × List Nat)).reverse.flatMap fun q => spotsF q.1 q.2) = [] from rfl, List.append_nil] at k
    exact k
end
end KP
set_option Elab.async false
set_option linter.unusedVariables false
set_option maxRecDepth 100000
set_option maxHeartbeats 2000000
namespace KP
open PySem PySem.Spec PyProof.Rows L2 KA OW
/-! ### what is drawn from a purse, as functions -/
structure Pu where
  a : Int
  b : Int
  c : Int
def Pu.ds (p : Pu) : List PyData := [.int p.a, .int p.b, .int p.c]
def PuOk (p : Pu) (n : Nat) : Prop := 0 ≤ p.a ∧ 0 ≤ p.b ∧ p.b < 2147483629 ∧ 0 ≤ p.c ∧ p.c ≤ (n : Int)
theorem PuOk.more {p : Pu} {n m : Nat} (h : PuOk p n) (l : n ≤ m) : PuOk p m := ⟨h.1, h.2.1, h.2.2.1, h.2.2.2.1, by have := h.2.2.2.2; omega⟩
def takeF (p : Pu) (m : Int) : Int × Pu :=
  if 0 < p.a then (p.a % m, ⟨p.a / m, p.b, p.c⟩)
  else (((p.b + 6113 * (p.c + 1) + 31) ^ 5 % 2147483647 * 2147483587 + (p.b * (p.c + 1) + 89753) ^ 3 % 2147483587) / 8 % m, ⟨p.a, p.b, p.c + 1⟩)
theorem takeF_ok {p : Pu} {n : Nat} {m : Int} (h : PuOk p n) (hm : 0 < m) : 0 ≤ (takeF p m).1 ∧ (takeF p m).1 < m ∧ PuOk (takeF p m).2 (n + 1) := by
  obtain ⟨h1, h2, h3, h4, h5⟩ := h
  unfold takeF
  split
  · exact ⟨Int.emod_nonneg _ (by omega), Int.emod_lt_of_pos _ hm, Int.ediv_nonneg h1 (by omega), h2, h3, h4, by show p.c ≤ _; omega⟩
  · exact ⟨Int.emod_nonneg _ (by omega), Int.emod_lt_of_pos _ hm, h1, h2, h3, by show 0 ≤ p.c + 1; omega, by show p.c + 1 ≤ _; omega⟩
def tTake : List PyData → List Sl → (Rv → List PyData → Prop) → Prop := fun c as Kr => ∃ p n m, c = p.ds ∧ as = [.d (.int m)] ∧ PuOk p n ∧ n ≤ maxN ∧ 0 < m ∧ m < 1073741824 ∧ Kr (.d (.int (takeF p m).1)) (takeF p m).2.ds
/-- so a call of take tells -/
theorem got_take {p : Pu} {n : Nat} {m : Int} (h : PuOk p n) (hn : n ≤ maxN) (h0 : 0 < m) (h1 : m < 1073741824) : tTake p.ds ([.d (.int m)] ++ []) (fun r c' => r = .d (.int (takeF p m).1) ∧ c' = (takeF p m).2.ds) := ⟨p, n, m, rfl, rfl, h, hn, h0, h1, rfl, rfl⟩
theorem got_take' {p : Pu} {n : Nat} {m : Int} {q : Int × Pu} (e : takeF p m = q) (h : PuOk p n) (hn : n ≤ maxN) (h0 : 0 < m) (h1 : m < 1073741824) : tTake p.ds ([.d (.int m)] ++ []) (fun r c' => r = .d (.int q.1) ∧ c' = q.2.ds) := e ▸ got_take h hn h0 h1
section
variable {P : Program} {w : World} {K : PySem.W.Frag} {mg : Str → Option Value} {base : Heap}
abbrev nTake : List Str := ["_law_purse_here", "_law_many", "_law_digit", "_law_one", "_law_other"]
theorem scTake2 : FnScope nTake ["_law_purse_here", "_law_many"] (defScope sTake) := ⟨rfl, rfl, rfl, by decide +kernel, rfl, by decide +kernel, by decide +kernel⟩
theorem ok_take2 {f : Addr} {fd : FuncData} (F : Fun K "_law_take" "_law_take" sTake f fd) (T : Txt K w mg) : FnOk P w K mg base CX0 1 f fd ["_law_purse_here", "_law_many"] (spB 1 tTake) := by
  refine fn_b F scTake2 (body := fun cdv A outer s H E hr => ⟨_, (pss_cons (ps_if (pt_cmpR op_gt (pe_ix ix_list (pv 0) pe_int (fun _ _ => rfl)) pe_int (nomark _)) (pss_cons (ps_set (i := 2) scTake2.nd rfl (Or.inl rfl) (pe_op op_mod (pe_ix ix_list (pv 0) pe_int (fun _ _ => rfl)) (pv 1)))
      (pss_cons (ps_asg (pe_op op_fdiv (pe_ix ix_list (pv 0) pe_int (fun _ _ => rfl)) (pv 1)) (pg_sub (pv 0) pe_int set_list))
      (pss_one (ps_ret (pv 2))))) pss_nil) (pss_cons (ps_asg (pe_op op_add (pe_ix ix_list (pv 0) pe_int (fun _ _ => rfl)) pe_int) (pg_sub (pv 0) pe_int set_list))
      (pss_cons (ps_set (i := 3) scTake2.nd rfl (Or.inl rfl) (pe_op op_mod (pe_op op_pow (pe_op op_add (pe_op op_add (pe_ix ix_list (pv 0) pe_int (fun _ _ => rfl)) (pe_op op_mul pe_int (pe_ix ix_list (pv 0) pe_int (fun _ _ => rfl)))) pe_int) pe_int) pe_int))
      (pss_cons (ps_set (i := 4) scTake2.nd rfl (Or.inl rfl) (pe_op op_mod (pe_op op_pow (pe_op op_add (pe_op op_mul (pe_ix ix_list (pv 0) pe_int (fun _ _ => rfl)) (pe_ix ix_list (pv 0) pe_int (fun _ _ => rfl))) pe_int) pe_int) pe_int))
      (pss_one (ps_ret (pe_op op_mod (pe_op op_fdiv (pe_op op_add (pe_op op_mul (pv 3) pe_int) (pv 4)) pe_int) (pv 1)))))))), ?_⟩)
  rintro ct as Kr _ ⟨p, n, m, rfl, rfl, hp, hn, hm, hm2, k⟩
  obtain ⟨a, b, c⟩ := p
  obtain ⟨h1, h2, h3, h4, h5⟩ := hp
  have h1 : 0 ≤ a := h1
  have h2 : 0 ≤ b := h2
  have h3 : b < 2147483629 := h3
  have h4 : 0 ≤ c := h4
  have h5 : c ≤ (n : Int) := h5
  unfold takeF at k
  have hcN : c + 1 ≤ 1000000001 := by
    unfold maxN at hn
    omega
  have m0 : 0 ≤ b * (c + 1) := Int.mul_nonneg h2 (by omega)
  have m1 : b * (c + 1) ≤ 2147483629 * 1000000001 := Int.mul_le_mul (by omega) (by omega) (by omega) (by omega)
  have q1 : (b + 6113 * (c + 1) + 31).natAbs < 2 ^ 64 := by omega
  have q2 : (b * (c + 1) + 89753).natAbs < 2 ^ 64 := by
    generalize b * (c + 1) = t at m0 m1
    omega
  refine (sm_seq (sm_if (et_test (ev_op (ev_ixO rfl ev_int rfl at0) ev_int fv_cmpI)) (fun h => (sm_seq (sm_set (ev_op (ev_ixO rfl ev_int rfl at0) (ev_var rfl) (fv_intC ?_)) (sm_seq (sm_setI rfl (ev_op (ev_ixO rfl ev_int rfl at0) (ev_var rfl) (fv_intC ?_)) ev_int rfl rfl (sm_ret (ev_var rfl) ?_)))))) (fun h => (sm_next (sm_seq (sm_setI rfl (ev_op (ev_ixO rfl ev_int rfl at2) ev_int fv_int) ev_int rfl rfl (sm_seq (sm_set (ev_op (ev_op (ev_op (ev_op (ev_ixO rfl ev_int rfl at1) (ev_op ev_int (ev_ixO rfl ev_int rfl at2) (fv_intC ?_)) fv_int) ev_int fv_int) ev_int (fv_intC ?_)) ev_int (fv_intC ?_)) (sm_seq (sm_set (ev_op (ev_op (ev_op (ev_op (ev_ixO rfl ev_int rfl at1) (ev_ixO rfl ev_int rfl at2) (fv_intC ?_)) ev_int fv_int) ev_int (fv_intC ?_)) ev_int (fv_intC ?_)) (sm_ret (ev_op (ev_op (ev_op (ev_op (ev_var rfl) ev_int (fv_intC ?_)) (ev_var rfl) fv_int) ev_int (fv_intC ?_)) (ev_var rfl) (fv_intC ?_)) ?_)))))))))))
  · exact hm
  · exact ⟨hm, hm2⟩
  · rw [if_pos (of_decide_eq_true h)] at k
    exact ⟨_, rfl, k⟩
  · exact Or.inl ⟨by decide, by decide⟩
  · exact ⟨by decide, by decide, q1⟩
  · show (0 : Int) < 2147483647
    decide
  · exact Or.inl ⟨by omega, by omega⟩
  · exact ⟨by decide, by decide, q2⟩
  · show (0 : Int) < 2147483587
    decide
  · exact Or.inr ⟨by decide, by decide⟩
  · exact ⟨by decide, by decide⟩
  · exact hm
  · rw [if_neg (of_decide_eq_false h)] at k
    exact ⟨_, rfl, k⟩
end
/-! words -/
def drawN : Nat → Pu → List Nat × Pu
  | 0, p => ([], p)
  | k + 1, p => ((drawN k p).1 ++ [97 + (takeF (drawN k p).2 26).1.toNat], (takeF (drawN k p).2 26).2)
theorem drawN_ok {p : Pu} {n : Nat} (h : PuOk p n) : ∀ k, PuOk (drawN k p).2 (n + k) ∧ (drawN k p).1.length = k ∧ (drawN k p).1.all letterB = true
  | 0 => ⟨h, rfl, rfl⟩
  | k + 1 => by
    obtain ⟨h1, h2, h3⟩ := drawN_ok h k
    obtain ⟨t0, t1, t2⟩ := takeF_ok (m := 26) h1 (by decide)
    refine ⟨t2, ?_, ?_⟩
    · show ((drawN k p).1 ++ [_]).length = k + 1
      rw [List.length_append, h2]
      rfl
    · show ((drawN k p).1 ++ [_]).all letterB = true
      rw [List.all_append, h3, List.all_cons, List.all_nil, Bool.and_true, Bool.true_and]
      unfold letterB
      rw [decide_eq_true (by omega), decide_eq_true (by omega)]
      rfl
def rawW (p : Pu) : Str := Txt.join (Str.ofString "") ((drawN (1 + (takeF p 8).1).toNat (takeF p 8).2).1.map fun c => ⟨#[c]⟩)
def wordF (p : Pu) : Str × Pu := (if (noNames.any fun y => y == rawW p) = true then ("q" : Str) ++ rawW p else rawW p, (drawN (1 + (takeF p 8).1).toNat (takeF p 8).2).2)
theorem wordF_ok {p : Pu} {n : Nat} (h : PuOk p n) : nameX (wordF p).1 = true ∧ PuOk (wordF p).2 (n + 10) := by
  obtain ⟨t0, t1, t2⟩ := takeF_ok (m := 8) h (by decide)
  obtain ⟨d1, d2, d3⟩ := drawN_ok t2 (1 + (takeF p 8).1).toNat
  refine ⟨?_, d1.more (by omega)⟩
  have codes := join_codes (drawN (1 + (takeF p 8).1).toNat (takeF p 8).2).1
  have len : (rawW p).length = (1 + (takeF p 8).1).toNat := by
    show (rawW p).cps.size = _
    rw [← Array.length_toList]
    unfold rawW
    rw [codes, d2]
  have codes : (rawW p).cps.toList = (drawN (1 + (takeF p 8).1).toNat (takeF p 8).2).1 := codes
  show nameX (if (noNames.any fun y => y == rawW p) = true then ("q" : Str) ++ rawW p else rawW p) = true
  generalize rawW p = x at codes len
  split
  · rename_i c
    obtain ⟨y, hy, ey⟩ := List.any_eq_true.mp c
    obtain rfl : y = x := eq_of_beq ey
    exact q_ok y hy
  · rename_i c
    have c : (noNames.any fun y => y == x) = false := Bool.eq_false_iff.mpr c
    unfold nameX
    rw [c, codes, d3, len]
    rw [decide_eq_true (by omega : 1 ≤ (1 + (takeF p 8).1).toNat), decide_eq_true (by omega : (1 + (takeF p 8).1).toNat ≤ 8)]
    rfl
def tWord : List PyData → List Sl → (Rv → List PyData → Prop) → Prop := fun c as Kr => ∃ p n, c = p.ds ∧ as = [] ∧ PuOk p n ∧ n + 10 ≤ maxN ∧ Kr (.d (.str (wordF p).1)) (wordF p).2.ds
section
variable {ρ ρ' ρ1 ρ2 : List Sl} {te ta tb : TE} {KF : PySem.W.Frag}
theorem dn_strs {W : Hp} : ∀ {vs : List V} {bs : List Str}, DnAll W vs (bs.map .str) → vs = bs.map V.str
  | [], [], _ => rfl
  | v :: vs, b :: bs, h => by
    cases h with
    | cons h t =>
      cases h
      rw [dn_strs t]
      rfl
theorem strs_dn {W : Hp} : ∀ bs : List Str, DnAll W (bs.map V.str) (bs.map .str)
  | [] => .nil
  | b :: bs => .cons (.str b) (strs_dn bs)
theorem ev_joinL {a : Str} {ys : List Str} (h : Ev ta ρ (.d (.str a)) ρ1) (g : Ev tb ρ1 (.d (.list (ys.map .str))) ρ2) (len : (ys.map (·.length)).sum + ys.length * a.length ≤ 16777216) :
    Ev (tM1 (fun x xs H Q => ∃ a p, ∃ ys : List Str, x = .str a ∧ xs = [.ref p] ∧ (SqL KF H p (ys.map V.str) ∨ SqT KF H p (ys.map V.str)) ∧ (ys.map (·.length)).sum + ys.length * a.length ≤ 16777216 ∧ Q (.str (Txt.join a ys)) H) ta tb) ρ (.d (.str (Txt.join a ys))) ρ2 := fun c A σ H Q R f q =>
  h c A σ H _ R f fun v A1 H1 R1 f1 S1 o1 => by
    obtain rfl := str_v o1
    refine ⟨⟨a, rfl⟩, g c A1 σ H1 _ R1 f1 fun u A2 H2 R2 f2 S2 o2 => ?_⟩
    obtain ⟨p, vs, rfl, e, dx⟩ := lst_v o2
    obtain rfl := dn_strs dx
    exact ⟨a, p, ys, rfl, rfl, Or.inl (SqL.of (vw_sub _ _ e)), len, q _ A2 H2 R2 f2 (S1.trans S2) (.str _)⟩
theorem ev_splitS {a b : Str} (h : Ev ta ρ (.d (.str a)) ρ1) (g : Ev tb ρ1 (.d (.str b)) ρ2) (h1 : (b.length == 0) = false) (h2 : a.length + 2 ≤ sizeLine) :
    El (tM1 (fun x xs H Q => ∃ a b, x = .str a ∧ xs = [.str b] ∧ (b.length == 0) = false ∧ a.length + 2 ≤ sizeLine ∧ rNewStrs (Txt.split a b) H Q) ta tb) ρ ((Txt.split a b).map .str) ρ2 := fun c A σ H Q R f q =>
  h c A σ H _ R f fun v A1 H1 R1 f1 S1 o1 => by
    obtain rfl := str_v o1
    refine ⟨⟨a, rfl⟩, g c A1 σ H1 _ R1 f1 fun u A2 H2 R2 f2 S2 o2 => ?_⟩
    obtain rfl := str_v o2
    exact ⟨a, b, rfl, rfl, h1, h2, fun p hp => q p _ _ _ (R2.fly hp) aset_at ((S1.trans S2).trans (vw_fly hp)) upd_same (strs_dn _)⟩
theorem fv_addS {a b : Str} (h : a.length + b.length ≤ sizeLine) : FV2 (fun x y H Q => ∃ i j, x = .str i ∧ y = .str j ∧ i.length + j.length ≤ sizeLine ∧ Q (.str (i ++ j)) H) (.d (.str a)) (.d (.str b)) (.d (.str (a ++ b))) := fv2_s (dS (a ++ b)) fun W H v w Q S o o' q => ⟨a, b, str_v o, str_v o', h, q⟩
end
theorem letter_is {r : Int} (h0 : 0 ≤ r) (h1 : r < 26) : atI letters.cps.toList r = some (97 + r.toNat) := by
  obtain ⟨j, rfl⟩ : ∃ j : Nat, r = (j : Int) := ⟨r.toNat, by omega⟩
  rw [letters_list, Int.toNat_natCast]
  have : ∀ j < 26, ([97, 98, 99, 100, 101, 102, 103, 104, 105, 106, 107, 108, 109, 110, 111, 112, 113, 114, 115, 116, 117, 118, 119, 120, 121, 122] : List Nat)[j]? = some (97 + j) := by decide
  exact at_nat (this j (by omega))
section
variable {P : Program} {w : World} {K : PySem.W.Frag} {mg : Str → Option Value} {base : Heap}
abbrev nWord : List Str := ["_law_purse_here", "_law_letters", "_law_word_here", "_law_k"]
theorem scWord2 : FnScope nWord ["_law_purse_here"] (defScope sWord) := ⟨rfl, rfl, rfl, by decide +kernel, rfl, by decide +kernel, by decide +kernel⟩
theorem ok_word2 {f : Addr} {fd : FuncData} (F : Fun K "_law_word" "_law_word" sWord f fd) (T : Txt K w mg) (C_law_take : C8.Cal P w K mg base 1 "_law_take" (spB 1 tTake) []) : FnOk P w K mg base CX0 2 f fd ["_law_purse_here"] (spB 0 tWord) := by
  refine fn_b F scWord2 (body := fun cdv A outer s H E hr => ⟨_, (pss_cons (ps_set (i := 1) scWord2.nd rfl (Or.inr rfl) pe_str)
      (pss_cons (ps_set (i := 2) scWord2.nd rfl (Or.inl rfl) (pe_join pe_str (pe_lc (own := [("_law_k", 3)]) (g := gName 3) (tt := tYes) rfl scWord2.nd (pi_range1 (by rfl) T.range (pa_cons (pe_op op_add pe_int (C8.pe_c C_law_take hr (by decide) rfl (pa_cons (pv 0) (pa_cons pe_int pa_nil)))) pa_nil)) (blkOk_by (N := nWord) (sc := defScope sWord) (by decide +kernel)) (fun _ _ _ _ _ => pg_name (i := 3) scWord2.nd rfl (Or.inl rfl)) (fun _ _ _ _ _ => pts_nil) (fun _ _ _ _ _ => (pe_ix ix_str (pv 1) (C8.pe_c C_law_take hr (by decide) rfl (pa_cons (pv 0) (pa_cons pe_int pa_nil))) (fun _ _ => rfl))))))
      (pss_one (ps_ret (pe_ifExp (pt_cmpR op_in_seq (pv 2) (pe_tup (pa_cons pe_str (pa_cons pe_str (pa_cons pe_str (pa_cons pe_str (pa_cons pe_str pa_nil)))))) rfl) (pe_op op_add_str pe_str (pv 2)) (pv 2)))))), ?_⟩)
  rintro ct as Kr _ ⟨p, n, rfl, rfl, hp, hn, k⟩
  obtain ⟨t0, t1, t2⟩ := takeF_ok (m := 8) hp (by decide)
  have dk := fun j => drawN_ok t2 j
  have ww := (wordF_ok hp).1
  generalize hq : takeF p 8 = q at t0 t1 t2 dk
  have e1 : wordF p = (if (noNames.any fun y => y == rawW p) = true then ("q" : Str) ++ rawW p else rawW p, (drawN (1 + q.1).toNat q.2).2) := by
    unfold wordF
    rw [hq]
  have e2 : rawW p = Txt.join (Str.ofString "") ((drawN (1 + q.1).toNat q.2).1.map fun c => (⟨#[c]⟩ : Str)) := by
    unfold rawW
    rw [hq]
  have d0 := dk (1 + q.1).toNat
  refine sm_seq (sm_set ev_str (sm_seq (sm_set (ev_joinL (ys := (drawN (1 + q.1).toNat q.2).1.map fun c => (⟨#[c]⟩ : Str)) ev_str (Ev.of_el (El.is (el_lc (ρ0 := [.l q.2.ds, .d (.str letters), .un, .un]) (fi_rng1 (eds_cons (ev_op ev_int (ev_callB (i := 0) rfl (es_cons ev_int es_nil) rfl ar_nil rfl (hq ▸ got_take hp (by omega) (by decide) (by decide))) fv_int) eds_nil) (by omega))
      (fun j => [.l (drawN j q.2).2.ds, .d (.str letters), .un, .any]) (fun j => (drawN j q.2).1.map fun c => .str ⟨#[c]⟩) rfl ⟨.un, rfl, trivial⟩ rfl (by decide) ?_ fun j x ex an => ?_) ?_)) ?_) ?_)))
  · intro j hj
    rw [rngD_len] at hj
    rw [List.length_map, (dk j).2.1]
    exact Nat.lt_of_lt_of_le hj (Nat.le_trans (by omega : (1 + q.1).toNat ≤ 8) (by rw [sizeLine_eq]; decide))
  · obtain ⟨lt, rfl⟩ := rngD_at ex
    obtain ⟨j0, j1, j2⟩ := takeF_ok (m := 26) (dk j).1 (by decide)
    refine ⟨_, _, ev_op (ev_var rfl) (ev_callB (i := 0) rfl (es_cons ev_int es_nil) rfl ar_nil rfl (got_take (dk j).1 (by omega) (by decide) (by decide))) (fv_ixS (by decide +kernel) (letter_is j0 j1)), ?_, rfl, _, rfl, trivial⟩
    show (drawN (j + 1) q.2).1.map _ = _
    rw [show (drawN (j + 1) q.2).1 = (drawN j q.2).1 ++ [97 + (takeF (drawN j q.2).2 26).1.toNat] from rfl, List.map_append]
    rfl
  · rw [rngD_len, List.map_map]
    rfl
  · rw [sum_ones, List.length_map, d0.2.1]
    have : (Str.ofString "").length = 0 := by decide +kernel
    rw [this]
    omega
  · rw [rngD_len, ← e2]
    rw [e1] at k ww
    have kr : ∀ b : Bool, b = (noNames.any fun y => y == rawW p) → Kr (.d (.str (if b = true then ("q" : Str) ++ rawW p else rawW p))) (drawN (1 + q.1).toNat q.2).2.ds := fun b hb => by
      rw [hb]
      exact k
    have len : (rawW p).length ≤ 8 := by
      have codes := join_codes (drawN (1 + q.1).toNat q.2).1
      rw [← e2] at codes
      show (rawW p).cps.size ≤ 8
      rw [← Array.length_toList, codes, d0.2.1]
      omega
    clear e2
    generalize rawW p = x at *
    refine sm_ret (x := .str (if (noNames.any fun y => y == x) = true then ("q" : Str) ++ x else x)) (ev_if (et_test (ev_op (ev_var rfl) (ev_tup (eds_cons ev_str (eds_cons ev_str (eds_cons ev_str (eds_cons ev_str (eds_cons ev_str eds_nil)))))) (fv_inT (bs := noNames)))) (fun h => Ev.is (ev_op ev_str (ev_var rfl) (fv_addS ?_)) ?_) (fun h => Ev.is (ev_var rfl) ?_)) ⟨_, rfl, k⟩
    · have : ("q" : Str).length = 1 := by decide +kernel
      rw [this, sizeLine_eq]
      omega
    · rw [if_pos h]
    · rw [if_neg (by rw [h]; decide)]
end
end KP
set_option Elab.async false
set_option linter.unusedVariables false
set_option maxRecDepth 100000
set_option maxHeartbeats 2000000
namespace KP
open PySem PySem.Spec PyProof.Rows L2 KA OW
/-! ### drawn terms, as a function -/
def stepF (rec : Pu → PyData × Pu) (below : Int) (w : Str) (q : Pu) (c : Nat) : PyData × Pu :=
  if c = 110 then (.int (takeF q (if w = "maker" then 5 else below)).1, (takeF q (if w = "maker" then 5 else below)).2)
  else if c = 104 then (.int (takeF q 6).1, (takeF q 6).2)
  else if c = 119 then (.str (wordF q).1, (wordF q).2) else rec q
def runF (rec : Pu → PyData × Pu) (below : Int) (w : Str) (p : Pu) (cs : List Nat) : List PyData × Pu :=
  cs.foldl (fun s c => (s.1 ++ [(stepF rec below w s.2 c).1], (stepF rec below w s.2 c).2)) ([], p)
theorem runF_snoc {rec : Pu → PyData × Pu} {below : Int} {w : Str} {p : Pu} {cs : List Nat} {c : Nat} : runF rec below w p (cs ++ [c]) = ((runF rec below w p cs).1 ++ [(stepF rec below w (runF rec below w p cs).2 c).1], (stepF rec below w (runF rec below w p cs).2 c).2) := by
  unfold runF
  rw [List.foldl_append]
  rfl
def formOf (w : Str) : List Nat := match (leaves ++ parted).find? fun e => e.1 == w with
  | some e => e.2
  | none => []
theorem formOf_eq : ∀ e ∈ leaves ++ parted, formOf e.1 = e.2 := by decide +kernel
def bodyF (rec : Pu → PyData × Pu) (below m : Int) (p : Pu) : PyData × Pu :=
  (.tuple (.str ((wl[(takeF p m).1.toNat]?).getD "") :: (runF rec below ((wl[(takeF p m).1.toNat]?).getD "") (takeF p m).2 (formOf ((wl[(takeF p m).1.toNat]?).getD ""))).1),
    (runF rec below ((wl[(takeF p m).1.toNat]?).getD "") (takeF p m).2 (formOf ((wl[(takeF p m).1.toNat]?).getD ""))).2)
def termF : Nat → Int → Pu → PyData × Pu
  | 0, below, p => bodyF (fun q => (.none, q)) below 7 p
  | k + 1, below, p => bodyF (termF k below) below 14 p
def recF : Nat → Int → Pu → PyData × Pu
  | 0, _ => fun q => (.none, q)
  | k + 1, below => termF k below
theorem termF_eq (k : Nat) (below : Int) (p : Pu) : termF k below p = bodyF (recF k below) below (if k = 0 then 7 else 14) p := by
  cases k <;> rfl
def TmOk (k : Nat) (n : Nat) (r : PyData × Pu) : Prop := tm r.1 = true ∧ Bd (k + 1) (1000 * 4 ^ k) r.1 ∧ PuOk r.2 (n + 40 * 4 ^ k)
def RecOk (k : Nat) (below : Int) : Prop := ∀ q n, PuOk q n → n + 40 * 4 ^ k ≤ maxN → TmOk k n (termF k below q)
theorem stepF_ok {k : Nat} {below : Int} (b0 : 0 < below) (b1 : below ≤ 1000) (hr : ∀ k', k = k' + 1 → RecOk k' below) {q : Pu} {m c : Nat} {w : Str} (hq : PuOk q m) (hm : m + 10 * 4 ^ k ≤ maxN) (hc : c = 110 ∨ c = 104 ∨ c = 119 ∨ c = 116) (h0 : k = 0 → c ≠ 116) :
    tst c (stepF (recF k below) below w q c).1 = true ∧ Bd k (250 * 4 ^ k) (stepF (recF k below) below w q c).1 ∧ PuOk (stepF (recF k below) below w q c).2 (m + 10 * 4 ^ k) := by
  have c1 : 0 < 4 ^ k := Nat.pow_pos (by decide)
  rcases hc with rfl | rfl | rfl | rfl
  · have h2 : 0 < (if w = "maker" then (5 : Int) else below) ∧ (if w = "maker" then (5 : Int) else below) ≤ 1000 := by split <;> omega
    obtain ⟨t0, t1, t2⟩ := takeF_ok hq h2.1
    exact ⟨decide_eq_true t0, (Bd.int (by omega)).mono (Nat.zero_le _) (by omega), t2.more (by omega)⟩
  · obtain ⟨t0, t1, t2⟩ := takeF_ok (m := 6) hq (by decide)
    refine ⟨?_, (Bd.int (i := (takeF q 6).1) (by omega)).mono (Nat.zero_le _) (by omega), t2.more (by omega)⟩
    show (decide (0 ≤ (takeF q 6).1) && decide ((takeF q 6).1 ≤ 5)) = true
    rw [decide_eq_true t0, decide_eq_true (by omega : (takeF q 6).1 ≤ 5)]
    rfl
  · obtain ⟨t1, t2⟩ := wordF_ok hq
    exact ⟨t1, (Bd.str (name_fine t1)).mono (Nat.zero_le _) (by omega), t2.more (by omega)⟩
  · obtain ⟨k', rfl⟩ : ∃ k', k = k' + 1 := ⟨k - 1, by have := h0; omega⟩
    have pw : 4 ^ (k' + 1) = 4 * 4 ^ k' := by rw [Nat.pow_succ, Nat.mul_comm]
    obtain ⟨r1, r2, r3⟩ := hr k' rfl q m hq (by omega)
    exact ⟨r1, r2.mono (Nat.le_refl _) (by omega), r3.more (by omega)⟩
theorem runF_ok {k : Nat} {below : Int} (b0 : 0 < below) (b1 : below ≤ 1000) (hr : ∀ k', k = k' + 1 → RecOk k' below) {p : Pu} {m : Nat} {w : Str} (hp : PuOk p m) {cs : List Nat} (len : cs.length ≤ 3) (hm : m + 30 * 4 ^ k ≤ maxN) (hc : ∀ c ∈ cs, c = 110 ∨ c = 104 ∨ c = 119 ∨ c = 116) (h0 : k = 0 → ∀ c ∈ cs, c ≠ 116) :
    ∀ i, i ≤ cs.length → tstAll (cs.take i) (runF (recF k below) below w p (cs.take i)).1 = true ∧ BdAll k (i * (250 * 4 ^ k + 2)) (runF (recF k below) below w p (cs.take i)).1 ∧ PuOk (runF (recF k below) below w p (cs.take i)).2 (m + i * (10 * 4 ^ k)) ∧ (runF (recF k below) below w p (cs.take i)).1.length = i
  | 0, _ => ⟨by rw [List.take_zero]; rfl, by rw [List.take_zero]; exact BdAll.nil.mono (Nat.le_refl _) (Nat.zero_le _), by rw [List.take_zero]; exact hp.more (by omega), by rw [List.take_zero]; rfl⟩
  | i + 1, hi => by
    obtain ⟨h1, h2, h3, h4⟩ := runF_ok b0 b1 hr hp len hm hc h0 i (by omega)
    have hci := List.getElem?_eq_getElem (show i < cs.length by omega)
    have cm := List.mem_of_getElem? hci
    have iC : i * (10 * 4 ^ k) ≤ 2 * (10 * 4 ^ k) := Nat.mul_le_mul_right _ (by omega)
    obtain ⟨s1, s2, s3⟩ := stepF_ok (w := w) b0 b1 hr h3 (by omega) (hc _ cm) fun z => h0 z _ cm
    rw [take_snoc hci, runF_snoc]
    refine ⟨tstAll_snoc h1 s1, ?_, ?_, by rw [List.length_append, h4]; rfl⟩
    · exact (h2.append (BdAll.one s2)).mono (Nat.le_refl _) (Nat.le_of_eq (Nat.succ_mul i _).symm)
    · have e : m + (i + 1) * (10 * 4 ^ k) = m + i * (10 * 4 ^ k) + 10 * 4 ^ k := by rw [Nat.add_mul, Nat.one_mul]; omega
      rw [e]
      exact s3
/-- the word that is drawn -/
theorem drawn_word {k : Nat} {p : Pu} {n : Nat} (hp : PuOk p n) : ∃ e ∈ leaves ++ parted, (k = 0 → e ∈ leaves) ∧ wl[(takeF p (if k = 0 then 7 else 14)).1.toNat]? = some e.1 := by
  by_cases h : k = 0
  · rw [if_pos h]
    obtain ⟨t0, t1, _⟩ := takeF_ok (m := 7) hp (by decide)
    obtain ⟨e, he, hw⟩ := draw7 (takeF p 7).1.toNat (by omega)
    exact ⟨e, List.mem_append_left _ he, fun _ => he, hw⟩
  · rw [if_neg h]
    obtain ⟨t0, t1, _⟩ := takeF_ok (m := 14) hp (by decide)
    obtain ⟨e, he, hw⟩ := draw14 (takeF p 14).1.toNat (by omega)
    exact ⟨e, he, fun z => absurd z h, hw⟩
theorem word_fine : ∀ e ∈ leaves ++ parted, fine (.str e.1) = true := by decide +kernel
theorem termF_step {below : Int} (b0 : 0 < below) (b1 : below ≤ 1000) {k : Nat} (hr : ∀ k', k = k' + 1 → RecOk k' below) : RecOk k below := fun p n hp hn => by
  have c1 : 0 < 4 ^ k := Nat.pow_pos (by decide)
  rw [termF_eq]
  obtain ⟨e, he, hl, hw⟩ := drawn_word (k := k) hp
  obtain ⟨t0, t1, t2⟩ := takeF_ok (m := if k = 0 then 7 else 14) hp (by split <;> decide)
  obtain ⟨ef, elen, echars⟩ := form_of e he
  unfold bodyF
  rw [hw, Option.getD_some, formOf_eq e he]
  obtain ⟨h1, h2, h3, h4⟩ := runF_ok (w := e.1) b0 b1 hr t2 elen (by omega) echars (fun z c hc => leaf_not e (hl z) c hc) e.2.length (Nat.le_refl _)
  rw [List.take_length] at h1 h2 h3 h4
  have bl : e.2.length * (250 * 4 ^ k + 2) ≤ 3 * (250 * 4 ^ k + 2) := Nat.mul_le_mul_right _ elen
  have cl : e.2.length * (10 * 4 ^ k) ≤ 3 * (10 * 4 ^ k) := Nat.mul_le_mul_right _ elen
  refine ⟨built he h1, ?_, h3.more (by omega)⟩
  exact (Bd.tup (BdAll.cons (b := 220) ((Bd.str (word_fine e he)).mono (Nat.zero_le _) (Nat.le_refl _)) h2)).mono (Nat.le_refl _) (by omega)
theorem termF_ok {below : Int} (b0 : 0 < below) (b1 : below ≤ 1000) : ∀ k, RecOk k below
  | 0 => termF_step b0 b1 fun k' e => by cases e
  | k + 1 => termF_step b0 b1 fun k' e => by
    obtain rfl : k = k' := by omega
    exact termF_ok b0 b1 k
def tTerm (lim : Nat) : List PyData → List Sl → (Rv → List PyData → Prop) → Prop := fun c as Kr => ∃ p n k below, c = p.ds ∧ as = [.d (.int ((k : Nat) : Int)), .d (.int below)] ∧ PuOk p n ∧ k < lim ∧ 0 < below ∧ below ≤ 1000 ∧ n + 40 * 4 ^ k ≤ maxN ∧ Kr (.d (termF k below p).1) (termF k below p).2.ds
section
variable {ρ ρ' ρ1 ρ2 : List Sl} {te ta tb : TE} {KF : PySem.W.Frag} {E : XK}
theorem ev_forms {e : Str × List Nat} (he : e ∈ leaves ++ parted) {i : Nat} (h : ρ[i]? = some (.d (.str e.1))) : Ev (tDGet (tCall spForms [] E tNil) (tVar i)) ρ (.d (.str ⟨e.2.toArray⟩)) ρ := fun c A σ H Q R f q => by
  obtain ⟨_, v, e1, dn⟩ := R.sl i _ h
  obtain rfl := str_inv dn
  refine ⟨rfl, fun p H1 n S ed => ⟨_, e1, p, .str ⟨e.2.toArray⟩, rfl, (form_of e he).1 ▸ (DGet.k (k := Sum.inr e.1) ed : DGet H1 p (.str e.1) (valV formsK (Sum.inr e.1))), q _ A H1 (R.up S) f (vw_up S) (.str _)⟩⟩
end
section
variable {P : Program} {w : World} {K : PySem.W.Frag} {mg : Str → Option Value} {base : Heap}
abbrev nTm : List Str := ["_law_purse_here", "_law_depth", "_law_below", "_law_words", "_law_word_here", "_law_found", "_law_letter"]
abbrev psTm : List Str := ["_law_purse_here", "_law_depth", "_law_below"]
theorem scTm2 : FnScope nTm psTm (defScope sTm) := ⟨rfl, rfl, rfl, by decide +kernel, rfl, by decide +kernel, by decide +kernel⟩
theorem wl_at {j : Nat} {x : Str} (h : wl[j]? = some x) : atI (wl.map PyData.str) (j : Int) = some (.str x) := at_nat (by rw [List.getElem?_map, h]; rfl)
theorem ok_tm2 {f : Addr} {fd : FuncData} (D : Dfn K mg "_law_term" sTm f fd psTm) (T : Txt K w mg) (C_law_take : C8.Cal P w K mg base 1 "_law_take" (spB 1 tTake) []) (C_law_word : C8.Cal P w K mg base 2 "_law_word" (spB 0 tWord) []) (CF : C8.Cal P w K mg base 1 "_law_forms" spForms []) :
    ∀ lim : Nat, FnOk P w K mg base CX0 (3 + lim) f fd psTm (spB 2 (tTerm lim))
  | 0 => ⟨fun vs H Q E h => by
      obtain ⟨Z, p, cs, ct, ws, as, Kr, rfl, hp, hZ, ep, dc, ha, hl, hT, go⟩ := h
      rw [List.length_cons, ha.length, hl]
      rfl, fun A outer s H args us vs Q E hr e0 bt rv h => by
      obtain ⟨Z, p, cs, ct, ws, as, Kr, rfl, hp, hZ, ep, dc, ha, hl, ⟨_, _, _, _, _, _, _, h0, _⟩, go⟩ := h
      omega⟩
  | lim + 1 => by
    have C_law_term : C8.Cal P w K mg base (3 + lim) "_law_term" (spB 2 (tTerm lim)) [] := D.cal (ok_tm2 D T C_law_take C_law_word CF lim)
    refine fn_b (k := 3 + lim) D.fn scTm2 (body := fun cdv A outer s H E hr => ⟨_, (pss_cons (ps_set (i := 3) scTm2.nd rfl (Or.inl rfl) (pe_split pe_str pe_str))
      (pss_cons (ps_set (i := 4) scTm2.nd rfl (Or.inl rfl) (pe_ifExp (pt_cmpR op_eq (pv 1) pe_int (nomark _)) (pe_ix ix_list (pv 3) (C8.pe_c C_law_take hr (by omega) rfl (pa_cons (pv 0) (pa_cons pe_int pa_nil))) (fun _ _ => rfl)) (pe_ix ix_list (pv 3) (C8.pe_c C_law_take hr (by omega) rfl (pa_cons (pv 0) (pa_cons pe_int pa_nil))) (fun _ _ => rfl))))
      (pss_cons (ps_set (i := 5) scTm2.nd rfl (Or.inl rfl) (pe_lst (pa_cons (pv 4) pa_nil)))
      (pss_cons (ps_for PassesOwn.never rfl (pi_str (pe_dget (hu_of hr) (pe_c0 CF hr (by omega) rfl) (pv 4) (fun _ _ => rfl))) (pg_name (i := 6) scTm2.nd rfl (Or.inl rfl)) (pss_cons (ps_if (pt_cmpR op_eq (pv 6) pe_str (nomark _)) (pss_one (ps_expr (pe_bm PySem.F.plainAttrs_list PySem.F.slot_list_append PySem.F.type_list_append mt_append (pv 5) (pa_cons (C8.pe_c C_law_take hr (by omega) rfl (pa_cons (pv 0) (pa_cons (pe_ix ix_list (pe_lst (pa_cons (pv 2) (pa_cons pe_int pa_nil))) (pe_callTy call_int1 (by rfl) T.int (by decide +kernel) (pa_cons (pe_cmpR op_eq (pv 4) pe_str (nomark _)) pa_nil)) (fun _ _ => rfl)) pa_nil))) pa_nil)))) pss_nil) (pss_cons (ps_if (pt_cmpR op_eq (pv 6) pe_str (nomark _)) (pss_one (ps_expr (pe_bm PySem.F.plainAttrs_list PySem.F.slot_list_append PySem.F.type_list_append mt_append (pv 5) (pa_cons (C8.pe_c C_law_take hr (by omega) rfl (pa_cons (pv 0) (pa_cons pe_int pa_nil))) pa_nil)))) pss_nil) (pss_cons (ps_if (pt_cmpR op_eq (pv 6) pe_str (nomark _)) (pss_one (ps_expr (pe_bm PySem.F.plainAttrs_list PySem.F.slot_list_append PySem.F.type_list_append mt_append (pv 5) (pa_cons (C8.pe_c C_law_word hr (by omega) rfl (pa_cons (pv 0) pa_nil)) pa_nil)))) pss_nil) (pss_one (ps_if (pt_cmpR op_eq (pv 6) pe_str (nomark _)) (pss_one (ps_expr (pe_bm PySem.F.plainAttrs_list PySem.F.slot_list_append PySem.F.type_list_append mt_append (pv 5) (pa_cons (C8.pe_c C_law_term hr (by omega) rfl (pa_cons (pv 0) (pa_cons (pe_op op_sub (pv 1) pe_int) (pa_cons (pv 2) pa_nil)))) pa_nil)))) pss_nil))))))
      (pss_one (ps_ret (pe_callTy call_tuple_of (by rfl) T.tuple (by decide +kernel) (pa_cons (pv 5) pa_nil)))))))), ?_⟩)
    rintro ct as Kr _ ⟨p, n, k, below, rfl, rfl, hp, hk, b0, b1, hn, kk⟩
    have c1 : 0 < 4 ^ k := Nat.pow_pos (by decide)
    rw [termF_eq] at kk
    obtain ⟨e, he, hl, hw⟩ := drawn_word (k := k) hp
    obtain ⟨t0, t1, t2⟩ := takeF_ok (m := if k = 0 then 7 else 14) hp (by split <;> decide)
    obtain ⟨ef, elen, echars⟩ := form_of e he
    unfold bodyF at kk
    rw [hw, Option.getD_some, formOf_eq e he] at kk
    have run := runF_ok (w := e.1) b0 b1 (fun k' _ => termF_ok b0 b1 k') t2 elen (by omega) echars (fun z c hc => leaf_not e (hl z) c hc)
    have gt : ∀ b : Bool, b = decide (((k : Nat) : Int) = 0) → takeF p (if k = 0 then 7 else 14) = takeF p (if b = true then 7 else 14) := fun b hb => by
      rw [hb]
      by_cases z : k = 0
      · rw [if_pos z, if_pos (by rw [z]; rfl)]
      · rw [if_neg z, if_neg (by simpa using z)]
    generalize hq : takeF p (if k = 0 then 7 else 14) = q at *
    have ix : atI (wl.map PyData.str) q.1 = some (.str e.1) := by
      have := wl_at hw
      rw [Int.toNat_of_nonneg t0] at this
      exact this
    have nM : n ≤ maxN := by omega
    refine (sm_seq (sm_set (Ev.of_el (ev_splitS ev_str ev_str (by decide +kernel) (by decide +kernel))) ?_))
    rw [wl_split]
    refine (sm_seq (sm_set (s := .d (.str e.1)) (ρ1 := [.l q.2.ds, .d (.int ((k : Nat) : Int)), .d (.int below), .d (.list (wl.map .str)), .un, .un, .un]) (ev_if (et_test (ev_op (ev_var rfl) ev_int fv_eqI)) (fun h => ?_) (fun h => ?_)) (sm_seq (sm_setL (el_lst (eds_cons (ev_var rfl) eds_nil)) (sm_seq (sm_for (fi_str (ev_forms he rfl)) (fun j ρ => ∃ s6, ρ = [.l (runF (recF k below) below e.1 q.2 (e.2.take j)).2.ds, .d (.int ((k : Nat) : Int)), .d (.int below), .d (.list (wl.map .str)), .d (.str e.1), .l (.str e.1 :: (runF (recF k below) below e.1 q.2 (e.2.take j)).1), s6]) ⟨.un, rfl⟩ (fun j x ρ ex r => ?_) (fun ρ r => ?_)))))))
    · have z := gt _ h.symm
      rw [if_pos rfl] at z
      exact ev_op (ev_var rfl) (ev_callB (i := 0) rfl (es_cons ev_int es_nil) rfl ar_nil rfl (got_take' z.symm hp nM (by decide) (by decide))) (fv_ixL ix)
    · have z := gt _ h.symm
      rw [if_neg (by decide)] at z
      exact ev_op (ev_var rfl) (ev_callB (i := 0) rfl (es_cons ev_int es_nil) rfl ar_nil rfl (got_take' z.symm hp nM (by decide) (by decide))) (fv_ixL ix)
    · obtain ⟨s6, rfl⟩ := r
      obtain ⟨cc, hc, rfl⟩ : ∃ cc, e.2[j]? = some cc ∧ x = .str ⟨#[cc]⟩ := by
        rw [List.getElem?_map] at ex
        cases z : (⟨e.2.toArray⟩ : Str).cps.toList[j]? with
        | none => rw [z] at ex; cases ex
        | some u =>
          rw [z] at ex
          refine ⟨u, ?_, (Option.some.inj ex).symm⟩
          simpa using z
      have cm : cc ∈ e.2 := List.mem_of_getElem? hc
      have j3 : j < 3 := Nat.lt_of_lt_of_le (List.getElem?_eq_some_iff.mp hc).1 elen
      have jC : j * (10 * 4 ^ k) ≤ 2 * (10 * 4 ^ k) := Nat.mul_le_mul_right _ (by omega)
      obtain ⟨r1, r2, r3, r4⟩ := run j (Nat.le_of_lt (List.getElem?_eq_some_iff.mp hc).1)
      rw [take_snoc hc, runF_snoc]
      generalize hR : runF (recF k below) below e.1 q.2 (e.2.take j) = R at r1 r2 r3 r4 ⊢
      have small : (.str e.1 :: R.1).length < sizeLine := by
        rw [List.length_cons, r4, sizeLine_eq]
        omega
      have fin : ∀ {d : PyData} {q' : Pu}, stepF (recF k below) below e.1 R.2 cc = (d, q') → ∃ s6, ([.l q'.ds, .d (.int ((k : Nat) : Int)), .d (.int below), .d (.list (wl.map .str)), .d (.str e.1), .l (.str e.1 :: R.1 ++ [d]), .d (.str ⟨#[cc]⟩)] : List Sl) = [.l (R.1 ++ [(stepF (recF k below) below e.1 R.2 cc).1], (stepF (recF k below) below e.1 R.2 cc).2).2.ds, .d (.int ((k : Nat) : Int)), .d (.int below), .d (.list (wl.map .str)), .d (.str e.1), .l (.str e.1 :: (R.1 ++ [(stepF (recF k below) below e.1 R.2 cc).1], (stepF (recF k below) below e.1 R.2 cc).2).1), s6] := fun {d q'} z => ⟨_, by rw [z]; rfl⟩
      have no : ∀ {x y : Str} {K' : KK} {ρ' : List Sl} {A B : Prop}, x ≠ y → decide (x = y) = true → A := fun n z => absurd (of_decide_eq_true z) n
      have yes : ∀ {x : Str} {A : Prop}, decide (x = x) = false → A := fun z => absurd rfl (of_decide_eq_false z)
      rcases echars cc cm with rfl | rfl | rfl | rfl
      · obtain ⟨m, m0, m1, hm, em⟩ : ∃ m : Int, 0 < m ∧ m ≤ 1000 ∧ atI [PyData.int below, .int 5] (if decide (e.1 = "maker") = true then 1 else 0) = some (.int m) ∧ m = if e.1 = "maker" then 5 else below := by
          by_cases z : e.1 = "maker"
          · exact ⟨5, by decide, by decide, by rw [if_pos (decide_eq_true z)]; rfl, by rw [if_pos z]⟩
          · exact ⟨below, b0, b1, by rw [if_neg (by simpa using z)]; rfl, by rw [if_neg z]⟩
        refine ⟨_, tg_name, sm_seq (sm_if (et_test (ev_op (ev_var rfl) ev_str fv_eqS)) (fun h => sm_app rfl (ev_callB (i := 0) rfl (es_cons (ev_op (Ev.of_el (el_lst (eds_cons (ev_var rfl) (eds_cons ev_int eds_nil)))) (ev_fn (es_cons (ev_op (ev_var rfl) ev_str fv_eqS) es_nil) fv_intB) (fv_ixL hm)) es_nil) rfl ar_nil rfl (got_take r3 (by omega) m0 (by omega))) rfl small ?_) (fun h => absurd h (by decide +kernel)))⟩
        refine sm_seq (sm_if (et_test (ev_op (ev_var rfl) ev_str fv_eqS)) (fun h => absurd h (by decide +kernel)) fun _ => sm_next (sm_seq (sm_if (et_test (ev_op (ev_var rfl) ev_str fv_eqS)) (fun h => absurd h (by decide +kernel)) fun _ => sm_next (sm_if (et_test (ev_op (ev_var rfl) ev_str fv_eqS)) (fun h => absurd h (by decide +kernel)) fun _ => sm_next ?_))))
        refine fin ?_
        show (PyData.int (takeF R.2 (if e.1 = "maker" then 5 else below)).1, (takeF R.2 (if e.1 = "maker" then 5 else below)).2) = _
        rw [← em]
      · refine ⟨_, tg_name, sm_seq (sm_if (et_test (ev_op (ev_var rfl) ev_str fv_eqS)) (fun h => absurd h (by decide +kernel)) fun _ => sm_next (sm_seq (sm_if (et_test (ev_op (ev_var rfl) ev_str fv_eqS)) (fun h => sm_app rfl (ev_callB (i := 0) rfl (es_cons ev_int es_nil) rfl ar_nil rfl (got_take r3 (by omega) (by decide) (by decide))) rfl small ?_) (fun h => absurd h (by decide +kernel)))))⟩
        refine (sm_seq (sm_if (et_test (ev_op (ev_var rfl) ev_str fv_eqS)) (fun h => absurd h (by decide +kernel)) fun _ => sm_next (sm_if (et_test (ev_op (ev_var rfl) ev_str fv_eqS)) (fun h => absurd h (by decide +kernel)) fun _ => sm_next ?_)))
        exact fin rfl
      · refine ⟨_, tg_name, sm_seq (sm_if (et_test (ev_op (ev_var rfl) ev_str fv_eqS)) (fun h => absurd h (by decide +kernel)) fun _ => sm_next (sm_seq (sm_if (et_test (ev_op (ev_var rfl) ev_str fv_eqS)) (fun h => absurd h (by decide +kernel)) fun _ => sm_next (sm_seq (sm_if (et_test (ev_op (ev_var rfl) ev_str fv_eqS)) (fun h => sm_app rfl (ev_callB (i := 0) rfl es_nil rfl ar_nil rfl ⟨R.2, _, rfl, rfl, r3, by omega, rfl, rfl⟩) rfl small ?_) (fun h => absurd h (by decide +kernel)))))))⟩
        refine (sm_if (et_test (ev_op (ev_var rfl) ev_str fv_eqS)) (fun h => absurd h (by decide +kernel)) fun _ => sm_next ?_)
        exact fin rfl
      · have k0 : k ≠ 0 := fun z => leaf_not e (hl z) 116 cm rfl
        obtain ⟨k', rfl⟩ : ∃ k', k = k' + 1 := ⟨k - 1, by omega⟩
        have pw : 4 ^ (k' + 1) = 4 * 4 ^ k' := by rw [Nat.pow_succ, Nat.mul_comm]
        have ek : (((k' + 1 : Nat) : Int) - 1) = (k' : Int) := by omega
        refine ⟨_, tg_name, sm_seq (sm_if (et_test (ev_op (ev_var rfl) ev_str fv_eqS)) (fun h => absurd h (by decide +kernel)) fun _ => sm_next (sm_seq (sm_if (et_test (ev_op (ev_var rfl) ev_str fv_eqS)) (fun h => absurd h (by decide +kernel)) fun _ => sm_next (sm_seq (sm_if (et_test (ev_op (ev_var rfl) ev_str fv_eqS)) (fun h => absurd h (by decide +kernel)) fun _ => sm_next (sm_if (et_test (ev_op (ev_var rfl) ev_str fv_eqS)) (fun h => sm_app rfl (ev_callB (i := 0) rfl (es_cons (ev_op (ev_var rfl) ev_int fv_int) (es_cons (ev_var rfl) es_nil)) rfl ar_nil rfl ⟨R.2, _, k', below, rfl, by rw [ek]; rfl, r3, by omega, b0, b1, by omega, rfl, rfl⟩) rfl small ?_) (fun h => absurd h (by decide +kernel))))))))⟩
        exact fin rfl
    · obtain ⟨s6, rfl⟩ := r
      have full : ((⟨e.2.toArray⟩ : Str).cps.toList.map fun c => PyData.str ⟨#[c]⟩).length = e.2.length := by
        rw [List.length_map]
      rw [full, List.take_length]
      exact sm_ret (ev_fn (es_cons (ev_varF rfl) es_nil) fv_tupL) ⟨_, rfl, kk⟩
end
end KP
set_option Elab.async false
set_option linter.unusedVariables false
set_option maxRecDepth 100000
set_option maxHeartbeats 2000000
namespace KP
open PySem PySem.Spec PyProof.Rows L2 KA OW
/-! ### terms within others -/
def kindT (h : Int) : PyData := .tuple [.str "kind", .int h]
def fewF (d : PyData) : List PyData := [.tuple [.str "app", kindT 0, d], .tuple [.str "fun", kindT 1, d], .tuple [.str "all", d, kindT 2], .tuple [.str "all", .tuple [.str "at", .int 0], d]]
def foldF : Nat → PyData → Pu → PyData × Pu
  | 0, d, p => (d, p)
  | k + 1, d, p => (((fewF (foldF k d p).1)[(takeF (foldF k d p).2 4).1.toNat]?).getD .none, (takeF (foldF k d p).2 4).2)
def anyF (deep below : Int) (p : Pu) : PyData × Pu :=
  if 0 < (takeF p 4).1 then termF (takeF (takeF p 4).2 deep).1.toNat below (takeF (takeF p 4).2 deep).2
  else foldF (takeF (termF (takeF (takeF p 4).2 4).1.toNat below (takeF (takeF p 4).2 4).2).2 55).1.toNat (termF (takeF (takeF p 4).2 4).1.toNat below (takeF (takeF p 4).2 4).2).1
    (takeF (termF (takeF (takeF p 4).2 4).1.toNat below (takeF (takeF p 4).2 4).2).2 55).2
theorem pow4 {k : Nat} (h : k ≤ 4) : 4 ^ k ≤ 256 := Nat.le_trans (Nat.pow_le_pow_right (by decide) h) (by decide)
theorem pow5 {k : Nat} (h : k ≤ 5) : 4 ^ k ≤ 1024 := Nat.le_trans (Nat.pow_le_pow_right (by decide) h) (by decide)
theorem kind_ok (h : Int) (h0 : 0 ≤ h) (h5 : h ≤ 5) : tm (kindT h) = true ∧ Bd 1 300 (kindT h) := by
  refine ⟨?_, (Bd.tup (BdAll.cons (Bd.str (x := "kind") (by decide +kernel)) (BdAll.one (Bd.int (i := h) (by omega))))).mono (Nat.le_refl _) (by decide)⟩
  unfold kindT
  rw [tm_leaf (by decide +kernel)]
  show (decide (0 ≤ h) && decide (h ≤ 5)) = true
  rw [decide_eq_true h0, decide_eq_true h5]
  rfl
theorem at_ok : tm (.tuple [.str "at", .int 0]) = true ∧ Bd 1 300 (.tuple [.str "at", .int 0]) := by
  refine ⟨?_, (Bd.tup (BdAll.cons (Bd.str (x := "at") (by decide +kernel)) (BdAll.one (Bd.int (i := 0) (by decide))))).mono (Nat.le_refl _) (by decide)⟩
  rw [tm_leaf (by decide +kernel)]
  rfl
theorem wrap {w : Str} {a b : PyData} {dp s1 s2 : Nat} (hw : parts w = some 2) (fw : fine (.str w) = true) (ha : tm a = true) (hb : tm b = true) (ba : Bd dp s1 a) (bb : Bd dp s2 b) : tm (.tuple [.str w, a, b]) = true ∧ Bd (dp + 1) (s1 + s2 + 300) (.tuple [.str w, a, b]) := by
  refine ⟨?_, (Bd.tup (BdAll.cons ((Bd.str fw).mono (Nat.zero_le _) (Nat.le_refl _)) (BdAll.cons ba (BdAll.one bb)))).mono (Nat.le_refl _) (by omega)⟩
  rw [tm_parts hw]
  simp only [tmAll, ha, hb]
  rfl
theorem few_ok {d : PyData} {dp sz : Nat} (h1 : 1 ≤ dp) (td : tm d = true) (bd : Bd dp sz d) : ∀ g ∈ fewF d, tm g = true ∧ Bd (dp + 1) (sz + 600) g := by
  have K0 := kind_ok 0 (by decide) (by decide)
  have K1 := kind_ok 1 (by decide) (by decide)
  have K2 := kind_ok 2 (by decide) (by decide)
  intro g hg
  unfold fewF at hg
  simp only [List.mem_cons, List.not_mem_nil, or_false] at hg
  rcases hg with rfl | rfl | rfl | rfl
  · have := wrap (w := "app") (by decide +kernel) (by decide +kernel) K0.1 td (K0.2.mono h1 (Nat.le_refl _)) bd
    exact ⟨this.1, this.2.mono (by omega) (by omega)⟩
  · have := wrap (w := "fun") (by decide +kernel) (by decide +kernel) K1.1 td (K1.2.mono h1 (Nat.le_refl _)) bd
    exact ⟨this.1, this.2.mono (by omega) (by omega)⟩
  · have := wrap (w := "all") (by decide +kernel) (by decide +kernel) td K2.1 bd (K2.2.mono h1 (Nat.le_refl _))
    exact ⟨this.1, this.2.mono (by omega) (by omega)⟩
  · have := wrap (w := "all") (by decide +kernel) (by decide +kernel) at_ok.1 td (at_ok.2.mono h1 (Nat.le_refl _)) bd
    exact ⟨this.1, this.2.mono (by omega) (by omega)⟩
theorem foldF_ok {d : PyData} {dp sz n : Nat} {p : Pu} (h1 : 1 ≤ dp) (td : tm d = true) (bd : Bd dp sz d) (hp : PuOk p n) : ∀ k, tm (foldF k d p).1 = true ∧ Bd (dp + k) (sz + 600 * k) (foldF k d p).1 ∧ PuOk (foldF k d p).2 (n + k)
  | 0 => ⟨td, bd, hp⟩
  | k + 1 => by
    obtain ⟨a, b, c⟩ := foldF_ok h1 td bd hp k
    obtain ⟨t0, t1, t2⟩ := takeF_ok (m := 4) c (by decide)
    have lt : (takeF (foldF k d p).2 4).1.toNat < (fewF (foldF k d p).1).length := by
      show _ < 4
      omega
    have e := List.getElem?_eq_getElem lt
    obtain ⟨x, y⟩ := few_ok (by omega) a b _ (List.mem_of_getElem? e)
    show tm (((fewF (foldF k d p).1)[(takeF (foldF k d p).2 4).1.toNat]?).getD .none) = true ∧ Bd _ _ (((fewF (foldF k d p).1)[(takeF (foldF k d p).2 4).1.toNat]?).getD .none) ∧ _
    rw [e, Option.getD_some]
    exact ⟨x, y.mono (by omega) (by omega), t2⟩
def AnyOk (n : Nat) (r : PyData × Pu) : Prop := tm r.1 = true ∧ Bd 58 1100000 r.1 ∧ PuOk r.2 (n + 50000)
theorem anyF_ok {deep below : Int} {p : Pu} {n : Nat} (d0 : 0 < deep) (d6 : deep ≤ 6) (b0 : 0 < below) (b1 : below ≤ 1000) (hp : PuOk p n) (hn : n + 50000 ≤ maxN) : AnyOk n (anyF deep below p) := by
  obtain ⟨t0, t1, t2⟩ := takeF_ok (m := 4) hp (by decide)
  unfold anyF
  split
  · obtain ⟨u0, u1, u2⟩ := takeF_ok (m := deep) t2 d0
    have k5 := pow5 (k := (takeF (takeF p 4).2 deep).1.toNat) (by omega)
    obtain ⟨a, b, c⟩ := termF_ok b0 b1 (takeF (takeF p 4).2 deep).1.toNat _ _ u2 (by omega)
    exact ⟨a, b.mono (by omega) (by omega), c.more (by omega)⟩
  · obtain ⟨u0, u1, u2⟩ := takeF_ok (m := 4) t2 (by decide)
    have k4 := pow4 (k := (takeF (takeF p 4).2 4).1.toNat) (by omega)
    have k64 : 4 ^ (takeF (takeF p 4).2 4).1.toNat ≤ 64 := Nat.le_trans (Nat.pow_le_pow_right (by decide) (by omega : (takeF (takeF p 4).2 4).1.toNat ≤ 3)) (by decide)
    obtain ⟨a, b, c⟩ := termF_ok b0 b1 (takeF (takeF p 4).2 4).1.toNat _ _ u2 (by omega)
    obtain ⟨v0, v1, v2⟩ := takeF_ok (m := 55) c (by decide)
    obtain ⟨x, y, z⟩ := foldF_ok (by omega) a b v2 (takeF (termF (takeF (takeF p 4).2 4).1.toNat below (takeF (takeF p 4).2 4).2).2 55).1.toNat
    exact ⟨x, y.mono (by omega) (by omega), z.more (by omega)⟩
def tAny : List PyData → List Sl → (Rv → List PyData → Prop) → Prop := fun c as Kr => ∃ p n deep below, c = p.ds ∧ as = [.d (.int deep), .d (.int below)] ∧ PuOk p n ∧ 0 < deep ∧ deep ≤ 6 ∧ 0 < below ∧ below ≤ 1000 ∧ n + 50000 ≤ maxN ∧ Kr (.d (anyF deep below p).1) (anyF deep below p).2.ds
theorem got_term {lim : Nat} {p : Pu} {n : Nat} {r below : Int} (hp : PuOk p n) (r0 : 0 ≤ r) (hk : r.toNat < lim) (b0 : 0 < below) (b1 : below ≤ 1000) (hn : n + 40 * 4 ^ r.toNat ≤ maxN) :
    tTerm lim p.ds ([.d (.int r), .d (.int below)] ++ []) (fun s c' => s = .d (termF r.toNat below p).1 ∧ c' = (termF r.toNat below p).2.ds) :=
  ⟨p, n, r.toNat, below, rfl, by rw [Int.toNat_of_nonneg r0]; rfl, hp, hk, b0, b1, hn, rfl, rfl⟩
section
variable {P : Program} {w : World} {K : PySem.W.Frag} {mg : Str → Option Value} {base : Heap}
abbrev nAny : List Str := ["_law_purse_here", "_law_deep", "_law_below", "_law_found", "_law_turn", "_law_few"]
theorem scAny2 : FnScope nAny ["_law_purse_here", "_law_deep", "_law_below"] (defScope sAny) := ⟨rfl, rfl, rfl, by decide +kernel, rfl, by decide +kernel, by decide +kernel⟩
theorem ok_any2 {f : Addr} {fd : FuncData} (F : Fun K "_law_any" "_law_any" sAny f fd) (T : Txt K w mg) (C_law_take : C8.Cal P w K mg base 1 "_law_take" (spB 1 tTake) []) (C_law_term : C8.Cal P w K mg base 9 "_law_term" (spB 2 (tTerm 6)) []) :
    FnOk P w K mg base CX0 10 f fd ["_law_purse_here", "_law_deep", "_law_below"] (spB 2 tAny) := by
  refine fn_b F scAny2 (body := fun cdv A outer s H E hr => ⟨_, (pss_cons (ps_if (pt_cmpR op_gt (C8.pe_c C_law_take hr (by decide) rfl (pa_cons (pv 0) (pa_cons pe_int pa_nil))) pe_int (nomark _)) (pss_one (ps_ret (C8.pe_c C_law_term hr (by decide) rfl (pa_cons (pv 0) (pa_cons (C8.pe_c C_law_take hr (by decide) rfl (pa_cons (pv 0) (pa_cons (pv 1) pa_nil))) (pa_cons (pv 2) pa_nil)))))) pss_nil) (pss_cons (ps_set (i := 3) scAny2.nd rfl (Or.inl rfl) (C8.pe_c C_law_term hr (by decide) rfl (pa_cons (pv 0) (pa_cons (C8.pe_c C_law_take hr (by decide) rfl (pa_cons (pv 0) (pa_cons pe_int pa_nil))) (pa_cons (pv 2) pa_nil)))))
      (pss_cons (ps_for PassesOwn.never rfl (pi_range1 (by rfl) T.range (pa_cons (C8.pe_c C_law_take hr (by decide) rfl (pa_cons (pv 0) (pa_cons pe_int pa_nil))) pa_nil)) (pg_name (i := 4) scAny2.nd rfl (Or.inl rfl)) (pss_cons (ps_set (i := 5) scAny2.nd rfl (Or.inl rfl) (pe_lst (pa_cons (pe_tup (pa_cons pe_str (pa_cons (pe_tup (pa_cons pe_str (pa_cons pe_int pa_nil))) (pa_cons (pv 3) pa_nil)))) (pa_cons (pe_tup (pa_cons pe_str (pa_cons (pe_tup (pa_cons pe_str (pa_cons pe_int pa_nil))) (pa_cons (pv 3) pa_nil)))) (pa_cons (pe_tup (pa_cons pe_str (pa_cons (pv 3) (pa_cons (pe_tup (pa_cons pe_str (pa_cons pe_int pa_nil))) pa_nil)))) pa_nil)))))
      (pss_cons (ps_expr (pe_bm PySem.F.plainAttrs_list PySem.F.slot_list_append PySem.F.type_list_append mt_append (pv 5) (pa_cons (pe_tup (pa_cons pe_str (pa_cons (pe_tup (pa_cons pe_str (pa_cons pe_int pa_nil))) (pa_cons (pv 3) pa_nil)))) pa_nil)))
      (pss_one (ps_set (i := 3) scAny2.nd rfl (Or.inl rfl) (pe_ix ix_list (pv 5) (C8.pe_c C_law_take hr (by decide) rfl (pa_cons (pv 0) (pa_cons pe_int pa_nil))) (fun _ _ => rfl)))))))
      (pss_one (ps_ret (pv 3)))))), ?_⟩)
  rintro ct as Kr _ ⟨p, n, deep, below, rfl, rfl, hp, d0, d6, b0, b1, hn, k⟩
  obtain ⟨t0, t1, t2⟩ := takeF_ok (m := 4) hp (by decide)
  have nM : n ≤ maxN := by omega
  unfold anyF at k
  refine sm_seq (sm_if (et_test (ev_op (ev_callB (i := 0) rfl (es_cons ev_int es_nil) rfl ar_nil rfl (got_take hp nM (by decide) (by decide))) ev_int fv_cmpI)) (fun h => ?_) fun h => sm_next ?_)
  · rw [if_pos (of_decide_eq_true h)] at k
    obtain ⟨u0, u1, u2⟩ := takeF_ok (m := deep) t2 d0
    have k5 := pow5 (k := (takeF (takeF p 4).2 deep).1.toNat) (by omega)
    exact sm_ret (ev_callB (i := 0) rfl (es_cons (ev_callB (i := 0) rfl (es_cons (ev_var rfl) es_nil) rfl ar_nil rfl (got_take t2 (by omega) d0 (by omega))) (es_cons (ev_var rfl) es_nil)) rfl ar_nil rfl (got_term u2 u0 (by omega) b0 b1 (by omega))) ⟨_, rfl, k⟩
  · rw [if_neg (of_decide_eq_false h)] at k
    obtain ⟨u0, u1, u2⟩ := takeF_ok (m := 4) t2 (by decide)
    have k64 : 4 ^ (takeF (takeF p 4).2 4).1.toNat ≤ 64 := Nat.le_trans (Nat.pow_le_pow_right (by decide) (by omega : (takeF (takeF p 4).2 4).1.toNat ≤ 3)) (by decide)
    obtain ⟨a, b, c⟩ := termF_ok b0 b1 (takeF (takeF p 4).2 4).1.toNat _ _ u2 (by omega)
    refine sm_seq (sm_set (ev_callB (i := 0) rfl (es_cons (ev_callB (i := 0) rfl (es_cons ev_int es_nil) rfl ar_nil rfl (got_take t2 (by omega) (by decide) (by decide))) (es_cons (ev_var rfl) es_nil)) rfl ar_nil rfl (got_term u2 u0 (by omega) b0 b1 (by omega))) ?_)
    generalize termF (takeF (takeF p 4).2 4).1.toNat below (takeF (takeF p 4).2 4).2 = R at *
    obtain ⟨v0, v1, v2⟩ := takeF_ok (m := 55) c (by decide)
    have fo := fun j => foldF_ok (by omega) a b v2 j
    refine sm_seq (sm_for (fi_rng1 (eds_cons (ev_callB (i := 0) rfl (es_cons ev_int es_nil) rfl ar_nil rfl (got_take c (by omega) (by decide) (by decide))) eds_nil) (by omega))
      (fun j ρ => ∃ s4 s5, ρ = [.l (foldF j R.1 (takeF R.2 55).2).2.ds, .d (.int deep), .d (.int below), .d (foldF j R.1 (takeF R.2 55).2).1, s4, s5]) ⟨.un, .un, rfl⟩ (fun j x ρ ex r => ?_) (fun ρ r => ?_))
    · obtain ⟨s4, s5, rfl⟩ := r
      obtain ⟨lt, rfl⟩ := rngD_at ex
      obtain ⟨x1, x2, x3⟩ := fo j
      have nj : n + 1 + 1 + 40 * 4 ^ (takeF (takeF p 4).2 4).1.toNat + 1 + j ≤ maxN := by omega
      have e1 : foldF (j + 1) R.1 (takeF R.2 55).2 = (((fewF (foldF j R.1 (takeF R.2 55).2).1)[(takeF (foldF j R.1 (takeF R.2 55).2).2 4).1.toNat]?).getD .none, (takeF (foldF j R.1 (takeF R.2 55).2).2 4).2) := rfl
      rw [e1]
      generalize foldF j R.1 (takeF R.2 55).2 = Y at x1 x2 x3 ⊢
      obtain ⟨y0, y1, y2⟩ := takeF_ok (m := 4) x3 (by decide)
      have lt4 : (takeF Y.2 4).1.toNat < (fewF Y.1).length := by
        show _ < 4
        omega
      have e := List.getElem?_eq_getElem lt4
      have ea : atI (fewF Y.1) (takeF Y.2 4).1 = some ((fewF Y.1)[(takeF Y.2 4).1.toNat]) := by
        have := at_nat e
        rw [Int.toNat_of_nonneg y0] at this
        exact this
      refine ⟨_, tg_name, (sm_seq (sm_setL (el_lst (eds_cons (ev_tup (eds_cons ev_str (eds_cons (ev_tup (eds_cons ev_str (eds_cons ev_int eds_nil))) (eds_cons (ev_var rfl) eds_nil)))) (eds_cons (ev_tup (eds_cons ev_str (eds_cons (ev_tup (eds_cons ev_str (eds_cons ev_int eds_nil))) (eds_cons (ev_var rfl) eds_nil)))) (eds_cons (ev_tup (eds_cons ev_str (eds_cons (ev_var rfl) (eds_cons (ev_tup (eds_cons ev_str (eds_cons ev_int eds_nil))) eds_nil)))) eds_nil)))) (sm_seq (sm_app rfl (ev_tup (eds_cons ev_str (eds_cons (ev_tup (eds_cons ev_str (eds_cons ev_int eds_nil))) (eds_cons (ev_var rfl) eds_nil)))) rfl ?_ (sm_set (ev_ixO (xs := fewF Y.1) rfl (ev_callB (i := 0) rfl (es_cons ev_int es_nil) rfl ar_nil rfl (got_take x3 (by omega) (by decide) (by decide))) rfl ea) ?_)))))⟩
      · show 3 < sizeLine
        rw [sizeLine_eq]
        decide
      · exact ⟨_, _, by rw [e, Option.getD_some]; rfl⟩
    · obtain ⟨s4, s5, rfl⟩ := r
      rw [rngD_len]
      exact sm_ret (ev_var rfl) ⟨_, rfl, k⟩
end
end KP
set_option Elab.async false
set_option linter.unusedVariables false
set_option maxRecDepth 100000
set_option maxHeartbeats 1000000
/-! A try with several handlers of which the first one, with a name, takes whatever comes. -/
namespace KA
open PySem PySem.Spec PyProof.Rows L2
/-- the wish of the body: what comes is of the first handler's class -/
def wFirst (K : PySem.W.Frag) (c : Value) (i : Nat) (ts : Addr → Value → Option Addr → TS) (D : Ends) : WX := fun cls d σ H =>
  PySem.W.exmOne K cls c = some true ∧ ∀ a, H a = none → ts a cls d { nx := fun ρ G => D.nx (ρ.set i none) G, rt := D.rt, bk := fun ρ G => D.bk (ρ.set i none) G, ct := fun ρ G => D.ct (ρ.set i none) G } (σ.set i (some (.ref a))) H
section
variable {X : Cx} {x n : Str} {c : Value} {i : Nat} {body su : List Stmt} {b1 : Stmt} {np pos p3 : Pos} {more : List ExceptHandler} {tb : WX → TS} {ts : Addr → Value → Option Addr → TS}
theorem ps_try_first (stk : X.stack = X.env :: X.outer) (frm : X.env.frame = some X.env.locals) (nd : X.N.Nodup) (at_ : X.N[i]? = some n) (loc : X.env.kindOf n = some .local) (nm : Names X x c)
    (hb : ∀ (W : WX) (pn : List (Addr × Obj)) (xe : Value → Shared → Prop), Takes (X.tr pn xe) W → PassesOwn (model X.prog X.w) X.A X.env xe → PSs (X.tr pn xe) body (tb W))
    (hs : ∀ (a : Addr) (oe : Obj) (cls : Value) (d : Option Addr) (pn : List (Addr × Obj)), Zc cls d oe → (∃ vs, oe.data = .fields vs) → PSs (X.suite a ((a, oe) :: pn)) (b1 :: su) (ts a cls d)) :
    PS X (.Try body (.ExceptHandler (some (.Name x np)) (some n) (b1 :: su) p3 :: more) [] [] pos) (fun D σ H => tb (wFirst X.K c i ts D) D σ H) := by
  refine ⟨fun pins s0 σ0 H0 D I0 want => ?_⟩
  have okX := I0.ok
  have frames : X.A.frames = some (X.env :: X.outer) := by rw [okX.frames, stk]
  have here : Loc X.env.scope n := .inl loc
  refine wpAny_Try_except ?_
  refine wpAny_mono ((hb (wFirst X.K c i ts D) (X.pn ++ pins) (fun u t1 => wpAny (model X.prog X.w) X.A (noteFrame u X.env) (fun _ t2 => wpAny (model X.prog X.w) X.A (setFlight u none) (fun _ t3 =>
    wpAny (model X.prog X.w) X.A (handleBy u X.env (.ExceptHandler (some (.Name x np)) (some n) (b1 :: su) p3 :: more)) (SP X pins D) X.xe t3) X.xe t2) X.xe t1) (fun u t0 inAir => ?_) PassesOwn.looking).run [] s0 σ0 H0 D (I0.toTry _) want) (fun fl t1 ends => ?_) (fun u t1 z => z)
  · obtain ⟨a, B, sB, pinsB, σ1, H1, cls, d, rfl, JB, newB, up0, air, freeA, osE, bareG, isC, suite⟩ := inAir
    have J0 : Inv X pins σ1 H1 sB := JB.ofTry okX
    have air' : Sky B (X.env :: X.outer) a (Zc cls d) X.env.locals t0.heap := by rw [← stk]; exact air
    show wpAny (model X.prog X.w) X.A (noteFrame (.ref a) X.env) _ _ _
    refine Sky.land Zc.steady frames frm air' fun hA flA upA => ?_
    have JA : Inv X pins σ1 H1 { t0 with heap := hA } := J0.landed newB flA.1 (up0.trans upA) osE bareG
    obtain ⟨oA, vA, getA, zcA, datA⟩ := flA.there
    have offF : a ∉ frs (X.env :: X.outer) := fun mem => by
      obtain ⟨_, o1, get1, notF⟩ := flA.2.2.1.mem mem
      rw [getA] at get1
      cases get1
      exact notF _ datA
    have offL : a ≠ X.env.locals := fun z => offF (List.mem_filterMap.mpr ⟨X.env, List.mem_cons_self, by rw [frm, z]⟩)
    have offS : a ∉ X.fs := fun mem => by
      obtain ⟨en, hen, q⟩ := List.mem_filterMap.mp mem
      exact offF (List.mem_filterMap.mpr ⟨en, List.mem_cons_of_mem _ hen, q⟩)
    have SA := JA.suite getA datA freeA offL offS
    refine wpAny_handleBy_cons (codeAny_handlers_test ?_) (by intro q; cases q)
    have lookT : PySem.W.Looks (model X.prog X.w) hA (typeOf (.ref a)) cls := fun _ _ _ t keep q => wpAny_typeOf_ref (keep _ _ getA) (by rw [zcA.1]; exact q)
    have lookM := PySem.W.exm_one (M := model X.prog X.w) JA.kIn lookT isC
    have name : ∀ {Q E : Value → Shared → Prop}, Q c { t0 with heap := hA } → wpAny (model X.prog X.w) (X.A.mark (some (.ref a))) (eval (.Name x np) X.env) Q E { t0 with heap := hA } := fun {Q E} q => by
      obtain ⟨gl, dbg, own | ⟨none_, blt, nn⟩⟩ := nm
      · exact ld_glob (X := X.suite a ((a, oA) :: (X.pn ++ pins))) SA gl own q dbg
      · exact ld_blt (X := X.suite a ((a, oA) :: (X.pn ++ pins))) SA gl none_ blt q nn dbg
    refine name (lookM.here ?_)
    refine codeAny_handlers_suite_as ?_
    refine HandSPX.lands_againZ flA fun hC flC upC => ?_
    have JC : Inv X pins σ1 H1 { t0 with heap := hC } := J0.landed newB flC.1 ((up0.trans upA).trans upC) osE bareG
    obtain ⟨oC, vC, getC, zcC, datC⟩ := flC.there
    have SC := JC.suite getC datC freeA offL offS
    refine store_ok (X := X.suite a ((a, oC) :: (X.pn ++ pins))) (v := .ref a) SC nd at_ here rfl (fun t5 S5 => ?_) (.inr loc)
    refine wpAny_mono ((hs a oC cls d (X.pn ++ pins) zcC ⟨_, datC⟩).run [] t5 _ H1 _ S5 (suite a freeA)) (fun fl t6 ends => ?_) (fun _ _ z => False.elim z)
    have gone : ∀ {ρ : L2.St} {G : Hp} {Q : Shared → Prop}, Inv (X.suite a ((a, oC) :: (X.pn ++ pins))) [] ρ G t6 → (∀ t7, Inv X pins (ρ.set i none) G t7 → Q t7) →
        wpAny (model X.prog X.w) X.A (do bindName X.env n .none; unbindBehindTheSuite X.env n p3) (fun _ t7 => Q t7) X.xe t6 := fun {ρ G Q} S6 q => gone_ok (S6.unsuite okX) nd at_ loc q
    cases fl with
    | next =>
      obtain ⟨ρ, G, S6, q⟩ := ends
      exact gone S6 fun t7 J7 => ⟨_, _, J7, q⟩
    | brk =>
      obtain ⟨ρ, G, S6, q⟩ := ends
      exact gone S6 fun t7 J7 => ⟨_, _, J7, q⟩
    | cont =>
      obtain ⟨ρ, G, S6, q⟩ := ends
      exact gone S6 fun t7 J7 => ⟨_, _, J7, q⟩
    | ret u =>
      obtain ⟨v, ρ, G, S6, rv, q⟩ := ends
      exact gone S6 fun t7 J7 => ⟨_, _, _, J7, rv, q⟩
  · cases fl with
    | next =>
      obtain ⟨ρ, G, J, q⟩ := ends
      exact wpAny_execs_nil ⟨ρ, G, J.ofTry okX, q⟩
    | brk =>
      obtain ⟨ρ, G, J, q⟩ := ends
      exact ⟨ρ, G, J.ofTry okX, q⟩
    | cont =>
      obtain ⟨ρ, G, J, q⟩ := ends
      exact ⟨ρ, G, J.ofTry okX, q⟩
    | ret u =>
      obtain ⟨v, ρ, G, J, rv, q⟩ := ends
      exact ⟨v, ρ, G, J.ofTry okX, rv, q⟩
end
end KA
set_option Elab.async false
set_option linter.unusedVariables false
set_option maxRecDepth 100000
set_option maxHeartbeats 1000000
/-! A try with several handlers that have names; of those behind them nothing is said. -/
namespace KA
open PySem PySem.Spec PyProof.Rows L2
def asEnds (i : Nat) (D : Ends) : Ends := { nx := fun ρ G => D.nx (ρ.set i none) G, rt := D.rt, bk := fun ρ G => D.bk (ρ.set i none) G, ct := fun ρ G => D.ct (ρ.set i none) G }
def wAs (K : PySem.W.Frag) (D : Ends) : List (Value × Nat × (Addr → Value → Option Addr → TS)) → WX
  | [] => fun _ _ _ _ => False
  | (c, i, ts) :: r => fun cls d σ H => ∃ b, PySem.W.exmOne K cls c = some b ∧ (b = true → ∀ a, H a = none → ts a cls d (asEnds i D) (σ.set i (some (.ref a))) H) ∧ (b = false → wAs K D r cls d σ H)
def tTryAs (K : PySem.W.Frag) (l : List (Value × Nat × (Addr → Value → Option Addr → TS))) (tb : WX → TS) : TS := fun D σ H => tb (wAs K D l) D σ H
inductive HdsA (X : Cx) : List ExceptHandler → List (Value × Nat × (Addr → Value → Option Addr → TS)) → Prop
  | rest {hds : List ExceptHandler} : HdsA X hds []
  | cons {x n : Str} {c : Value} {i : Nat} {ts : Addr → Value → Option Addr → TS} {b1 : Stmt} {su : List Stmt} {np p3 : Pos} {hds : List ExceptHandler} {l : List (Value × Nat × (Addr → Value → Option Addr → TS))}
      (nm : Names X x c) (at_ : X.N[i]? = some n) (loc : X.env.kindOf n = some .local)
      (hs : ∀ (a : Addr) (oe : Obj) (cls : Value) (d : Option Addr) (pn : List (Addr × Obj)), Zc cls d oe → (∃ vs, oe.data = .fields vs) → PSs (X.suite a ((a, oe) :: pn)) (b1 :: su) (ts a cls d)) (r : HdsA X hds l) :
      HdsA X (.ExceptHandler (some (.Name x np)) (some n) (b1 :: su) p3 :: hds) ((c, i, ts) :: l)
section
variable {X : Cx} {body : List Stmt} {h0 : ExceptHandler} {hds : List ExceptHandler} {l : List (Value × Nat × (Addr → Value → Option Addr → TS))} {pos : Pos} {tb : WX → TS}
theorem ps_try_as (stk : X.stack = X.env :: X.outer) (frm : X.env.frame = some X.env.locals) (nd : X.N.Nodup)
    (hb : ∀ (W : WX) (pn : List (Addr × Obj)) (xe : Value → Shared → Prop), Takes (X.tr pn xe) W → PassesOwn (model X.prog X.w) X.A X.env xe → PSs (X.tr pn xe) body (tb W))
    (hh : HdsA X (h0 :: hds) l) : PS X (.Try body (h0 :: hds) [] [] pos) (tTryAs X.K l tb) := by
  refine ⟨fun pins s0 σ0 H0 D I0 want => ?_⟩
  have okX := I0.ok
  have frames : X.A.frames = some (X.env :: X.outer) := by rw [okX.frames, stk]
  refine wpAny_Try_except ?_
  refine wpAny_mono ((hb (wAs X.K D l) (X.pn ++ pins) (fun u t1 => wpAny (model X.prog X.w) X.A (noteFrame u X.env) (fun _ t2 => wpAny (model X.prog X.w) X.A (setFlight u none) (fun _ t3 =>
    wpAny (model X.prog X.w) X.A (handleBy u X.env (h0 :: hds)) (SP X pins D) X.xe t3) X.xe t2) X.xe t1) (fun u t0 inAir => ?_) PassesOwn.looking).run [] s0 σ0 H0 D (I0.toTry _) want) (fun fl t1 ends => ?_) (fun u t1 z => z)
  · obtain ⟨a, B, sB, pinsB, σ1, H1, cls, d, rfl, JB, newB, up0, air, freeA, osE, bareG, w⟩ := inAir
    have J0 : Inv X pins σ1 H1 sB := JB.ofTry okX
    have air' : Sky B (X.env :: X.outer) a (Zc cls d) X.env.locals t0.heap := by rw [← stk]; exact air
    show wpAny (model X.prog X.w) X.A (noteFrame (.ref a) X.env) _ _ _
    refine Sky.land Zc.steady frames frm air' fun hA flA upA => ?_
    have JA : Inv X pins σ1 H1 { t0 with heap := hA } := J0.landed newB flA.1 (up0.trans upA) osE bareG
    obtain ⟨oA, vA, getA, zcA, datA⟩ := flA.there
    have offF : a ∉ frs (X.env :: X.outer) := fun mem => by
      obtain ⟨_, o1, get1, notF⟩ := flA.2.2.1.mem mem
      rw [getA] at get1
      cases get1
      exact notF _ datA
    have offL : a ≠ X.env.locals := fun z => offF (List.mem_filterMap.mpr ⟨X.env, List.mem_cons_self, by rw [frm, z]⟩)
    have offS : a ∉ X.fs := fun mem => by
      obtain ⟨en, hen, q⟩ := List.mem_filterMap.mp mem
      exact offF (List.mem_filterMap.mpr ⟨en, List.mem_cons_of_mem _ hen, q⟩)
    have SA := JA.suite getA datA freeA offL offS
    have go : ∀ {hds' : List ExceptHandler} {l' : List (Value × Nat × (Addr → Value → Option Addr → TS))}, HdsA X hds' l' → wAs X.K D l' cls d σ1 H1 →
        wpAny (model X.prog X.w) X.A (handleBy (.ref a) X.env hds') (SP X pins D) X.xe { t0 with heap := hA } := by
      intro hds' l' hk
      induction hk with
      | rest =>
        intro w
        exact False.elim w
      | @cons x n c i ts b1 su np p3 hds2 l2 nm at_ loc hs r ih =>
        intro w
        obtain ⟨b, hb1, hyes, hno⟩ := w
        have here : Loc X.env.scope n := .inl loc
        refine wpAny_handleBy_cons (codeAny_handlers_test ?_) (by intro q; cases q)
        have lookT : PySem.W.Looks (model X.prog X.w) hA (typeOf (.ref a)) cls := fun _ _ _ t keep q => wpAny_typeOf_ref (keep _ _ getA) (by rw [zcA.1]; exact q)
        have lookM := PySem.W.exm_one (M := model X.prog X.w) JA.kIn lookT hb1
        have name : ∀ {Q E : Value → Shared → Prop}, Q c { t0 with heap := hA } → wpAny (model X.prog X.w) (X.A.mark (some (.ref a))) (eval (.Name x np) X.env) Q E { t0 with heap := hA } := fun {Q E} q => by
          obtain ⟨gl, dbg, own | ⟨none_, blt, nn⟩⟩ := nm
          · exact ld_glob (X := X.suite a ((a, oA) :: (X.pn ++ pins))) SA gl own q dbg
          · exact ld_blt (X := X.suite a ((a, oA) :: (X.pn ++ pins))) SA gl none_ blt q nn dbg
        refine name (lookM.here ?_)
        cases b with
        | false =>
          show wpAny _ X.A (handleBy (.ref a) X.env hds2) _ _ _
          exact ih (hno rfl)
        | true =>
          refine codeAny_handlers_suite_as ?_
          refine HandSPX.lands_againZ flA fun hC flC upC => ?_
          have JC : Inv X pins σ1 H1 { t0 with heap := hC } := J0.landed newB flC.1 ((up0.trans upA).trans upC) osE bareG
          obtain ⟨oC, vC, getC, zcC, datC⟩ := flC.there
          have SC := JC.suite getC datC freeA offL offS
          refine store_ok (X := X.suite a ((a, oC) :: (X.pn ++ pins))) (v := .ref a) SC nd at_ here rfl (fun t5 S5 => ?_) (.inr loc)
          refine wpAny_mono ((hs a oC cls d (X.pn ++ pins) zcC ⟨_, datC⟩).run [] t5 _ H1 _ S5 (hyes rfl a freeA)) (fun fl t6 ends => ?_) (fun _ _ z => False.elim z)
          have gone : ∀ {ρ : L2.St} {G : Hp} {Q : Shared → Prop}, Inv (X.suite a ((a, oC) :: (X.pn ++ pins))) [] ρ G t6 → (∀ t7, Inv X pins (ρ.set i none) G t7 → Q t7) →
              wpAny (model X.prog X.w) X.A (do bindName X.env n .none; unbindBehindTheSuite X.env n p3) (fun _ t7 => Q t7) X.xe t6 := fun {ρ G Q} S6 q => gone_ok (S6.unsuite okX) nd at_ loc q
          cases fl with
          | next =>
            obtain ⟨ρ, G, S6, q⟩ := ends
            exact gone S6 fun t7 J7 => ⟨_, _, J7, q⟩
          | brk =>
            obtain ⟨ρ, G, S6, q⟩ := ends
            exact gone S6 fun t7 J7 => ⟨_, _, J7, q⟩
          | cont =>
            obtain ⟨ρ, G, S6, q⟩ := ends
            exact gone S6 fun t7 J7 => ⟨_, _, J7, q⟩
          | ret u =>
            obtain ⟨v, ρ, G, S6, rv, q⟩ := ends
            exact gone S6 fun t7 J7 => ⟨_, _, _, J7, rv, q⟩
    exact go hh w
  · cases fl with
    | next =>
      obtain ⟨ρ, G, J, q⟩ := ends
      exact wpAny_execs_nil ⟨ρ, G, J.ofTry okX, q⟩
    | brk =>
      obtain ⟨ρ, G, J, q⟩ := ends
      exact ⟨ρ, G, J.ofTry okX, q⟩
    | cont =>
      obtain ⟨ρ, G, J, q⟩ := ends
      exact ⟨ρ, G, J.ofTry okX, q⟩
    | ret u =>
      obtain ⟨v, ρ, G, J, rv, q⟩ := ends
      exact ⟨v, ρ, G, J.ofTry okX, rv, q⟩
end
end KA
set_option Elab.async false
set_option linter.unusedVariables false
set_option maxRecDepth 100000
set_option maxHeartbeats 1000000
namespace OW
open PySem PySem.Spec PyProof.Rows L2 KA
/-! ### refusals -/
def Re (W : WX) (te : TE) (ρ : List Sl) (C : Addr) (s : Sl) (ρ' : List Sl) : Prop := ∀ (c : Fr) (A : Am) (σ : L2.St) (H : Hp) (Q : VK), Rp c A ρ σ H → A fl = none →
  (∀ d v A' H', Rp c A' ρ' σ H' → A' fl = none → vw c.Z A' H' d = some (.xd [("found", v)]) → ArOk (vw c.Z A' H') v s → W (.ref C) (some d) σ H') → te σ H Q
def Rs (W : WX) (t : TS) (ρ : List Sl) (C : Addr) (s : Sl) (ρ' : List Sl) : Prop := ∀ (c : Fr) (A : Am) (σ : L2.St) (H : Hp) (D : Ends), Rp c A ρ σ H → A fl = none →
  (∀ d v A' σ' H', Rp c A' ρ' σ' H' → A' fl = none → vw c.Z A' H' d = some (.xd [("found", v)]) → ArOk (vw c.Z A' H') v s → W (.ref C) (some d) σ' H') → t D σ H
def spX (n : Nat) (T : List Sl → (Rv → Prop) → (Addr → Sl → Prop) → Prop) : Sp := fun vs H Q E => ∃ (Z : Addr → Prop) (as : List Sl) (K : Rv → Prop) (X : Addr → Sl → Prop), (∀ a, Z a → H a ≠ none) ∧ ArAll (hz Z H) vs as ∧ as.length = n ∧ T as K X ∧
  (∀ r v H', K r → Same H H' → RvOk Z H H' v r → Q v H') ∧ ∀ C s d v H', X C s → Same H H' → hz Z H' d = some (.xd [("found", v)]) → ArOk (hz Z H') v s → E (.ref C) (some d) H'
section
variable {ρ ρ' ρ1 ρ2 : List Sl} {te ta tb : TE} {s s' : Sl} {x y : PyData} {i : Nat} {tr : TA} {xs : List PyData} {ss : List Sl} {t u : TS} {K : KK} {g : TG} {W : WX} {C : Addr} {E : L2.St → XK} {n : Nat} {T : List Sl → (Rv → Prop) → (Addr → Sl → Prop) → Prop} {KF : PySem.W.Frag}
theorem zz_there {c : Fr} {A : Am} {σ : L2.St} {H : Hp} (R : Rp c A ρ σ H) : ∀ a, zz c.Z A a → H a ≠ none := fun a z => by
  rcases z with z | ⟨i, z⟩
  · rw [(R.keep a z).2]
    exact (R.keep a z).1
  · exact R.live _ _ z
theorem ev_callX (h : Es tr ρ ss ρ') (hn : ss.length = n) (g : T ss (fun r => r = .d x) fun _ _ => False) : Ev (tCallS (spX n T) E tr) ρ (.d x) ρ' := fun c A σ H Q R f q =>
  h c A σ H _ R f fun vs A1 H1 R1 f1 S1 o1 => by
    refine ⟨zz c.Z A1, ss, _, _, zz_there R1, by rw [hz_eq]; exact o1, hn, g, fun r v H' hr S o => ?_, fun _ _ _ _ _ z => z.elim⟩
    subst hr
    have o : Dn (hz (zz c.Z A1) H') v x := o
    rw [hz_eq] at o
    exact q v A1 H' (R1.up S) f1 (S1.trans (vw_up S)) o
theorem el_callX (h : Es tr ρ ss ρ') (hn : ss.length = n) (g : T ss (fun r => r = .l xs) fun _ _ => False) : El (tCallS (spX n T) E tr) ρ xs ρ' := fun c A σ H Q R f q =>
  h c A σ H _ R f fun vs A1 H1 R1 f1 S1 o1 => by
    refine ⟨zz c.Z A1, ss, _, _, zz_there R1, by rw [hz_eq]; exact o1, hn, g, fun r v H' hr S o => ?_, fun _ _ _ _ _ z => z.elim⟩
    subst hr
    obtain ⟨a, us, rfl, n, e, dx⟩ := o
    rw [hz_eq] at dx
    refine q a us _ H' (R1.adopt S n e) aset_at (S1.trans ?_) e (DnAll.mono vw_adopt dx)
    exact fun b o z => vw_adopt (A := A1) b o (by rw [hid_ne (ne_of_none (vw_some z).2.2 n)]; exact vw_up S _ _ z)
theorem re_call (h : Es tr ρ ss ρ') (hn : ss.length = n) (g : T ss (fun _ => False) fun C' s' => C' = C ∧ s' = s) : Re W (tCallS (spX n T) (fun σ => WE W σ) tr) ρ C s ρ' := fun c A σ H Q R f q =>
  h c A σ H _ R f fun vs A1 H1 R1 f1 S1 o1 => by
    refine ⟨zz c.Z A1, ss, _, _, zz_there R1, by rw [hz_eq]; exact o1, hn, g, fun _ _ _ z => z.elim, fun C' s' d v H' z S e o => ?_⟩
    obtain ⟨rfl, rfl⟩ := z
    rw [hz_eq] at e o
    exact q d v A1 H' (R1.up S) f1 e o
theorem rs_seq (h : Sm t ρ { nx := fun ρ1 => Rs W u ρ1 C s ρ', rt := fun _ _ => False }) : Rs W (tSeq t u) ρ C s ρ' := fun c A σ H D R f q =>
  h c A σ H { D with nx := u D } R f ⟨fun ρ1 A1 σ1 H1 hk R1 f1 => hk c A1 σ1 H1 D R1 f1 q, fun _ _ _ _ _ _ z => z.elim, fun _ _ _ _ z => z.elim, fun _ _ _ _ z => z.elim⟩
theorem rs_seq1 (h : Rs W t ρ C s ρ') : Rs W (tSeq t u) ρ C s ρ' := fun c A σ H D R f q => h c A σ H { D with nx := u D } R f q
theorem rs_drop (h : Re W te ρ C s ρ') : Rs W (tDrop te) ρ C s ρ' := fun c A σ H D R f q => h c A σ H _ R f fun d v A1 H1 R1 f1 e o => q d v A1 σ H1 R1 f1 e o
theorem rs_ret (h : Re W te ρ C s ρ') : Rs W (tRet te) ρ C s ρ' := fun c A σ H D R f q => h c A σ H _ R f fun d v A1 H1 R1 f1 e o => q d v A1 σ H1 R1 f1 e o
theorem rs_asg (h : Re W te ρ C s ρ') : Rs W (tAsg te g) ρ C s ρ' := fun c A σ H D R f q => h c A σ H _ R f fun d v A1 H1 R1 f1 e o => q d v A1 σ H1 R1 f1 e o
theorem rs_if {tt : TT} {b : Bool} (h : Et tt ρ b ρ1) (h1 : b = true → Rs W t ρ1 C s ρ') (h2 : b = false → Rs W u ρ1 C s ρ') : Rs W (tIfS tt t u) ρ C s ρ' := fun c A σ H D R f q =>
  h c A σ H _ R f fun A1 H1 R1 f1 S1 => by
    cases b with
    | true => exact h1 rfl c A1 σ H1 D R1 f1 q
    | false => exact h2 rfl c A1 σ H1 D R1 f1 q
theorem re_op1 {r : R2} (h : Re W ta ρ C s ρ') : Re W (tOp r ta tb) ρ C s ρ' := fun c A σ H Q R f q => h c A σ H _ R f q
theorem re_tup {ta : TA} (h : ∀ (c : Fr) (A : Am) (σ : L2.St) (H : Hp) (Q : List V → Hp → Prop), Rp c A ρ σ H → A fl = none → (∀ d v A' H', Rp c A' ρ' σ H' → A' fl = none → vw c.Z A' H' d = some (.xd [("found", v)]) → ArOk (vw c.Z A' H') v s → W (.ref C) (some d) σ H') → ta σ H Q) : Re W (tTup ta) ρ C s ρ' :=
  fun c A σ H Q R f q => h c A σ H _ R f q
/-- a display's second thing is refused -/
theorem re_tup2 {v : V} (h : Re W te ρ C s ρ') : Re W (tTup (tCons (tC v) (tCons te tNil))) ρ C s ρ' := fun c A σ H Q R f q => h c A σ H _ R f q
/-- raise C(e), C a refusal of the program -/
def spErr (C : Addr) : Sp := fun vs H Q _ => ∃ a v, vs = [.ref a, v] ∧ H a = some (exo a C none) ∧ ∀ dx, H dx = none → dx ≠ a → Q .non (upd (upd H dx (exd dx [("found", v)])) a (exo a C (some dx)))
theorem gone_same {H : Hp} {a d : Addr} {u e u' x : HO} (ha : H a = none) (hd : H d = none) : Same H (upd (del (upd (upd (upd H a u) d e) a u') a) d x) := fun b o z => by
  have na : b ≠ a := ne_of_none z ha
  have nd : b ≠ d := ne_of_none z hd
  rw [upd_ne nd, del_ne na, upd_ne na, upd_ne nd, upd_ne na]
  exact z
theorem rs_raise (h : Ev te ρ s ρ') : Rs W (fun _ σ H => tMkO C (spErr C) [] (tCons te tNil) σ H fun cls d H' => W cls d σ H') ρ C s ρ' := fun c A σ H D R f q =>
  h c A σ H _ R f fun v A1 H1 R1 f1 S1 o1 => by
    refine ⟨(by show 1 ≤ 1000; decide), fun a ha => ⟨a, v, rfl, upd_same, fun dx hdx ne => ⟨rfl, dx, [("found", v)], upd_same, ?_, ?_, ?_⟩⟩⟩
    · rw [upd_ne ne, upd_same]
    · rw [upd_ne ne] at hdx
      exact hdx
    · rw [upd_ne ne] at hdx
      have S := gone_same (u := exo a C none) (e := exd dx [("found", v)]) (u' := exo a C (some dx)) (x := .xd [("found", v)]) ha hdx
      exact q dx v A1 σ _ (R1.up S) f1 (new_view R1 hdx upd_same) (o1.mono (vw_up S))
/-! a try -/
def excMo (a d : Addr) (s : Sl) : Mo := ⟨fun u W => u = .ref a ∧ ∃ v, W d = some (.xd [("found", v)]) ∧ ArOk W v s, fun S ⟨e, v, h, o⟩ => ⟨e, v, S _ _ h, o.mono S⟩⟩
theorem ev_found {a d : Addr} (h : ρ[i]? = some (.p (excMo a d s))) : Ev (tXf a (.ref C) (some d) C "found" (tVar i)) ρ s ρ := fun c A σ H Q R f q => by
  obtain ⟨_, u, e, eu, v, ed, o⟩ := R.sl i _ h
  subst eu
  exact ⟨_, e, rfl, rfl, d, _, v, rfl, vw_sub _ _ ed, rfl, q v A H R f (Same.refl _) o⟩
theorem sm_try {l : List (Value × Nat × (Addr → Value → Option Addr → TS))} {tb : WX → TS} (h : ∀ W, Sm (tb W) ρ K) : Sm (tTryAs KF l tb) ρ K := fun c A σ H D R f dk => h _ c A σ H D R f dk
/-- which handler takes it -/
inductive Takes1 (KF : PySem.W.Frag) (C : Addr) : List (Value × Nat × (Addr → Value → Option Addr → TS)) → Nat → (Addr → Value → Option Addr → TS) → Prop
  | here {c : Value} {i : Nat} {ts : Addr → Value → Option Addr → TS} {r : List (Value × Nat × (Addr → Value → Option Addr → TS))} : PySem.W.exmOne KF (.ref C) c = some true → Takes1 KF C ((c, i, ts) :: r) i ts
  | next {c : Value} {i j : Nat} {ts ts' : Addr → Value → Option Addr → TS} {r : List (Value × Nat × (Addr → Value → Option Addr → TS))} : PySem.W.exmOne KF (.ref C) c = some false → Takes1 KF C r j ts' → Takes1 KF C ((c, i, ts) :: r) j ts'
theorem sm_tryX {l : List (Value × Nat × (Addr → Value → Option Addr → TS))} {tb : WX → TS} {ts : Addr → Value → Option Addr → TS} (h : ∀ W, Rs W (tb W) ρ C s ρ') (ht : Takes1 KF C l i ts) (i0 : i ≠ 0 := by decide) (i1 : i ≠ fl := by decide)
    (hs : ∀ a d, Sm (ts a (.ref C) (some d)) (ρ'.set i (.p (excMo a d s))) { nx := fun _ => False, rt := K.rt }) : Sm (tTryAs KF l tb) ρ K := fun c A σ H D R f dk => by
  refine h (wAs KF D l) c A σ H D R f fun d v A' σ' H' R' f' e o => ?_
  induction ht with
  | @here c0 i0' ts0 r0 hx =>
    refine ⟨true, hx, (fun _ a ha => ?_), (fun z => by cases z)⟩
    refine hs a d c _ _ H' _ (R'.set (s := .p (excMo a d s)) (v := .ref a) i0 ⟨rfl, _, rfl, rfl, v, e, o⟩) (by rw [aset_ne i1.symm]; exact f') ⟨fun _ _ _ _ z => z.elim, fun r ρ v A σ H k => dk.rt r ρ v A σ H k, fun _ _ _ _ z => z.elim, fun _ _ _ _ z => z.elim⟩
  | @next c0 i0' j0 ts0 ts1 r0 hx _ ih => exact ⟨false, hx, (fun z => by cases z), fun _ => ih i0 i1 hs⟩
end
section
variable {P : Program} {w : World} {K : PySem.W.Frag} {mg : Str → Option Value} {base : Heap}
theorem fn_x {x qual : Str} {st : Stmt} {f : Addr} {fd : FuncData} {N ps : List Str} {k n : Nat} {T : List Sl → (Rv → Prop) → (Addr → Sl → Prop) → Prop} (F : Fun K x qual st f fd) (S : FnScope N ps (defScope st)) (hn : ps.length = n := by rfl) (hN : n + N.length < fl := by decide)
    (body : ∀ (cdv : Value) (A : Around) (outer : List Env) (s : Shared) (H : Hp) (E : XK), Room k (A.deeper (envOfC qual (defScope st) s.heap.objs.size f cdv)) →
      ∃ t, PSs (cxOf (L2.CX P w) P w K mg base N qual (defScope st) f cdv A outer s H E) (defBody st) t ∧ ∀ as Kr X, as.length = n → T as Kr X →
        Sm t (as ++ uns (N.length - n)) { nx := fun _ => Kr (.d .none), rt := fun r _ => Kr r } ∨ ∃ C s ρ', X C s ∧ Rs (fun cls d _ H => E cls d H) t (as ++ uns (N.length - n)) C s ρ') :
    FnOk P w K mg base (L2.CX P w) (k + 1) f fd ps (spX n T) := by
  refine F.okX S (fun vs H Q E h => ?_) (fun cdv A outer s H vs Q E hr h => ?_)
  · obtain ⟨Z, as, Kr, X, hZ, ha, hl, _⟩ := h
    rw [ha.length, hl, hn]
  · obtain ⟨Z, as, Kr, X, hZ, ha, hl, hT, go, bad⟩ := h
    obtain ⟨t, ht, hb⟩ := body cdv A outer s H E hr
    have same : ∀ {A' : Am} {ρ' : List Sl} {σ' : L2.St} {H' : Hp}, Rp ⟨Z, none, H, hz Z H⟩ A' ρ' σ' H' → Same H H' := fun R b o e => by
      by_cases z : Z b
      · rw [(R.keep b z).2]
        exact e
      · exact (vw_some (R.old _ _ (hz_mk z e))).2.2
    have start := rp_start (N := N) (vs := vs) hN hZ ha hl
    rcases hb as Kr X hl hT with hb | ⟨C, s, ρ', hX, hb⟩
    · refine ⟨t, ht, hb ⟨Z, none, H, hz Z H⟩ _ _ H _ start rfl ?_⟩
      refine ⟨fun ρ' A' σ' H' hk R f => go _ _ _ hk (same R) .non, fun r ρ' v A' σ' H' hk R o => go r v H' hk (same R) ?_, fun _ _ _ _ h => h.elim, fun _ _ _ _ h => h.elim⟩
      exact rv_out (fun b o e nz _ => R.old _ _ (hz_mk nz e)) (fun b z => Or.inl z) R.inj R.off R.bor o
    · refine ⟨t, ht, hb ⟨Z, none, H, hz Z H⟩ _ _ H _ start rfl fun d v A' σ' H' R' f' e o => bad C s d v H' hX (same R') (vw_hz _ _ e) (o.mono vw_hz)⟩
end
end OW
set_option Elab.async false
set_option linter.unusedVariables false
set_option maxRecDepth 100000
set_option maxHeartbeats 2000000
namespace OW
open PySem PySem.Spec PyProof.Rows L2 KA
/-- a thing that is this data, whatever else is known of it -/
inductive Isd : Sl → PyData → Prop
  | d (x : PyData) : Isd (.d x) x
  | p (P : Mo) (x : PyData) (h : ∀ W v, P.P v W → Dn W v x) : Isd (.p P) x
section
variable {ρ ρ' ρ1 ρ2 : List Sl} {te : TE} {s : Sl} {x : PyData} {i : Nat} {ta tr : TA} {ss : List Sl}
theorem Isd.dn {W : Hp} {v : V} (h : Isd s x) (o : ArOk W v s) : Dn W v x := by
  cases h with
  | d => exact o
  | p P _ k => exact k W v o
theorem ev_varI (h : ρ[i]? = some s) (is : Isd s x) : Ev (tVar i) ρ s ρ := by
  cases is with
  | d => exact ev_var h
  | p P => exact ev_varp h
theorem Ev.as (h : Ev te ρ s ρ') (is : Isd s x) : Ev te ρ (.d x) ρ' := fun c A σ H Q R f q => h c A σ H Q R f fun v A1 H1 R1 f1 S1 o1 => q v A1 H1 R1 f1 S1 (is.dn o1)
theorem ev_varD (h : ρ[i]? = some s) (is : Isd s x) : Ev (tVar i) ρ (.d x) ρ := (ev_varI h is).as is
end
end OW
namespace KP
open PySem PySem.Spec PyProof.Rows L2 KA OW
/-! ### places of parts -/
def reachD : PyData → List Nat → Int → Option (PyData × Int)
  | d, [], n => some (d, n)
  | d, i :: r, n => match (partsD d)[i]? with
    | some e => reachD e r (n + passD (wdD d) (i : Int))
    | none => none
def chD : PyData → List Nat → PyData → PyData
  | _, [], o => o
  | .tuple es, i :: r, o => .tuple (es.set (i + 1) (chD ((es[i + 1]?).getD .none) r o))
  | d, _ :: _, _ => d
theorem reach_chain : ∀ {is : List Nat} {d : PyData} {n : Int} {r : PyData × Int}, tm d = true → reachD d is n = some r →
    ∃ Pt : Nat → PyData, Pt 0 = d ∧ Pt is.length = r.1 ∧ (∀ k, k ≤ is.length → tm (Pt k) = true) ∧ ∀ k i, is[k]? = some i → ∃ wd es, Pt k = .tuple (.str wd :: es) ∧ es[i]? = some (Pt (k + 1))
  | [], d, n, r, t, h => by
    cases h
    refine ⟨fun _ => d, rfl, rfl, fun _ _ => t, fun k i e => by cases e⟩
  | i :: r, d, n, q, t, h => by
    have h : (match (partsD d)[i]? with | some e => reachD e r (n + passD (wdD d) (i : Int)) | none => none) = some q := h
    cases e : (partsD d)[i]? with
    | none =>
      rw [e] at h
      cases h
    | some f =>
      rw [e] at h
      obtain ⟨wd, ds, rfl⟩ := tm_shape t
      have te : tm f = true := tmAll_mem (parts_tm t) (List.mem_of_getElem? e)
      obtain ⟨Pt, h0, h1, h2, h3⟩ := reach_chain te h
      refine ⟨fun k => match k with | 0 => .tuple (.str wd :: ds) | k + 1 => Pt k, rfl, h1, fun k hk => ?_, fun k j ej => ?_⟩
      · cases k with
        | zero => exact t
        | succ k => exact h2 k (by simpa using hk)
      · cases k with
        | zero =>
          obtain rfl : i = j := Option.some.inj ej
          refine ⟨wd, ds, rfl, ?_⟩
          show ds[i]? = some (Pt 0)
          rw [h0]
          have e' : (if (parts wd).isSome = true then ds else [])[i]? = some f := e
          split at e'
          · exact e'
          · cases e'
        | succ k => exact h3 k j ej
theorem spot_is {x : PyData} (h : spotB x = true) : ∃ is, x = spotT is := by
  obtain ⟨ds, rfl⟩ : ∃ ds, x = .tuple ds := by cases x <;> first | exact ⟨_, rfl⟩ | cases h
  have h : ds.all (cntB 0) = true := h
  have aux : ∀ ds : List PyData, ds.all (cntB 0) = true → ∃ is : List Nat, ds = is.map fun i : Nat => PyData.int (i : Int) := by
    intro ds
    induction ds with
    | nil => exact fun _ => ⟨[], rfl⟩
    | cons d ds ih =>
      intro h
      rw [List.all_cons, Bool.and_eq_true] at h
      obtain ⟨is, rfl⟩ := ih h.2
      cases d with
      | int z =>
        have z0 : 0 ≤ z := of_decide_eq_true h.1
        exact ⟨z.toNat :: is, by rw [List.map_cons, Int.toNat_of_nonneg z0]⟩
      | _ => cases h.1
  obtain ⟨is, e⟩ := aux ds h
  exact ⟨is, by rw [e]; rfl⟩
theorem spotT_B (is : List Nat) : spotB (spotT is) = true := by
  show (is.map fun i : Nat => PyData.int (i : Int)).all (cntB 0) = true
  rw [List.all_map, List.all_eq_true]
  intro i _
  exact decide_eq_true (Int.natCast_nonneg i)
/-- where a thing leads, None else -/
def placeD (d x : PyData) : PyData := if spotB x = true then (match x with
  | .tuple ds => (match reachD d (ds.map fun e => match e with | .int z => z.toNat | _ => 0) 0 with | some r => .tuple [r.1, .int r.2] | none => .none)
  | _ => .none) else .none
theorem placeD_spot (d : PyData) (is : List Nat) : placeD d (spotT is) = match reachD d is 0 with | some r => .tuple [r.1, .int r.2] | none => .none := by
  unfold placeD
  rw [if_pos (spotT_B is)]
  have e : (is.map fun i : Nat => PyData.int (i : Int)).map (fun e => match e with | .int z => z.toNat | _ => 0) = is := by
    rw [List.map_map]
    have : ((fun e : PyData => match e with | .int z => z.toNat | _ => 0) ∘ fun i : Nat => PyData.int (i : Int)) = id := by
      funext i
      exact Int.toNat_natCast i
    rw [this, List.map_id]
  show (match reachD d ((is.map fun i : Nat => PyData.int (i : Int)).map fun e => match e with | .int z => z.toNat | _ => 0) 0 with | some r => PyData.tuple [r.1, .int r.2] | none => .none) = _
  rw [e]
def tReached : List Sl → (Rv → Prop) → Prop := fun as Kr => ∃ d is, as = [.d d, .d (spotT is)] ∧ tm d = true ∧ Kr (.d (match reachD d is 0 with | some r => .tuple [r.1, .int r.2] | none => .none))
section
variable {ρ ρ' ρ1 ρ2 : List Sl} {te ta tb : TE} {s s' : Sl} {x y : PyData} {i : Nat} {tr : TA} {ss : List Sl} {K' : KK}
theorem sm_augI {f : Int → Int → Int} {m n : Int} (h0 : ρ[i]? = some (.d (.int m))) (h : Ev te ρ (.d (.int n)) ρ1) (k : K'.nx (ρ1.set i (.d (.int (f m n))))) (i0 : i ≠ 0 := by decide) (i1 : i ≠ fl := by decide) : Sm (tAug i te (ipI f)) ρ K' := fun c A σ H D R f' dk => by
  obtain ⟨_, v, e, dn⟩ := R.sl i _ h0
  obtain rfl := int_v dn
  refine ⟨_, e, h c A σ H _ R f' fun w A1 H1 R1 f1 S1 o1 => ?_⟩
  obtain rfl := int_v o1
  exact ⟨m, n, rfl, rfl, dk.nx _ _ _ _ k (R1.set (s := .d (.int (f m n))) (v := .int (f m n)) i0 ⟨rfl, _, rfl, .int _⟩) (by rw [aset_ne i1.symm]; exact f1)⟩
/-- a def of the old form that tells whether -/
theorem ev_sp1 {ok : PyData → Prop} {f : PyData → Bool} {E : XK} (h : Es tr ρ [.d x] ρ') (hx : ok x) : Ev (tCall (sp1 ok f) [] E tr) ρ (.d (.bool (f x))) ρ' := fun c A σ H Q R f' q =>
  h c A σ H _ R f' fun vs A1 H1 R1 f1 S1 o1 => by
    match vs, o1 with
    | [v], o1 => exact ⟨v, x, rfl, Dn.mono vw_sub o1.1, hx, fun H2 S2 => q _ A1 H2 (R1.up S2) f1 (S1.trans (vw_up S2)) (.bl _)⟩
end
section
variable {P : Program} {w : World} {K : PySem.W.Frag} {mg : Str → Option Value} {base : Heap}
abbrev nReached : List Str := ["term", "spot", "part", "above", "at", "below"]
theorem scReached : FnScope nReached ["term", "spot"] (defScope sReached) := ⟨rfl, rfl, rfl, by decide +kernel, rfl, by decide +kernel, by decide +kernel⟩
theorem ok_reached {f : Addr} {fd : FuncData} (F : Fun K "reached" "reached" sReached f fd) (T : Txt K w mg) (C_parts_of : C8.Cal P w K mg base 1 "parts_of" (spD 1 tPartsOf) []) (C_passed : C8.Cal P w K mg base 1 "passed" (spD 2 tPassed) []) : FnOk P w K mg base CX0 2 f fd ["term", "spot"] (spD 2 tReached) := by
  refine fn_d F scReached (body := fun cdv A outer s H E hr => ⟨_, (pss_cons (ps_set (i := 2) scReached.nd rfl (Or.inl rfl) (pv 0))
      (pss_cons (ps_set (i := 3) scReached.nd rfl (Or.inl rfl) pe_int)
      (pss_cons (ps_for PassesOwn.never rfl (pi_tup (pv 1)) (pg_name (i := 4) scReached.nd rfl (Or.inl rfl)) (pss_cons (ps_set (i := 5) scReached.nd rfl (Or.inl rfl) (C8.pe_c C_parts_of hr (by decide) rfl (pa_cons (pv 2) pa_nil)))
      (pss_cons (ps_if (pt_cmpR op_ge (pv 4) (pe_callB call_len_seq (by rfl) T.len PySem.boot_len (pa_cons (pv 5) pa_nil)) (nomark _)) (pss_one (ps_ret pe_non)) pss_nil) (pss_cons (ps_aug (i := 3) scReached.nd rfl (Or.inl rfl) (C8.pe_c C_passed hr (by decide) rfl (pa_cons (pe_ix ix_tup (pv 2) pe_int (fun _ _ => rfl)) (pa_cons (pv 4) pa_nil))) ip_add)
      (pss_one (ps_set (i := 2) scReached.nd rfl (Or.inl rfl) (pe_ix ix_tup (pv 5) (pv 4) (fun _ _ => rfl))))))))
      (pss_one (ps_ret (pe_tup (pa_cons (pv 2) (pa_cons (pv 3) pa_nil)))))))), ?_⟩)
  rintro as Kr _ ⟨d, is, rfl, td, k⟩
  refine (sm_seq (sm_set (ev_var rfl) (sm_seq (sm_set ev_int (sm_seq (sm_for (fi_tup (ev_var (x := spotT is) rfl)) (fun j ρ => ∃ e n s4 s5, ρ = [.d d, .d (spotT is), .d e, .d (.int n), s4, s5] ∧ tm e = true ∧ reachD d is 0 = reachD e (is.drop j) n) ⟨d, 0, .un, .un, rfl, td, rfl⟩ (fun j x ρ ex r => ?_) (fun ρ r => ?_)))))))
  · obtain ⟨e, n, s4, s5, rfl, te, re⟩ := r
    obtain ⟨i, hi, rfl⟩ : ∃ i, is[j]? = some i ∧ x = .int (i : Int) := by
      rw [List.getElem?_map] at ex
      cases z : is[j]? with
      | none => rw [z] at ex; cases ex
      | some i => rw [z] at ex; exact ⟨i, rfl, (Option.some.inj ex).symm⟩
    have dj : is.drop j = i :: is.drop (j + 1) := by
      obtain ⟨lt, he⟩ := List.getElem?_eq_some_iff.mp hi
      rw [List.drop_eq_getElem_cons lt, he]
    rw [dj] at re
    have re : reachD d is 0 = (match (partsD e)[i]? with | some f => reachD f (is.drop (j + 1)) (n + passD (wdD e) (i : Int)) | none => none) := re
    obtain ⟨wd, ds, rfl⟩ := tm_shape te
    refine ⟨_, tg_name, sm_seq (sm_set (ev_call (x := .tuple (partsD (.tuple (.str wd :: ds)))) (es_cons (ev_var rfl) es_nil) ar_nil rfl ⟨wd, ds, rfl, rfl⟩) (sm_seq (sm_if (et_test (ev_op (ev_var rfl) (ev_fn (es_cons (ev_var rfl) es_nil) fv_lenT) fv_cmpI)) (fun h => sm_ret ev_non ?_) (fun h => sm_next ?_))))⟩
    · have h : decide (((partsD (.tuple (.str wd :: ds))).length : Int) ≤ (i : Int)) = true := h
      have le := of_decide_eq_true h
      have e0 : (partsD (.tuple (.str wd :: ds)))[i]? = none := List.getElem?_eq_none (by omega)
      rw [e0] at re
      rw [re] at k
      exact k
    · have h : decide (((partsD (.tuple (.str wd :: ds))).length : Int) ≤ (i : Int)) = false := h
      have nle := of_decide_eq_false h
      have il : i < (partsD (.tuple (.str wd :: ds))).length := by omega
      have hz := List.getElem?_eq_getElem il
      rw [hz] at re
      refine sm_seq (sm_augI rfl (ev_call (x := .int (passD wd (i : Int))) (es_cons (ev_op (ev_var rfl) ev_int (fv_ixT at0)) (es_cons (ev_var rfl) es_nil)) ar_nil rfl ⟨wd, _, rfl, rfl⟩) (sm_set (ev_op (ev_var rfl) (ev_var rfl) (fv_ixT (at_nat hz))) ?_))
      exact ⟨_, _, _, _, rfl, tmAll_mem (parts_tm te) (List.mem_of_getElem? hz), re⟩
  · obtain ⟨e, n, s4, s5, rfl, te, re⟩ := r
    rw [List.length_map, List.drop_length] at re
    have re : reachD d is 0 = some (e, n) := re
    rw [re] at k
    exact sm_ret (ev_tup (eds_cons (ev_var rfl) (eds_cons (ev_var rfl) eds_nil))) k
def tWithPart : List Sl → (Rv → Prop) → Prop := fun as Kr => ∃ d is o r, as = [.d d, .d (spotT is), .d o] ∧ tm d = true ∧ nodes d ≤ 1000000 ∧ is.length ≤ 1000000 ∧ reachD d is 0 = some r ∧ Kr (.d (chD d is o))
abbrev nWithPart : List Str := ["term", "spot", "other", "way", "part", "at", "made"]
theorem scWithPart : FnScope nWithPart ["term", "spot", "other"] (defScope sWithPart) := ⟨rfl, rfl, rfl, by decide +kernel, rfl, by decide +kernel, by decide +kernel⟩
theorem set_cut {es : List PyData} {n : Nat} {x : PyData} (h : n < es.length) : es.take n ++ (x :: es.drop (n + 1)) = es.set n x := by
  rw [List.set_eq_take_append_cons_drop, if_pos h]
theorem ok_withpart {f : Addr} {fd : FuncData} (F : Fun K "with_part" "with_part" sWithPart f fd) (T : Txt K w mg) (Trev : mg "reversed" = none) : FnOk P w K mg base CX0 1 f fd ["term", "spot", "other"] (spD 3 tWithPart) := by
  refine fn_d F scWithPart (body := fun cdv A outer s H E hr => ⟨_, (pss_cons (ps_set (i := 3) scWithPart.nd rfl (Or.inl rfl) (pe_lst pa_nil))
      (pss_cons (ps_set (i := 4) scWithPart.nd rfl (Or.inl rfl) (pv 0))
      (pss_cons (ps_for PassesOwn.never rfl (pi_tup (pv 1)) (pg_name (i := 5) scWithPart.nd rfl (Or.inl rfl)) (pss_cons (ps_expr (pe_bm PySem.F.plainAttrs_list PySem.F.slot_list_append PySem.F.type_list_append mt_append (pv 3) (pa_cons (pe_tup (pa_cons (pv 4) (pa_cons (pe_op op_add (pv 5) pe_int) pa_nil))) pa_nil)))
      (pss_one (ps_set (i := 4) scWithPart.nd rfl (Or.inl rfl) (pe_ix ix_tup (pv 4) (pe_op op_add (pv 5) pe_int) (fun _ _ => rfl))))))
      (pss_cons (ps_set (i := 6) scWithPart.nd rfl (Or.inl rfl) (pv 2))
      (pss_cons (ps_for PassesOwn.never rfl (RT.pi_revA (by rfl) Trev (pv 3)) (pg_tup rfl (pgs_cons (pg_name (i := 4) scWithPart.nd rfl (Or.inl rfl)) (pgs_cons (pg_name (i := 5) scWithPart.nd rfl (Or.inl rfl)) pgs_nil))) (pss_one (ps_set (i := 6) scWithPart.nd rfl (Or.inl rfl) (pe_tup (StX.pa_star (pe_slice sl_tupA (pv 4) po_none (po_some (pv 5))) (pa_cons (pv 6) (StX.pa_star (pe_slice sl_tupA (pv 4) (po_some (pe_op op_add (pv 5) pe_int)) po_none) pa_nil)))))))
      (pss_one (ps_ret (pv 6)))))))), ?_⟩)
  rintro as Kr _ ⟨d, is, o, r, rfl, td, nd, li, re, k⟩
  obtain ⟨Pt, p0, p1, p2, p3⟩ := reach_chain td re
  have sl : ∀ j, j ≤ is.length → nodes (Pt j) ≤ 1000000 := by
    intro j
    induction j with
    | zero =>
      intro _
      rw [p0]
      exact nd
    | succ j ih =>
      intro hj
      obtain ⟨i, hi⟩ : ∃ i, is[j]? = some i := ⟨_, List.getElem?_eq_getElem (by omega)⟩
      obtain ⟨wd, es, e1, e2⟩ := p3 j i hi
      have := ih (by omega)
      rw [e1] at this
      have m := mem_nodes (List.mem_of_getElem? e2)
      have e3 : nodes (.tuple (.str wd :: es)) = (1 + nodesAll es) + 1 := rfl
      omega
  let wy : List PyData := (List.range is.length).map fun j => PyData.tuple [Pt j, .int (((is[j]?).getD 0 + 1 : Nat) : Int)]
  have wyl : wy.length = is.length := by
    show ((List.range is.length).map _).length = _
    rw [List.length_map, List.length_range]
  have wya : ∀ j i, is[j]? = some i → wy[j]? = some (PyData.tuple [Pt j, .int ((i + 1 : Nat) : Int)]) := fun j i h => by
    show ((List.range is.length).map _)[j]? = _
    rw [List.getElem?_map, List.getElem?_range (List.getElem?_eq_some_iff.mp h).1]
    show some (PyData.tuple [Pt j, .int (((is[j]?).getD 0 + 1 : Nat) : Int)]) = _
    rw [h]
    rfl
  refine (sm_seq (sm_setL (el_lst eds_nil) (sm_seq (sm_set (ev_var rfl) (sm_seq (sm_for (fi_tup (ev_var (x := spotT is) rfl)) (fun j ρ => ∃ s5, ρ = [.d d, .d (spotT is), .d o, .l (wy.take j), .d (Pt j), s5, .un]) ⟨.un, by rw [p0]; rfl⟩ (fun j x ρ ex q => ?_) (fun ρ q => ?_)))))))
  · obtain ⟨s5, rfl⟩ := q
    obtain ⟨i, hi, rfl⟩ : ∃ i, is[j]? = some i ∧ x = .int (i : Int) := by
      rw [List.getElem?_map] at ex
      cases z : is[j]? with
      | none => rw [z] at ex; cases ex
      | some i => rw [z] at ex; exact ⟨i, rfl, (Option.some.inj ex).symm⟩
    obtain ⟨wd, es, e1, e2⟩ := p3 j i hi
    have jl := (List.getElem?_eq_some_iff.mp hi).1
    rw [e1]
    refine ⟨_, tg_name, (sm_seq (sm_app rfl (ev_tup (eds_cons (ev_var rfl) (eds_cons (ev_op (ev_var rfl) ev_int fv_int) eds_nil))) rfl ?_ (sm_set (ev_op (ev_var rfl) (ev_op (ev_var rfl) ev_int fv_int) (fv_ixT (x := Pt (j + 1)) ?_)) ?_)))⟩
    · rw [List.length_take]
      exact Nat.lt_of_le_of_lt (Nat.min_le_left _ _) (Nat.lt_of_lt_of_le jl (Nat.le_trans li (by rw [sizeLine_eq]; decide)))
    · have : ((i : Int) + 1) = ((i + 1 : Nat) : Int) := rfl
      rw [this]
      exact at_nat (by rw [List.getElem?_cons_succ]; exact e2)
    · refine ⟨.d (.int (i : Int)), ?_⟩
      rw [take_snoc (wya j i hi), e1]
      rfl
  · obtain ⟨s5, rfl⟩ := q
    have full : (is.map fun i : Nat => PyData.int (i : Int)).length = is.length := List.length_map _
    rw [full, List.take_of_length_le (by omega)]
    refine (sm_seq (sm_set (ev_var rfl) (sm_seq (sm_for (fi_revA_l (ev_varF rfl)) (fun j ρ => ∃ s4 s5, ρ = [.d d, .d (spotT is), .d o, .d (.list wy), s4, s5, .d (chD (Pt (is.length - j)) (is.drop (is.length - j)) o)]) ⟨.d (Pt is.length), s5, ?_⟩ (fun j x ρ ex q => ?_) (fun ρ q => ?_)))))
    · rw [Nat.sub_zero, List.drop_length]
      rfl
    · obtain ⟨s4, s5, rfl⟩ := q
      have jl : j < is.length := by
        have := (List.getElem?_eq_some_iff.mp ex).1
        rw [List.length_reverse, wyl] at this
        exact this
      rw [List.getElem?_reverse (by rw [wyl]; exact jl), wyl] at ex
      obtain ⟨m, hm⟩ : ∃ m, is.length - 1 - j = m := ⟨_, rfl⟩
      rw [hm] at ex
      obtain ⟨i, hi⟩ : ∃ i, is[m]? = some i := ⟨_, List.getElem?_eq_getElem (by omega)⟩
      rw [wya m i hi] at ex
      obtain rfl := Option.some.inj ex
      obtain ⟨wd, es, e1, e2⟩ := p3 m i hi
      have m1 : is.length - j = m + 1 := by omega
      have m2 : is.length - (j + 1) = m := by omega
      have il := (List.getElem?_eq_some_iff.mp e2).1
      have dm : is.drop m = i :: is.drop (m + 1) := by
        obtain ⟨lt, he⟩ := List.getElem?_eq_some_iff.mp hi
        rw [List.drop_eq_getElem_cons lt, he]
      have e3 : chD (.tuple (.str wd :: es)) (i :: is.drop (m + 1)) o = .tuple ((.str wd :: es).set (i + 1) (chD (Pt (m + 1)) (is.drop (m + 1)) o)) := by
        show PyData.tuple ((.str wd :: es).set (i + 1) (chD ((((.str wd :: es : List PyData))[i + 1]?).getD .none) (is.drop (m + 1)) o)) = _
        rw [List.getElem?_cons_succ, e2, Option.getD_some]
      have sz := sl m (by omega)
      rw [e1] at sz
      have e4 : nodes (.tuple (.str wd :: es)) = (1 + nodesAll es) + 1 := rfl
      have e5 := len_nodes es
      rw [e1, m1]
      refine ⟨_, (tg_tup (xs := [PyData.tuple (.str wd :: es), .int ((i + 1 : Nat) : Int)]) (tgs_cons tg_name (tgs_cons tg_name tgs_nil))), (sm_set (ev_tup (eds_star (ev_slA (ev_var rfl) eo_none (eo_some (ev_var rfl))) (eds_cons (ev_var rfl) (eds_star (ev_slA (ev_var rfl) (eo_some (ev_op (ev_var rfl) ev_int fv_int)) eo_none) eds_nil))) ?_) ?_)⟩
      · rw [List.append_nil, show (((i + 1 : Nat) : Int) + 1) = ((i + 1 + 1 : Nat) : Int) from rfl, cutD_to', cutD_from', List.length_append, List.length_cons, List.length_take, List.length_drop, List.length_cons, sizeLine_eq]
        omega
      · refine ⟨Sl.d (PyData.tuple (.str wd :: es)), Sl.d (.int ((i + 1 : Nat) : Int)), ?_⟩
        rw [m2, dm, e1, e3, List.append_nil, show (((i + 1 : Nat) : Int) + 1) = ((i + 1 + 1 : Nat) : Int) from rfl, cutD_to', cutD_from', set_cut (by rw [List.length_cons]; omega)]
        rfl
    · obtain ⟨s4, s5, rfl⟩ := q
      rw [List.length_reverse, wyl, Nat.sub_self, List.drop_zero, p0]
      exact sm_ret (ev_var rfl) k
end
end KP
set_option Elab.async false
set_option linter.unusedVariables false
set_option maxRecDepth 100000
set_option maxHeartbeats 2000000
namespace KP
open PySem PySem.Spec PyProof.Rows L2 KA OW
/-! ### the refusals, and the defs that refuse -/
def clsB : Stmt → List Stmt | .ClassDef (body := b) .. => b | _ => []
abbrev sInitT : Stmt := (clsB (top 4)).headD (.Pass ⟨0, 0, 0, 0⟩)
abbrev sInitS : Stmt := (clsB (top 5)).headD (.Pass ⟨0, 0, 0, 0⟩)
abbrev sWant : Stmt := top 24
abbrev sPlaceOf : Stmt := top 25
abbrev sParts : Stmt := top 26
abbrev sPartAt : Stmt := top 27
abbrev sBinders : Stmt := top 28
abbrev sSpots : Stmt := top 29
abbrev sChanged : Stmt := top 30
structure NoX (K : PySem.W.Frag) (mg : Str → Option Value) (nm qual : Str) (st : Stmt) (C U fI : Addr) (fdI : FuncData) : Prop where
  oex : OexC K C
  up : UpC K U
  gU : mg "PaperError" = some (.ref U)
  gC : mg nm = some (.ref C)
  iC : PySem.W.findIn K (.ref C) "__init__" = some (some (.ref fI))
  tI : PySem.W.typeIn K (.ref fI) = some (.type "function")
  noF : PySem.W.findIn K (.ref C) "found" = some none
  fn : Fun K "__init__" qual st fI fdI
  b : Binds K fdI ["self", "found"] []
  xf : XfC K C
  te : PySem.W.exmOne K (.ref C) (.ref C) = some true
section
variable {P : Program} {w : World} {K : PySem.W.Frag} {mg : Str → Option Value} {base : Heap} {C C1 C2 U U1 U2 fI fI1 fI2 : Addr} {fdI fdI1 fdI2 : FuncData}
theorem scInitT : FnScope ["self", "found"] ["self", "found"] (defScope sInitT) := ⟨rfl, rfl, rfl, by decide +kernel, rfl, by decide +kernel, by decide +kernel⟩
theorem scInitS : FnScope ["self", "found"] ["self", "found"] (defScope sInitS) := ⟨rfl, rfl, rfl, by decide +kernel, rfl, by decide +kernel, by decide +kernel⟩
theorem ok_initT {nm : Str} (Z : NoX K mg nm "NoTerm.__init__" sInitT C U fI fdI) : FnOk P w K mg base CX0 1 fI fdI ["self", "found"] (spErr C) := by
  refine Z.fn.ok scInitT (fun vs H Q E h => ?_) (fun cdv A outer s H vs Q E hr h => ?_)
  · obtain ⟨a, v, rfl, _⟩ := h
    rfl
  · obtain ⟨a, v, rfl, ha, k⟩ := h
    refine ⟨_, pss_cons (ps_expr (pe_upinit Z.up rfl Z.gU (pa_cons (pv 0) (pa_cons pe_str pa_nil)))) (pss_one (ps_ost (pv 0) (pv 1))), ?_⟩
    refine ⟨_, rfl, a, C, _, rfl, (by decide), Z.oex, ha, ?_⟩
    exact ⟨v, rfl, .ref a, rfl, a, C, rfl, Z.oex, Z.noF, Or.inl ⟨ha, fun dx n ne => k dx n ne⟩⟩
theorem ok_initS {nm : Str} (Z : NoX K mg nm "NoSpot.__init__" sInitS C U fI fdI) : FnOk P w K mg base CX0 1 fI fdI ["self", "found"] (spErr C) := by
  refine Z.fn.ok scInitS (fun vs H Q E h => ?_) (fun cdv A outer s H vs Q E hr h => ?_)
  · obtain ⟨a, v, rfl, _⟩ := h
    rfl
  · obtain ⟨a, v, rfl, ha, k⟩ := h
    refine ⟨_, pss_cons (ps_expr (pe_upinit Z.up rfl Z.gU (pa_cons (pv 0) (pa_cons pe_str pa_nil)))) (pss_one (ps_ost (pv 0) (pv 1))), ?_⟩
    refine ⟨_, rfl, a, C, _, rfl, (by decide), Z.oex, ha, ?_⟩
    exact ⟨v, rfl, .ref a, rfl, a, C, rfl, Z.oex, Z.noF, Or.inl ⟨ha, fun dx n ne => k dx n ne⟩⟩
/-- a def that refuses, by its name -/
structure CalX (P : Program) (w : World) (K : PySem.W.Frag) (mg : Str → Option Value) (base : Heap) (k : Nat) (x : Str) (ps : List Str) (sp : Sp) : Prop where
  ex : ∃ (f : Addr) (fd : FuncData), FnOk P w K mg base (L2.CX P w) k f fd ps sp ∧ mg x = some (.ref f) ∧ PySem.W.keepIn K (.ref f) = true ∧ Binds K fd ps []
theorem pe_x {X : Cx} {j k : Nat} {x : Str} {ps : List Str} {sp : Sp} {W : WX} {e : Expr} {es : List Expr} {t : TA} {p pos : Pos} (c : CalX X.prog X.w X.K X.mg X.base k x ps sp) (tk : Takes X W) (hr : Room j X.A) (hk : k ≤ j) (hg : Gl X x) (ha : PA X (e :: es) t)
    (hdb : (x == ("__debug__" : Str)) = false := by decide) (he : starEach (e :: es) X.env = (false, eval e X.env) :: starEach es X.env := by rfl) (hpl : (backTo pos (starEach es X.env)).any (·.1) = false := by rfl) : PE X (.Call (.Name x p) (e :: es) [] pos) (tCallS sp (fun σ => WE W σ) t) := by
  obtain ⟨f, fd, F, m, kp, b⟩ := c.ex
  exact pe_callS F (hr.mono hk) hg m kp b (fun σ => passAt tk σ) ha hdb he hpl
def tWant (C : Addr) : List Sl → (Rv → Prop) → (Addr → Sl → Prop) → Prop := fun as Kr X => ∃ s d, as = [s] ∧ Isd s d ∧ okT d ∧ (tm d = true → Kr (.d .none)) ∧ (tm d = false → X C s)
theorem scWant : FnScope ["thing"] ["thing"] (defScope sWant) := ⟨rfl, rfl, rfl, by decide +kernel, rfl, by decide +kernel, by decide +kernel⟩
theorem ok_want {f : Addr} {fd : FuncData} (F : Fun K "want_term" "want_term" sWant f fd) (Z : NoX K mg "NoTerm" "NoTerm.__init__" sInitT C U fI fdI) (CT : C8.Cal P w K mg base 4 "is_term" (sp1 okT tm) []) : FnOk P w K mg base (L2.CX P w) 5 f fd ["thing"] (spX 1 (tWant C)) := by
  refine fn_x F scWant (body := fun cdv A outer s H E hr => ⟨_, pss_one (ps_if (pt_not (pt_val (C8.pe_c CT hr (by decide) rfl (pa_cons (pv 0) pa_nil)))) (pss_one (ps_raise rfl (takes_of rfl rfl rfl rfl) (pmk_oex Z.oex Z.iC Z.tI (ok_initT Z) (hr.mono (by decide)) Z.b .nil pass0 rfl Z.gC (pa_cons (pv 0) pa_nil)))) pss_nil), ?_⟩)
  rintro as Kr X _ ⟨s, d, rfl, is, ok, yes, no⟩
  have tst : Et _ ([s] ++ uns 0) (!tm d) ([s] ++ uns 0) := et_not (et_B (ev_sp1 (ok := okT) (f := tm) (E := C8.E0) (es_cons (ev_varD (i := 0) rfl is) es_nil) ok))
  cases ht : tm d with
  | true => exact Or.inl (sm_if tst (fun h => by rw [ht] at h; cases h) fun _ => sm_next (yes ht))
  | false => exact Or.inr ⟨C, s, _, no ht, rs_if tst (fun _ => rs_raise (ev_varI rfl is)) fun h => by rw [ht] at h; cases h⟩
theorem want_yes {C : Addr} {s : Sl} {d : PyData} (is : Isd s d) (ok : okT d) (h : tm d = true) : tWant C [s] (fun r => r = .d .none) fun _ _ => False := ⟨s, d, rfl, is, ok, fun _ => rfl, fun z => by rw [h] at z; cases z⟩
theorem want_no {C : Addr} {s : Sl} {d : PyData} (is : Isd s d) (ok : okT d) (h : tm d = false) : tWant C [s] (fun _ => False) fun C' s' => C' = C ∧ s' = s := ⟨s, d, rfl, is, ok, (fun z => by rw [h] at z; cases z), fun _ => ⟨rfl, rfl⟩⟩
/-- where a spot leads; refused is what is no term, no spot of it -/
def tPlace (C1 C2 : Addr) : List Sl → (Rv → Prop) → (Addr → Sl → Prop) → Prop := fun as Kr X => ∃ s1 s2 d x, as = [s1, s2] ∧ Isd s1 d ∧ Isd s2 x ∧ okT d ∧ okT x ∧ (tm d = false → X C1 s1) ∧ (tm d = true → placeD d x = .none → X C2 s2) ∧
  (tm d = true → ∀ is r, x = spotT is → reachD d is 0 = some r → Kr (.d (.tuple [r.1, .int r.2])))
theorem place_cases (d x : PyData) : placeD d x = .none ∨ ∃ is r, x = spotT is ∧ reachD d is 0 = some r ∧ placeD d x = .tuple [r.1, .int r.2] := by
  by_cases h : spotB x = true
  · obtain ⟨is, rfl⟩ := spot_is h
    rw [placeD_spot]
    cases e : reachD d is 0 with
    | none => exact Or.inl rfl
    | some r => exact Or.inr ⟨is, r, rfl, e, rfl⟩
  · exact Or.inl (if_neg h)
theorem scPlaceOf : FnScope ["term", "spot", "place"] ["term", "spot"] (defScope sPlaceOf) := ⟨rfl, rfl, rfl, by decide +kernel, rfl, by decide +kernel, by decide +kernel⟩
theorem ok_placeof {f : Addr} {fd : FuncData} (F : Fun K "_place_of" "_place_of" sPlaceOf f fd) (Z : NoX K mg "NoSpot" "NoSpot.__init__" sInitS C2 U2 fI2 fdI2) (C_want : CalX P w K mg base 5 "want_term" ["thing"] (spX 1 (tWant C1))) (C_is_spot : C8.Cal P w K mg base 2 "is_spot" (sp1 okT spotB) []) (C_reached : C8.Cal P w K mg base 2 "reached" (spD 2 tReached) []) :
    FnOk P w K mg base (L2.CX P w) 6 f fd ["term", "spot"] (spX 2 (tPlace C1 C2)) := by
  refine fn_x F scPlaceOf (body := fun cdv A outer s H E hr => ⟨_, (pss_cons (ps_expr (pe_x C_want (takes_of rfl rfl rfl rfl) hr (by decide) rfl (pa_cons (pv 0) pa_nil)))
      (pss_cons (ps_set (i := 2) scPlaceOf.nd rfl (Or.inl rfl) (pe_ifExp (pt_val (C8.pe_c C_is_spot hr (by decide) rfl (pa_cons (pv 1) pa_nil))) (C8.pe_c C_reached hr (by decide) rfl (pa_cons (pv 0) (pa_cons (pv 1) pa_nil))) pe_non))
      (pss_cons (ps_if (pt_cmpR op_isN (pv 2) pe_non (nomark _)) (pss_one (ps_raise rfl (takes_of rfl rfl rfl rfl) (pmk_oex Z.oex Z.iC Z.tI (ok_initS Z) (hr.mono (by decide)) Z.b .nil pass0 rfl Z.gC (pa_cons (pv 1) pa_nil)))) pss_nil) (pss_one (ps_ret (pv 2)))))), ?_⟩)
  rintro as Kr X _ ⟨s1, s2, d, x, rfl, i1, i2, o1, o2, noT, noS, yes⟩
  cases ht : tm d with
  | false => exact Or.inr ⟨C1, s1, _, noT ht, rs_seq1 (rs_drop (re_call (es_cons (ev_varI rfl i1) es_nil) rfl (want_no i1 o1 ht)))⟩
  | true =>
    have pl : ∀ ρ : List Sl, ρ[0]? = some s1 → ρ[1]? = some s2 → Ev (tIf (tB (tCall (sp1 okT spotB) [] C8.E0 (tCons (tVar 1) tNil))) (tCall (spD 2 tReached) [] C8.E0 (tCons (tVar 0) (tCons (tVar 1) tNil))) (tC .non)) ρ (.d (placeD d x)) ρ := fun ρ h0 h1 => by
      refine ev_if (et_B (ev_sp1 (es_cons (ev_varD h1 i2) es_nil) o2)) (fun h => ?_) (fun h => ?_)
      · obtain ⟨is, rfl⟩ := spot_is h
        rw [placeD_spot]
        exact ev_call (es_cons (ev_varD h0 i1) (es_cons (ev_varD h1 i2) es_nil)) ar_nil rfl ⟨d, is, rfl, ht, rfl⟩
      · have e : placeD d x = .none := if_neg (by rw [h]; decide)
        rw [e]
        exact ev_non
    have w0 := fun (E : L2.St → XK) => ev_callX (E := E) (es_cons (ev_varI (ρ := [s1, s2, .un]) (i := 0) rfl i1) es_nil) rfl (want_yes (C := C1) i1 o1 ht)
    rcases place_cases d x with e | ⟨is, r, rfl, e, e2⟩
    · refine Or.inr ⟨C2, s2, [s1, s2, .d (placeD d x)], noS ht e, ?_⟩
      refine rs_seq (sm_drop (w0 _) ?_)
      refine rs_seq (W := fun cls d _ H => E cls d H) (sm_set (i := 2) (pl _ rfl rfl) ?_)
      refine rs_seq1 (W := fun cls d _ H => E cls d H) (rs_if (et_test (ev_op (ev_var rfl) ev_non fv_isN)) (fun _ => rs_raise (ev_varI rfl i2)) fun h => ?_)
      rw [e] at h
      cases h
    · refine Or.inl (sm_seq (sm_drop (w0 _) (sm_seq (sm_set (pl _ rfl rfl) (sm_seq (sm_if (et_test (ev_op (ev_var rfl) ev_non fv_isN)) (fun h => ?_) fun _ => sm_next (sm_ret (ev_var rfl) ?_)))))))
      · rw [e2] at h
        cases h
      · have := yes ht is r rfl e
        rw [e2]
        exact this
def tParts (C : Addr) : List Sl → (Rv → Prop) → (Addr → Sl → Prop) → Prop := fun as Kr X => ∃ s d, as = [s] ∧ Isd s d ∧ okT d ∧ (tm d = true → Kr (.l (partsD d))) ∧ (tm d = false → X C s)
def tSpots (C : Addr) : List Sl → (Rv → Prop) → (Addr → Sl → Prop) → Prop := fun as Kr X => ∃ s d, as = [s] ∧ Isd s d ∧ okT d ∧ (tm d = true → Kr (.l ((spotsF d []).map spotT))) ∧ (tm d = false → X C s)
theorem scParts : FnScope ["term"] ["term"] (defScope sParts) := ⟨rfl, rfl, rfl, by decide +kernel, rfl, by decide +kernel, by decide +kernel⟩
theorem scSpots : FnScope ["term"] ["term"] (defScope sSpots) := ⟨rfl, rfl, rfl, by decide +kernel, rfl, by decide +kernel, by decide +kernel⟩
theorem ok_parts {f : Addr} {fd : FuncData} (F : Fun K "parts" "parts" sParts f fd) (T : Txt K w mg) (C_want : CalX P w K mg base 5 "want_term" ["thing"] (spX 1 (tWant C1))) (C_parts_of : C8.Cal P w K mg base 1 "parts_of" (spD 1 tPartsOf) []) : FnOk P w K mg base (L2.CX P w) 6 f fd ["term"] (spX 1 (tParts C1)) := by
  refine fn_x F scParts (body := fun cdv A outer s H E hr => ⟨_, (pss_cons (ps_expr (pe_x C_want (takes_of rfl rfl rfl rfl) hr (by decide) rfl (pa_cons (pv 0) pa_nil)))
      (pss_one (ps_ret (pe_callTy call_list_of (by rfl) T.list (by decide +kernel) (pa_cons (C8.pe_c C_parts_of hr (by decide) rfl (pa_cons (pv 0) pa_nil)) pa_nil))))), ?_⟩)
  rintro as Kr X _ ⟨s, d, rfl, is, ok, yes, no⟩
  cases ht : tm d with
  | false => exact Or.inr ⟨C1, s, _, no ht, rs_seq1 (rs_drop (re_call (es_cons (ev_varI rfl is) es_nil) rfl (want_no is ok ht)))⟩
  | true =>
    have yes := yes ht
    obtain ⟨wd, ds, rfl⟩ := tm_shape ht
    exact Or.inl (sm_seq (sm_drop (ev_callX (es_cons (ev_varI rfl is) es_nil) rfl (want_yes is ok ht)) (sm_retL (el_fn (es_cons (ev_call (x := .tuple (partsD (.tuple (.str wd :: ds)))) (es_cons (ev_varD rfl is) es_nil) ar_nil rfl ⟨wd, ds, rfl, rfl⟩) es_nil) fl_listT) yes)))
theorem ok_spots {f : Addr} {fd : FuncData} (F : Fun K "spots" "spots" sSpots f fd) (C_want : CalX P w K mg base 5 "want_term" ["thing"] (spX 1 (tWant C1))) (C_all_spots : C8.Cal P w K mg base 2 "all_spots" (spD 1 tAllSpots) []) : FnOk P w K mg base (L2.CX P w) 6 f fd ["term"] (spX 1 (tSpots C1)) := by
  refine fn_x F scSpots (body := fun cdv A outer s H E hr => ⟨_, (pss_cons (ps_expr (pe_x C_want (takes_of rfl rfl rfl rfl) hr (by decide) rfl (pa_cons (pv 0) pa_nil)))
      (pss_one (ps_ret (C8.pe_c C_all_spots hr (by decide) rfl (pa_cons (pv 0) pa_nil))))), ?_⟩)
  rintro as Kr X _ ⟨s, d, rfl, is, ok, yes, no⟩
  cases ht : tm d with
  | false => exact Or.inr ⟨C1, s, _, no ht, rs_seq1 (rs_drop (re_call (es_cons (ev_varI rfl is) es_nil) rfl (want_no is ok ht)))⟩
  | true =>
    exact Or.inl (sm_seq (sm_drop (ev_callX (es_cons (ev_varI rfl is) es_nil) rfl (want_yes is ok ht)) (sm_retL (el_call (es_cons (ev_varD rfl is) es_nil) ar_nil rfl ⟨d, rfl, ht, ok.2, rfl⟩) (yes ht))))
def tAt (C1 C2 : Addr) (g : PyData × Int → PyData) : List Sl → (Rv → Prop) → (Addr → Sl → Prop) → Prop := fun as Kr X => ∃ s1 s2 d x, as = [s1, s2] ∧ Isd s1 d ∧ Isd s2 x ∧ okT d ∧ okT x ∧ (tm d = false → X C1 s1) ∧ (tm d = true → placeD d x = .none → X C2 s2) ∧
  (tm d = true → ∀ is r, x = spotT is → reachD d is 0 = some r → Kr (.d (g r)))
theorem place_yes {C1 C2 : Addr} {s1 s2 : Sl} {d : PyData} {is : List Nat} {r : PyData × Int} (i1 : Isd s1 d) (i2 : Isd s2 (spotT is)) (o1 : okT d) (o2 : okT (spotT is)) (ht : tm d = true) (e : reachD d is 0 = some r) : tPlace C1 C2 [s1, s2] (fun q => q = .d (.tuple [r.1, .int r.2])) fun _ _ => False :=
  ⟨s1, s2, d, _, rfl, i1, i2, o1, o2, (fun z => by rw [ht] at z; cases z), (fun _ z => by rw [placeD_spot, e] at z; cases z), fun _ is' r' z e' => by
    have : placeD d (spotT is) = placeD d (spotT is') := by rw [z]
    rw [placeD_spot, placeD_spot, e, e'] at this
    have this : PyData.tuple [r.1, .int r.2] = .tuple [r'.1, .int r'.2] := this
    rw [this]⟩
theorem place_noT {C1 C2 : Addr} {s1 s2 : Sl} {d x : PyData} (i1 : Isd s1 d) (i2 : Isd s2 x) (o1 : okT d) (o2 : okT x) (ht : tm d = false) : tPlace C1 C2 [s1, s2] (fun _ => False) fun C s => C = C1 ∧ s = s1 :=
  ⟨s1, s2, d, x, rfl, i1, i2, o1, o2, (fun _ => ⟨rfl, rfl⟩), (fun z => by rw [ht] at z; cases z), fun z => by rw [ht] at z; cases z⟩
theorem place_noS {C1 C2 : Addr} {s1 s2 : Sl} {d x : PyData} (i1 : Isd s1 d) (i2 : Isd s2 x) (o1 : okT d) (o2 : okT x) (ht : tm d = true) (e : placeD d x = .none) : tPlace C1 C2 [s1, s2] (fun _ => False) fun C s => C = C2 ∧ s = s2 :=
  ⟨s1, s2, d, x, rfl, i1, i2, o1, o2, (fun z => by rw [ht] at z; cases z), (fun _ _ => ⟨rfl, rfl⟩), fun _ is r z e' => by
    subst z
    rw [placeD_spot, e'] at e
    cases e⟩
theorem scPartAt : FnScope ["term", "spot"] ["term", "spot"] (defScope sPartAt) := ⟨rfl, rfl, rfl, by decide +kernel, rfl, by decide +kernel, by decide +kernel⟩
theorem scBinders : FnScope ["term", "spot"] ["term", "spot"] (defScope sBinders) := ⟨rfl, rfl, rfl, by decide +kernel, rfl, by decide +kernel, by decide +kernel⟩
theorem ok_partat {f : Addr} {fd : FuncData} (F : Fun K "part_at" "part_at" sPartAt f fd) (C_place : CalX P w K mg base 6 "_place_of" ["term", "spot"] (spX 2 (tPlace C1 C2))) : FnOk P w K mg base (L2.CX P w) 7 f fd ["term", "spot"] (spX 2 (tAt C1 C2 (·.1))) := by
  refine fn_x F scPartAt (body := fun cdv A outer s H E hr => ⟨_, (pss_one (ps_ret (pe_ix ix_tup (pe_x C_place (takes_of rfl rfl rfl rfl) hr (by decide) rfl (pa_cons (pv 0) (pa_cons (pv 1) pa_nil))) pe_int (fun _ _ => rfl)))), ?_⟩)
  rintro as Kr X _ ⟨s1, s2, d, x, rfl, i1, i2, o1, o2, noT, noS, yes⟩
  have args : Es (tCons (tVar 0) (tCons (tVar 1) tNil)) ([s1, s2] ++ uns 0) [s1, s2] ([s1, s2] ++ uns 0) := es_cons (ev_varI rfl i1) (es_cons (ev_varI rfl i2) es_nil)
  cases ht : tm d with
  | false => exact Or.inr ⟨C1, s1, _, noT ht, rs_ret (re_op1 (re_call args rfl (place_noT i1 i2 o1 o2 ht)))⟩
  | true =>
    rcases place_cases d x with e | ⟨is, r, rfl, e, e2⟩
    · exact Or.inr ⟨C2, s2, _, noS ht e, rs_ret (re_op1 (re_call args rfl (place_noS i1 i2 o1 o2 ht e)))⟩
    · exact Or.inl (sm_ret (ev_op (ev_callX args rfl (place_yes i1 i2 o1 o2 ht e)) ev_int (fv_ixT at0)) (yes ht is r rfl e))
theorem ok_binders {f : Addr} {fd : FuncData} (F : Fun K "binders_at" "binders_at" sBinders f fd) (C_place : CalX P w K mg base 6 "_place_of" ["term", "spot"] (spX 2 (tPlace C1 C2))) : FnOk P w K mg base (L2.CX P w) 7 f fd ["term", "spot"] (spX 2 (tAt C1 C2 fun r => .int r.2)) := by
  refine fn_x F scBinders (body := fun cdv A outer s H E hr => ⟨_, (pss_one (ps_ret (pe_ix ix_tup (pe_x C_place (takes_of rfl rfl rfl rfl) hr (by decide) rfl (pa_cons (pv 0) (pa_cons (pv 1) pa_nil))) pe_int (fun _ _ => rfl)))), ?_⟩)
  rintro as Kr X _ ⟨s1, s2, d, x, rfl, i1, i2, o1, o2, noT, noS, yes⟩
  have args : Es (tCons (tVar 0) (tCons (tVar 1) tNil)) ([s1, s2] ++ uns 0) [s1, s2] ([s1, s2] ++ uns 0) := es_cons (ev_varI rfl i1) (es_cons (ev_varI rfl i2) es_nil)
  cases ht : tm d with
  | false => exact Or.inr ⟨C1, s1, _, noT ht, rs_ret (re_op1 (re_call args rfl (place_noT i1 i2 o1 o2 ht)))⟩
  | true =>
    rcases place_cases d x with e | ⟨is, r, rfl, e, e2⟩
    · exact Or.inr ⟨C2, s2, _, noS ht e, rs_ret (re_op1 (re_call args rfl (place_noS i1 i2 o1 o2 ht e)))⟩
    · exact Or.inl (sm_ret (ev_op (ev_callX args rfl (place_yes i1 i2 o1 o2 ht e)) ev_int (fv_ixT at1)) (yes ht is r rfl e))
def tChanged (C1 C2 : Addr) : List Sl → (Rv → Prop) → (Addr → Sl → Prop) → Prop := fun as Kr X => ∃ s1 s2 s3 d x o, as = [s1, s2, s3] ∧ Isd s1 d ∧ Isd s2 x ∧ Isd s3 o ∧ okT d ∧ okT x ∧ okT o ∧ (tm d = false → X C1 s1) ∧ (tm d = true → placeD d x = .none → X C2 s2) ∧
  (tm d = true → ∀ is r, x = spotT is → reachD d is 0 = some r → (tm o = false → X C1 s3) ∧ (tm o = true → Kr (.d (chD d is o))))
theorem scChanged : FnScope ["term", "spot", "other"] ["term", "spot", "other"] (defScope sChanged) := ⟨rfl, rfl, rfl, by decide +kernel, rfl, by decide +kernel, by decide +kernel⟩
theorem spot_len {is : List Nat} (h : okT (spotT is)) : is.length ≤ 1000000 := by
  have h2 := h.2
  have e : nodes (spotT is) = nodesAll (is.map fun i : Nat => PyData.int (i : Int)) + 1 := rfl
  have l := len_nodes (is.map fun i : Nat => PyData.int (i : Int))
  rw [List.length_map] at l
  omega
theorem ok_changed {f : Addr} {fd : FuncData} (F : Fun K "changed" "changed" sChanged f fd) (C_place : CalX P w K mg base 6 "_place_of" ["term", "spot"] (spX 2 (tPlace C1 C2))) (C_want : CalX P w K mg base 5 "want_term" ["thing"] (spX 1 (tWant C1))) (C_with_part : C8.Cal P w K mg base 1 "with_part" (spD 3 tWithPart) []) :
    FnOk P w K mg base (L2.CX P w) 7 f fd ["term", "spot", "other"] (spX 3 (tChanged C1 C2)) := by
  refine fn_x F scChanged (body := fun cdv A outer s H E hr => ⟨_, (pss_cons (ps_expr (pe_x C_place (takes_of rfl rfl rfl rfl) hr (by decide) rfl (pa_cons (pv 0) (pa_cons (pv 1) pa_nil))))
      (pss_cons (ps_expr (pe_x C_want (takes_of rfl rfl rfl rfl) hr (by decide) rfl (pa_cons (pv 2) pa_nil)))
      (pss_one (ps_ret (C8.pe_c C_with_part hr (by decide) rfl (pa_cons (pv 0) (pa_cons (pv 1) (pa_cons (pv 2) pa_nil)))))))), ?_⟩)
  rintro as Kr X _ ⟨s1, s2, s3, d, x, o, rfl, i1, i2, i3, o1, o2, o3, noT, noS, yes⟩
  have args : Es (tCons (tVar 0) (tCons (tVar 1) tNil)) ([s1, s2, s3] ++ uns 0) [s1, s2] ([s1, s2, s3] ++ uns 0) := es_cons (ev_varI rfl i1) (es_cons (ev_varI rfl i2) es_nil)
  cases ht : tm d with
  | false => exact Or.inr ⟨C1, s1, _, noT ht, rs_seq1 (rs_drop (re_call args rfl (place_noT i1 i2 o1 o2 ht)))⟩
  | true =>
    rcases place_cases d x with e | ⟨is, r, rfl, e, e2⟩
    · exact Or.inr ⟨C2, s2, _, noS ht e, rs_seq1 (rs_drop (re_call args rfl (place_noS i1 i2 o1 o2 ht e)))⟩
    · obtain ⟨n3, y3⟩ := yes ht is r rfl e
      cases hto : tm o with
      | false =>
        refine Or.inr ⟨C1, s3, [s1, s2, s3] ++ uns 0, n3 hto, ?_⟩
        refine rs_seq (sm_drop (ev_callX args rfl (place_yes i1 i2 o1 o2 ht e)) ?_)
        exact rs_seq1 (W := fun cls d _ H => E cls d H) (rs_drop (re_call (es_cons (ev_varI rfl i3) es_nil) rfl (want_no i3 o3 hto)))
      | true => exact Or.inl (sm_seq (sm_drop (ev_callX args rfl (place_yes i1 i2 o1 o2 ht e)) (sm_seq (sm_drop (ev_callX (es_cons (ev_varI rfl i3) es_nil) rfl (want_yes i3 o3 hto)) (sm_ret (ev_call (es_cons (ev_varD rfl i1) (es_cons (ev_varD rfl i2) (es_cons (ev_varD rfl i3) es_nil))) ar_nil rfl ⟨d, is, o, r, rfl, ht, o1.2, spot_len o2, e, rfl⟩) (y3 hto))))))
end
end KP
set_option Elab.async false
set_option linter.unusedVariables false
set_option maxRecDepth 100000
set_option maxHeartbeats 2000000
namespace KP
open PySem PySem.Spec PyProof.Rows L2 KA OW
/-! ### the law's own walk -/
abbrev sLParts : Stmt := top 39
abbrev sLOver : Stmt := top 40
abbrev sLWalk : Stmt := top 41
abbrev sLChanged : Stmt := top 42
abbrev sLAsked : Stmt := top 43
abbrev sLRefused : Stmt := top 44
theorem leaf_word {wd : Str} {ds : List PyData} (h : leafB wd ds = true) : ∃ e ∈ leaves, e.1 = wd := by
  have six : ∀ x : Str, (x = "at" ∨ x = "kind" ∨ x = "name" ∨ x = "thing" ∨ x = "maker" ∨ x = "eater") → ∃ e ∈ leaves, e.1 = x := by
    rintro x (rfl | rfl | rfl | rfl | rfl | rfl) <;> decide +kernel
  match ds, h with
  | [x], h =>
    have h : (if wd = "at" then cntB 0 x else if wd = "kind" then wholeB 0 5 x else (decide (wd = "name") || decide (wd = "thing")) && nameB x) = true := h
    by_cases a : wd = "at"
    · exact six _ (Or.inl a)
    rw [if_neg a] at h
    by_cases b : wd = "kind"
    · exact six _ (Or.inr (Or.inl b))
    rw [if_neg b, Bool.and_eq_true, Bool.or_eq_true, decide_eq_true_eq, decide_eq_true_eq] at h
    rcases h.1 with c | c
    · exact six _ (Or.inr (Or.inr (Or.inl c)))
    · exact six _ (Or.inr (Or.inr (Or.inr (Or.inl c))))
  | [x, y], h =>
    have h : (nameB x && (if wd = "maker" then cntB 0 y else decide (wd = "eater") && wholeB 0 5 y)) = true := h
    rw [Bool.and_eq_true] at h
    by_cases a : wd = "maker"
    · exact six _ (Or.inr (Or.inr (Or.inr (Or.inr (Or.inl a)))))
    have h2 := h.2
    rw [if_neg a, Bool.and_eq_true, decide_eq_true_eq] at h2
    exact six _ (Or.inr (Or.inr (Or.inr (Or.inr (Or.inr h2.1)))))
  | [], h => cases h
  | _ :: _ :: _ :: _, h => cases h
theorem part_word {wd : Str} {n : Nat} (h : parts wd = some n) : ∃ e ∈ parted, e.1 = wd := by
  have six : ∀ x : Str, (x = "all" ∨ x = "fun" ∨ x = "app" ∨ x = "same" ∨ x = "self" ∨ x = "put") → ∃ e ∈ parted, e.1 = x := by
    rintro x (rfl | rfl | rfl | rfl | rfl | rfl) <;> decide +kernel
  unfold parts at h
  apply six
  split at h
  · exact Or.inl ‹_›
  split at h
  · exact Or.inr (Or.inl ‹_›)
  split at h
  · exact Or.inr (Or.inr (Or.inl ‹_›))
  split at h
  · exact Or.inr (Or.inr (Or.inr (Or.inl ‹_›)))
  split at h
  · exact Or.inr (Or.inr (Or.inr (Or.inr (Or.inl ‹_›))))
  split at h
  · exact Or.inr (Or.inr (Or.inr (Or.inr (Or.inr ‹_›))))
  · cases h
theorem tm_word {wd : Str} {ds : List PyData} (h : tm (.tuple (.str wd :: ds)) = true) : ∃ e ∈ leaves ++ parted, e.1 = wd ∧ decide (116 ∈ e.2) = (parts wd).isSome := by
  have all : ∀ e ∈ leaves ++ parted, decide (116 ∈ e.2) = (parts e.1).isSome := by decide +kernel
  have : ∃ e ∈ leaves ++ parted, e.1 = wd := by
    cases hp : parts wd with
    | none =>
      rw [tm_leaf hp] at h
      obtain ⟨e, he, r⟩ := leaf_word h
      exact ⟨e, List.mem_append_left _ he, r⟩
    | some n =>
      obtain ⟨e, he, r⟩ := part_word hp
      exact ⟨e, List.mem_append_right _ he, r⟩
  obtain ⟨e, he, rfl⟩ := this
  exact ⟨e, he, rfl, all e he⟩
section
variable {ρ ρ' ρ1 ρ2 : List Sl} {te ta tb : TE} {KF : PySem.W.Frag} {E : XK} {x : PyData}
theorem ev_formsE {e : Str × List Nat} (he : e ∈ leaves ++ parted) (h : Ev te ρ (.d (.str e.1)) ρ1) : Ev (tDGet (tCall spForms [] E tNil) te) ρ (.d (.str ⟨e.2.toArray⟩)) ρ1 := fun c A σ H Q R f q => by
  refine ⟨rfl, fun p H1 n S ed => h c A σ H1 _ (R.up S) f fun v A2 H2 R2 f2 S2 o2 => ?_⟩
  obtain rfl := str_v o2
  have ed2 : H2 p = some (.dK formsK) := vw_sub _ _ (S2 _ _ (new_view R n ed))
  exact ⟨p, .str ⟨e.2.toArray⟩, rfl, (form_of e he).1 ▸ (DGet.k (k := Sum.inr e.1) ed2 : DGet H2 p (.str e.1) (valV formsK (Sum.inr e.1))), q _ A2 H2 R2 f2 ((vw_up S).trans S2) (.str _)⟩
theorem fv_sign {c : Nat} {z : Str} : FV2 (fun x y H Q => ∃ (c : Nat) (z : Str), x = .str ⟨#[c]⟩ ∧ y = .str z ∧ Q (.bl (decide (c ∈ z.cps.toList))) H) (.d (.str ⟨#[c]⟩)) (.d (.str z)) (.d (.bool (decide (c ∈ z.cps.toList)))) := fv2_s (dB (decide (c ∈ z.cps.toList))) fun W H v w Q S o o' q => ⟨c, z, str_v o, str_v o', q⟩
end
mutual
def walkF : PyData → List Nat → Int → List PyData
  | .tuple (.str w :: ds), p, u => .tuple [spotT p, .tuple (.str w :: ds), .int u] :: (if (parts w).isSome = true then walkFL ds w p u 0 else [])
  | d, p, u => [.tuple [spotT p, d, .int u]]
def walkFL : List PyData → Str → List Nat → Int → Nat → List PyData
  | [], _, _, _, _ => []
  | d :: ds, w, p, u, i => walkF d (p ++ [i]) (u + passD w (i : Int)) ++ walkFL ds w p u (i + 1)
end
theorem walkF_eq {d : PyData} (h : tm d = true) (p : List Nat) (u : Int) : walkF d p u = .tuple [spotT p, d, .int u] :: walkFL (partsD d) (wdD d) p u 0 := by
  obtain ⟨wd, ds, rfl⟩ := tm_shape h
  show PyData.tuple [spotT p, .tuple (.str wd :: ds), .int u] :: (if (parts wd).isSome = true then walkFL ds wd p u 0 else []) = _ :: walkFL (if (parts wd).isSome = true then ds else []) wd p u 0
  split <;> rfl
mutual
theorem walkF_len : ∀ (d : PyData) (p : List Nat) (u : Int), (walkF d p u).length ≤ nodes d
  | .tuple (d :: ds), p, u => by
    cases d with
    | str w =>
      show (_ :: (if (parts w).isSome = true then walkFL ds w p u 0 else [])).length ≤ (1 + nodesAll ds) + 1
      have := walkFL_len ds w p u 0
      split
      · rw [List.length_cons]
        omega
      · show 1 ≤ _
        omega
    | _ => exact nodes_pos _
  | .tuple [], p, u => nodes_pos _
  | .none, p, u => nodes_pos _
  | .bool _, p, u => nodes_pos _
  | .int _, p, u => nodes_pos _
  | .str _, p, u => nodes_pos _
  | .list _, p, u => nodes_pos _
  | .dict _, p, u => nodes_pos _
theorem walkFL_len : ∀ (ds : List PyData) (w : Str) (p : List Nat) (u : Int) (i : Nat), (walkFL ds w p u i).length ≤ nodesAll ds
  | [], _, _, _, _ => Nat.le_refl _
  | d :: ds, w, p, u, i => by
    show (walkF d (p ++ [i]) (u + passD w (i : Int)) ++ walkFL ds w p u (i + 1)).length ≤ nodes d + nodesAll ds
    rw [List.length_append]
    have h1 := walkF_len d (p ++ [i]) (u + passD w (i : Int))
    have h2 := walkFL_len ds w p u (i + 1)
    omega
end
theorem walkFL_snoc : ∀ {ds : List PyData} {w : Str} {p : List Nat} {u : Int} {i j : Nat} {d : PyData}, ds[j]? = some d → walkFL (ds.take (j + 1)) w p u i = walkFL (ds.take j) w p u i ++ walkF d (p ++ [i + j]) (u + passD w ((i + j : Nat) : Int))
  | d :: ds, w, p, u, i, 0, e, h => by
    cases h
    show walkF d (p ++ [i]) _ ++ [] = [] ++ _
    rw [List.append_nil, List.nil_append]
    rfl
  | d :: ds, w, p, u, i, j + 1, e, h => by
    have ih := walkFL_snoc (w := w) (p := p) (u := u) (i := i + 1) (j := j) (d := e) (ds := ds) h
    show walkF d (p ++ [i]) _ ++ walkFL (ds.take (j + 1)) w p u (i + 1) = (walkF d (p ++ [i]) _ ++ walkFL (ds.take j) w p u (i + 1)) ++ _
    rw [ih, List.append_assoc, show i + 1 + j = i + (j + 1) by omega]
theorem parts_depth {d e : PyData} (h : e ∈ partsD d) (t : tm d = true) : e.depth < d.depth := by
  obtain ⟨wd, ds, rfl⟩ := tm_shape t
  have m : e ∈ ds := by
    have h : e ∈ (if (parts wd).isSome = true then ds else []) := h
    split at h
    · exact h
    · cases h
  have le : ∀ {es : List PyData}, e ∈ es → e.depth ≤ PyData.depthAll es := by
    intro es
    induction es with
    | nil => intro h; cases h
    | cons a es ih =>
      intro h
      show e.depth ≤ max a.depth (PyData.depthAll es)
      rcases List.mem_cons.mp h with rfl | h
      · exact Nat.le_max_left _ _
      · exact Nat.le_trans (ih h) (Nat.le_max_right _ _)
  have h2 : e.depth ≤ PyData.depthAll (.str wd :: ds) := le (List.mem_cons_of_mem _ m)
  show e.depth < PyData.depthAll (.str wd :: ds) + 1
  omega
def tLParts : List Sl → (Rv → Prop) → Prop := fun as Kr => ∃ d, as = [.d d] ∧ tm d = true ∧ Kr (.l (partsD d))
def tLWalk (lim : Nat) : List Sl → (Rv → Prop) → Prop := fun as Kr => ∃ d p u, as = [.d d, .d (spotT p), .d (.int u)] ∧ tm d = true ∧ d.depth ≤ lim ∧ nodes d ≤ 2000000 ∧ p.length + lim ≤ 1000 ∧ Kr (.d (.list (walkF d p u)))
section
variable {P : Program} {w : World} {K : PySem.W.Frag} {mg : Str → Option Value} {base : Heap}
theorem scLParts : FnScope ["_law_term_here"] ["_law_term_here"] (defScope sLParts) := ⟨rfl, rfl, rfl, by decide +kernel, rfl, by decide +kernel, by decide +kernel⟩
theorem ok_lparts {f : Addr} {fd : FuncData} (F : Fun K "_law_parts" "_law_parts" sLParts f fd) (T : Txt K w mg) (CF : C8.Cal P w K mg base 1 "_law_forms" spForms []) : FnOk P w K mg base CX0 2 f fd ["_law_term_here"] (spD 1 tLParts) := by
  refine fn_d F scLParts (body := fun cdv A outer s H E hr => ⟨_, (pss_one (ps_ret (pe_ifExp (pt_cmpR op_in_sign pe_str (pe_dget (hu_of hr) (pe_c0 CF hr (by decide) rfl) (pe_ix ix_tup (pv 0) pe_int (fun _ _ => rfl)) (fun _ _ => rfl)) rfl) (pe_callTy call_list_of (by rfl) T.list (by decide +kernel) (pa_cons (pe_slice sl_tupA (pv 0) (po_some pe_int) po_none) pa_nil)) (pe_lst pa_nil)))), ?_⟩)
  rintro as Kr _ ⟨d, rfl, td, k⟩
  obtain ⟨wd, ds, rfl⟩ := tm_shape td
  obtain ⟨e, he, rfl, hm⟩ := tm_word td
  have e0 : partsD (.tuple (.str e.1 :: ds)) = if (parts e.1).isSome = true then ds else [] := rfl
  refine (sm_retL (el_if (et_test (ev_op ev_str (ev_formsE he (ev_op (ev_var rfl) ev_int (fv_ixT at0))) (fv_sign (c := 116)))) (fun h => El.is (el_fn (es_cons (ev_slA (ev_var rfl) (eo_some ev_int) eo_none) es_nil) fl_listT) ?_) (fun h => El.is (el_lst eds_nil) ?_)) k)
  · have h : decide (116 ∈ (⟨e.2.toArray⟩ : Str).cps.toList) = true := h
    rw [show (⟨e.2.toArray⟩ : Str).cps.toList = e.2 by simp, hm] at h
    rw [e0, if_pos h, show (1 : Int) = ((1 : Nat) : Int) from rfl, cutD_from']
    rfl
  · have h : decide (116 ∈ (⟨e.2.toArray⟩ : Str).cps.toList) = false := h
    rw [show (⟨e.2.toArray⟩ : Str).cps.toList = e.2 by simp, hm] at h
    rw [e0, if_neg (by rw [h]; decide)]
theorem scLOver : FnScope ["_law_term_here", "_law_number"] ["_law_term_here", "_law_number"] (defScope sLOver) := ⟨rfl, rfl, rfl, by decide +kernel, rfl, by decide +kernel, by decide +kernel⟩
def tLOver : List Sl → (Rv → Prop) → Prop := fun as Kr => ∃ wd ds i, as = [.d (.tuple (.str wd :: ds)), .d (.int i)] ∧ Kr (.d (.int (passD wd i)))
theorem ok_lover {f : Addr} {fd : FuncData} (F : Fun K "_law_over" "_law_over" sLOver f fd) (T : Txt K w mg) : FnOk P w K mg base CX0 1 f fd ["_law_term_here", "_law_number"] (spD 2 tLOver) := by
  refine fn_d F scLOver (body := fun cdv A outer s H E hr => ⟨_, (pss_one (ps_ret (pe_callTy call_int1 (by rfl) T.int (by decide +kernel) (pa_cons (pe_and (pe_cmpR op_in_seq (pe_ix ix_tup (pv 0) pe_int (fun _ _ => rfl)) (pe_tup (pa_cons pe_str (pa_cons pe_str pa_nil))) rfl) (pe_one (pe_cmpR op_eq (pv 1) pe_int (nomark _)))) pa_nil)))), ?_⟩)
  rintro as Kr _ ⟨wd, ds, i, rfl, k⟩
  refine sm_ret (Ev.is (ev_fn (es_cons (ev_andV (ev_op (ev_op (ev_var rfl) ev_int (fv_ixT at0)) (ev_tup (eds_cons ev_str (eds_cons ev_str eds_nil))) (fv_inT (bs := ["all", "fun"]))) fun _ => (ev_op (ev_var rfl) ev_int fv_eqI)) es_nil) fv_intB) ?_) k
  have e : ((["all", "fun"] : List Str).any (fun b => b == wd) && decide (i = 1)) = decide (i = 1 ∧ (wd = "all" ∨ wd = "fun")) := by
    rw [Bool.eq_iff_iff]
    simp only [Bool.and_eq_true, decide_eq_true_eq, List.any_cons, List.any_nil, Bool.or_false, Bool.or_eq_true, beq_iff_eq]
    constructor
    · exact fun ⟨a, b⟩ => ⟨b, a.imp Eq.symm Eq.symm⟩
    · exact fun ⟨a, b⟩ => ⟨b.imp Eq.symm Eq.symm, a⟩
  rw [e]
  unfold passD
  by_cases h : i = 1 ∧ (wd = "all" ∨ wd = "fun")
  · rw [if_pos h, if_pos (decide_eq_true h)]
  · rw [if_neg h, if_neg (by simpa using h)]
abbrev nLWalk : List Str := ["_law_term_here", "_law_spot", "_law_under", "_law_found", "_law_k", "_law_part"]
abbrev psLWalk : List Str := ["_law_term_here", "_law_spot", "_law_under"]
theorem scLWalk : FnScope nLWalk psLWalk (defScope sLWalk) := ⟨rfl, rfl, rfl, by decide +kernel, rfl, by decide +kernel, by decide +kernel⟩
theorem ok_lwalk {f : Addr} {fd : FuncData} (D : Dfn K mg "_law_walk" sLWalk f fd psLWalk) (T : Txt K w mg) (Tenum : mg "enumerate" = none) (C_law_parts : C8.Cal P w K mg base 2 "_law_parts" (spD 1 tLParts) []) (C_law_over : C8.Cal P w K mg base 1 "_law_over" (spD 2 tLOver) []) :
    ∀ lim : Nat, FnOk P w K mg base CX0 (3 + lim) f fd psLWalk (spD 3 (tLWalk lim))
  | 0 => ⟨fun vs H Q E h => by
      obtain ⟨Z, as, Kr, hZ, ha, hl, _⟩ := h
      rw [ha.length, hl]
      rfl, fun A outer s H args us vs Q E hr e0 bt rv h => by
      obtain ⟨Z, as, Kr, hZ, ha, hl, ⟨d, p, u, _, td, h0, _⟩, go⟩ := h
      obtain ⟨wd, ds, rfl⟩ := tm_shape td
      simp only [PyData.depth] at h0
      omega⟩
  | lim + 1 => by
    have C_law_walk : C8.Cal P w K mg base (3 + lim) "_law_walk" (spD 3 (tLWalk lim)) [] := D.cal (ok_lwalk D T Tenum C_law_parts C_law_over lim)
    refine fn_d (k := 3 + lim) D.fn scLWalk (body := fun cdv A outer s H E hr => ⟨_, (pss_cons (ps_set (i := 3) scLWalk.nd rfl (Or.inl rfl) (pe_lst (pa_cons (pe_tup (pa_cons (pv 1) (pa_cons (pv 0) (pa_cons (pv 2) pa_nil)))) pa_nil)))
      (pss_cons (ps_for PassesOwn.never rfl (pi_enum (by rfl) Tenum (pa_cons (C8.pe_c C_law_parts hr (by omega) rfl (pa_cons (pv 0) pa_nil)) pa_nil)) (pg_tup rfl (pgs_cons (pg_name (i := 4) scLWalk.nd rfl (Or.inl rfl)) (pgs_cons (pg_name (i := 5) scLWalk.nd rfl (Or.inl rfl)) pgs_nil))) (pss_one (ps_set (i := 3) scLWalk.nd rfl (Or.inl rfl) (pe_op op_cat (pv 3) (C8.pe_c C_law_walk hr (by omega) rfl (pa_cons (pv 5) (pa_cons (pe_op op_catA (pv 1) (pe_tup (pa_cons (pv 4) pa_nil))) (pa_cons (pe_op op_add (pv 2) (C8.pe_c C_law_over hr (by omega) rfl (pa_cons (pv 0) (pa_cons (pv 4) pa_nil)))) pa_nil))))))))
      (pss_one (ps_ret (pv 3))))), ?_⟩)
    rintro as Kr _ ⟨d, p, u, rfl, td, dl, nd, pl, k⟩
    have ptm := parts_tm td
    have pd := fun e h => parts_depth (d := d) (e := e) h td
    have pn := parts_nodes td
    rw [walkF_eq td] at k
    obtain ⟨wd, ds, rfl⟩ := tm_shape td
    have ew : wdD (.tuple (.str wd :: ds)) = wd := rfl
    rw [ew] at k
    generalize hps : partsD (.tuple (.str wd :: ds)) = ps at *
    refine (sm_seq (sm_set (Ev.of_el (el_lst (eds_cons (ev_tup (eds_cons (ev_var rfl) (eds_cons (ev_var rfl) (eds_cons (ev_var rfl) eds_nil)))) eds_nil))) (sm_seq (sm_for (fi_enum (eds_cons (Ev.of_el (el_call (es_cons (ev_var rfl) es_nil) ar_nil rfl ⟨_, rfl, td, rfl⟩)) eds_nil)) (fun j ρ => ∃ s4 s5, ρ = [.d (.tuple (.str wd :: ds)), .d (spotT p), .d (.int u), .d (.list (.tuple [spotT p, .tuple (.str wd :: ds), .int u] :: walkFL (ps.take j) wd p u 0)), s4, s5]) ⟨.un, .un, rfl⟩ (fun j x ρ ex r => ?_) (fun ρ r => ?_)))))
    · obtain ⟨s4, s5, rfl⟩ := r
      obtain ⟨e, he, rfl⟩ := enumD_at ex
      rw [hps] at he
      have em := List.mem_of_getElem? he
      have te := tmAll_mem ptm em
      have nn := mem_nodes em
      have dd := pd e em
      have wl := walkFL_len (ps.take j) wd p u 0
      have wl2 := walkF_len e (p ++ [0 + j]) (u + passD wd ((0 + j : Nat) : Int))
      have nt : nodesAll (ps.take j) ≤ nodesAll ps := by
        have := nodesAll_append (ps.take j) (ps.drop j)
        rw [List.take_append_drop] at this
        omega
      have sp : spotT (p ++ [0 + j]) = .tuple (p.map (fun i : Nat => PyData.int (i : Int)) ++ [.int ((0 + j : Nat) : Int)]) := by
        unfold spotT
        rw [List.map_append]
        rfl
      refine ⟨_, (tg_tup (xs := [PyData.int ((0 + j : Nat) : Int), e]) (tgs_cons tg_name (tgs_cons tg_name tgs_nil))), (sm_set (Ev.of_el (el_op (ev_var rfl) (ev_call (x := .list (walkF e (p ++ [0 + j]) (u + passD wd ((0 + j : Nat) : Int)))) (es_cons (ev_var rfl) (es_cons (ev_op (ev_var rfl) (ev_tup (eds_cons (ev_var rfl) eds_nil)) (fv_catA ?_)) (es_cons (ev_op (ev_var rfl) (ev_call (es_cons (ev_var rfl) (es_cons (ev_var rfl) es_nil)) ar_nil rfl ⟨wd, ds, _, rfl, rfl⟩) fv_int) es_nil))) ar_nil rfl ⟨e, p ++ [0 + j], _, ?_, te, by omega, by omega, ?_, rfl⟩) (fl_cat ?_))) ?_)⟩
      · rw [List.length_map, List.length_singleton, sizeLine_eq]
        omega
      · rw [sp]
        rfl
      · rw [List.length_append, List.length_singleton]
        omega
      · rw [List.length_cons, sizeLine_eq]
        omega
      · refine ⟨Sl.d (PyData.int ((0 + j : Nat) : Int)), Sl.d e, ?_⟩
        rw [walkFL_snoc he]
        rfl
    · obtain ⟨s4, s5, rfl⟩ := r
      rw [enumD_len, hps, List.take_length]
      exact sm_ret (ev_var rfl) k
end
end KP
set_option Elab.async false
set_option linter.unusedVariables false
set_option maxRecDepth 100000
set_option maxHeartbeats 2000000
namespace OW
open PySem PySem.Spec PyProof.Rows L2 KA
/-! ### a call of what an expression gives, a def that may refuse -/
structure HeldX (P : Program) (w : World) (K : PySem.W.Frag) (mg : Str → Option Value) (base : Heap) (k : Nat) (f : Addr) (sp : Sp) : Prop where
  ex : ∃ (fd : FuncData) (ps : List Str), FnOk P w K mg base (L2.CX P w) k f fd ps sp ∧ PySem.W.keepIn K (.ref f) = true ∧ Binds K fd ps []
def tCallV (P : Program) (w : World) (K : PySem.W.Frag) (mg : Str → Option Value) (base : Heap) (k : Nat) (W : WX) (to : TE) (t : TA) : TE := fun σ H Q => to σ H fun x H1 => ∃ f sp, x = .ref f ∧ HeldX P w K mg base k f sp ∧ t σ H1 fun vs H2 => sp vs H2 Q (WE W σ)
theorem pe_callV {X : Cx} {P : Program} {w : World} {K : PySem.W.Frag} {mg : Str → Option Value} {base : Heap} (e1 : X.prog = P) (e2 : X.w = w) (e3 : X.K = K) (e4 : X.mg = mg) (e5 : X.base = base) {j k : Nat} {W : WX} {o e : Expr} {es : List Expr} {to : TE} {t : TA} {pos : Pos} (ho : PE X o to) (tk : Takes X W) (hr : Room j X.A) (hk : k ≤ j) (ha : PA X (e :: es) t)
    (he : eval (.Call o (e :: es) [] pos) X.env = (do callWith pos (← eval o X.env) [] (backTo pos (starEach (e :: es) X.env)) (backToKw pos (keywordEach [] X.env))) := by rfl)
    (hst : starEach (e :: es) X.env = (false, eval e X.env) :: starEach es X.env := by rfl) (hpl : (backTo pos (starEach es X.env)).any (·.1) = false := by rfl) : PE X (.Call o (e :: es) [] pos) (tCallV P w K mg base k W to t) := by
  subst e1 e2 e3 e4 e5
  refine ⟨fun pins s σ H Q I h => ?_⟩
  refine Call_ (thn (ho.run pins s σ H _ I h) fun u s1 ⟨x, H1, I1, rx, f, sp, ex, hf, q⟩ => ?_) he
  subst ex
  cases rx
  obtain ⟨fd, ps, F, kp, b⟩ := hf.ex
  refine PySem.W.callWith_K (h₀ := X.base) I1.ok.mod.kin kp (thn (ha.run pos pins s1 σ H1 _ I1 q) fun us s2 ⟨vs, H2, I2, r, q2⟩ => ⟨I2.kIn, ?_⟩) hst hpl
  exact run_fnS F (hr.mono hk) b (passAt tk σ) I2 r q2
theorem pe_ixK {X : Cx} {K : PySem.W.Frag} (e3 : X.K = K) {a b : Expr} {ta tb : TE} {pos : Pos} (ha : PE X a ta) (hb : PE X b tb) (hs : PlainIx b) : PE X (.Subscript a b pos) (tOp (rIxL K) ta tb) := by
  subst e3
  exact pe_ix ix_list ha hb hs
section
variable {ρ ρ' ρ1 ρ2 : List Sl} {te ta tb ti : TE} {s s' : Sl} {x y : PyData} {i : Nat} {tr : TA} {xs : List PyData} {ss : List Sl} {W : WX} {C : Addr} {n k : Nat} {T : List Sl → (Rv → Prop) → (Addr → Sl → Prop) → Prop} {KF : PySem.W.Frag}
  {P : Program} {w : World} {K : PySem.W.Frag} {mg : Str → Option Value} {base : Heap} {f : Addr}
theorem re_callV (h0 : Ev ta ρ (.p (isV (.ref f))) ρ1) (hf : HeldX P w K mg base k f (spX n T)) (h : Es tr ρ1 ss ρ') (hn : ss.length = n) (g : T ss (fun _ => False) fun C' s' => C' = C ∧ s' = s) : Re W (tCallV P w K mg base k W ta tr) ρ C s ρ' := fun c A σ H Q R f' q =>
  h0 c A σ H _ R f' fun v A1 H1 R1 f1 S1 o1 => by
    obtain rfl := isv_v o1
    exact ⟨f, _, rfl, hf, re_call (W := W) h hn g c A1 σ H1 Q R1 f1 fun d v A2 H2 R2 f2 e o => q d v A2 H2 R2 f2 e o⟩
/-- one of two written values -/
theorem ev_pick2 {a b : V} {z : Int} {v : V} (hi : Ev ti ρ (.d (.int z)) ρ') (e : atI [a, b] z = some v) : Ev (tOp (rIxL KF) (tLst (tCons (tC a) (tCons (tC b) tNil))) ti) ρ (.p (isV v)) ρ' := fun c A σ H Q R f q => by
  refine ⟨(by show 2 ≤ sizeLine; rw [sizeLine_eq]; decide), fun l hl => ?_⟩
  have R1 := R.up (Same.new (o := .lst [a, b]) hl)
  refine hi c A σ _ _ R1 f fun u A2 H2 R2 f2 S2 o2 => ?_
  obtain rfl := int_v o2
  have el : H2 l = some (.lst [a, b]) := vw_sub _ _ (S2 _ _ (new_view R hl upd_same))
  exact ⟨l, _, z, v, rfl, rfl, SqL.of el, e, q v A2 H2 R2 f2 ((vw_up (Same.new hl)).trans S2) rfl⟩
theorem fv_eqE : FV2 rEqE (.d (.tuple xs)) (.d (.tuple [])) (.d (.bool xs.isEmpty)) := fv2_s (dB xs.isEmpty) fun W H v w Q S o o' q => by
  obtain ⟨a, vs, rfl, e, dx⟩ := tup_v o
  obtain ⟨b, ws, rfl, e', dy⟩ := tup_v o'
  cases dy
  refine ⟨a, b, vs, rfl, rfl, Or.inl ⟨S _ _ e, S _ _ e'⟩, ?_⟩
  have : vs.isEmpty = xs.isEmpty := by cases dx <;> rfl
  rw [this]
  exact q
/-- a pair of a word and a thing -/
def pairMo (x : Str) (s : Sl) : Mo := ⟨fun u W => ∃ t v, u = .ref t ∧ W t = some (.tup [.str x, v]) ∧ ArOk W v s, fun S ⟨t, v, e, h, o⟩ => ⟨t, v, e, S _ _ h, o.mono S⟩⟩
theorem pair_isd {z : Str} (h : Isd s x) : Isd (.p (pairMo z s)) (.tuple [.str z, x]) := .p _ _ fun W v ⟨t, u, e, h1, o⟩ => by
  subst e
  exact .tup h1 (.cons (.str _) (.one (h.dn o)))
theorem ev_pair {z : Str} (h : Ev te ρ s ρ') : Ev (tTup (tCons (tC (.str z)) (tCons te tNil))) ρ (.p (pairMo z s)) ρ' := fun c A σ H Q R f q =>
  h c A σ H _ R f fun v A1 H1 R1 f1 S1 o1 => ⟨(by show 2 ≤ sizeLine; rw [sizeLine_eq]; decide), fun a ha =>
    q _ A1 _ (R1.up (Same.new ha)) f1 (S1.trans (vw_up (Same.new ha))) ⟨a, v, rfl, new_view R1 ha upd_same, o1.mono (vw_up (Same.new ha))⟩⟩
end
end OW
namespace KP
open PySem PySem.Spec PyProof.Rows L2 KA OW
def tLChanged (lim : Nat) : List Sl → (Rv → Prop) → Prop := fun as Kr => ∃ d p o n r, as = [.d d, .d (spotT p), .d o] ∧ tm d = true ∧ p.length < lim ∧ reachD d p n = some r ∧ nodes d ≤ 2000000 ∧ Kr (.d (chD d p o))
section
variable {P : Program} {w : World} {K : PySem.W.Frag} {mg : Str → Option Value} {base : Heap} {C1 C2 U1 U2 fI1 fI2 : Addr} {fdI1 fdI2 : FuncData}
abbrev nLChanged : List Str := ["_law_term_here", "_law_spot", "_law_other", "_law_some"]
abbrev psLChanged : List Str := ["_law_term_here", "_law_spot", "_law_other"]
theorem scLChanged : FnScope nLChanged psLChanged (defScope sLChanged) := ⟨rfl, rfl, rfl, by decide +kernel, rfl, by decide +kernel, by decide +kernel⟩
theorem ok_lchanged {f : Addr} {fd : FuncData} (D : Dfn K mg "_law_changed" sLChanged f fd psLChanged) (T : Txt K w mg) (C_law_parts : C8.Cal P w K mg base 2 "_law_parts" (spD 1 tLParts) []) :
    ∀ lim : Nat, FnOk P w K mg base CX0 (3 + lim) f fd psLChanged (spD 3 (tLChanged lim))
  | 0 => ⟨fun vs H Q E h => by
      obtain ⟨Z, as, Kr, hZ, ha, hl, _⟩ := h
      rw [ha.length, hl]
      rfl, fun A outer s H args us vs Q E hr e0 bt rv h => by
      obtain ⟨Z, as, Kr, hZ, ha, hl, ⟨d, p, o, n, r, _, _, h0, _⟩, go⟩ := h
      omega⟩
  | lim + 1 => by
    have C_law_changed : C8.Cal P w K mg base (3 + lim) "_law_changed" (spD 3 (tLChanged lim)) [] := D.cal (ok_lchanged D T C_law_parts lim)
    refine fn_d (k := 3 + lim) D.fn scLChanged (body := fun cdv A outer s H E hr => ⟨_, (pss_cons (ps_if (pt_cmpR (op_eqE (hu_of hr)) (pv 1) (pe_tup pa_nil) (nomark _)) (pss_one (ps_ret (pv 2))) pss_nil) (pss_cons (ps_set (i := 3) scLChanged.nd rfl (Or.inl rfl) (C8.pe_c C_law_parts hr (by omega) rfl (pa_cons (pv 0) pa_nil)))
      (pss_cons (ps_asg (C8.pe_c C_law_changed hr (by omega) rfl (pa_cons (pe_ix ix_list (pv 3) (pe_ix ix_tup (pv 1) pe_int (fun _ _ => rfl)) (fun _ _ => rfl)) (pa_cons (pe_slice sl_tupA (pv 1) (po_some pe_int) po_none) (pa_cons (pv 2) pa_nil)))) (pg_sub (pv 3) (pe_ix ix_tup (pv 1) pe_int (fun _ _ => rfl)) set_list))
      (pss_one (ps_ret (pe_op op_catA (pe_tup (pa_cons (pe_ix ix_tup (pv 0) pe_int (fun _ _ => rfl)) pa_nil)) (pe_callTy call_tuple_of (by rfl) T.tuple (by decide +kernel) (pa_cons (pv 3) pa_nil)))))))), ?_⟩)
    rintro as Kr _ ⟨d, p, o, n, r, rfl, td, pl, re, nd, k⟩
    obtain ⟨wd, ds, rfl⟩ := tm_shape td
    cases p with
    | nil => exact sm_seq (sm_if (et_test (ev_op (ev_var rfl) (ev_tup eds_nil) fv_eqE)) (fun h => sm_ret (ev_var rfl) k) (fun h => by cases h))
    | cons i p =>
      have re : (match (partsD (.tuple (.str wd :: ds)))[i]? with | some e => reachD e p (n + passD wd (i : Int)) | none => none) = some r := re
      cases hi : (partsD (.tuple (.str wd :: ds)))[i]? with
      | none =>
        rw [hi] at re
        cases re
      | some e =>
        rw [hi] at re
        have te := tmAll_mem (parts_tm td) (List.mem_of_getElem? hi)
        have pe : partsD (.tuple (.str wd :: ds)) = ds := by
          have e0 : partsD (.tuple (.str wd :: ds)) = if (parts wd).isSome = true then ds else [] := rfl
          rw [e0] at hi ⊢
          split at hi
          · rw [if_pos ‹_›]
          · cases hi
        have il := (List.getElem?_eq_some_iff.mp hi).1
        have hi' : ds[i]? = some e := by rw [← pe]; exact hi
        have e1 : chD (.tuple (.str wd :: ds)) (i :: p) o = .tuple ([.str wd] ++ (partsD (.tuple (.str wd :: ds))).set i (chD e p o)) := by
          rw [pe]
          show PyData.tuple ((.str wd :: ds : List PyData).set (i + 1) (chD ((((.str wd :: ds : List PyData))[i + 1]?).getD .none) p o)) = _
          rw [List.getElem?_cons_succ, hi', Option.getD_some]
          rfl
        rw [e1] at k
        have pn := parts_nodes td
        have mn := mem_nodes (List.mem_of_getElem? hi)
        have ln := len_nodes (partsD (.tuple (.str wd :: ds)))
        refine sm_seq (sm_if (et_test (ev_op (ev_var rfl) (ev_tup eds_nil) fv_eqE)) (fun h => by cases h) (fun h => sm_next (sm_seq (sm_setL (el_call (es_cons (ev_var rfl) es_nil) ar_nil rfl ⟨_, rfl, td, rfl⟩) (sm_seq (sm_setI rfl (ev_call (x := chD e p o) (es_cons (ev_ixO rfl (ev_op (ev_var (x := spotT (i :: p)) rfl) ev_int (fv_ixT at0)) rfl (at_nat hi)) (es_cons (ev_slA (ev_var (x := spotT (i :: p)) rfl) (eo_some ev_int) eo_none) (es_cons (ev_var rfl) es_nil))) ar_nil rfl ⟨e, p, o, _, r, ?_, te, ?_, re, by omega, rfl⟩) (ev_op (ev_var (x := spotT (i :: p)) rfl) ev_int (fv_ixT at0)) rfl ?_ (sm_ret (ev_op (ev_tup (eds_cons (ev_op (ev_var rfl) ev_int (fv_ixT at0)) eds_nil)) (ev_fn (es_cons (ev_varF rfl) es_nil) fv_tupL) (fv_catA ?_)) k)))))))
        · rw [show (1 : Int) = ((1 : Nat) : Int) from rfl, cutD_from']
          rfl
        · have : (i :: p).length = p.length + 1 := rfl
          omega
        · unfold ixN
          rw [if_pos (Int.natCast_nonneg i), if_pos (by omega), Int.toNat_natCast]
        · rw [List.length_singleton, List.length_set, sizeLine_eq]
          omega
abbrev nLAsked : List Str := ["_law_way", "_law_term_here", "_law_spot", "_law_other", "e"]
abbrev psLAsked : List Str := ["_law_way", "_law_term_here", "_law_spot", "_law_other"]
theorem scLAsked : FnScope nLAsked psLAsked (defScope sLAsked) := ⟨rfl, rfl, rfl, by decide +kernel, rfl, by decide +kernel, by decide +kernel⟩
def tLAsked : List Sl → (Rv → Prop) → Prop := fun as Kr => ∃ (way : Int) (s1 s2 s3 : Sl) (d x o : PyData), as = [.d (.int way), s1, s2, s3] ∧ Isd s1 d ∧ Isd s2 x ∧ Isd s3 o ∧ okT d ∧ okT x ∧ okT o ∧
  ((0 ≤ way ∧ way < 5 ∧ tm d = false ∧ Kr (.p (pairMo "term" s1))) ∨ (0 ≤ way ∧ way < 3 ∧ tm d = true ∧ placeD d x = .none ∧ Kr (.p (pairMo "spot" s2))) ∨ (way = 2 ∧ tm d = true ∧ tm o = false ∧ ∃ is r, x = spotT is ∧ reachD d is 0 = some r ∧ Kr (.p (pairMo "term" s3))))
theorem ok_lasked {f fP fS : Addr} {fd : FuncData} (F : Fun K "_law_asked" "_law_asked" sLAsked f fd) (Z1 : NoX K mg "NoTerm" "NoTerm.__init__" sInitT C1 U1 fI1 fdI1) (Z2 : NoX K mg "NoSpot" "NoSpot.__init__" sInitS C2 U2 fI2 fdI2) (n21 : PySem.W.exmOne K (.ref C2) (.ref C1) = some false)
    (C_part_at : CalX P w K mg base 7 "part_at" ["term", "spot"] (spX 2 (tAt C1 C2 (·.1)))) (C_binders : CalX P w K mg base 7 "binders_at" ["term", "spot"] (spX 2 (tAt C1 C2 fun r => .int r.2))) (C_changed : CalX P w K mg base 7 "changed" ["term", "spot", "other"] (spX 3 (tChanged C1 C2)))
    (hP : HeldX P w K mg base 6 fP (spX 1 (tParts C1))) (mP : mg "parts" = some (.ref fP)) (hS : HeldX P w K mg base 6 fS (spX 1 (tSpots C1))) (mS : mg "spots" = some (.ref fS)) :
    FnOk P w K mg base CX0 8 f fd psLAsked (spD 4 tLAsked) := by
  refine fn_d F scLAsked (body := fun cdv A outer s H E hr => ⟨_, pss_one (KA.ps_try_as rfl rfl scLAsked.nd
      (fun W pn xe tk _ => pss_cons (ps_if (pt_cmpR op_eq (pv 0) pe_int (nomark _)) (pss_one (ps_ret (pe_tup (pa_cons pe_str (pa_cons (pe_x C_part_at tk hr (by decide) rfl (pa_cons (pv 1) (pa_cons (pv 2) pa_nil))) pa_nil))))) pss_nil)
        (pss_cons (ps_if (pt_cmpR op_eq (pv 0) pe_int (nomark _)) (pss_one (ps_ret (pe_tup (pa_cons pe_str (pa_cons (pe_x C_binders tk hr (by decide) rfl (pa_cons (pv 1) (pa_cons (pv 2) pa_nil))) pa_nil))))) pss_nil)
        (pss_cons (ps_if (pt_cmpR op_eq (pv 0) pe_int (nomark _)) (pss_one (ps_ret (pe_tup (pa_cons pe_str (pa_cons (pe_x C_changed tk hr (by decide) rfl (pa_cons (pv 1) (pa_cons (pv 2) (pa_cons (pv 3) pa_nil)))) pa_nil))))) pss_nil)
        (pss_one (ps_ret (pe_tup (pa_cons pe_str (pa_cons (pe_callV (P := P) (w := w) (K := K) (mg := mg) (base := base) rfl rfl rfl rfl rfl (pe_ixK (K := K) rfl (pe_lst (pa_cons (pe_glob (v := .ref fP) (by rfl) mP rfl) (pa_cons (pe_glob (v := .ref fS) (by rfl) mS rfl) pa_nil))) (pe_op op_sub (pv 0) pe_int) (fun _ _ => rfl)) tk hr (by decide : 6 ≤ 7) (pa_cons (pv 1) pa_nil)) pa_nil))))))))
      (.cons ⟨rfl, by decide, .inl Z1.gC⟩ (i := 4) rfl rfl (fun a oe cls d pn hz hf => pss_one (ps_ret (pe_tup (pa_cons pe_str (pa_cons (pe_xf Z1.xf Z1.noF hz hf (pv 4)) pa_nil)))))
        (.cons ⟨rfl, by decide, .inl Z2.gC⟩ (i := 4) rfl rfl (fun a oe cls d pn hz hf => pss_one (ps_ret (pe_tup (pa_cons pe_str (pa_cons (pe_xf Z2.xf Z2.noF hz hf (pv 4)) pa_nil))))) .rest))), ?_⟩)
  rintro as Kr _ ⟨way, s1, s2, s3, d, x, o, rfl, i1, i2, i3, o1, o2, o3, h⟩
  have a2 : Es (tCons (tVar 1) (tCons (tVar 2) tNil)) [.d (.int way), s1, s2, s3, .un] [s1, s2] [.d (.int way), s1, s2, s3, .un] := es_cons (ev_varI rfl i1) (es_cons (ev_varI rfl i2) es_nil)
  have a3 : Es (tCons (tVar 1) (tCons (tVar 2) (tCons (tVar 3) tNil))) [.d (.int way), s1, s2, s3, .un] [s1, s2, s3] [.d (.int way), s1, s2, s3, .un] := es_cons (ev_varI rfl i1) (es_cons (ev_varI rfl i2) (es_cons (ev_varI rfl i3) es_nil))
  have a1 : Es (tCons (tVar 1) tNil) [.d (.int way), s1, s2, s3, .un] [s1] [.d (.int way), s1, s2, s3, .un] := es_cons (ev_varI rfl i1) es_nil
  have no : ∀ {ρ : List Sl} {m n : Int} {t u : TS} {K' : KK}, ρ[0]? = some (.d (.int m)) → m ≠ n → Sm u ρ K' → Sm (tIfS (tTest (tOp rEq (tVar 0) (tC (.int n)))) t u) ρ K' := fun {ρ m n t u K'} h0 ne hu =>
    sm_if (et_test (ev_op (ev_var h0) ev_int fv_eqI)) (fun h => absurd (of_decide_eq_true h) ne) fun _ => hu
  have ye : ∀ {ρ ρ' : List Sl} {m : Int} {t u : TS} {W : WX} {C : Addr} {s : Sl}, ρ[0]? = some (.d (.int m)) → Rs W t ρ C s ρ' → Rs W (tIfS (tTest (tOp rEq (tVar 0) (tC (.int m)))) t u) ρ C s ρ' := fun {ρ ρ' m t u W C s} h0 ht =>
    rs_if (et_test (ev_op (ev_var h0) ev_int fv_eqI)) (fun _ => ht) fun h => absurd rfl (of_decide_eq_false h)
  rcases h with ⟨w0, w1, ht, k⟩ | ⟨w0, w1, ht, e, k⟩ | ⟨rfl, ht, hto, is, r, rfl, e, k⟩
  · have tA : ∀ g, tAt C1 C2 g [s1, s2] (fun _ => False) fun C s => C = C1 ∧ s = s1 := fun g => ⟨s1, s2, d, x, rfl, i1, i2, o1, o2, (fun _ => ⟨rfl, rfl⟩), (fun z => by rw [ht] at z; cases z), fun z => by rw [ht] at z; cases z⟩
    have tC : tChanged C1 C2 [s1, s2, s3] (fun _ => False) fun C s => C = C1 ∧ s = s1 := ⟨s1, s2, s3, d, x, o, rfl, i1, i2, i3, o1, o2, o3, (fun _ => ⟨rfl, rfl⟩), (fun z => by rw [ht] at z; cases z), fun z => by rw [ht] at z; cases z⟩
    have tP : tParts C1 [s1] (fun _ => False) fun C s => C = C1 ∧ s = s1 := ⟨s1, d, rfl, i1, o1, (fun z => by rw [ht] at z; cases z), fun _ => ⟨rfl, rfl⟩⟩
    have tS : tSpots C1 [s1] (fun _ => False) fun C s => C = C1 ∧ s = s1 := ⟨s1, d, rfl, i1, o1, (fun z => by rw [ht] at z; cases z), fun _ => ⟨rfl, rfl⟩⟩
    refine sm_tryX (i := 4) (C := C1) (s := s1) (ρ' := [.d (.int way), s1, s2, s3, .un]) (fun W => ?_) (.here Z1.te) (by decide) (by decide) (fun a d => sm_retP (ev_pair (ev_found rfl)) k)
    obtain rfl | rfl | rfl | rfl | rfl : way = 0 ∨ way = 1 ∨ way = 2 ∨ way = 3 ∨ way = 4 := by omega
    · exact rs_seq1 (ye rfl (rs_ret (re_tup2 (re_call a2 rfl (tA _)))))
    · exact rs_seq (no rfl (by decide) (sm_next (rs_seq1 (ye rfl (rs_ret (re_tup2 (re_call a2 rfl (tA _))))))))
    · exact rs_seq (no rfl (by decide) (sm_next (rs_seq (no rfl (by decide) (sm_next (rs_seq1 (ye rfl (rs_ret (re_tup2 (re_call a3 rfl tC))))))))))
    · exact rs_seq (no rfl (by decide) (sm_next (rs_seq (no rfl (by decide) (sm_next (rs_seq (no rfl (by decide) (sm_next (rs_ret (re_tup2 (re_callV (ev_pick2 (v := .ref fP) (ev_op (ev_var rfl) ev_int fv_int) rfl) hP a1 rfl tP)))))))))))
    · exact rs_seq (no rfl (by decide) (sm_next (rs_seq (no rfl (by decide) (sm_next (rs_seq (no rfl (by decide) (sm_next (rs_ret (re_tup2 (re_callV (ev_pick2 (v := .ref fS) (ev_op (ev_var rfl) ev_int fv_int) rfl) hS a1 rfl tS)))))))))))
  · have tA : ∀ g, tAt C1 C2 g [s1, s2] (fun _ => False) fun C s => C = C2 ∧ s = s2 := fun g => ⟨s1, s2, d, x, rfl, i1, i2, o1, o2, (fun z => by rw [ht] at z; cases z), (fun _ _ => ⟨rfl, rfl⟩), fun _ is r z e' => by
      subst z
      rw [placeD_spot, e'] at e
      cases e⟩
    have tC : tChanged C1 C2 [s1, s2, s3] (fun _ => False) fun C s => C = C2 ∧ s = s2 := ⟨s1, s2, s3, d, x, o, rfl, i1, i2, i3, o1, o2, o3, (fun z => by rw [ht] at z; cases z), (fun _ _ => ⟨rfl, rfl⟩), fun _ is r z e' => by
      subst z
      rw [placeD_spot, e'] at e
      cases e⟩
    refine sm_tryX (i := 4) (C := C2) (s := s2) (ρ' := [.d (.int way), s1, s2, s3, .un]) (fun W => ?_) (.next n21 (.here Z2.te)) (by decide) (by decide) (fun a d => sm_retP (ev_pair (ev_found rfl)) k)
    obtain rfl | rfl | rfl : way = 0 ∨ way = 1 ∨ way = 2 := by omega
    · exact rs_seq1 (ye rfl (rs_ret (re_tup2 (re_call a2 rfl (tA _)))))
    · exact rs_seq (no rfl (by decide) (sm_next (rs_seq1 (ye rfl (rs_ret (re_tup2 (re_call a2 rfl (tA _))))))))
    · exact rs_seq (no rfl (by decide) (sm_next (rs_seq (no rfl (by decide) (sm_next (rs_seq1 (ye rfl (rs_ret (re_tup2 (re_call a3 rfl tC))))))))))
  · have tC : tChanged C1 C2 [s1, s2, s3] (fun _ => False) fun C s => C = C1 ∧ s = s3 := ⟨s1, s2, s3, d, _, o, rfl, i1, i2, i3, o1, o2, o3, (fun z => by rw [ht] at z; cases z), (fun _ z => by rw [placeD_spot, e] at z; cases z), fun _ is' r' _ _ => ⟨fun _ => ⟨rfl, rfl⟩, fun z => by rw [hto] at z; cases z⟩⟩
    refine sm_tryX (i := 4) (C := C1) (s := s3) (ρ' := [.d (.int 2), s1, s2, s3, .un]) (fun W => ?_) (.here Z1.te) (by decide) (by decide) (fun a d => sm_retP (ev_pair (ev_found rfl)) k)
    exact rs_seq (no rfl (by decide) (sm_next (rs_seq (no rfl (by decide) (sm_next (rs_seq1 (ye rfl (rs_ret (re_tup2 (re_call a3 rfl tC))))))))))
end
end KP
set_option Elab.async false
set_option linter.unusedVariables false
set_option maxRecDepth 100000
set_option maxHeartbeats 2000000
namespace OW
open PySem PySem.Spec PyProof.Rows L2 KA
/-! ### a list whose address is known: it is handed in, told back, and changed -/
def idMo (v : V) (x : PyData) : Mo := ⟨fun u W => u = v ∧ Dn W u x, fun S ⟨e, h⟩ => ⟨e, Dn.mono S h⟩⟩
theorem idMo_isd {v : V} {x : PyData} : Isd (.p (idMo v x)) x := .p _ _ fun W u h => h.2
section
variable {c : Fr} {A : Am} {ρ ρ' ρ1 ρ2 : List Sl} {σ : L2.St} {H H' : Hp} {te ta tb ti : TE} {s s' : Sl} {x y : PyData} {i j k m : Nat} {tr : TA} {xs ys : List PyData} {ss : List Sl} {K : KK} {a : Addr} {KF : PySem.W.Frag}
/-- the list is data for as long as it is lent -/
theorem Rp.lent (R : Rp c A ρ σ H) (h : ρ[i]? = some (.la a xs)) : ∃ Z : Addr → Prop, (∀ b, Z b → H b ≠ none) ∧ Same (vw c.Z A H) (hz Z H) ∧ Dn (hz Z H) (.ref a) (.list xs) ∧ ¬ Z a ∧
    (∀ (H' : Hp) b o, b ≠ a → hz Z H' b = some o → vw c.Z A H' b = some o) := by
  obtain ⟨vs, e, e1, e2, dx⟩ := R.sl i _ h
  have na : ¬ zz c.Z (aset A i none) a := by
    rintro (z | ⟨j, z⟩)
    · exact R.off _ _ e z
    · by_cases q : j = i
      · rw [q, aset_at] at z
        cases z
      · rw [aset_ne q] at z
        exact q (R.inj _ _ _ z e)
  have S : Same (vw c.Z A H) (hz (zz c.Z (aset A i none)) H) := by
    rw [hz_eq]
    exact vw_land
  refine ⟨zz c.Z (aset A i none), ?_, S, .lst (hz_mk na e2) (DnAll.mono S dx), na, fun H' b o nb z => ?_⟩
  · rintro b (z | ⟨j, z⟩)
    · rw [(R.keep b z).2]
      exact (R.keep b z).1
    · by_cases q : j = i
      · rw [q, aset_at] at z
        cases z
      · rw [aset_ne q] at z
        exact R.live _ _ z
  · rw [hz_eq] at z
    obtain ⟨h1, h2, h3⟩ := vw_some z
    refine vw_mk h1 (fun j w => ?_) h3
    by_cases q : j = i
    · rw [q, e] at w
      exact nb (Option.some.inj w).symm
    · exact h2 j (by rw [aset_ne q]; exact w)
theorem evp_lend4 {T : List Sl → (Rv → Prop) → Prop} {E : XK} {i1 i2 i3 i4 : Nat} {x1 x2 x4 : PyData} {P : Mo} (h1 : ρ[i1]? = some (.d x1)) (h2 : ρ[i2]? = some (.d x2)) (h3 : ρ[i3]? = some (.la a xs)) (h4 : ρ[i4]? = some (.d x4))
    (g : ∀ v2 v4, ∃ S : Mo, T [.d x1, .p (idMo v2 x2), .p (idMo (.ref a) (.list xs)), .p (idMo v4 x4)] (fun r => r = .p S) ∧ ∀ u (W W1 : Hp), (∀ b o, b ≠ a → W1 b = some o → W b = some o) → (∃ vs, W1 a = some (.lst vs)) → Dn W v2 x2 → Dn W v4 x4 → S.P u W1 → P.P u W) :
    Ev (tCall (spD 4 T) [] E (tCons (tVar i1) (tCons (tVar i2) (tCons (tVar i3) (tCons (tVar i4) tNil))))) ρ (.p P) ρ := fun c A σ H Q R f q => by
  obtain ⟨_, v1, e1, d1⟩ := R.sl _ _ h1
  obtain ⟨_, v2, e2, d2⟩ := R.sl _ _ h2
  obtain ⟨vs3, e3', e3, eH, d3⟩ := R.sl _ _ h3
  obtain ⟨_, v4, e4, d4⟩ := R.sl _ _ h4
  obtain ⟨Z, hZ, S0, da, na, back⟩ := R.lent h3
  obtain ⟨S, hT, conv⟩ := g v2 v4
  refine ⟨v1, e1, v2, e2, .ref a, e3, v4, e4, Z, _, _, hZ, ?_, rfl, hT, fun r v H' hr SS o => ?_⟩
  · exact ⟨Dn.mono S0 d1, ⟨rfl, Dn.mono S0 d2⟩, ⟨rfl, da⟩, ⟨rfl, Dn.mono S0 d4⟩, trivial⟩
  · subst hr
    have o : S.P v (hz Z H') := o
    have up : Same (vw c.Z A H) (vw c.Z A H') := vw_up SS
    exact q v A H' (R.up SS) f up (conv v _ _ (back H') ⟨vs3, hz_mk na (SS _ _ eH)⟩ (Dn.mono up d2) (Dn.mono up d4) o)
/-- such a list changes -/
theorem Rp.mutA (R : Rp c A ρ σ H) {vs : List V} (h : ρ[i]? = some (.la a ys)) (dx : DnAll (vw c.Z A H) vs xs) : Rp c A (ρ.set i (.la a xs)) σ (upd H a (.lst vs)) := by
  obtain ⟨vs', e, e2, e3, _⟩ := R.sl i _ h
  have hv : vw c.Z A (upd H a (.lst vs)) = vw c.Z A H := vw_mut e
  refine ⟨by rw [List.length_set, R.len], by rw [List.length_set]; exact R.sz, R.inj, R.off, ?_, ?_, ?_, R.bor, ?_⟩
  · intro j b z
    by_cases q : b = a
    · rw [q, upd_same]
      simp
    · rw [upd_ne q]
      exact R.live _ _ z
  · intro b z
    have nb : b ≠ a := fun q => R.off _ _ e (q ▸ z)
    rw [upd_ne nb]
    exact R.keep b z
  · rw [hv]
    exact R.old
  · intro j t z
    rw [hv]
    by_cases q : j = i
    · subst q
      have lt := (List.getElem?_eq_some_iff.mp h).1
      rw [List.getElem?_set_self lt] at z
      cases z
      exact ⟨vs, e, e2, upd_same, dx⟩
    · rw [List.getElem?_set_ne (Ne.symm q)] at z
      refine (R.sl j t z).mono (Same.refl _) fun b ws e' hb => ?_
      have nb : b ≠ a := fun eb => q (R.inj _ _ _ e' (eb ▸ e))
      rw [upd_ne nb]
      exact hb
theorem sm_appA {n : Int} (h0 : ρ[k]? = some (.la a xs)) (len : xs.length < sizeLine) (q : K.nx (ρ.set k (.la a (xs ++ [.int n])))) : Sm (tDrop (tBM KF "list" rAppend (tVar k) (tCons (tC (.int n)) tNil))) ρ K := fun c A σ H D R f dk => by
  obtain ⟨vs, e, e1, e2, dx⟩ := R.sl k _ h0
  exact ⟨_, e1, Or.inl ⟨rfl, vs, SqL.of e2⟩, a, vs, .int n, rfl, rfl, e2, by rw [dx.length]; exact len, dk.nx _ _ _ _ q (R.mutA h0 (dx.snoc (.int n))) f⟩
/-- a slot that is kept for a new list -/
theorem Rp.keepA (R : Rp c A ρ σ H) {vs : List V} (i0 : i ≠ 0) (hi : i < ρ.length) (e : A fl = some a) (ha : H a = some (.lst vs)) (dx : DnAll (vw c.Z A H) vs xs) : Rp c (aset (aset A i (some a)) fl none) (ρ.set i (.wa a xs)) σ H := by
  have B := R.setL i0 hi e ha dx
  have ne : i ≠ fl := by have := R.sz; omega
  refine ⟨by have := B.len; rw [List.length_set, List.length_set] at this; rw [List.length_set]; exact this, by have := B.sz; rw [List.length_set] at this ⊢; exact this, B.inj, B.off, B.live, B.keep, B.old, B.bor, fun j t z => ?_⟩
  by_cases q : j = i
  · subst q
    rw [List.getElem?_set_self hi] at z
    cases z
    obtain ⟨a', vs', e1, e2, e3, d⟩ := B.sl j (.l xs) (List.getElem?_set_self hi)
    rw [aset_ne ne, aset_at] at e1
    cases e1
    rw [ha] at e3
    cases e3
    exact ⟨vs, by rw [aset_ne ne, aset_at], ha, d⟩
  · rw [List.getElem?_set_ne (Ne.symm q)] at z
    have := B.sl j t (by rw [List.getElem?_set_ne (Ne.symm q)]; exact z)
    rw [List.getElem?_set_ne (Ne.symm q)] at this
    exact this
/-- it gets it -/
theorem Rp.fillA (R : Rp c A ρ σ H) (h : ρ[i]? = some (.wa a xs)) : Rp c A (ρ.set i (.la a xs)) (σ.set i (some (.ref a))) H := by
  obtain ⟨vs, e, e2, dx⟩ := R.sl i _ h
  have lt := (List.getElem?_eq_some_iff.mp h).1
  refine ⟨by rw [List.length_set, List.length_set, R.len], by rw [List.length_set]; exact R.sz, R.inj, R.off, R.live, R.keep, R.old, R.bor, fun j t z => ?_⟩
  by_cases q : j = i
  · subst q
    rw [List.getElem?_set_self lt] at z
    cases z
    rw [List.getElem?_set_self (by rw [R.len]; exact lt)]
    exact ⟨vs, e, rfl, e2, dx⟩
  · rw [List.getElem?_set_ne (Ne.symm q)] at z ⊢
    exact R.sl j t z
/-- a display with a new list at place k, for which slot i is kept -/
def Ew (ta : TA) (ρ : List Sl) (i k m : Nat) (xs : List PyData) : Prop := ∀ (c : Fr) (A : Am) (σ : L2.St) (H : Hp) (Q : List V → Hp → Prop), Rp c A ρ σ H → A fl = none →
  (∀ a vs A' H', Rp c A' (ρ.set i (.wa a xs)) σ H' → A' fl = none → vs.length = m → vs[k]? = some (.ref a) → Q vs H') → ta σ H Q
theorem ew_skip (h : Ev te ρ (.d x) ρ) (g : Ew tr ρ i k m xs) : Ew (tCons te tr) ρ i (k + 1) (m + 1) xs := fun c A σ H Q R f q =>
  h c A σ H _ R f fun v A1 H1 R1 f1 _ _ => g c A1 σ H1 _ R1 f1 fun a vs A2 H2 R2 f2 l e => q a (v :: vs) A2 H2 R2 f2 (by rw [List.length_cons, l]) e
theorem ew_here (h : El te ρ xs ρ) (g : ∀ a, Eds tr (ρ.set i (.wa a xs)) ys (ρ.set i (.wa a xs))) (i0 : i ≠ 0 := by decide) (hi : i < ρ.length := by simp [uns]) : Ew (tCons te tr) ρ i 0 (ys.length + 1) xs := fun c A σ H Q R f q =>
  h c A σ H _ R f fun a vs A1 H1 R1 f1 _ e dx => g a c _ σ H1 _ (R1.keepA i0 hi f1 e dx) aset_at fun us A2 H2 R2 f2 _ du => q a _ A2 H2 R2 f2 (by rw [List.length_cons, du.length]) rfl
def lstMo (m k : Nat) (a : Addr) : Mo := ⟨fun u W => ∃ b vs, u = .ref b ∧ W b = some (.lst vs) ∧ vs.length = m ∧ vs[k]? = some (.ref a), fun S ⟨b, vs, e, h, r⟩ => ⟨b, vs, e, S _ _ h, r⟩⟩
theorem sm_lstA (h : Ew tr ρ i k m xs) (len : m ≤ sizeLine) (q : ∀ a, K.nx ((ρ.set i (.wa a xs)).set j (.p (lstMo m k a)))) (j0 : j ≠ 0 := by decide) (j1 : j ≠ fl := by decide) : Sm (tAsg (tLst tr) (gName j)) ρ K := fun c A σ H D R f dk =>
  h c A σ H _ R f fun a vs A1 H1 R1 f1 l e => ⟨by rw [l]; exact len, fun b hb => by
    have R2 := R1.up (Same.new (o := .lst vs) hb)
    exact dk.nx _ _ _ _ (q a) (R2.set (v := .ref b) j0 ⟨rfl, _, rfl, b, vs, rfl, new_view R1 hb upd_same, l, e⟩) (by rw [aset_ne j1.symm]; exact f1)⟩
/-- it is picked of that display and one more -/
theorem sm_pickA {z : Int} (h5 : ρ[j]? = some (.p (lstMo m k a))) (he : El te ρ ys ρ) (hi : Ev ti ρ (.d (.int z)) ρ1) (h6 : ρ1[i]? = some (.wa a xs)) (ez : z = (k : Int)) (len : m + ys.length ≤ sizeLine) (q : K.nx (ρ1.set i (.la a xs))) :
    Sm (tAsg (tOp (rIxL KF) (tOp rCat (tVar j) te) ti) (gName i)) ρ K := fun c A σ H D R f dk => by
  obtain ⟨_, u, e, b, vs, eu, eb, l, ek⟩ := R.sl j _ h5
  subst eu
  refine ⟨_, e, he c A σ H _ R f fun b2 us A1 H1 R1 f1 S1 e1 du => ?_⟩
  refine ⟨b, b2, vs, us, rfl, rfl, vw_sub _ _ (S1 _ _ eb), e1, by rw [l, du.length]; exact len, fun p hp => ?_⟩
  have R2 := R1.land.up (Same.new (o := .lst (vs ++ us)) hp)
  refine hi c _ σ _ _ R2 aset_at fun w A3 H3 R3 f3 S3 o3 => ?_
  obtain rfl := int_v o3
  have ep : H3 p = some (.lst (vs ++ us)) := vw_sub _ _ (S3 _ _ (new_view R1.land hp upd_same))
  have lt : k < vs.length := (List.getElem?_eq_some_iff.mp ek).1
  have at' : (vs ++ us)[k]? = some (.ref a) := by rw [List.getElem?_append_left lt]; exact ek
  refine ⟨p, _, z, .ref a, rfl, rfl, SqL.of ep, ?_, dk.nx _ _ _ _ q (R3.fillA h6) f3⟩
  subst ez
  exact at_of rfl at'
/-! what is only looked at -/
def Pr (te : TE) (σ : L2.St) (H : Hp) (s : Sl) : Prop := ∀ H1, Same H H1 → ∀ Q : VK, (∀ v H2, Same H1 H2 → ArOk H2 v s → Q v H2) → te σ H1 Q
def Prs (ta : TA) (σ : L2.St) (H : Hp) (ss : List Sl) : Prop := ∀ H1, Same H H1 → ∀ Q : List V → Hp → Prop, (∀ vs H2, Same H1 H2 → ArAll H2 vs ss → Q vs H2) → ta σ H1 Q
theorem pr_var {v : V} (e : σ[i]? = some (some v)) (h : ArOk H v s) : Pr (tVar i) σ H s := fun H1 S Q q => ⟨v, e, q v H1 (Same.refl _) (h.mono S)⟩
theorem pr_c {v : V} (h : ∀ W, ArOk W v s) : Pr (tC v) σ H s := fun H1 S Q q => q v H1 (Same.refl _) (h _)
theorem prs_nil : Prs tNil σ H [] := fun H1 S Q q => q [] H1 (Same.refl _) trivial
theorem prs_cons (h : Pr te σ H s) (g : Prs tr σ H ss) : Prs (tCons te tr) σ H (s :: ss) := fun H1 S Q q => h H1 S _ fun v H2 S2 o => g H2 (S.trans S2) _ fun vs H3 S3 os => q _ H3 (S2.trans S3) ⟨o.mono S3, os⟩
theorem pr_fn {r : List V → Hp → VK → Prop} (h : Prs tr σ H ss) (g : FV r ss s) : Pr (tCB r tr) σ H s := fun H1 S Q q => h H1 S _ fun vs H2 S2 os => g H2 H2 vs Q (Same.refl _) os fun u H3 S3 o => q u H3 (S2.trans S3) (o H3 S3 fun _ _ _ e => e)
theorem pr_op {r : R2} {t : Sl} (h : Pr ta σ H s) (h' : Pr tb σ H s') (g : FV2 r s s' t) : Pr (tOp r ta tb) σ H t := fun H1 S Q q => h H1 S _ fun v H2 S2 o => h' H2 (S.trans S2) _ fun w H3 S3 o' => g H3 H3 v w Q (Same.refl _) (o.mono S3) o' fun u H4 S4 o2 => q u H4 ((S2.trans S3).trans S4) (o2 H4 S4 fun _ _ _ e => e)
theorem pr_pair {z : Str} (h : Pr te σ H (.d x)) : Pr (tTup (tCons (tC (.str z)) (tCons te tNil))) σ H (.d (.tuple [.str z, x])) := fun H1 S Q q => h H1 S _ fun v H2 S2 o => ⟨(by show 2 ≤ sizeLine; rw [sizeLine_eq]; decide), fun b hb => q _ _ (S2.trans (Same.new hb)) (.tup upd_same (.cons (.str _) (.one (Dn.mono (Same.new hb) o))))⟩
theorem et_pr {b : Bool} (h : ∀ (c : Fr) (A : Am) (σ : L2.St) (H : Hp), Rp c A ρ σ H → Pr te σ H (.d (.bool b))) : Et (tTest te) ρ b ρ := fun c A σ H Q R f q =>
  h c A σ H R H (Same.refl _) _ fun v H2 S o => ⟨b, bool_v o, q A H2 (R.up S) f (vw_up S)⟩
theorem et_prB {b : Bool} (h : ∀ (c : Fr) (A : Am) (σ : L2.St) (H : Hp), Rp c A ρ σ H → Pr te σ H (.d (.bool b))) : Et (tB te) ρ b ρ := fun c A σ H Q R f q =>
  h c A σ H R H (Same.refl _) _ fun v H2 S o => ⟨b, bool_v o, q A H2 (R.up S) f (vw_up S)⟩
/-- how such a list stands in the whole heap -/
theorem Rp.fullA (R : Rp c A ρ σ H) (h : ρ[i]? = some (.la a xs)) : σ[i]? = some (some (.ref a)) ∧ Dn H (.ref a) (.list xs) := by
  obtain ⟨vs, e, e1, e2, dx⟩ := R.sl i _ h
  exact ⟨e1, .lst e2 (DnAll.mono vw_sub dx)⟩
end
end OW
set_option Elab.async false
set_option linter.unusedVariables false
set_option maxRecDepth 100000
set_option maxHeartbeats 2000000
namespace KP
open PySem PySem.Spec PyProof.Rows L2 KA OW
/-! ### facts of the data that the law holds -/
mutual
theorem nodes2_wt : ∀ d : PyData, 2 * nodes d ≤ wt d
  | .none => by simp [nodes, wt]
  | .bool b => by simp [nodes, wt]
  | .int i => by simp [nodes, wt]
  | .str x => by simp [nodes, wt]
  | .list ds => by simp only [nodes, wt]; omega
  | .dict kvs => by simp only [nodes, wt]; omega
  | .tuple ds => by
    have := nodes2All_wt ds
    simp only [nodes, wt]
    omega
theorem nodes2All_wt : ∀ ds : List PyData, 2 * nodesAll ds ≤ wtAll ds
  | [] => by simp [nodesAll, wtAll]
  | d :: ds => by
    have h1 := nodes2_wt d
    have h2 := nodes2All_wt ds
    simp only [nodesAll, wtAll]
    omega
end
theorem ok2_of {a b : Nat} {d : PyData} (h : Bd a b d) (hb : b ≤ 2000000) : okT d := ⟨h.1, by have := nodes2_wt d; have := h.2.2; omega⟩
theorem parts_le {wd : Str} {n : Nat} (h : parts wd = some n) : n ≤ 3 := by
  unfold parts at h
  repeat' split at h
  all_goals first | (cases h; decide) | cases h
theorem partsD_le {d : PyData} (t : tm d = true) : (partsD d).length ≤ 3 := by
  obtain ⟨wd, ds, rfl⟩ := tm_shape t
  show (if (parts wd).isSome = true then ds else []).length ≤ 3
  cases hp : parts wd with
  | none => exact Nat.zero_le _
  | some n =>
    rw [tm_parts hp, Bool.and_eq_true] at t
    have l : ds.length = n := of_decide_eq_true t.1
    have := parts_le hp
    show ds.length ≤ 3
    omega
theorem reach_facts : ∀ {q : List Nat} {d : PyData} {n : Int} {r : PyData × Int}, tm d = true → reachD d q n = some r → tm r.1 = true ∧ q.length + r.1.depth ≤ d.depth ∧ (∀ i ∈ q, i < 3) ∧ nodes r.1 ≤ nodes d ∧ ∃ r2, reachD d q 0 = some r2 ∧ r2.1 = r.1
  | [], d, n, r, t, h => by
    cases h
    exact ⟨t, by simp, (fun i hi => absurd hi List.not_mem_nil), Nat.le_refl _, _, rfl, rfl⟩
  | i :: q, d, n, r, t, h => by
    have h : (match (partsD d)[i]? with | some e => reachD e q (n + passD (wdD d) (i : Int)) | none => none) = some r := h
    show _ ∧ _ ∧ _ ∧ _ ∧ ∃ r2, (match (partsD d)[i]? with | some e => reachD e q (0 + passD (wdD d) (i : Int)) | none => none) = some r2 ∧ _
    cases e : (partsD d)[i]? with
    | none =>
      rw [e] at h
      cases h
    | some f =>
      rw [e] at h
      have m := List.mem_of_getElem? e
      have te := tmAll_mem (parts_tm t) m
      obtain ⟨a, b, c, n1, _⟩ := reach_facts te h
      have dp := parts_depth m t
      have il := (List.getElem?_eq_some_iff.mp e).1
      have := partsD_le t
      have nn := mem_nodes m
      have pn := parts_nodes t
      refine ⟨a, by rw [List.length_cons]; omega, fun j hj => ?_, by omega, ?_⟩
      · rcases List.mem_cons.mp hj with rfl | hj
        · omega
        · exact c j hj
      · have ex : ∀ (q : List Nat) (f : PyData) (n m : Int) (r : PyData × Int), reachD f q n = some r → ∃ r2, reachD f q m = some r2 ∧ r2.1 = r.1 := by
          intro q
          induction q with
          | nil =>
            intro f n m r h
            cases h
            exact ⟨_, rfl, rfl⟩
          | cons j q ih =>
            intro f n m r h
            have h : (match (partsD f)[j]? with | some e => reachD e q (n + passD (wdD f) (j : Int)) | none => none) = some r := h
            show ∃ r2, (match (partsD f)[j]? with | some e => reachD e q (m + passD (wdD f) (j : Int)) | none => none) = some r2 ∧ _
            cases e : (partsD f)[j]? with
            | none =>
              rw [e] at h
              cases h
            | some g =>
              rw [e] at h
              exact ih g _ _ _ h
        exact ex q f _ _ r h
theorem reach_snoc : ∀ {q : List Nat} {d : PyData} {n : Int} {r : PyData × Int} {i : Nat}, reachD d q n = some r → (partsD r.1)[i]? = none → reachD d (q ++ [i]) n = none
  | [], d, n, r, i, h, e => by
    cases h
    show (match (partsD d)[i]? with | some e => reachD e [] (n + passD (wdD d) (i : Int)) | none => none) = none
    rw [e]
  | j :: q, d, n, r, i, h, e => by
    have h : (match (partsD d)[j]? with | some e => reachD e q (n + passD (wdD d) (j : Int)) | none => none) = some r := h
    show (match (partsD d)[j]? with | some e => reachD e (q ++ [i]) (n + passD (wdD d) (j : Int)) | none => none) = none
    cases z : (partsD d)[j]? with
    | none => rfl
    | some f =>
      rw [z] at h
      exact reach_snoc (d := f) h e
/-- an item of the law's walk -/
def Wk (d : PyData) (p : List Nat) (u : Int) (x : PyData) : Prop := ∃ q e m, x = .tuple [spotT (p ++ q), e, .int m] ∧ reachD d q u = some (e, m)
mutual
theorem walk_mem : ∀ (d : PyData) (p : List Nat) (u : Int) (x : PyData), tm d = true → x ∈ walkF d p u → Wk d p u x
  | .tuple (d :: ds), p, u, x, t, h => by
    rw [walkF_eq t] at h
    rcases List.mem_cons.mp h with rfl | h
    · exact ⟨[], _, _, by rw [List.append_nil], rfl⟩
    · obtain ⟨wd, es, e⟩ := tm_shape t
      cases e
      have h : x ∈ walkFL (if (parts wd).isSome = true then ds else []) wd p u 0 := h
      have tp := parts_tm t
      have e1 : partsD (.tuple (.str wd :: ds)) = if (parts wd).isSome = true then ds else [] := rfl
      by_cases hp : (parts wd).isSome = true
      · rw [if_pos hp] at h e1
        rw [e1] at tp
        obtain ⟨j, f, q, e, m, ej, rfl, r⟩ := walkL_mem ds wd p u 0 x tp h
        refine ⟨j :: q, e, m, by rw [Nat.zero_add, List.append_assoc]; rfl, ?_⟩
        show (match (partsD (.tuple (.str wd :: ds)))[j]? with | some e => reachD e q (u + passD wd (j : Int)) | none => none) = _
        rw [e1, ej]
        rw [Nat.zero_add] at r
        exact r
      · rw [if_neg hp] at h
        cases h
  | .tuple [], p, u, x, t, h => by cases t
  | .none, p, u, x, t, h => by cases t
  | .bool _, p, u, x, t, h => by cases t
  | .int _, p, u, x, t, h => by cases t
  | .str _, p, u, x, t, h => by cases t
  | .list _, p, u, x, t, h => by cases t
  | .dict _, p, u, x, t, h => by cases t
theorem walkL_mem : ∀ (ds : List PyData) (w : Str) (p : List Nat) (u : Int) (i : Nat) (x : PyData), tmAll ds = true → x ∈ walkFL ds w p u i → ∃ j f q e m, ds[j]? = some f ∧ x = .tuple [spotT (p ++ [i + j] ++ q), e, .int m] ∧ reachD f q (u + passD w ((i + j : Nat) : Int)) = some (e, m)
  | [], _, _, _, _, _, _, h => by cases h
  | d :: ds, w, p, u, i, x, t, h => by
    have t : tm d = true ∧ tmAll ds = true := by simpa only [tmAll, Bool.and_eq_true] using t
    have h : x ∈ walkF d (p ++ [i]) (u + passD w (i : Int)) ++ walkFL ds w p u (i + 1) := h
    rcases List.mem_append.mp h with h | h
    · obtain ⟨q, e, m, rfl, r⟩ := walk_mem d _ _ x t.1 h
      exact ⟨0, d, q, e, m, rfl, by rw [Nat.add_zero], r⟩
    · obtain ⟨j, f, q, e, m, ej, rfl, r⟩ := walkL_mem ds w p u (i + 1) x t.2 h
      exact ⟨j + 1, f, q, e, m, ej, by rw [show i + 1 + j = i + (j + 1) by omega], by rw [show i + 1 + j = i + (j + 1) by omega] at r; exact r⟩
end
/-- the last one has no parts -/
def Lk (d : PyData) (p : List Nat) (u : Int) (x : PyData) : Prop := ∃ q e m, x = .tuple [spotT (p ++ q), e, .int m] ∧ reachD d q u = some (e, m) ∧ partsD e = []
theorem walk_last : ∀ (n : Nat) (d : PyData) (p : List Nat) (u : Int), tm d = true → d.depth ≤ n → ∃ xs x, walkF d p u = xs ++ [x] ∧ Lk d p u x
  | 0, d, p, u, t, h => by
    obtain ⟨wd, ds, rfl⟩ := tm_shape t
    simp only [PyData.depth] at h
    omega
  | n + 1, d, p, u, t, h => by
    rw [walkF_eq t]
    have tp := parts_tm t
    have dp : ∀ e ∈ partsD d, e.depth ≤ n := fun e he => by
      have := parts_depth he t
      omega
    rcases List.eq_nil_or_concat (partsD d) with e | ⟨ds, f, e⟩
    · rw [e]
      exact ⟨[], _, rfl, [], d, u, by rw [List.append_nil], rfl, e⟩
    · have e : partsD d = ds ++ [f] := by rw [e, List.concat_eq_append]
      have mf : f ∈ partsD d := by rw [e]; exact List.mem_append_right _ List.mem_cons_self
      have ef : (partsD d)[ds.length]? = some f := by rw [e, List.getElem?_append_right (Nat.le_refl _), Nat.sub_self]; rfl
      have sn := walkFL_snoc (w := wdD d) (p := p) (u := u) (i := 0) ef
      have tk : (partsD d).take (ds.length + 1) = partsD d := List.take_of_length_le (by rw [e, List.length_append, List.length_singleton]; exact Nat.le_refl _)
      rw [tk] at sn
      obtain ⟨xs, x, ex, q, g, m, rfl, r, pg⟩ := walk_last n f (p ++ [0 + ds.length]) (u + passD (wdD d) ((0 + ds.length : Nat) : Int)) (tmAll_mem tp mf) (dp f mf)
      refine ⟨.tuple [spotT p, d, .int u] :: (walkFL ((partsD d).take ds.length) (wdD d) p u 0 ++ xs), .tuple [spotT (p ++ ds.length :: q), g, .int m], ?_, ds.length :: q, g, m, rfl, ?_, pg⟩
      · rw [sn, ex, Nat.zero_add, List.append_assoc p]
        simp
      show (match (partsD d)[ds.length]? with | some e => reachD e q (u + passD (wdD d) (ds.length : Int)) | none => none) = _
      rw [ef]
      rw [Nat.zero_add] at r
      exact r
theorem bd_all {a c : Nat} : ∀ {ds : List PyData}, (∀ d ∈ ds, Bd a c d) → BdAll a (ds.length * (c + 2)) ds
  | [], _ => BdAll.nil
  | d :: ds, h => (BdAll.cons (h d List.mem_cons_self) (bd_all fun e he => h e (List.mem_cons_of_mem _ he))).mono (Nat.le_refl _) (by rw [List.length_cons, Nat.succ_mul]; omega)
theorem spot_bd {q : List Nat} {n : Nat} (l : q.length ≤ n) (h : ∀ i ∈ q, i < 3) : BdAll 0 (n * 42) (q.map fun i : Nat => PyData.int (i : Int)) := by
  have := bd_all (a := 0) (c := 40) (ds := q.map fun i : Nat => PyData.int (i : Int)) fun d hd => by
    obtain ⟨i, hi, rfl⟩ := List.mem_map.mp hd
    have := h i hi
    exact Bd.int (by constructor <;> omega)
  rw [List.length_map] at this
  exact this.mono (Nat.le_refl _) (Nat.mul_le_mul_right 42 l)
end KP
set_option Elab.async false
set_option linter.unusedVariables false
set_option maxRecDepth 100000
set_option maxHeartbeats 4000000
namespace KA
open PySem PySem.Spec PyProof.Rows L2
/-- a call of a def that is promised where nothing is being shown -/
theorem pe_callG {X : Cx} {k : Nat} {f : Addr} {fd : FuncData} {ps : List Str} {sp : Sp} {x : Str} {p pos : Pos} {e : Expr} {es : List Expr} {t : TA} (F : FnG X.prog X.w X.K X.mg X.base CX0 k f fd ps sp) (quiet : X.A.guards = some []) (room : Room k X.A) (glob : Gl X x) (is : X.mg x = some (.ref f))
    (kept : PySem.W.keepIn X.K (.ref f) = true) (bind : Binds X.K fd ps []) (args : PA X (e :: es) t) (nd : (x == ("__debug__" : Str)) = false := by decide) (st : starEach (e :: es) X.env = (false, eval e X.env) :: starEach es X.env := by rfl) (plain : (backTo pos (starEach es X.env)).any (·.1) = false := by rfl) :
    PE X (.Call (.Name x p) (e :: es) [] pos) (tCall sp [] C8.E0 t) := by
  refine ⟨fun pins s σ H Q I want => ?_⟩
  refine wpAny_Call_Name_kw (ld_glob I glob is ?_ nd)
  refine PySem.W.callWith_K (h₀ := X.base) I.ok.mod.kin kept (thn (args.run pos pins s σ H _ I want) ?_) st plain
  rintro us t1 ⟨vs, G, J, rv, q⟩
  rw [List.append_nil] at q
  have many : us.length = ps.length := by rw [← rv.length]; exact F.len _ _ _ _ q
  have bt := bind t1 us J.kIn (by rw [List.append_nil]; exact many)
  rw [List.append_nil] at bt
  refine ⟨J.kIn, wpAny_call (codeAny_mono (F.run X.A X.stack t1 G ⟨us, []⟩ us vs Q _ quiet room J.env0 bt rv q) fun r t2 z => ?_)⟩
  cases r with
  | error er => exact False.elim z
  | ok fl =>
    cases fl with
    | ret u => exact J.after z
    | next => exact False.elim z
    | brk => exact False.elim z
    | cont => exact False.elim z
end KA
namespace OW
open PySem PySem.Spec PyProof.Rows L2 KA
section
variable {P : Program} {w : World} {K : PySem.W.Frag} {mg : Str → Option Value} {base : Heap}
theorem fn_bG {x qual : Str} {st : Stmt} {f : Addr} {fd : FuncData} {N ps : List Str} {k n : Nat} {T : List PyData → List Sl → (Rv → List PyData → Prop) → Prop} (F : Fun K x qual st f fd) (S : FnScope N ps (defScope st)) (hn : ps.length = n + 1 := by rfl) (hN : n + 1 + N.length < fl := by decide)
    (body : ∀ (cdv : Value) (A : Around) (outer : List Env) (s : Shared) (H : Hp) (E : XK), A.guards = some [] → Room k (A.deeper (envOfC qual (defScope st) s.heap.objs.size f cdv)) →
      ∃ t, PSs (cxOf CX0 P w K mg base N qual (defScope st) f cdv A outer s H E) (defBody st) t ∧ ∀ ct as Kr, as.length = n → T ct as Kr →
        Sm t (.l ct :: (as ++ uns (N.length - (n + 1)))) { nx := fun ρ => ∃ c', ρ[0]? = some (.l c') ∧ Kr (.d .none) c', rt := fun r ρ => ∃ c', ρ[0]? = some (.l c') ∧ Kr r c' }) :
    FnG P w K mg base CX0 (k + 1) f fd ps (spB n T) := by
  refine fnG F S (fun vs H Q E h => ?_) (fun cdv A outer s H vs Q E g hr h => ?_)
  · obtain ⟨Z, p, cs, ct, ws, as, Kr, rfl, hp, hZ, ep, dc, ha, hl, _⟩ := h
    rw [List.length_cons, ha.length, hl, hn]
  · obtain ⟨Z, p, cs, ct, ws, as, Kr, rfl, hp, hZ, ep, dc, ha, hl, hT, go⟩ := h
    obtain ⟨t, ht, hb⟩ := body cdv A outer s H E g hr
    refine ⟨t, ht, hb ct as Kr hl hT ⟨fun a => Z a ∧ a ≠ p, some p, H, hz Z H⟩ _ _ H _ (rp_startB hN hp hZ ep dc ha hl) rfl ?_⟩
    have fin : ∀ {A' : Am} {ρ' : List Sl} {σ' : L2.St} {H' : Hp} {c' : List PyData} {r : Rv} {v : V}, Rp ⟨fun a => Z a ∧ a ≠ p, some p, H, hz Z H⟩ A' ρ' σ' H' → ρ'[0]? = some (.l c') → Kr r c' → RvAt ⟨fun a => Z a ∧ a ≠ p, some p, H, hz Z H⟩ A' H' v r → Q v H' := by
      intro A' ρ' σ' H' c' r v R h0 hk o
      obtain ⟨a, cs', e1, e2, e3, dc'⟩ := R.sl 0 _ h0
      have := R.bor p rfl
      rw [e1] at this
      cases this
      have up : Same (vw (fun b => Z b ∧ b ≠ p) A' H') (hz Z H') := fun b u e => by
        obtain ⟨h1, h2, h3⟩ := vw_some e
        refine hz_mk (fun z => h1 ⟨z, fun q => h2 0 (by rw [q]; exact e1)⟩) h3
      refine go r c' cs' v H' hk e3 (DnAll.mono up dc') (fun b z n => (R.keep b ⟨z, n⟩).2) (fun b u e => up _ _ (R.old _ _ e)) ?_
      refine rv_out (fun b u e nz _ => R.old _ _ (hz_mk nz e)) (fun b z => ?_) R.inj R.off R.bor o
      by_cases q : b = p
      · exact Or.inr ⟨0, by decide, by rw [q]; exact e1⟩
      · exact Or.inl ⟨z, q⟩
    refine ⟨fun ρ' A' σ' H' hk R f => ?_, fun r ρ' v A' σ' H' hk R o => ?_, fun _ _ _ _ h => h.elim, fun _ _ _ _ h => h.elim⟩
    · obtain ⟨c', h0, hk⟩ := hk
      exact fin R h0 hk ⟨f, .non⟩
    · obtain ⟨c', h0, hk⟩ := hk
      exact fin R h0 hk o
end
section
variable {ρ ρ' : List Sl} {te ta tb : TE} {x : PyData} {σ : L2.St} {H : Hp} {a b : Nat}
theorem ev_negC {n : Int} : Ev (tUn (rU fun i => .int (-i)) (tC (.int n))) ρ (.d (.int (-n))) ρ := fun c A σ H Q R f q => ⟨n, rfl, q _ A H R f (Same.refl _) (.int _)⟩
theorem ev_dic0 : Ev tDNewK ρ (.d (.dict [])) ρ := fun c A σ H Q R f q => fun b hb =>
  q _ A _ (R.up (Same.new hb)) f (vw_up (Same.new hb)) (.dic (new_view R hb upd_same) .nil .nil)
theorem shown_fits (B : KP.Bd a b x) (ha : a ≤ 100) (hb : b ≤ 16000000) : x.showable = true ∧ x.shown.length ≤ sizeLine ∧ x.depth ≤ 100 := by
  have sh := KP.shown_le _ B.1
  exact ⟨sh.2, by rw [sizeLine_eq]; have := B.2.2; have := sh.1; omega, Nat.le_trans B.2.1 ha⟩
theorem et_reprNe (ha : Ev ta ρ (.d x) ρ') (hb : Ev tb ρ' (.d x) ρ') (B : KP.Bd a b x) (la : a ≤ 100) (lb : b ≤ 16000000) : Et (tTest (tOp rNe (tCB rRepr (tCons ta tNil)) (tCB rRepr (tCons tb tNil)))) ρ false ρ' := by
  obtain ⟨h1, h2, h3⟩ := shown_fits B la lb
  exact (et_test (ev_op (ev_fn (es_cons ha es_nil) (fv_repr h1 h2 h3)) (ev_fn (es_cons hb es_nil) (fv_repr h1 h2 h3)) fv_neS)).is (by simp)
theorem ev_reprEq (ha : Ev ta ρ (.d x) ρ') (hb : Ev tb ρ' (.d x) ρ') (B : KP.Bd a b x) (la : a ≤ 100) (lb : b ≤ 16000000) : Ev (tOp rEq (tCB rRepr (tCons ta tNil)) (tCB rRepr (tCons tb tNil))) ρ (.d (.bool true)) ρ' := by
  obtain ⟨h1, h2, h3⟩ := shown_fits B la lb
  exact (ev_op (ev_fn (es_cons ha es_nil) (fv_repr h1 h2 h3)) (ev_fn (es_cons hb es_nil) (fv_repr h1 h2 h3)) fv_eqS).is (by simp)
theorem pr_reprNe (ha : Pr ta σ H (.d x)) (hb : Pr tb σ H (.d x)) (B : KP.Bd a b x) (la : a ≤ 100) (lb : b ≤ 16000000) : Pr (tOp rNe (tCB rRepr (tCons ta tNil)) (tCB rRepr (tCons tb tNil))) σ H (.d (.bool false)) := by
  obtain ⟨h1, h2, h3⟩ := shown_fits B la lb
  have := pr_op (pr_fn (prs_cons ha prs_nil) (fv_repr h1 h2 h3)) (pr_fn (prs_cons hb prs_nil) (fv_repr h1 h2 h3)) fv_neS
  have e : (!decide (x.shown = x.shown)) = false := by simp
  rw [e] at this
  exact this
end
end OW
namespace KP
open PySem PySem.Spec PyProof.Rows L2 KA OW
/-! ### what is asked wrongly -/
def bdB (a b : Nat) (d : PyData) : Bool := fine d && decide (d.depth ≤ a) && decide (wt d ≤ b)
theorem bdB_of {a b : Nat} {d : PyData} (h : bdB a b d = true) : Bd a b d := by
  unfold bdB at h
  simp only [Bool.and_eq_true, decide_eq_true_eq] at h
  exact ⟨h.1.1, h.1.2, h.2⟩
def noneA (d : PyData) : List PyData := [.none, .int 7, .list [d], .tuple [.str "at"], .tuple [], .str "at", .dict [], .tuple [.str "kind", .int 6], .tuple [.str "at", .bool true], .tuple [.str "app", .tuple [.str "kind", .int 6], .tuple [.str "at", .int 0]]]
def noneB : List PyData := [.tuple [.str "fun", .tuple [.str "at", .int 0], .tuple [.str "at", .bool true]], .tuple [.str "put", .tuple [.str "at", .int 0], .tuple [], .tuple [.str "at", .int 0]]]
theorem none_ok {d : PyData} (B : Bd 58 1100000 d) : ∀ x ∈ noneA d ++ noneB, tm x = false ∧ Bd 60 1100300 x := fun x h => by
  have other : ∀ y : PyData, tm y = false → bdB 60 1100300 y = true → tm y = false ∧ Bd 60 1100300 y := fun y a b => ⟨a, bdB_of b⟩
  simp only [noneA, noneB, List.cons_append, List.nil_append, List.mem_cons, List.not_mem_nil, or_false] at h
  rcases h with rfl | rfl | rfl | rfl | rfl | rfl | rfl | rfl | rfl | rfl | rfl | rfl
  rotate_left 2
  · exact ⟨rfl, ((Bd.lst (BdAll.one B)).mono (by decide) (by decide))⟩
  all_goals exact other _ (by decide +kernel) (by decide +kernel)
def oddA (qi qli : List PyData) : List PyData := [.tuple (qi ++ [.int 3]), .tuple (qli ++ [.int 0]), .tuple (qi ++ [.int (-1)]), .tuple (qi ++ [.bool true]), .list qi, .none, .int 0, .str "", .tuple (qi ++ [.tuple []]), .tuple [.int (10 ^ (29 : Int).toNat)]]
theorem odd_list {qi qli : List PyData} {y x : PyData} {j : Nat} (hy : y = .tuple (qi ++ [.bool false])) (h : (oddA qi qli ++ [y])[j]? = some x) (j4 : j ≠ 4) : isLstD x = false := by
  subst hy
  match j, h with
  | 0, h | 1, h | 2, h | 3, h | 5, h | 6, h | 7, h | 8, h | 9, h | 10, h => cases h; rfl
  | 4, h => exact absurd rfl j4
  | j + 11, h => cases h
theorem odd_ok {d : PyData} {q ql : List Nat} {r rl : PyData × Int} (t : tm d = true) (B : Bd 58 1100000 d) (h : reachD d q 0 = some r) (hl : reachD d ql 0 = some rl) (pl : partsD rl.1 = []) {x : PyData}
    (hx : x ∈ oddA (q.map fun i : Nat => .int (i : Int)) (ql.map fun i : Nat => .int (i : Int)) ++ [.tuple ((q.map fun i : Nat => PyData.int (i : Int)) ++ [.bool false])]) : placeD d x = .none ∧ Bd 3 4000 x := by
  obtain ⟨tr, lq, sq, _, _⟩ := reach_facts t h
  obtain ⟨trl, lql, sql, _, _⟩ := reach_facts t hl
  have bq := spot_bd (n := 58) (by have := B.2.1; omega) sq
  have bql := spot_bd (n := 58) (by have := B.2.1; omega) sql
  have cat : ∀ {qi : List PyData} {y : PyData}, BdAll 0 (58 * 42) qi → bdB 1 300 y = true → Bd 3 4000 (.tuple (qi ++ [y])) := fun b c => (Bd.tup ((b.mono (Nat.zero_le 1) (Nat.le_refl _)).append (BdAll.one (bdB_of c)))).mono (by decide) (by decide)
  have bad : ∀ {y : PyData}, cntB 0 y = false → placeD d (.tuple ((q.map fun i : Nat => PyData.int (i : Int)) ++ [y])) = .none := fun {y} c => by
    have e : spotB (.tuple ((q.map fun i : Nat => PyData.int (i : Int)) ++ [y])) = false := by
      show List.all _ (cntB 0) = false
      rw [List.all_append]
      simp [c]
    unfold placeD
    rw [if_neg (by rw [e]; decide)]
  have sp : ∀ {p : List Nat}, reachD d p 0 = none → placeD d (spotT p) = .none := fun e => by rw [placeD_spot, e]
  simp only [oddA, List.cons_append, List.nil_append, List.mem_cons, List.not_mem_nil, or_false] at hx
  rcases hx with rfl | rfl | rfl | rfl | rfl | rfl | rfl | rfl | rfl | rfl | rfl
  · refine ⟨?_, cat bq (by decide +kernel)⟩
    have := sp (reach_snoc (i := 3) h (List.getElem?_eq_none (partsD_le tr)))
    unfold spotT at this
    rw [List.map_append] at this
    exact this
  · refine ⟨?_, cat bql (by decide +kernel)⟩
    have := sp (reach_snoc (i := 0) hl (by rw [pl]; rfl))
    unfold spotT at this
    rw [List.map_append] at this
    exact this
  · exact ⟨bad rfl, cat bq (by decide +kernel)⟩
  · exact ⟨bad rfl, cat bq (by decide +kernel)⟩
  · exact ⟨rfl, (Bd.lst bq).mono (by decide) (by decide)⟩
  · exact ⟨rfl, bdB_of (by decide +kernel)⟩
  · exact ⟨rfl, bdB_of (by decide +kernel)⟩
  · exact ⟨rfl, bdB_of (by decide +kernel)⟩
  · exact ⟨bad rfl, cat bq (by decide +kernel)⟩
  · refine ⟨?_, bdB_of (by decide +kernel)⟩
    have := sp (p := [10 ^ 29]) (by
      show (match (partsD d)[10 ^ 29]? with | some e => reachD e [] (0 + passD (wdD d) ((10 ^ 29 : Nat) : Int)) | none => none) = none
      rw [List.getElem?_eq_none (Nat.le_trans (partsD_le t) (by decide))])
    exact this
  · exact ⟨bad rfl, cat bq (by decide +kernel)⟩
end KP
set_option Elab.async false
set_option linter.unusedVariables false
set_option maxRecDepth 100000
set_option maxHeartbeats 8000000
namespace KP
open PySem PySem.Spec PyProof.Rows L2 KA OW
def tLRefused : List PyData → List Sl → (Rv → List PyData → Prop) → Prop := fun c as Kr => ∃ p n d, c = p.ds ∧ as = [.d d, .d (.list (walkF d [] 0))] ∧ tm d = true ∧ Bd 58 1100000 d ∧ PuOk p n ∧ n + 10 ≤ maxN ∧ Kr (.d (.bool true)) (takeF (takeF (takeF p ((walkF d [] 0).length : Int)).2 11).2 12).2.ds
theorem itemAt {xs : List PyData} {z : Int} (h0 : 0 ≤ z) (h1 : z < xs.length) : ∃ x, atI xs z = some x ∧ x ∈ xs ∧ xs[z.toNat]? = some x := by
  have lt : z.toNat < xs.length := by omega
  have e := List.getElem?_eq_getElem lt
  refine ⟨_, ?_, List.getElem_mem lt, e⟩
  have := at_nat e
  rw [Int.toNat_of_nonneg h0] at this
  exact this
theorem at_last {xs : List PyData} {x : PyData} : atI (xs ++ [x]) (-1) = some x := by
  have e : ixN (xs ++ [x]).length (-1) = some xs.length := by
    unfold ixN
    rw [List.length_append, List.length_singleton, if_neg (by decide), if_pos (by omega)]
    congr 1
    omega
  show (ixN (xs ++ [x]).length (-1)).bind _ = _
  rw [e]
  show (xs ++ [x])[xs.length]? = _
  rw [List.getElem?_append_right (Nat.le_refl _), Nat.sub_self]
  rfl
section
variable {P : Program} {w : World} {K : PySem.W.Frag} {mg : Str → Option Value} {base : Heap}
abbrev nLRefused : List Str := ["_law_purse_here", "_law_term_here", "_law_row", "_law_spot", "_law_last", "_law_odd", "_law_thing", "_law_none", "_law_way", "_law_found"]
abbrev psLRefused : List Str := ["_law_purse_here", "_law_term_here", "_law_row"]
theorem scLRefused : FnScope nLRefused psLRefused (defScope sLRefused) := ⟨rfl, rfl, rfl, by decide +kernel, rfl, by decide +kernel, by decide +kernel⟩
theorem ok_lrefused {f : Addr} {fd : FuncData} (F : Fun K "_law_refused_right" "_law_refused_right" sLRefused f fd) (T : Txt K w mg) (C_law_take : C8.Cal P w K mg base 1 "_law_take" (spB 1 tTake) []) (C_law_asked : C8.Cal P w K mg base 8 "_law_asked" (spD 4 tLAsked) []) :
    FnG P w K mg base CX0 10 f fd psLRefused (spB 2 tLRefused) := by
  refine fn_bG F scLRefused (body := fun cdv A outer s H E g hr => ?_)
  have hu : (A.deeper (envOfC "_law_refused_right" (defScope sLRefused) s.heap.objs.size f cdv)).units + 200 < cLine := by have := hr.un; omega
  have hg : (cxOf CX0 P w K mg base nLRefused "_law_refused_right" (defScope sLRefused) f cdv A outer s H E).nox.A.guards = some [] := g
  refine ⟨_, PSs.nox (pss_cons (ps_set (i := 3) scLRefused.nd rfl (Or.inl rfl) (pe_ix ix_tup (pe_ix ix_list (pv 2) (C8.pe_c C_law_take hr (by decide) rfl (pa_cons (pv 0) (pa_cons (pe_callB call_len_seq (by rfl) T.len PySem.boot_len (pa_cons (pv 2) pa_nil)) pa_nil))) (fun _ _ => rfl)) pe_int (fun _ _ => rfl)))
      (pss_cons (ps_set (i := 4) scLRefused.nd rfl (Or.inl rfl) (pe_ix ix_tup (pe_ix ix_list (pv 2) (pe_un un_neg pe_int) (fun _ _ => rfl)) pe_int (fun _ _ => rfl)))
      (pss_cons (ps_set (i := 5) scLRefused.nd rfl (Or.inl rfl) (pe_lst (pa_cons (pe_op op_catA (pv 3) (pe_tup (pa_cons pe_int pa_nil))) (pa_cons (pe_op op_catA (pv 4) (pe_tup (pa_cons pe_int pa_nil))) (pa_cons (pe_op op_catA (pv 3) (pe_tup (pa_cons (pe_un un_neg pe_int) pa_nil))) (pa_cons (pe_op op_catA (pv 3) (pe_tup (pa_cons pe_bl pa_nil))) (pa_cons (pe_callTy call_list_of (by rfl) T.list (by decide +kernel) (pa_cons (pv 3) pa_nil)) (pa_cons pe_non (pa_cons pe_int (pa_cons pe_str (pa_cons (pe_op op_catA (pv 3) (pe_tup (pa_cons (pe_tup pa_nil) pa_nil))) (pa_cons (pe_tup (pa_cons (pe_op op_pow pe_int pe_int) pa_nil)) pa_nil))))))))))))
      (pss_cons (ps_set (i := 6) scLRefused.nd rfl (Or.inl rfl) (pe_ix ix_list (pe_op op_cat (pv 5) (pe_lst (pa_cons (pe_op op_catA (pv 3) (pe_tup (pa_cons pe_bl pa_nil))) pa_nil))) (C8.pe_c C_law_take hr (by decide) rfl (pa_cons (pv 0) (pa_cons pe_int pa_nil))) (fun _ _ => rfl)))
      (pss_cons (ps_set (i := 7) scLRefused.nd rfl (Or.inl rfl) (pe_lst (pa_cons pe_non (pa_cons pe_int (pa_cons (pe_lst (pa_cons (pv 1) pa_nil)) (pa_cons (pe_tup (pa_cons pe_str pa_nil)) (pa_cons (pe_tup pa_nil) (pa_cons pe_str (pa_cons pe_dnewK (pa_cons (pe_tup (pa_cons pe_str (pa_cons pe_int pa_nil))) (pa_cons (pe_tup (pa_cons pe_str (pa_cons pe_bl pa_nil))) (pa_cons (pe_tup (pa_cons pe_str (pa_cons (pe_tup (pa_cons pe_str (pa_cons pe_int pa_nil))) (pa_cons (pe_tup (pa_cons pe_str (pa_cons pe_int pa_nil))) pa_nil)))) pa_nil))))))))))))
      (pss_cons (ps_set (i := 7) scLRefused.nd rfl (Or.inl rfl) (pe_ix ix_list (pe_op op_cat (pv 7) (pe_lst (pa_cons (pe_tup (pa_cons pe_str (pa_cons (pe_tup (pa_cons pe_str (pa_cons pe_int pa_nil))) (pa_cons (pe_tup (pa_cons pe_str (pa_cons pe_bl pa_nil))) pa_nil)))) (pa_cons (pe_tup (pa_cons pe_str (pa_cons (pe_tup (pa_cons pe_str (pa_cons pe_int pa_nil))) (pa_cons (pe_tup pa_nil) (pa_cons (pe_tup (pa_cons pe_str (pa_cons pe_int pa_nil))) pa_nil))))) pa_nil)))) (C8.pe_c C_law_take hr (by decide) rfl (pa_cons (pv 0) (pa_cons pe_int pa_nil))) (fun _ _ => rfl)))
      (pss_cons (ps_for PassesOwn.never rfl (pi_range1 (by rfl) T.range (pa_cons pe_int pa_nil)) (pg_name (i := 8) scLRefused.nd rfl (Or.inl rfl)) (pss_cons (ps_set (i := 9) scLRefused.nd rfl (Or.inl rfl) (C8.pe_c C_law_asked hr (by decide) rfl (pa_cons (pv 8) (pa_cons (pv 7) (pa_cons (pv 6) (pa_cons (pv 7) pa_nil))))))
      (pss_one (ps_if (pt_cmpR op_ne (pe_callB (call_repr hg hu) (by rfl) T.repr (by decide +kernel) (pa_cons (pv 9) pa_nil)) (pe_callB (call_repr hg hu) (by rfl) T.repr (by decide +kernel) (pa_cons (pe_tup (pa_cons pe_str (pa_cons (pv 7) pa_nil))) pa_nil)) (nomark _)) (pss_one (ps_ret pe_bl)) pss_nil))))
      (pss_cons (ps_for PassesOwn.never rfl (pi_range1 (by rfl) T.range (pa_cons pe_int pa_nil)) (pg_name (i := 8) scLRefused.nd rfl (Or.inl rfl)) (pss_cons (ps_set (i := 9) scLRefused.nd rfl (Or.inl rfl) (C8.pe_c C_law_asked hr (by decide) rfl (pa_cons (pv 8) (pa_cons (pv 1) (pa_cons (pv 6) (pa_cons (pv 7) pa_nil))))))
      (pss_cons (ps_if (pt_val (pe_isD is_lst (pv 6) T.isi T.list (by decide +kernel))) (pss_one (ps_expr (pe_bm PySem.F.plainAttrs_list PySem.F.slot_list_append PySem.F.type_list_append mt_append (pv 6) (pa_cons pe_int pa_nil)))) pss_nil) (pss_one (ps_if (pt_cmpR op_ne (pe_callB (call_repr hg hu) (by rfl) T.repr (by decide +kernel) (pa_cons (pv 9) pa_nil)) (pe_callB (call_repr hg hu) (by rfl) T.repr (by decide +kernel) (pa_cons (pe_tup (pa_cons pe_str (pa_cons (pv 6) pa_nil))) pa_nil)) (nomark _)) (pss_one (ps_ret pe_bl)) pss_nil)))))
      (pss_one (ps_ret (pe_cmpR op_eq (pe_callB (call_repr hg hu) (by rfl) T.repr (by decide +kernel) (pa_cons (C8.pe_c C_law_asked hr (by decide) rfl (pa_cons pe_int (pa_cons (pv 1) (pa_cons (pv 3) (pa_cons (pv 7) pa_nil))))) pa_nil)) (pe_callB (call_repr hg hu) (by rfl) T.repr (by decide +kernel) (pa_cons (pe_tup (pa_cons pe_str (pa_cons (pv 7) pa_nil))) pa_nil)) (nomark _)))))))))))), ?_⟩
  rintro ct as Kr _ ⟨p, n, d, rfl, rfl, td, bd, hp, hn, kr⟩
  have okd := ok2_of bd (by decide)
  have nM : n ≤ maxN := by omega
  have wl := walkF_len d [] 0
  have w0 : 0 < (walkF d [] 0).length := by rw [walkF_eq td]; exact Nat.succ_pos _
  have wn : (walkF d [] 0).length ≤ 1000000 := Nat.le_trans wl okd.2
  obtain ⟨t0, t1, t2⟩ := takeF_ok (m := ((walkF d [] 0).length : Int)) hp (by omega)
  obtain ⟨x1, a1, m1, _⟩ := itemAt (xs := walkF d [] 0) t0 t1
  obtain ⟨q, e, u, rfl, rq⟩ := walk_mem d [] 0 x1 td m1
  obtain ⟨xs, xl, el, ql, fl', ul, rfl, rl, pl⟩ := walk_last _ d [] 0 td (Nat.le_refl _)
  have al : atI (walkF d [] 0) (-1) = some (.tuple [spotT ([] ++ ql), fl', .int ul]) := by rw [el]; exact at_last
  rw [List.nil_append] at a1 al
  obtain ⟨tq, lq, sq, _, _⟩ := reach_facts td rq
  obtain ⟨tql, lql, sql, _, _⟩ := reach_facts td rl
  have odds := fun {x} => odd_ok (x := x) td bd rq rl pl
  have bq := spot_bd (n := 58) (by have := bd.2.1; omega) sq
  clear el m1
  generalize walkF d [] 0 = rows at *
  have got1 := got_take hp nM (m := (rows.length : Int)) (by omega) (by omega)
  generalize takeF p (rows.length : Int) = k1 at *
  obtain ⟨u0, u1, u2⟩ := takeF_ok (m := 11) t2 (by decide)
  have got2 := got_take t2 (by omega) (m := 11) (by decide) (by decide)
  generalize takeF k1.2 11 = k2 at *
  obtain ⟨v0, v1, v2⟩ := takeF_ok (m := 12) u2 (by decide)
  have got3 := got_take u2 (by omega) (m := 12) (by decide) (by decide)
  generalize takeF k2.2 12 = k3 at *
  obtain ⟨dn, a3, m3, _⟩ := itemAt (xs := noneA d ++ noneB) v0 v1
  obtain ⟨tdn, bdn⟩ := none_ok bd dn m3
  have okn := ok2_of bdn (by decide)
  have Bn : Bd 61 1100600 (.tuple [.str "term", dn]) := (Bd.tup (BdAll.cons ((Bd.str (x := "term") (by decide +kernel)).mono (Nat.zero_le _) (Nat.le_refl _)) (BdAll.one bdn))).mono (by decide) (by decide)
  have lqn : q.length ≤ 58 := by have := bd.2.1; omega
  have lqln : ql.length ≤ 58 := by have := bd.2.1; omega
  have okq : okT (spotT q) := ok2_of (Bd.tup bq) (by decide)
  obtain ⟨qi, hqi⟩ : ∃ qi, qi = q.map fun i : Nat => PyData.int (i : Int) := ⟨_, rfl⟩
  obtain ⟨qli, hqli⟩ : ∃ qli, qli = ql.map fun i : Nat => PyData.int (i : Int) := ⟨_, rfl⟩
  have sT : spotT q = .tuple qi := by rw [hqi]; rfl
  have sTl : spotT ql = .tuple qli := by rw [hqli]; rfl
  rw [← hqi, ← hqli] at odds
  rw [← hqi] at bq
  rw [sT] at a1
  rw [sTl] at al
  have li : qi.length ≤ 58 := by rw [hqi, List.length_map]; exact lqn
  have lli : qli.length ≤ 58 := by rw [hqli, List.length_map]; exact lqln
  have cl : ∀ {y : PyData}, qi.length + [y].length ≤ sizeLine := fun {y} => by rw [sizeLine_eq, List.length_singleton]; omega
  have cll : ∀ {y : PyData}, qli.length + [y].length ≤ sizeLine := fun {y} => by rw [sizeLine_eq, List.length_singleton]; omega
  refine sm_seq (sm_set (ev_op (ev_op (ev_var rfl) (ev_callB (i := 0) rfl (es_cons (ev_fn (es_cons (ev_var rfl) es_nil) fv_lenL) es_nil) rfl ar_nil rfl got1) (fv_ixL a1)) ev_int (fv_ixT at0)) ?_)
  refine sm_seq (sm_set (ev_op (ev_op (ev_var rfl) ev_negC (fv_ixL al)) ev_int (fv_ixT at0)) ?_)
  have lA : (noneA d).length ≤ sizeLine := by show 10 ≤ sizeLine; rw [sizeLine_eq]; decide
  have lB : noneB.length ≤ sizeLine := by show 2 ≤ sizeLine; rw [sizeLine_eq]; decide
  have lAB : (noneA d).length + noneB.length ≤ sizeLine := by show 10 + 2 ≤ sizeLine; rw [sizeLine_eq]; decide
  have lO : (oddA qi qli).length ≤ sizeLine := by show 10 ≤ sizeLine; rw [sizeLine_eq]; decide
  have l11 : ∀ {y : PyData}, 10 + [y].length ≤ sizeLine := fun {y} => by show 10 + 1 ≤ sizeLine; rw [sizeLine_eq]; decide
  have okq' : okT (.tuple qi) := by rw [← sT]; exact okq
  have last : ∀ {s5 s6 s8 s9 : Sl} {K' : KK}, K'.rt = (fun r ρ => ∃ c', ρ[0]? = some (.l c') ∧ Kr r c') → Sm (tRet (tOp rEq (tCB rRepr (tCons (tCall (spD 4 tLAsked) [] C8.E0 (tCons (tC (.int 2)) (tCons (tVar 1) (tCons (tVar 3) (tCons (tVar 7) tNil))))) tNil)) (tCB rRepr (tCons (tTup (tCons (tC (.str "term")) (tCons (tVar 7) tNil))) tNil)))) [.l k3.2.ds, .d d, .d (.list rows), .d (.tuple qi), .d (.tuple qli), s5, s6, .d dn, s8, s9] K' := fun {s5 s6 s8 s9 K'} hK => by
    refine sm_ret (ev_reprEq (Ev.as (evp_call (P := pairMo "term" (.d dn)) (es_cons ev_int (es_cons (ev_var rfl) (es_cons (ev_var rfl) (es_cons (ev_var rfl) es_nil)))) ar_nil rfl ⟨2, .d d, .d (.tuple qi), .d dn, d, .tuple qi, dn, rfl, .d _, .d _, .d _, okd, okq', okn, Or.inr (Or.inr ⟨rfl, td, tdn, q, _, sT.symm, rq, rfl⟩)⟩) (pair_isd (.d _))) (ev_tup (eds_cons ev_str (eds_cons (ev_var rfl) eds_nil))) Bn (by decide) (by decide)) ?_
    rw [hK]
    exact ⟨_, rfl, kr⟩
  by_cases j4 : k2.1 = 4
  · -- the list itself
    refine sm_seq (sm_lstA (i := 6) (k := 4) (m := 10) (xs := qi) (ew_skip (ev_op (ev_var rfl) (ev_tup (eds_cons ev_int eds_nil)) (fv_catA cl)) (ew_skip (ev_op (ev_var rfl) (ev_tup (eds_cons ev_int eds_nil)) (fv_catA cll)) (ew_skip (ev_op (ev_var rfl) (ev_tup (eds_cons ev_negC eds_nil)) (fv_catA cl)) (ew_skip (ev_op (ev_var rfl) (ev_tup (eds_cons ev_bl eds_nil)) (fv_catA cl)) (ew_here (ys := [.none, .int 0, .str "", .tuple (qi ++ [.tuple []]), .tuple [.int (10 ^ (29 : Int).toNat)]]) (el_fn (es_cons (ev_var rfl) es_nil) fl_listT)
      (fun a => eds_cons ev_non (eds_cons ev_int (eds_cons ev_str (eds_cons (ev_op (ev_var rfl) (ev_tup (eds_cons (ev_tup eds_nil) eds_nil)) (fv_catA cl)) (eds_cons (ev_tup (eds_cons (ev_op ev_int ev_int (fv_intC ⟨by decide, by decide, by decide⟩)) eds_nil)) eds_nil)))))))))) (by rw [sizeLine_eq]; decide) (fun a => ?_))
    refine sm_seq (sm_pickA (j := 5) (i := 6) rfl (el_lst (eds_cons (ev_op (ev_var rfl) (ev_tup (eds_cons ev_bl eds_nil)) (fv_catA cl)) eds_nil)) (ev_callB (i := 0) rfl (es_cons ev_int es_nil) rfl ar_nil rfl got2) rfl j4 l11 ?_)
    refine sm_seq (sm_setL (xs := noneA d) (el_lst (eds_cons ev_non (eds_cons ev_int (eds_cons (Ev.of_el (el_lst (eds_cons (ev_var rfl) eds_nil))) (eds_cons (ev_tup (eds_cons ev_str eds_nil)) (eds_cons (ev_tup eds_nil) (eds_cons ev_str (eds_cons ev_dic0 (eds_cons (ev_tup (eds_cons ev_str (eds_cons ev_int eds_nil))) (eds_cons (ev_tup (eds_cons ev_str (eds_cons ev_bl eds_nil))) (eds_cons (ev_tup (eds_cons ev_str (eds_cons (ev_tup (eds_cons ev_str (eds_cons ev_int eds_nil))) (eds_cons (ev_tup (eds_cons ev_str (eds_cons ev_int eds_nil))) eds_nil)))) eds_nil)))))))))) lA) ?_)
    refine sm_seq (sm_set (ev_op (Ev.of_el (el_op (ev_varF rfl) (Ev.of_el (el_lst (xs := noneB) (eds_cons (ev_tup (eds_cons ev_str (eds_cons (ev_tup (eds_cons ev_str (eds_cons ev_int eds_nil))) (eds_cons (ev_tup (eds_cons ev_str (eds_cons ev_bl eds_nil))) eds_nil)))) (eds_cons (ev_tup (eds_cons ev_str (eds_cons (ev_tup (eds_cons ev_str (eds_cons ev_int eds_nil))) (eds_cons (ev_tup eds_nil) (eds_cons (ev_tup (eds_cons ev_str (eds_cons ev_int eds_nil))) eds_nil))))) eds_nil)) lB)) (fl_cat lAB))) (ev_callB (i := 0) rfl (es_cons ev_int es_nil) rfl ar_nil rfl got3) (fv_ixL a3)) ?_)
    refine sm_seq (sm_for (fi_rng1 (eds_cons ev_int eds_nil) (by decide)) (fun j ρ => ∃ s8 s9, ρ = [.l k3.2.ds, .d d, .d (.list rows), .d (.tuple qi), .d (.tuple qli), .p (lstMo 10 4 a), .la a qi, .d dn, s8, s9]) ⟨_, _, rfl⟩ (fun j x ρ ex r => ?_) (fun ρ r => ?_))
    · obtain ⟨s8, s9, rfl⟩ := r
      obtain ⟨lt, rfl⟩ := rngD_at ex
      have lt : j < 5 := lt
      have okl : okT (.list qi) := ok2_of (Bd.lst bq) (by decide)
      refine ⟨_, tg_name, sm_seq (sm_set (evp_lend4 (P := pairMo "term" (.d dn)) rfl rfl rfl rfl (fun v2 v4 => ⟨pairMo "term" (.p (idMo v2 dn)), ⟨(j : Int), _, _, _, dn, .list qi, dn, rfl, idMo_isd, idMo_isd, idMo_isd, okn, okl, okn, Or.inl ⟨by omega, by omega, tdn, rfl⟩⟩, ?_⟩)) (sm_if (et_reprNe (ev_varD rfl (pair_isd (.d _))) (ev_tup (eds_cons ev_str (eds_cons (ev_var rfl) eds_nil))) Bn (by decide) (by decide)) (fun h => by cases h) (fun h => sm_next ⟨_, _, rfl⟩)))⟩
      rintro u W W1 back ⟨vs, ea⟩ d2 d4 ⟨t, v, eu, et, hv⟩
      refine ⟨t, v, eu, back t _ (fun z => by rw [z, ea] at et; cases et) et, ?_⟩
      obtain ⟨rfl, _⟩ := hv
      exact d2
    · obtain ⟨s8, s9, rfl⟩ := r
      have B2 : ∀ j, j ≤ 3 → Bd 1 3000 (.list (qi ++ List.replicate j (.int 5))) := fun j hj => (Bd.lst (bq.append ((bd_all (a := 0) (c := 40) (ds := List.replicate j (.int 5)) fun y hy => by
        obtain ⟨_, rfl⟩ := List.mem_replicate.mp hy
        exact Bd.int (by decide)).mono (Nat.le_refl _) (by rw [List.length_replicate]; exact Nat.mul_le_mul_right 42 hj)))).mono (by decide) (by decide)
      refine sm_seq (sm_for (fi_rng1 (eds_cons ev_int eds_nil) (by decide)) (fun j ρ => ∃ s8 s9, ρ = [.l k3.2.ds, .d d, .d (.list rows), .d (.tuple qi), .d (.tuple qli), .p (lstMo 10 4 a), .la a (qi ++ List.replicate j (.int 5)), .d dn, s8, s9]) ⟨_, _, by rw [List.replicate_zero, List.append_nil]⟩ (fun j x ρ ex r => ?_) (fun ρ r => ?_))
      · obtain ⟨s8, s9, rfl⟩ := r
        obtain ⟨lt, rfl⟩ := rngD_at ex
        have lt : j < 3 := lt
        have e5 : (qi ++ List.replicate j (.int 5)) ++ [.int 5] = qi ++ List.replicate (j + 1) (PyData.int 5) := by rw [List.replicate_succ', List.append_assoc]
        have lq5 : (qi ++ List.replicate j (PyData.int 5)).length < sizeLine := by rw [List.length_append, List.length_replicate, sizeLine_eq]; omega
        have B3 : Bd 2 3300 (.tuple [.str "spot", .list (qi ++ List.replicate (j + 1) (.int 5))]) := (Bd.tup (BdAll.cons ((Bd.str (x := "spot") (by decide +kernel)).mono (Nat.zero_le 1) (Nat.le_refl _)) (BdAll.one (B2 (j + 1) (by omega))))).mono (by decide) (by decide)
        refine ⟨_, tg_name, sm_seq (sm_set (evp_lend4 (P := pairMo "spot" (.p (isV (.ref a)))) rfl rfl rfl rfl (fun v2 v4 => ⟨pairMo "spot" (.p (idMo (.ref a) (.list (qi ++ List.replicate j (.int 5))))), ⟨(j : Int), _, _, _, d, .list (qi ++ List.replicate j (.int 5)), dn, rfl, idMo_isd, idMo_isd, idMo_isd, okd, ok2_of (B2 j (by omega)) (by decide), okn, Or.inr (Or.inl ⟨by omega, by omega, td, rfl, rfl⟩)⟩, ?_⟩))
          (sm_seq (sm_if (et_prB (b := true) fun c A σ H R => pr_fn (prs_cons (pr_var (s := .d _) (R.fullA (i := 6) rfl).1 (R.fullA (i := 6) rfl).2) (prs_cons (pr_c (s := .p (isV _)) (fun _ => rfl)) prs_nil)) fv_isD) (fun _ => sm_appA (k := 6) rfl lq5 ?_) (fun h => by cases h))))⟩
        · rintro u W W1 back ⟨vs, ea⟩ d2 d4 ⟨t, v, eu, et, hv⟩
          exact ⟨t, v, eu, back t _ (fun z => by rw [z, ea] at et; cases et) et, hv.1⟩
        · rw [e5]
          refine sm_if (et_pr (b := false) fun c A σ H R => ?_) (fun h => by cases h) (fun h => sm_next ⟨_, _, rfl⟩)
          obtain ⟨e1, da⟩ := R.fullA (i := 6) rfl
          obtain ⟨_, u, eu, t, v, rfl, et, hv⟩ := R.sl 9 _ rfl
          obtain rfl := isv_v hv
          exact pr_reprNe (pr_var (s := .d _) eu (.tup (vw_sub _ _ et) (.cons (.str _) (.one da)))) (pr_pair (pr_var (s := .d _) e1 da)) B3 (by decide) (by decide)
      · obtain ⟨s8, s9, rfl⟩ := r
        exact last rfl
  · obtain ⟨ox, a2, m2, e2⟩ := itemAt (xs := oddA qi qli ++ [.tuple (qi ++ [.bool false])]) (z := k2.1) u0 (by show k2.1 < 11; exact u1)
    obtain ⟨po, bo⟩ := odds m2
    have io : isLstD ox = false := odd_list rfl e2 (by omega)
    have oko := ok2_of bo (by decide)
    have Bo : Bd 4 4300 (.tuple [.str "spot", ox]) := (Bd.tup (BdAll.cons ((Bd.str (x := "spot") (by decide +kernel)).mono (Nat.zero_le _) (Nat.le_refl _)) (BdAll.one bo))).mono (by decide) (by decide)
    refine sm_seq (sm_setL (xs := oddA qi qli) (el_lst (eds_cons (ev_op (ev_var rfl) (ev_tup (eds_cons ev_int eds_nil)) (fv_catA cl)) (eds_cons (ev_op (ev_var rfl) (ev_tup (eds_cons ev_int eds_nil)) (fv_catA cll)) (eds_cons (ev_op (ev_var rfl) (ev_tup (eds_cons ev_negC eds_nil)) (fv_catA cl)) (eds_cons (ev_op (ev_var rfl) (ev_tup (eds_cons ev_bl eds_nil)) (fv_catA cl)) (eds_cons (Ev.of_el (el_fn (es_cons (ev_var rfl) es_nil) fl_listT)) (eds_cons ev_non (eds_cons ev_int (eds_cons ev_str (eds_cons (ev_op (ev_var rfl) (ev_tup (eds_cons (ev_tup eds_nil) eds_nil)) (fv_catA cl)) (eds_cons (ev_tup (eds_cons (ev_op ev_int ev_int (fv_intC ⟨by decide, by decide, by decide⟩)) eds_nil)) eds_nil)))))))))) lO) ?_)
    refine sm_seq (sm_set (ev_op (Ev.of_el (el_op (ev_varF rfl) (Ev.of_el (el_lst (eds_cons (ev_op (ev_var rfl) (ev_tup (eds_cons ev_bl eds_nil)) (fv_catA cl)) eds_nil))) (fl_cat l11))) (ev_callB (i := 0) rfl (es_cons ev_int es_nil) rfl ar_nil rfl got2) (fv_ixL a2)) ?_)
    refine sm_seq (sm_setL (xs := noneA d) (el_lst (eds_cons ev_non (eds_cons ev_int (eds_cons (Ev.of_el (el_lst (eds_cons (ev_var rfl) eds_nil))) (eds_cons (ev_tup (eds_cons ev_str eds_nil)) (eds_cons (ev_tup eds_nil) (eds_cons ev_str (eds_cons ev_dic0 (eds_cons (ev_tup (eds_cons ev_str (eds_cons ev_int eds_nil))) (eds_cons (ev_tup (eds_cons ev_str (eds_cons ev_bl eds_nil))) (eds_cons (ev_tup (eds_cons ev_str (eds_cons (ev_tup (eds_cons ev_str (eds_cons ev_int eds_nil))) (eds_cons (ev_tup (eds_cons ev_str (eds_cons ev_int eds_nil))) eds_nil)))) eds_nil)))))))))) lA) ?_)
    refine sm_seq (sm_set (ev_op (Ev.of_el (el_op (ev_varF rfl) (Ev.of_el (el_lst (xs := noneB) (eds_cons (ev_tup (eds_cons ev_str (eds_cons (ev_tup (eds_cons ev_str (eds_cons ev_int eds_nil))) (eds_cons (ev_tup (eds_cons ev_str (eds_cons ev_bl eds_nil))) eds_nil)))) (eds_cons (ev_tup (eds_cons ev_str (eds_cons (ev_tup (eds_cons ev_str (eds_cons ev_int eds_nil))) (eds_cons (ev_tup eds_nil) (eds_cons (ev_tup (eds_cons ev_str (eds_cons ev_int eds_nil))) eds_nil))))) eds_nil)) lB)) (fl_cat lAB))) (ev_callB (i := 0) rfl (es_cons ev_int es_nil) rfl ar_nil rfl got3) (fv_ixL a3)) ?_)
    refine sm_seq (sm_for (fi_rng1 (eds_cons ev_int eds_nil) (by decide)) (fun j ρ => ∃ s8 s9, ρ = [.l k3.2.ds, .d d, .d (.list rows), .d (.tuple qi), .d (.tuple qli), .d (.list (oddA qi qli)), .d ox, .d dn, s8, s9]) ⟨_, _, rfl⟩ (fun j x ρ ex r => ?_) (fun ρ r => ?_))
    · obtain ⟨s8, s9, rfl⟩ := r
      obtain ⟨lt, rfl⟩ := rngD_at ex
      have lt : j < 5 := lt
      exact ⟨_, tg_name, sm_seq (sm_set (evp_call (P := pairMo "term" (.d dn)) (es_cons (ev_var rfl) (es_cons (ev_var rfl) (es_cons (ev_var rfl) (es_cons (ev_var rfl) es_nil)))) ar_nil rfl ⟨(j : Int), .d dn, .d ox, .d dn, dn, ox, dn, rfl, .d _, .d _, .d _, okn, oko, okn, Or.inl ⟨by omega, by omega, tdn, rfl⟩⟩) (sm_if (et_reprNe (ev_varD rfl (pair_isd (.d _))) (ev_tup (eds_cons ev_str (eds_cons (ev_var rfl) eds_nil))) Bn (by decide) (by decide)) (fun h => by cases h) (fun h => sm_next ⟨_, _, rfl⟩)))⟩
    · obtain ⟨s8, s9, rfl⟩ := r
      refine sm_seq (sm_for (fi_rng1 (eds_cons ev_int eds_nil) (by decide)) (fun j ρ => ∃ s8 s9, ρ = [.l k3.2.ds, .d d, .d (.list rows), .d (.tuple qi), .d (.tuple qli), .d (.list (oddA qi qli)), .d ox, .d dn, s8, s9]) ⟨_, _, rfl⟩ (fun j x ρ ex r => ?_) (fun ρ r => ?_))
      · obtain ⟨s8, s9, rfl⟩ := r
        obtain ⟨lt, rfl⟩ := rngD_at ex
        have lt : j < 3 := lt
        exact ⟨_, tg_name, sm_seq (sm_set (evp_call (P := pairMo "spot" (.d ox)) (es_cons (ev_var rfl) (es_cons (ev_var rfl) (es_cons (ev_var rfl) (es_cons (ev_var rfl) es_nil)))) ar_nil rfl ⟨(j : Int), .d d, .d ox, .d dn, d, ox, dn, rfl, .d _, .d _, .d _, okd, oko, okn, Or.inr (Or.inl ⟨by omega, by omega, td, po, rfl⟩)⟩)
          (sm_seq (sm_if ((et_B (ev_fn (es_cons (ev_var rfl) (es_cons ev_cv es_nil)) fv_isD)).is io) (fun h => by cases h) (fun _ => sm_next (sm_if (et_reprNe (ev_varD rfl (pair_isd (.d _))) (ev_tup (eds_cons ev_str (eds_cons (ev_var rfl) eds_nil))) Bo (by decide) (by decide)) (fun h => by cases h) (fun h => sm_next ⟨_, _, rfl⟩))))))⟩
      · obtain ⟨s8, s9, rfl⟩ := r
        exact last rfl
end
end KP
set_option Elab.async false
set_option linter.unusedVariables false
set_option maxRecDepth 100000
set_option maxHeartbeats 2000000
namespace KP
open PySem PySem.Spec PyProof.Rows L2 KA OW
/-! ### data without lists and dicts -/
mutual
def flatD : PyData → Bool
  | .tuple ds => flatAll ds
  | .list _ => false
  | .dict _ => false
  | _ => true
def flatAll : List PyData → Bool
  | [] => true
  | d :: ds => flatD d && flatAll ds
end
theorem cnt_flat {lo : Int} {d : PyData} (h : cntB lo d = true) : flatD d = true := by cases d <;> first | rfl | cases h
theorem whole_flat {lo hi : Int} {d : PyData} (h : wholeB lo hi d = true) : flatD d = true := by cases d <;> first | rfl | cases h
theorem name_flat {d : PyData} (h : nameB d = true) : flatD d = true := by cases d <;> first | rfl | cases h
theorem leaf_flat {wd : Str} : ∀ {ds : List PyData}, leafB wd ds = true → flatAll ds = true
  | [x], h => by
    have h : (if wd = "at" then cntB 0 x else if wd = "kind" then wholeB 0 5 x else (decide (wd = "name") || decide (wd = "thing")) && nameB x) = true := h
    have f : flatD x = true := by
      split at h
      · exact cnt_flat h
      · split at h
        · exact whole_flat h
        · exact name_flat (Bool.and_eq_true_iff.mp h).2
    simp only [flatAll, f, Bool.and_self]
  | [x, y], h => by
    have h : (nameB x && (if wd = "maker" then cntB 0 y else decide (wd = "eater") && wholeB 0 5 y)) = true := h
    obtain ⟨h1, h2⟩ := Bool.and_eq_true_iff.mp h
    have f : flatD y = true := by
      split at h2
      · exact cnt_flat h2
      · exact whole_flat (Bool.and_eq_true_iff.mp h2).2
    simp only [flatAll, name_flat h1, f, Bool.and_self]
  | [], h => by cases h
  | _ :: _ :: _ :: _, h => by cases h
mutual
theorem tm_flat : ∀ d : PyData, tm d = true → flatD d = true
  | .tuple [], h => by simp [tm] at h
  | .tuple (d :: ds), h => by
    cases hS : isStrD d with
    | false =>
      rw [isStr_false hS] at h
      cases h
    | true =>
      obtain ⟨wd, rfl⟩ : ∃ wd, d = .str wd := by cases d <;> first | exact ⟨_, rfl⟩ | cases hS
      cases hp : parts wd with
      | none =>
        rw [tm_leaf hp] at h
        simp only [flatD, flatAll, leaf_flat h, Bool.and_self]
      | some n =>
        rw [tm_parts hp] at h
        simp only [flatD, flatAll, tmAll_flat ds (Bool.and_eq_true_iff.mp h).2, Bool.and_self]
  | .none, h => by simp [tm] at h
  | .bool _, h => by simp [tm] at h
  | .int _, h => by simp [tm] at h
  | .str _, h => by simp [tm] at h
  | .list _, h => by simp [tm] at h
  | .dict _, h => by simp [tm] at h
theorem tmAll_flat : ∀ ds : List PyData, tmAll ds = true → flatAll ds = true
  | [], _ => rfl
  | d :: ds, h => by
    have h : tm d = true ∧ tmAll ds = true := by simpa only [tmAll, Bool.and_eq_true] using h
    simp only [flatAll, tm_flat d h.1, tmAll_flat ds h.2, Bool.and_self]
end
theorem str_ok {x : Str} (h : fine (.str x) = true) : (PyData.str x).canLay0 = true := by
  have h' : x.length ≤ 20 ∧ ∀ c ∈ x.cps.toList, c < 128 := by simpa only [fine, Bool.and_eq_true, decide_eq_true_eq, List.all_eq_true] using h
  show (x.cps.all (· < 0x110000)) = true
  rw [Array.all_eq_true_iff_forall_mem]
  intro c hc
  exact decide_eq_true (Nat.lt_trans (h'.2 c (by simpa using hc)) (by decide))
mutual
theorem lay_flat : ∀ d : PyData, flatD d = true → fine d = true → d.canLay0 = true
  | .none, _, _ => rfl
  | .bool _, _, _ => rfl
  | .int _, _, _ => rfl
  | .str x, _, h => str_ok h
  | .list _, h, _ => by simp [flatD] at h
  | .dict _, h, _ => by simp [flatD] at h
  | .tuple ds, h, f => by
    have := lay_flatAll ds (by simpa only [flatD] using h) (by simpa only [fine] using f)
    simpa only [PyData.canLay0] using this
theorem lay_flatAll : ∀ ds : List PyData, flatAll ds = true → fineAll ds = true → PyData.canLayAll0 ds = true
  | [], _, _ => rfl
  | d :: ds, h, f => by
    have h : flatD d = true ∧ flatAll ds = true := by simpa only [flatAll, Bool.and_eq_true] using h
    have f : fine d = true ∧ fineAll ds = true := by simpa only [fineAll, Bool.and_eq_true] using f
    simp only [PyData.canLayAll0, lay_flat d h.1 f.1, lay_flatAll ds h.2 f.2, Bool.and_self]
end

theorem spotT_inj {p q : List Nat} (h : spotT p = spotT q) : p = q := by
  have e : ∀ is : List Nat, (is.map fun i : Nat => PyData.int (i : Int)).map (fun e => match e with | .int z => z.toNat | _ => 0) = is := fun is => by
    rw [List.map_map]
    have : ((fun e : PyData => match e with | .int z => z.toNat | _ => 0) ∘ fun i : Nat => PyData.int (i : Int)) = id := by
      funext i
      exact Int.toNat_natCast i
    rw [this, List.map_id]
  have h : (p.map fun i : Nat => PyData.int (i : Int)) = q.map fun i : Nat => PyData.int (i : Int) := PyData.tuple.inj h
  rw [← e p, ← e q, h]
theorem at_yes {C1 C2 : Addr} {g : PyData × Int → PyData} {d : PyData} {q : List Nat} {r : PyData × Int} (o1 : okT d) (o2 : okT (spotT q)) (t : tm d = true) (e : reachD d q 0 = some r) : tAt C1 C2 g [.d d, .d (spotT q)] (fun v => v = .d (g r)) fun _ _ => False :=
  ⟨.d d, .d (spotT q), d, spotT q, rfl, .d _, .d _, o1, o2, (fun z => by rw [t] at z; cases z), (fun _ z => by rw [placeD_spot, e] at z; cases z), fun _ is r' z e' => by
    obtain rfl := spotT_inj z
    rw [e] at e'
    cases e'
    rfl⟩
theorem ch_yes {C1 C2 : Addr} {d o : PyData} {q : List Nat} {r : PyData × Int} (o1 : okT d) (o2 : okT (spotT q)) (o3 : okT o) (t : tm d = true) (to : tm o = true) (e : reachD d q 0 = some r) : tChanged C1 C2 [.d d, .d (spotT q), .d o] (fun v => v = .d (chD d q o)) fun _ _ => False :=
  ⟨.d d, .d (spotT q), .d o, d, spotT q, o, rfl, .d _, .d _, .d _, o1, o2, o3, (fun z => by rw [t] at z; cases z), (fun _ z => by rw [placeD_spot, e] at z; cases z), fun _ is r' z e' => by
    obtain rfl := spotT_inj z
    exact ⟨(fun z => by rw [to] at z; cases z), fun _ => rfl⟩⟩
theorem depth_in {e : PyData} : ∀ {es : List PyData}, e ∈ es → e.depth ≤ PyData.depthAll es
  | a :: es, h => by
    show e.depth ≤ max a.depth (PyData.depthAll es)
    rcases List.mem_cons.mp h with rfl | h
    · exact Nat.le_max_left _ _
    · exact Nat.le_trans (depth_in h) (Nat.le_max_right _ _)
theorem flat_in {e : PyData} : ∀ {es : List PyData}, flatAll es = true → e ∈ es → flatD e = true
  | a :: es, f, h => by
    have f : flatD a = true ∧ flatAll es = true := by simpa only [flatAll, Bool.and_eq_true] using f
    rcases List.mem_cons.mp h with rfl | h
    · exact f.1
    · exact flat_in f.2 h
theorem fine_in {e : PyData} : ∀ {es : List PyData}, fineAll es = true → e ∈ es → fine e = true
  | a :: es, f, h => by
    have f : fine a = true ∧ fineAll es = true := by simpa only [fineAll, Bool.and_eq_true] using f
    rcases List.mem_cons.mp h with rfl | h
    · exact f.1
    · exact fine_in f.2 h
theorem set_all {y : PyData} (fy : flatD y = true) (gy : fine y = true) : ∀ {es : List PyData} (i : Nat), flatAll es = true → fineAll es = true → flatAll (es.set i y) = true ∧ fineAll (es.set i y) = true ∧ PyData.depthAll (es.set i y) ≤ max (PyData.depthAll es) y.depth
  | [], i, f, g => ⟨f, g, Nat.zero_le _⟩
  | a :: es, 0, f, g => by
    have f : flatD a = true ∧ flatAll es = true := by simpa only [flatAll, Bool.and_eq_true] using f
    have g : fine a = true ∧ fineAll es = true := by simpa only [fineAll, Bool.and_eq_true] using g
    refine ⟨by simp only [List.set, flatAll, fy, f.2, Bool.and_self], by simp only [List.set, fineAll, gy, g.2, Bool.and_self], ?_⟩
    show max y.depth (PyData.depthAll es) ≤ max (max a.depth (PyData.depthAll es)) y.depth
    omega
  | a :: es, i + 1, f, g => by
    have f : flatD a = true ∧ flatAll es = true := by simpa only [flatAll, Bool.and_eq_true] using f
    have g : fine a = true ∧ fineAll es = true := by simpa only [fineAll, Bool.and_eq_true] using g
    obtain ⟨x, z, w⟩ := set_all fy gy i f.2 g.2
    refine ⟨by simp only [List.set, flatAll, f.1, x, Bool.and_self], by simp only [List.set, fineAll, g.1, z, Bool.and_self], ?_⟩
    show max a.depth (PyData.depthAll (es.set i y)) ≤ max (max a.depth (PyData.depthAll es)) y.depth
    omega
theorem ch_ok {o : PyData} (fo : flatD o = true) (go : fine o = true) : ∀ {q : List Nat} {d : PyData}, flatD d = true → fine d = true → flatD (chD d q o) = true ∧ fine (chD d q o) = true ∧ (chD d q o).depth ≤ max d.depth (q.length + o.depth)
  | [], d, f, g => by
    have e : chD d [] o = o := by cases d <;> rfl
    rw [e]
    exact ⟨fo, go, by simp only [List.length_nil]; omega⟩
  | i :: r, .tuple es, f, g => by
    have f : flatAll es = true := by simpa only [flatD] using f
    have g : fineAll es = true := by simpa only [fine] using g
    have cs : flatD ((es[i + 1]?).getD .none) = true ∧ fine ((es[i + 1]?).getD .none) = true ∧ ((es[i + 1]?).getD .none).depth ≤ PyData.depthAll es := by
      cases h : es[i + 1]? with
      | none => exact ⟨rfl, rfl, Nat.zero_le _⟩
      | some e =>
        have m := List.mem_of_getElem? h
        exact ⟨flat_in f m, fine_in g m, depth_in m⟩
    obtain ⟨x, y, z⟩ := ch_ok fo go (q := r) cs.1 cs.2.1
    obtain ⟨a, b, c⟩ := set_all x y (i + 1) f g
    have e : chD (.tuple es) (i :: r) o = .tuple (es.set (i + 1) (chD ((es[i + 1]?).getD .none) r o)) := rfl
    rw [e]
    refine ⟨by simpa only [flatD] using a, by simpa only [fine] using b, ?_⟩
    show PyData.depthAll _ + 1 ≤ max (PyData.depthAll es + 1) ((i :: r).length + o.depth)
    rw [List.length_cons]
    have := cs.2.2
    omega
  | i :: r, .none, f, g | i :: r, .bool _, f, g | i :: r, .int _, f, g | i :: r, .str _, f, g => ⟨f, g, Nat.le_max_left _ _⟩
  | i :: r, .list _, f, g | i :: r, .dict _, f, g => by cases f
theorem shaped_flat {d : PyData} (f : flatD d = true) (g : fine d = true) (h : d.depth ≤ 64) : SeqAt.shaped d = true := by
  unfold SeqAt.shaped
  rw [Bool.and_eq_true]
  exact ⟨lay_flat d f g, decide_eq_true h⟩
theorem shaped_list {ds : List PyData} (f : flatAll ds = true) (g : fineAll ds = true) (h : PyData.depthAll ds ≤ 63) : SeqAt.shaped (.list ds) = true := by
  unfold SeqAt.shaped
  rw [Bool.and_eq_true]
  refine ⟨by simp only [PyData.canLay0, lay_flatAll ds f g], decide_eq_true ?_⟩
  show PyData.depthAll ds + 1 ≤ 64
  omega
def fstD : PyData → PyData
  | .tuple (y :: _) => y
  | _ => .none
mutual
theorem walk_spots : ∀ (d : PyData) (p : List Nat) (u : Int), (walkF d p u).map fstD = (spotsF d p).map spotT
  | .tuple (d :: ds), p, u => by
    cases d with
    | str w =>
      show spotT p :: (if (parts w).isSome = true then walkFL ds w p u 0 else []).map fstD = spotT p :: (if (parts w).isSome = true then spotsFL ds p 0 else []).map spotT
      split
      · rw [walkL_spots ds w p u 0]
      · rfl
    | _ => rfl
  | .tuple [], p, u => rfl
  | .none, p, u => rfl
  | .bool _, p, u => rfl
  | .int _, p, u => rfl
  | .str _, p, u => rfl
  | .list _, p, u => rfl
  | .dict _, p, u => rfl
theorem walkL_spots : ∀ (ds : List PyData) (w : Str) (p : List Nat) (u : Int) (i : Nat), (walkFL ds w p u i).map fstD = (spotsFL ds p i).map spotT
  | [], _, _, _, _ => rfl
  | d :: ds, w, p, u, i => by
    show (walkF d (p ++ [i]) (u + passD w (i : Int)) ++ walkFL ds w p u (i + 1)).map fstD = (spotsF d (p ++ [i]) ++ spotsFL ds p (i + 1)).map spotT
    rw [List.map_append, List.map_append, walk_spots d, walkL_spots ds]
end
theorem all_in {a : Nat} : ∀ {ds : List PyData}, (∀ d ∈ ds, flatD d = true ∧ fine d = true ∧ d.depth ≤ a) → flatAll ds = true ∧ fineAll ds = true ∧ PyData.depthAll ds ≤ a
  | [], h => ⟨rfl, rfl, Nat.zero_le _⟩
  | d :: ds, h => by
    obtain ⟨x, y, z⟩ := h d List.mem_cons_self
    obtain ⟨u, v, w⟩ := all_in fun e he => h e (List.mem_cons_of_mem _ he)
    refine ⟨by simp only [flatAll, x, u, Bool.and_self], by simp only [fineAll, y, v, Bool.and_self], ?_⟩
    show max d.depth (PyData.depthAll ds) ≤ a
    omega
end KP
set_option Elab.async false
set_option linter.unusedVariables false
set_option maxRecDepth 100000
set_option maxHeartbeats 8000000
namespace OW
open PySem PySem.Spec PyProof.Rows L2 KA
theorem sql_mono {K : PySem.W.Frag} {H H' : Hp} {a : Addr} {xs : List V} (S : Same H H') (h : SqL K H a xs) : SqL K H' a xs := by
  rcases h with (h | ⟨ob, h⟩) | h
  · exact Or.inl (Or.inl (S _ _ h))
  · exact Or.inl (Or.inr ⟨ob, S _ _ h⟩)
  · exact Or.inr h
/-- the script -/
def scrMo (K : PySem.W.Frag) (ns : List Int) : Mo := ⟨fun u W => ∃ a, u = .ref a ∧ SqL K W a (ns.map V.int), fun S ⟨a, e, h⟩ => ⟨a, e, sql_mono S h⟩⟩
section
variable {ρ ρ' ρ1 ρ2 : List Sl} {te ta tb ti : TE} {s s' : Sl} {x y : PyData} {i j k m : Nat} {tr : TA} {xs ys : List PyData} {ss : List Sl} {K' : KK} {K KF : PySem.W.Frag} {ns : List Int}
theorem fv_lenScr : FV (fun xs H Q => ∃ p ys, xs = [.ref p] ∧ (SqL K H p ys ∨ SqT K H p ys) ∧ Q (.int ys.length) H) [.p (scrMo K ns)] (.d (.int (ns.length : Int))) := by
  intro W H vs Q S o q
  cases vs with
  | nil => exact o.elim
  | cons v vs => cases vs with
    | cons w vs => exact o.2.elim
    | nil =>
      have o1 : ∃ a, v = .ref a ∧ SqL K W a (ns.map V.int) := o.1
      obtain ⟨a, rfl, h⟩ := o1
      refine ⟨a, ns.map V.int, rfl, Or.inl (sql_mono S h), ?_⟩
      rw [List.length_map]
      exact q _ _ (Same.refl _) fun _ _ _ => Dn.int _
theorem sm_purse {E E' : XK} (h0 : ρ[0]? = some (.p (scrMo K ns))) (h1 : ρ[1]? = some (.d (.int (j : Int)))) (q : ∀ p, KP.PuOk p 0 → K'.nx (ρ.set i (.l p.ds))) (i0 : i ≠ 0 := by decide) (hi : i < ρ.length := by simp [uns]) :
    Sm (tAsg (tCall KP.spPurse [] E (tCons (tCall (KP.spCell K) [] E' (tCons (tVar 0) (tCons (tVar 1) tNil))) tNil)) (gName i)) ρ K' := fun c A σ H D R f dk => by
  obtain ⟨_, u, e0, a, rfl, hS⟩ := R.sl 0 _ h0
  obtain ⟨_, v, e1, dn⟩ := R.sl 1 _ h1
  obtain rfl := int_v dn
  refine ⟨_, e0, _, e1, a, ns, j, rfl, sql_mono vw_sub hS, fun z => ⟨z, rfl, fun p H' np S pu => ?_⟩⟩
  obtain ⟨x, y, z, ep, b⟩ := pu
  have R1 := R.adopt S np ep
  exact dk.nx _ _ _ _ (q ⟨x, y, z⟩ b) (R1.setL (xs := KP.Pu.ds ⟨x, y, z⟩) i0 hi aset_at ep (.cons (.int _) (.cons (.int _) (.one (.int _))))) aset_at
theorem sm_clearN (h : El te ρ xs ρ1) (q : K'.nx ρ1) : Sm (tDrop (tBM0 KF "list" rClear te)) ρ K' := fun c A σ H D R f dk =>
  h c A σ H _ R f fun a vs A1 H1 R1 f1 S1 e dx => ⟨Or.inl ⟨rfl, vs, SqL.of e⟩, a, vs, rfl, rfl, e, dk.nx _ _ _ _ q (R1.mutFl f1).land aset_at⟩
theorem sm_appN (h : El te ρ xs ρ1) (hk : ρ1[k]? = some (.d x)) (len : xs.length < sizeLine) (q : K'.nx ρ1) : Sm (tDrop (tBM KF "list" rAppend te (tCons (tVar k) tNil))) ρ K' := fun c A σ H D R f dk =>
  h c A σ H _ R f fun a vs A1 H1 R1 f1 S1 e dx => by
    obtain ⟨_, v, ev, _⟩ := R1.sl k _ hk
    exact ⟨Or.inl ⟨rfl, vs, SqL.of e⟩, v, ev, a, vs, v, rfl, rfl, e, by rw [dx.length]; exact len, dk.nx _ _ _ _ q (R1.mutFl f1).land aset_at⟩
theorem et_neD (ha : Ev ta ρ (.d x) ρ1) (hb : Ev tb ρ1 (.d x) ρ2) (sh : SeqAt.shaped x = true) : Et (tTest (tOp KA.rNeD ta tb)) ρ false ρ2 :=
  (et_test (ev_op ha hb (fv_neD sh sh))).is (by rw [SeqAt.eqv_refl _ (SeqAt.canLay_of_shaped sh)]; rfl)
end
theorem pe_ixKT {X : Cx} {K : PySem.W.Frag} (e3 : X.K = K) {a b : Expr} {ta tb : TE} {pos : Pos} (ha : PE X a ta) (hb : PE X b tb) (hs : PlainIx b) : PE X (.Subscript a b pos) (tOp (rIxT K) ta tb) := by
  subst e3
  exact pe_ix ix_tup ha hb hs
theorem passF {X : Cx} {σ : L2.St} : PassesAt (L2.CX X.prog X.w) X σ (fun _ _ _ => False) := fun _ _ _ _ _ _ c => by
  obtain ⟨_, _, _, _, _, _, _, _, _, _, _, _, z⟩ := c
  exact z.elim
theorem pe_xF {X : Cx} {j k : Nat} {x : Str} {ps : List Str} {sp : Sp} {e : Expr} {es : List Expr} {t : TA} {p pos : Pos} (c : KP.CalX X.prog X.w X.K X.mg X.base k x ps sp) (hr : Room j X.A) (hk : k ≤ j) (hg : Gl X x) (ha : PA X (e :: es) t)
    (hdb : (x == ("__debug__" : Str)) = false := by decide) (he : starEach (e :: es) X.env = (false, eval e X.env) :: starEach es X.env := by rfl) (hpl : (backTo pos (starEach es X.env)).any (·.1) = false := by rfl) : PE X (.Call (.Name x p) (e :: es) [] pos) (tCallS sp (fun _ => fun _ _ _ => False) t) := by
  obtain ⟨f, fd, F, m, kp, b⟩ := c.ex
  exact pe_callS F (hr.mono hk) hg m kp b (fun σ => passF) ha hdb he hpl
end OW
namespace KP
open PySem PySem.Spec PyProof.Rows L2 KA OW
def spLaw (K : PySem.W.Frag) : Sp := fun vs H Q _ => ∃ (a : Addr) (ns : List Int), vs = [.ref a] ∧ SqL K H a (ns.map V.int) ∧ ns.length ≤ 63 ∧ ∀ H', Q (.bl true) H'
structure Calls (P : Program) (w : World) (K : PySem.W.Frag) (mg : Str → Option Value) (base : Heap) (C1 C2 : Addr) : Prop where
  cell : C8.Cal P w K mg base 1 "_law_cell" (spCell K) []
  purse : C8.Cal P w K mg base 1 "_law_purse" spPurse []
  take : C8.Cal P w K mg base 1 "_law_take" (spB 1 tTake) []
  term : C8.Cal P w K mg base 9 "_law_term" (spB 2 (tTerm 6)) []
  any : C8.Cal P w K mg base 10 "_law_any" (spB 2 tAny) []
  lparts : C8.Cal P w K mg base 2 "_law_parts" (spD 1 tLParts) []
  walk : C8.Cal P w K mg base 63 "_law_walk" (spD 3 (tLWalk 60)) []
  lchanged : C8.Cal P w K mg base 63 "_law_changed" (spD 3 (tLChanged 60)) []
  spots : CalX P w K mg base 6 "spots" ["term"] (spX 1 (tSpots C1))
  parts : CalX P w K mg base 6 "parts" ["term"] (spX 1 (tParts C1))
  part_at : CalX P w K mg base 7 "part_at" ["term", "spot"] (spX 2 (tAt C1 C2 (·.1)))
  binders : CalX P w K mg base 7 "binders_at" ["term", "spot"] (spX 2 (tAt C1 C2 fun r => .int r.2))
  changed : CalX P w K mg base 7 "changed" ["term", "spot", "other"] (spX 3 (tChanged C1 C2))
  refused : ∃ f fd, FnG P w K mg base CX0 10 f fd psLRefused (spB 2 tLRefused) ∧ mg "_law_refused_right" = some (.ref f) ∧ PySem.W.keepIn K (.ref f) = true ∧ Binds K fd psLRefused []
theorem part_fine {d y : PyData} (t : tm d = true) (f : fine d = true) (hy : y ∈ partsD d) : fine y = true := by
  obtain ⟨wd, ds, rfl⟩ := tm_shape t
  have f1 : fineAll (.str wd :: ds) = true := by simpa only [fine] using f
  have hy : y ∈ (if (parts wd).isSome = true then ds else []) := hy
  split at hy
  · exact fine_in f1 (List.mem_cons_of_mem _ hy)
  · cases hy
theorem reach_more : ∀ {q : List Nat} {d : PyData} {n : Int} {r : PyData × Int}, tm d = true → fine d = true → reachD d q n = some r → fine r.1 = true ∧ n ≤ r.2 ∧ r.2 ≤ n + q.length
  | [], d, n, r, t, f, h => by
    cases h
    exact ⟨f, Int.le_refl _, by simp⟩
  | i :: q, d, n, r, t, f, h => by
    have h : (match (partsD d)[i]? with | some e => reachD e q (n + passD (wdD d) (i : Int)) | none => none) = some r := h
    cases e : (partsD d)[i]? with
    | none =>
      rw [e] at h
      cases h
    | some g =>
      rw [e] at h
      have m := List.mem_of_getElem? e
      obtain ⟨a, b, c⟩ := reach_more (tmAll_mem (parts_tm t) m) (part_fine t f m) h
      have p : 0 ≤ passD (wdD d) (i : Int) ∧ passD (wdD d) (i : Int) ≤ 1 := by
        unfold passD
        split <;> constructor <;> decide
      refine ⟨a, by omega, ?_⟩
      rw [List.length_cons]
      omega
theorem cut_in {xs : List PyData} {lo hi : Option Int} {x : PyData} (h : x ∈ cutD xs lo hi) : x ∈ xs := List.mem_of_mem_drop (List.mem_of_mem_take h)
theorem cut_len {xs : List PyData} {lo hi : Option Int} : (cutD xs lo hi).length ≤ xs.length := by
  unfold OW.cutD
  rw [List.length_take, List.length_drop]
  omega
section
variable {P : Program} {w : World} {K : PySem.W.Frag} {mg : Str → Option Value} {base : Heap} {C1 C2 : Addr}
abbrev nLaw : List Str := ["_law_script", "_law_k", "_law_purse_here", "_law_term_here", "_law_other", "_law_row", "_law_turn", "_law_spot", "_law_part", "_law_under", "_law_one"]
theorem scLaw : FnScope nLaw ["_law_script"] (defScope sLaw) := ⟨rfl, rfl, rfl, by decide +kernel, rfl, by decide +kernel, by decide +kernel⟩
theorem ok_law {f : Addr} {fd : FuncData} (F : Fun K "law" "law" sLaw f fd) (T : Txt K w mg) (Y : Calls P w K mg base C1 C2) : FnG P w K mg base CX0 90 f fd ["_law_script"] (spLaw K) := by
  refine fnG (k := 89) F scLaw (fun vs H Q E h => ?_) (fun cdv A outer s H vs Q E g hr h => ?_)
  · obtain ⟨a, ns, rfl, _⟩ := h
    rfl
  obtain ⟨a, ns, rfl, hS, hl, fin⟩ := h
  obtain ⟨fN, fdN, FN, mN, kN, bN⟩ := Y.refused
  have hu : (A.deeper (envOfC "law" (defScope sLaw) s.heap.objs.size f cdv)).units + 200 < cLine := by have := hr.un; omega
  have hu64 : (A.deeper (envOfC "law" (defScope sLaw) s.heap.objs.size f cdv)).units + 64 < cLine := by omega
  have hg : (cxOf CX0 P w K mg base nLaw "law" (defScope sLaw) f cdv A outer s H E).nox.A.guards = some [] := g
  refine ⟨_, PSs.nox (pss_cons (ps_for PassesOwn.never rfl (pi_range1 (by rfl) T.range (pa_cons (pe_callB (call_max2 rfl) (by rfl) T.max (by decide +kernel) (pa_cons pe_int (pa_cons (pe_callB (call_min2 rfl) (by rfl) T.min (by decide +kernel) (pa_cons pe_int (pa_cons (pe_callB call_len_seq (by rfl) T.len PySem.boot_len (pa_cons (pv 0) pa_nil)) pa_nil))) pa_nil))) pa_nil)) (pg_name (i := 1) scLaw.nd rfl (Or.inl rfl)) (pss_cons (ps_set (i := 2) scLaw.nd rfl (Or.inl rfl) (C8.pe_c Y.purse hr (by decide) rfl (pa_cons (C8.pe_c Y.cell hr (by decide) rfl (pa_cons (pv 0) (pa_cons (pv 1) pa_nil))) pa_nil)))
      (pss_cons (ps_set (i := 3) scLaw.nd rfl (Or.inl rfl) (C8.pe_c Y.any hr (by decide) rfl (pa_cons (pv 2) (pa_cons pe_int (pa_cons pe_int pa_nil)))))
      (pss_cons (ps_set (i := 4) scLaw.nd rfl (Or.inl rfl) (C8.pe_c Y.term hr (by decide) rfl (pa_cons (pv 2) (pa_cons (C8.pe_c Y.take hr (by decide) rfl (pa_cons (pv 2) (pa_cons pe_int pa_nil))) (pa_cons pe_int pa_nil)))))
      (pss_cons (ps_set (i := 5) scLaw.nd rfl (Or.inl rfl) (C8.pe_c Y.walk hr (by decide) rfl (pa_cons (pv 3) (pa_cons (pe_tup pa_nil) (pa_cons pe_int pa_nil)))))
      (pss_cons (ps_for PassesOwn.never rfl (pi_range1 (by rfl) T.range (pa_cons pe_int pa_nil)) (pg_name (i := 6) scLaw.nd rfl (Or.inl rfl)) (pss_cons (ps_if (PW.pt (pw_or (pt_cmpR (KA.op_neD hu64) (pe_xF Y.spots hr (by decide) rfl (pa_cons (pv 3) pa_nil)) (pe_lc (own := [("_law_one", 10)]) (g := gName 10) (tt := tYes) rfl scLaw.nd (pi_list (pv 5)) (blkOk_by (N := nLaw) (sc := defScope sLaw) (by decide +kernel)) (fun _ _ _ _ _ => pg_name (i := 10) scLaw.nd rfl (Or.inl rfl)) (fun _ _ _ _ _ => pts_nil) (fun _ _ _ _ _ => (pe_ixKT (K := K) rfl (pv 10) pe_int (fun _ _ => rfl)))) (nomark _)) (pw_or1 (pt_cmpR (KA.op_neD hu64) (pe_xF Y.parts hr (by decide) rfl (pa_cons (pv 3) pa_nil)) (C8.pe_c Y.lparts hr (by decide) rfl (pa_cons (pv 3) pa_nil)) (nomark _))))) (pss_one (ps_ret pe_bl)) pss_nil) (pss_cons (ps_expr (pe_bm0 PySem.F.plainAttrs_list PySem.F.slot_list_clear PySem.F.type_list_clear mt_clear (pe_xF Y.spots hr (by decide) rfl (pa_cons (pv 3) pa_nil))))
      (pss_one (ps_expr (pe_bm PySem.F.plainAttrs_list PySem.F.slot_list_append PySem.F.type_list_append mt_append (pe_xF Y.parts hr (by decide) rfl (pa_cons (pv 3) pa_nil)) (pa_cons (pv 4) pa_nil)))))))
      (pss_cons (ps_for PassesOwn.never rfl (pi_list (pe_op op_cat (pe_slice sl_list (pv 5) po_none (po_some pe_int)) (pe_slice sl_list (pv 5) (po_some (pe_callB (call_max2 rfl) (by rfl) T.max (by decide +kernel) (pa_cons pe_int (pa_cons (pe_op op_sub (pe_callB call_len_seq (by rfl) T.len PySem.boot_len (pa_cons (pv 5) pa_nil)) pe_int) pa_nil)))) po_none))) (pg_tup rfl (pgs_cons (pg_name (i := 7) scLaw.nd rfl (Or.inl rfl)) (pgs_cons (pg_name (i := 8) scLaw.nd rfl (Or.inl rfl)) (pgs_cons (pg_name (i := 9) scLaw.nd rfl (Or.inl rfl)) pgs_nil)))) (pss_cons (ps_if (PW.pt (pw_or (pt_cmpR (KA.op_neD hu64) (pe_xF Y.part_at hr (by decide) rfl (pa_cons (pv 3) (pa_cons (pv 7) pa_nil))) (pv 8) (nomark _)) (pw_or1 (pt_cmpR op_ne (pe_callB (call_repr hg hu) (by rfl) T.repr (by decide +kernel) (pa_cons (pe_xF Y.binders hr (by decide) rfl (pa_cons (pv 3) (pa_cons (pv 7) pa_nil))) pa_nil)) (pe_callB (call_repr hg hu) (by rfl) T.repr (by decide +kernel) (pa_cons (pv 9) pa_nil)) (nomark _))))) (pss_one (ps_ret pe_bl)) pss_nil) (pss_one (ps_if (pt_cmpR (KA.op_neD hu64) (pe_xF Y.changed hr (by decide) rfl (pa_cons (pv 3) (pa_cons (pv 7) (pa_cons (pv 4) pa_nil)))) (C8.pe_c Y.lchanged hr (by decide) rfl (pa_cons (pv 3) (pa_cons (pv 7) (pa_cons (pv 4) pa_nil)))) (nomark _)) (pss_one (ps_ret pe_bl)) pss_nil))))
      (pss_one (ps_if (pt_not (pt_val (pe_callG FN hg (hr.mono (by decide)) rfl mN kN bN (pa_cons (pv 2) (pa_cons (pv 3) (pa_cons (pv 5) pa_nil)))))) (pss_one (ps_ret pe_bl)) pss_nil)))))))))
      (pss_one (ps_ret pe_bl))), ?_⟩
  refine (?main : Sm _ ([.p (scrMo K ns)] ++ uns (nLaw.length - 1)) { nx := fun _ => False, rt := fun r _ => r = .d (.bool true) }) ⟨fun _ => False, none, H, hz (fun _ => False) H⟩ _ _ H _ (rp_start (N := nLaw) (n := 1) (by decide) (fun _ z => z.elim) ⟨⟨a, rfl, sql_mono (fun b o e => hz_mk (fun z => z) e) hS⟩, trivial⟩ rfl) rfl ⟨fun _ _ _ _ z => z.elim, fun r ρ v A' σ' H' k R o => ?ret, fun _ _ _ _ z => z.elim, fun _ _ _ _ z => z.elim⟩
  case ret =>
    subst k
    obtain rfl := bool_v o.2
    exact fin H'
  clear fin hS
  have small : ∀ j : Int, -2 ^ 62 ≤ (if (if j < 8 then j else 8) > 2 then (if j < 8 then j else 8) else 2) ∧ (if (if j < 8 then j else 8) > 2 then (if j < 8 then j else 8) else 2) < 2 ^ 62 := fun j => by
    split <;> split <;> constructor <;> omega
  refine sm_seq (sm_for (fi_rng1 (eds_cons (ev_fn (es_cons ev_int (es_cons (ev_fn (es_cons ev_int (es_cons (ev_fn (es_cons (ev_varp rfl) es_nil) fv_lenScr) es_nil)) fv_min2) es_nil)) fv_max2) eds_nil) (small _)) (fun j ρ => ∃ s1 s2 s3 s4 s5 s6 s7 s8 s9 s10, ρ = [.p (scrMo K ns), s1, s2, s3, s4, s5, s6, s7, s8, s9, s10] ∧ s10.free) ⟨_, _, _, _, _, _, _, _, _, _, rfl, trivial⟩ (fun j x ρ ex r => ?_) (fun ρ r => ?_))
  · obtain ⟨s1, s2, s3, s4, s5, s6, s7, s8, s9, s10, rfl, f10⟩ := r
    obtain ⟨_, rfl⟩ := rngD_at ex
    refine ⟨_, tg_name, ?_⟩
    refine sm_seq (sm_purse rfl rfl (fun pu hp => ?_))
    obtain ⟨td, bd, p1⟩ := anyF_ok (deep := 6) (below := 9) (by decide) (by decide) (by decide) (by decide) hp (by decide)
    refine sm_seq (sm_set (ev_callB (i := 2) rfl (es_cons ev_int (es_cons ev_int es_nil)) rfl ar_nil rfl ⟨pu, 0, 6, 9, rfl, rfl, hp, by decide, by decide, by decide, by decide, by decide, rfl, rfl⟩) ?_)
    generalize anyF 6 9 pu = a1 at *
    obtain ⟨u0, u1, u2⟩ := takeF_ok (m := 3) p1 (by decide)
    have got := got_take p1 (by decide) (m := 3) (by decide) (by decide)
    generalize takeF a1.2 3 = a2 at *
    have k16 : 4 ^ a2.1.toNat ≤ 16 := Nat.le_trans (Nat.pow_le_pow_right (by decide) (by omega : a2.1.toNat ≤ 2)) (by decide)
    have mN : maxN = 1000000000 := rfl
    obtain ⟨to, bo, p2⟩ := termF_ok (below := 9) (by decide) (by decide) a2.1.toNat a2.2 _ u2 (by omega)
    refine sm_seq (sm_set (ev_callB (i := 2) rfl (es_cons (ev_callB (i := 2) rfl (es_cons ev_int es_nil) rfl ar_nil rfl got) (es_cons ev_int es_nil)) rfl ar_nil rfl (got_term (lim := 6) u2 u0 (by omega) (by decide) (by decide) (by omega))) ?_)
    have bo : Bd 3 16000 (termF a2.1.toNat 9 a2.2).1 := bo.mono (by omega) (by omega)
    have p2 : PuOk (termF a2.1.toNat 9 a2.2).2 60000 := p2.more (by omega)
    generalize termF a2.1.toNat 9 a2.2 = a3 at *
    have okd := ok2_of bd (by decide)
    have oko := ok2_of bo (by decide)
    have dd := bd.2.1
    have fd := tm_flat _ td
    have fo := tm_flat _ to
    refine sm_seq (sm_set (ev_call (x := .list (walkF a1.1 [] 0)) (es_cons (ev_var rfl) (es_cons (ev_tup eds_nil) (es_cons ev_int es_nil))) ar_nil rfl ⟨a1.1, [], 0, rfl, td, by omega, by have := okd.2; omega, by decide, rfl⟩) ?_)
    have wl := walkF_len a1.1 [] 0
    have wn : (walkF a1.1 [] 0).length ≤ 1000000 := Nat.le_trans wl okd.2
    have wm := fun x hx => walk_mem a1.1 [] 0 x td hx
    have ws := walk_spots a1.1 [] 0
    have spb : ∀ q r, reachD a1.1 q 0 = some r → BdAll 0 (58 * 42) (q.map fun i : Nat => PyData.int (i : Int)) := fun q r e => spot_bd (n := 58) (by have := (reach_facts td e).2.1; omega) (reach_facts td e).2.2.1
    have sh1 : SeqAt.shaped (.list ((spotsF a1.1 []).map spotT)) = true := by
      have := all_in (a := 2) (ds := (spotsF a1.1 []).map spotT) fun y hy => by
        rw [← ws] at hy
        obtain ⟨x, hx, rfl⟩ := List.mem_map.mp hy
        obtain ⟨q, e, m, rfl, re⟩ := wm x hx
        have b := Bd.tup (spb q _ re)
        refine ⟨?_, b.1, Nat.le_trans b.2.1 (by decide)⟩
        show flatAll (q.map fun i : Nat => PyData.int (i : Int)) = true
        generalize q = q
        clear re b
        induction q with
        | nil => rfl
        | cons i q ih => simp only [List.map_cons, flatAll, flatD, ih, Bool.and_self]
      exact shaped_list this.1 this.2.1 (Nat.le_trans this.2.2 (by decide))
    have sh2 : SeqAt.shaped (.list (partsD a1.1)) = true := by
      have := all_in (a := 58) (ds := partsD a1.1) fun y hy => by
        have ty := tmAll_mem (parts_tm td) hy
        have := parts_depth hy td
        exact ⟨tm_flat _ ty, part_fine td bd.1 hy, by omega⟩
      exact shaped_list this.1 this.2.1 (by omega)
    have lp3 := partsD_le td
    refine sm_seq (sm_for (fi_rng1 (eds_cons ev_int eds_nil) (by decide)) (fun j' ρ => ∃ s6 s10, ρ = [.p (scrMo K ns), .d (.int (j : Int)), .l a3.2.ds, .d a1.1, .d a3.1, .d (.list (walkF a1.1 [] 0)), s6, s7, s8, s9, s10] ∧ s10.free) ⟨_, _, rfl, f10⟩ (fun j' x ρ ex r => ?_) (fun ρ r => ?_))
    · obtain ⟨s6, s10, rfl, f10⟩ := r
      have spot : ∀ {ρ : List Sl}, ρ[3]? = some (.d a1.1) → El (tCallS (spX 1 (tSpots C1)) (fun _ => fun _ _ _ => False) (tCons (tVar 3) tNil)) ρ ((spotsF a1.1 []).map spotT) ρ := fun h => el_callX (es_cons (ev_var h) es_nil) rfl ⟨.d _, _, rfl, .d _, okd, (fun _ => rfl), (fun z => by rw [td] at z; cases z)⟩
      have part : ∀ {ρ : List Sl}, ρ[3]? = some (.d a1.1) → El (tCallS (spX 1 (tParts C1)) (fun _ => fun _ _ _ => False) (tCons (tVar 3) tNil)) ρ (partsD a1.1) ρ := fun h => el_callX (es_cons (ev_var h) es_nil) rfl ⟨.d _, _, rfl, .d _, okd, (fun _ => rfl), (fun z => by rw [td] at z; cases z)⟩
      refine ⟨_, tg_name, sm_seq (sm_if (et_or (b := false) (et_neD (Ev.of_el (spot rfl)) (Ev.is (Ev.of_el (el_lcP (f := fstD) (fi_list (ev_var rfl)) ⟨s10, rfl, f10⟩ (by rw [sizeLine_eq]; omega) (fun x hx => ?_))) (by rw [ws])) sh1) fun _ => (et_neD (Ev.of_el (part rfl)) (Ev.of_el (el_call (es_cons (ev_var rfl) es_nil) ar_nil rfl ⟨_, rfl, td, rfl⟩)) sh2)) (fun h => by cases h) (fun h => sm_next ?_))⟩
      · obtain ⟨q, e, m, rfl, re⟩ := wm x hx
        exact ev_op (ev_var rfl) ev_int (fv_ixT at0)
      · exact sm_seq (sm_clearN (spot rfl) (sm_appN (part rfl) (k := 4) rfl (by rw [sizeLine_eq]; omega) ⟨_, _, rfl, (show Sl.free .any from trivial)⟩))
    · obtain ⟨s6, s10, rfl, f10⟩ := r
      refine sm_seq (sm_for (fi_list (Ev.of_el (el_op (Ev.of_el (el_slL (ev_var rfl) eo_none (eo_some ev_int))) (Ev.of_el (el_slL (ev_var rfl) (eo_some (ev_fn (es_cons ev_int (es_cons (ev_op (ev_fn (es_cons (ev_var rfl) es_nil) fv_lenL) ev_int fv_int) es_nil)) fv_max2)) eo_none)) (fl_cat (Nat.le_trans (Nat.add_le_add cut_len cut_len) (by rw [sizeLine_eq]; omega)))))) (fun j' ρ => ∃ s7 s8 s9, ρ = [.p (scrMo K ns), .d (.int (j : Int)), .l a3.2.ds, .d a1.1, .d a3.1, .d (.list (walkF a1.1 [] 0)), s6, s7, s8, s9, s10]) ⟨_, _, _, rfl⟩ (fun j' x ρ ex r => ?_) (fun ρ r => ?_))
      · obtain ⟨s7, s8, s9, rfl⟩ := r
        have hx : x ∈ walkF a1.1 [] 0 := by
          rcases List.mem_append.mp (List.mem_of_getElem? ex) with h | h
          · exact cut_in h
          · exact cut_in h
        obtain ⟨q, e, m, rfl, re⟩ := wm x hx
        obtain ⟨te, lq, sq, _, _⟩ := reach_facts td re
        obtain ⟨fe, m0, m1⟩ := reach_more td bd.1 re
        have okq : okT (spotT q) := ok2_of (Bd.tup (spb q _ re)) (by decide)
        have de : e.depth ≤ 58 := by have : q.length + e.depth ≤ a1.1.depth := lq; omega
        have lq58 : q.length ≤ 58 := by have : q.length + e.depth ≤ a1.1.depth := lq; omega
        have she : SeqAt.shaped e = true := shaped_flat (tm_flat _ te) fe (by omega)
        have Bm : Bd 0 40 (.int m) := Bd.int (by have m0 : 0 ≤ m := m0; have m1 : m ≤ 0 + (q.length : Int) := m1; constructor <;> omega)
        have do3 := bo.2.1
        obtain ⟨cf, cg, cd⟩ := ch_ok fo bo.1 (q := q) fd bd.1
        have shc : SeqAt.shaped (chD a1.1 q a3.1) = true := shaped_flat cf cg (by omega)
        refine ⟨_, tg_tup (xs := [spotT q, e, .int m]) (tgs_cons tg_name (tgs_cons tg_name (tgs_cons tg_name tgs_nil))), ?_⟩
        refine sm_seq (sm_if (et_or (b := false) (et_neD (x := e) (ev_callX (es_cons (ev_var rfl) (es_cons (ev_var rfl) es_nil)) rfl (at_yes okd okq td re)) (ev_var rfl) she) fun _ => et_reprNe (x := .int m) (ev_callX (es_cons (ev_var rfl) (es_cons (ev_var rfl) es_nil)) rfl (at_yes okd okq td re)) (ev_var rfl) Bm (by decide) (by decide)) (fun h => by cases h) (fun h => sm_next ?_))
        refine sm_if (et_neD (ev_callX (es_cons (ev_var rfl) (es_cons (ev_var rfl) (es_cons (ev_var rfl) es_nil))) rfl (ch_yes okd okq oko td to re)) (ev_call (es_cons (ev_var rfl) (es_cons (ev_var rfl) (es_cons (ev_var rfl) es_nil))) ar_nil rfl ⟨a1.1, q, a3.1, 0, (e, m), rfl, td, by omega, re, by have := okd.2; omega, rfl⟩) shc) (fun h => by cases h) (fun h => sm_next ⟨_, _, _, rfl⟩)
      · obtain ⟨s7, s8, s9, rfl⟩ := r
        exact sm_if (et_not (et_B (ev_callB (i := 2) rfl (es_cons (ev_var rfl) (es_cons (ev_var rfl) es_nil)) rfl ar_nil rfl ⟨a3.2, 60000, a1.1, rfl, rfl, td, bd, p2, by decide, rfl, rfl⟩))) (fun h => by cases h) (fun h => sm_next ⟨_, _, _, _, _, _, _, _, _, _, rfl, f10⟩)
  · obtain ⟨s1, s2, s3, s4, s5, s6, s7, s8, s9, s10, rfl, f10⟩ := r
    exact sm_ret ev_bl rfl
end
end KP
set_option Elab.async false
set_option linter.unusedVariables false
set_option maxRecDepth 100000
set_option maxHeartbeats 4000000
namespace KP
open PySem PySem.Spec PyProof.Rows L2 KA OW
/-! ### what stands behind the top -/
structure DefAt (K : PySem.W.Frag) (x : Str) (st : Stmt) (f : Addr) (fd : FuncData) : Prop where
  at_ : PySem.W.nsIn K mainGlobals x = some (some (.ref f))
  fn : Fun K x x st f fd
theorem defAt {K : PySem.W.Frag} {x : Str} {st : Stmt} {f : Addr} {oc : Value} {od an : Option Addr} {osl : Array (Option Value)} {kV doc pm cdv ct : Value} (a : PySem.W.nsIn K mainGlobals x = some (some (.ref f))) (l : K.lookup f = some ⟨oc, od, .func (PySem.W.fnOf x x (defArgs st) (defBody st) (defScope st) .none kV doc pm an cdv ct), osl⟩)
    (c : PySem.W.codeIn K cdv x = true) (k : PySem.W.keepIn K (.ref f) = true) : ∃ f fd, DefAt K x st f fd := ⟨_, _, a, fun_mk l c k⟩
structure NotC (K : PySem.W.Frag) (nm qual : Str) (st : Stmt) (C fI : Addr) (fdI : FuncData) : Prop where
  at_ : PySem.W.nsIn K mainGlobals nm = some (some (.ref C))
  oex : OexC K C
  iC : PySem.W.findIn K (.ref C) "__init__" = some (some (.ref fI))
  tI : PySem.W.typeIn K (.ref fI) = some (.type "function")
  noF : PySem.W.findIn K (.ref C) "found" = some none
  fn : Fun K "__init__" qual st fI fdI
  xf : XfC K C
  te : PySem.W.exmOne K (.ref C) (.ref C) = some true
structure Facts (K : PySem.W.Frag) (w : World) : Prop where
  whole : ∃ f fd, DefAt K "is_whole" sWhole f fd
  name : ∃ f fd, DefAt K "is_name" sName f fd
  leaf : ∃ f fd, DefAt K "_is_leaf" sLeaf f fd
  term : ∃ f fd, DefAt K "is_term" sTerm f fd
  spot : ∃ f fd, DefAt K "is_spot" sSpot f fd
  partsof : ∃ f fd, DefAt K "parts_of" sPartsOf f fd
  passed : ∃ f fd, DefAt K "passed" sPassed f fd
  allspots : ∃ f fd, DefAt K "all_spots" sAllSpots f fd
  reached : ∃ f fd, DefAt K "reached" sReached f fd
  withpart : ∃ f fd, DefAt K "with_part" sWithPart f fd
  want : ∃ f fd, DefAt K "want_term" sWant f fd
  placeof : ∃ f fd, DefAt K "_place_of" sPlaceOf f fd
  prts : ∃ f fd, DefAt K "parts" sParts f fd
  partat : ∃ f fd, DefAt K "part_at" sPartAt f fd
  binders : ∃ f fd, DefAt K "binders_at" sBinders f fd
  spots : ∃ f fd, DefAt K "spots" sSpots f fd
  changed : ∃ f fd, DefAt K "changed" sChanged f fd
  cell : ∃ f fd, DefAt K "_law_cell" sCell f fd
  purse : ∃ f fd, DefAt K "_law_purse" sPurse f fd
  take : ∃ f fd, DefAt K "_law_take" sTake f fd
  forms : ∃ f fd, DefAt K "_law_forms" sForms f fd
  word : ∃ f fd, DefAt K "_law_word" sWord f fd
  tm : ∃ f fd, DefAt K "_law_term" sTm f fd
  any : ∃ f fd, DefAt K "_law_any" sAny f fd
  lparts : ∃ f fd, DefAt K "_law_parts" sLParts f fd
  lover : ∃ f fd, DefAt K "_law_over" sLOver f fd
  lwalk : ∃ f fd, DefAt K "_law_walk" sLWalk f fd
  lchanged : ∃ f fd, DefAt K "_law_changed" sLChanged f fd
  lasked : ∃ f fd, DefAt K "_law_asked" sLAsked f fd
  lrefused : ∃ f fd, DefAt K "_law_refused_right" sLRefused f fd
  law : ∃ f fd, DefAt K "law" sLaw f fd
  count : ∃ f fd, PySem.W.nsIn K mainGlobals "is_count" = some (some (.ref f)) ∧ FunD K "is_count" "is_count" (defArgs sCount) (defBody sCount) (defScope sCount) [.int 0] [] f fd
  n_isi : PySem.W.nsIn K mainGlobals "isinstance" = some none
  n_int : PySem.W.nsIn K mainGlobals "int" = some none
  n_bool : PySem.W.nsIn K mainGlobals "bool" = some none
  n_str : PySem.W.nsIn K mainGlobals "str" = some none
  n_tuple : PySem.W.nsIn K mainGlobals "tuple" = some none
  n_list : PySem.W.nsIn K mainGlobals "list" = some none
  n_dict : PySem.W.nsIn K mainGlobals "dict" = some none
  n_len : PySem.W.nsIn K mainGlobals "len" = some none
  n_all : PySem.W.nsIn K mainGlobals "all" = some none
  n_max : PySem.W.nsIn K mainGlobals "max" = some none
  n_min : PySem.W.nsIn K mainGlobals "min" = some none
  n_range : PySem.W.nsIn K mainGlobals "range" = some none
  n_zip : PySem.W.nsIn K mainGlobals "zip" = some none
  n_repr : PySem.W.nsIn K mainGlobals "repr" = some none
  n_reversed : PySem.W.nsIn K mainGlobals "reversed" = some none
  n_enumerate : PySem.W.nsIn K mainGlobals "enumerate" = some none
  letters : ∃ u, PySem.W.nsIn K mainGlobals "LETTERS" = some (some u) ∧ RelV (.str KP.letters) u
  most : ∃ u, PySem.W.nsIn K mainGlobals "MOST_LETTERS" = some (some u) ∧ RelV (.int 8) u
  highest : ∃ u, PySem.W.nsIn K mainGlobals "HIGHEST" = some (some u) ∧ RelV (.int 5) u
  no : ∃ a o its n, PySem.W.nsIn K mainGlobals "NO_NAMES" = some (some (.ref a)) ∧ K.lookup a = some o ∧ o.cls = .type "tuple" ∧ o.data = .seq its n ∧ its.size ≤ sizeLine ∧ Vals (noNames.map V.str) its.toList
  parted : ∃ a es n, PySem.W.nsIn K mainGlobals "PARTED" = some (some (.ref a)) ∧ KDict K w a es n ∧ ∀ z, ∃ r, PySem.W.nsIn K a z = some r ∧ RelO ((parts z).map fun n => V.int (n : Int)) r
  nots : ∃ U C1 fI1 fdI1 C2 fI2 fdI2, PySem.W.nsIn K mainGlobals "PaperError" = some (some (.ref U)) ∧ UpC K U ∧ NotC K "NoTerm" "NoTerm.__init__" sInitT C1 fI1 fdI1 ∧ NotC K "NoSpot" "NoSpot.__init__" sInitS C2 fI2 fdI2 ∧ PySem.W.exmOne K (.ref C2) (.ref C1) = some false
section
variable {P : Program} {w : World} {K : PySem.W.Frag} {h : Heap} {mg : Str → Option Value}
theorem Facts.txt (Z : Facts K w) (X : K.In h) (G : h.Ns mainGlobals mg) : Txt K w mg where
  isi := PySem.W.mg_none_of X G Z.n_isi
  int := PySem.W.mg_none_of X G Z.n_int
  bool := PySem.W.mg_none_of X G Z.n_bool
  str := PySem.W.mg_none_of X G Z.n_str
  tuple := PySem.W.mg_none_of X G Z.n_tuple
  list := PySem.W.mg_none_of X G Z.n_list
  dict := PySem.W.mg_none_of X G Z.n_dict
  len := PySem.W.mg_none_of X G Z.n_len
  all := PySem.W.mg_none_of X G Z.n_all
  max := PySem.W.mg_none_of X G Z.n_max
  min := PySem.W.mg_none_of X G Z.n_min
  range := PySem.W.mg_none_of X G Z.n_range
  zip := PySem.W.mg_none_of X G Z.n_zip
  repr := PySem.W.mg_none_of X G Z.n_repr
  letters := by
    obtain ⟨u, e, r⟩ := Z.letters
    exact ⟨u, PySem.W.mg_of X G e, r⟩
  most := by
    obtain ⟨u, e, r⟩ := Z.most
    exact ⟨u, PySem.W.mg_of X G e, r⟩
  highest := by
    obtain ⟨u, e, r⟩ := Z.highest
    exact ⟨u, PySem.W.mg_of X G e, r⟩
  no := by
    obtain ⟨a, o, its, n, e, r⟩ := Z.no
    exact ⟨a, o, its, n, PySem.W.mg_of X G e, r⟩
  parted := by
    obtain ⟨a, es, n, e, r⟩ := Z.parted
    exact ⟨a, es, n, PySem.W.mg_of X G e, r⟩
theorem DefAt.dfn {x : Str} {st : Stmt} {f : Addr} {fd : FuncData} {ps : List Str} (D : DefAt K x st f fd) (X : K.In h) (G : h.Ns mainGlobals mg)
    (b : ∀ (kV doc pm : Value) (an : Option Addr) (cdv ct : Value) (us : List Value), us.length = ps.length → bindArgs (PySem.W.fnOf x x (defArgs st) (defBody st) (defScope st) .none kV doc pm an cdv ct) ⟨us, []⟩ = pure (ps.zip us)) : Dfn K mg x st f fd ps :=
  ⟨D.fn, PySem.W.mg_of X G D.at_, D.fn.binds b⟩
theorem all_mk {fa : Addr} (X : K.In h) (G : h.Ns mainGlobals mg) (hfa : mg "law" = some (.ref fa)) (Z : Facts K w) :
    ∃ fd : FuncData, (∀ (s : Shared) (v : Value), BindsTo s fd ⟨[v], []⟩ [("_law_script", v)]) ∧ ∀ base : Heap, K.In base → base.Ns mainGlobals mg → FnG P w K mg base CX0 90 fa fd ["_law_script"] (spLaw K) := by
  have T := Z.txt X G
  have Trev := PySem.W.mg_none_of X G Z.n_reversed
  have Tenum := PySem.W.mg_none_of X G Z.n_enumerate
  obtain ⟨f_whole, d_whole, D_whole⟩ := Z.whole
  obtain ⟨f_name, d_name, D_name⟩ := Z.name
  obtain ⟨f_leaf, d_leaf, D_leaf⟩ := Z.leaf
  obtain ⟨f_term, d_term, D_term⟩ := Z.term
  obtain ⟨f_spot, d_spot, D_spot⟩ := Z.spot
  obtain ⟨f_partsof, d_partsof, D_partsof⟩ := Z.partsof
  obtain ⟨f_passed, d_passed, D_passed⟩ := Z.passed
  obtain ⟨f_allspots, d_allspots, D_allspots⟩ := Z.allspots
  obtain ⟨f_reached, d_reached, D_reached⟩ := Z.reached
  obtain ⟨f_withpart, d_withpart, D_withpart⟩ := Z.withpart
  obtain ⟨f_want, d_want, D_want⟩ := Z.want
  obtain ⟨f_placeof, d_placeof, D_placeof⟩ := Z.placeof
  obtain ⟨f_prts, d_prts, D_prts⟩ := Z.prts
  obtain ⟨f_partat, d_partat, D_partat⟩ := Z.partat
  obtain ⟨f_binders, d_binders, D_binders⟩ := Z.binders
  obtain ⟨f_spots, d_spots, D_spots⟩ := Z.spots
  obtain ⟨f_changed, d_changed, D_changed⟩ := Z.changed
  obtain ⟨f_cell, d_cell, D_cell⟩ := Z.cell
  obtain ⟨f_purse, d_purse, D_purse⟩ := Z.purse
  obtain ⟨f_take, d_take, D_take⟩ := Z.take
  obtain ⟨f_forms, d_forms, D_forms⟩ := Z.forms
  obtain ⟨f_word, d_word, D_word⟩ := Z.word
  obtain ⟨f_tm, d_tm, D_tm⟩ := Z.tm
  obtain ⟨f_any, d_any, D_any⟩ := Z.any
  obtain ⟨f_lparts, d_lparts, D_lparts⟩ := Z.lparts
  obtain ⟨f_lover, d_lover, D_lover⟩ := Z.lover
  obtain ⟨f_lwalk, d_lwalk, D_lwalk⟩ := Z.lwalk
  obtain ⟨f_lchanged, d_lchanged, D_lchanged⟩ := Z.lchanged
  obtain ⟨f_lasked, d_lasked, D_lasked⟩ := Z.lasked
  obtain ⟨f_lrefused, d_lrefused, D_lrefused⟩ := Z.lrefused
  obtain ⟨f_law, d_law, D_law⟩ := Z.law
  obtain ⟨f6, d6, e6, D6⟩ := Z.count
  obtain ⟨U, C1, fI1, fdI1, C2, fI2, fdI2, eU, up, N1, N2, n21⟩ := Z.nots
  have e := hfa.symm.trans (PySem.W.mg_of X G D_law.at_)
  cases e
  have m6 := PySem.W.mg_of X G e6
  obtain ⟨ds0, v0, b0⟩ := D6.binds1 (ps := ["thing", "low"]) 1 0 (by simp) rfl fun _ _ _ _ _ _ _ us its hu hi => match us, its, hu, hi with | [_], [_], _, _ => ⟨_, rfl, rfl⟩
  obtain ⟨ds1, v1, b1⟩ := D6.binds1 (ps := ["thing", "low"]) 2 1 (by simp) rfl fun _ _ _ _ _ _ _ us its hu hi => match us, its, hu, hi with | [_, _], [_], _, _ => ⟨_, rfl, rfl⟩
  have bI1 : Binds K fdI1 ["self", "found"] [] := N1.fn.binds fun _ _ _ _ _ _ us hl => match us, hl with | [_, _], _ => rfl
  have bI2 : Binds K fdI2 ["self", "found"] [] := N2.fn.binds fun _ _ _ _ _ _ us hl => match us, hl with | [_, _], _ => rfl
  have NT : NoX K mg "NoTerm" "NoTerm.__init__" sInitT C1 U fI1 fdI1 := ⟨N1.oex, up, PySem.W.mg_of X G eU, PySem.W.mg_of X G N1.at_, N1.iC, N1.tI, N1.noF, N1.fn, bI1, N1.xf, N1.te⟩
  have NS : NoX K mg "NoSpot" "NoSpot.__init__" sInitS C2 U fI2 fdI2 := ⟨N2.oex, up, PySem.W.mg_of X G eU, PySem.W.mg_of X G N2.at_, N2.iC, N2.tI, N2.noF, N2.fn, bI2, N2.xf, N2.te⟩
  have N_whole : Dfn K mg "is_whole" sWhole f_whole d_whole ["thing", "low", "high"] := D_whole.dfn X G fun _ _ _ _ _ _ us hl => match us, hl with | [_, _, _], _ => rfl
  have N_name : Dfn K mg "is_name" sName f_name d_name ["thing"] := D_name.dfn X G fun _ _ _ _ _ _ us hl => match us, hl with | [_], _ => rfl
  have N_leaf : Dfn K mg "_is_leaf" sLeaf f_leaf d_leaf ["thing"] := D_leaf.dfn X G fun _ _ _ _ _ _ us hl => match us, hl with | [_], _ => rfl
  have N_term : Dfn K mg "is_term" sTerm f_term d_term ["thing"] := D_term.dfn X G fun _ _ _ _ _ _ us hl => match us, hl with | [_], _ => rfl
  have N_spot : Dfn K mg "is_spot" sSpot f_spot d_spot ["thing"] := D_spot.dfn X G fun _ _ _ _ _ _ us hl => match us, hl with | [_], _ => rfl
  have N_partsof : Dfn K mg "parts_of" sPartsOf f_partsof d_partsof ["term"] := D_partsof.dfn X G fun _ _ _ _ _ _ us hl => match us, hl with | [_], _ => rfl
  have N_passed : Dfn K mg "passed" sPassed f_passed d_passed ["word", "at"] := D_passed.dfn X G fun _ _ _ _ _ _ us hl => match us, hl with | [_, _], _ => rfl
  have N_allspots : Dfn K mg "all_spots" sAllSpots f_allspots d_allspots ["term"] := D_allspots.dfn X G fun _ _ _ _ _ _ us hl => match us, hl with | [_], _ => rfl
  have N_reached : Dfn K mg "reached" sReached f_reached d_reached ["term", "spot"] := D_reached.dfn X G fun _ _ _ _ _ _ us hl => match us, hl with | [_, _], _ => rfl
  have N_withpart : Dfn K mg "with_part" sWithPart f_withpart d_withpart ["term", "spot", "other"] := D_withpart.dfn X G fun _ _ _ _ _ _ us hl => match us, hl with | [_, _, _], _ => rfl
  have N_want : Dfn K mg "want_term" sWant f_want d_want ["thing"] := D_want.dfn X G fun _ _ _ _ _ _ us hl => match us, hl with | [_], _ => rfl
  have N_placeof : Dfn K mg "_place_of" sPlaceOf f_placeof d_placeof ["term", "spot"] := D_placeof.dfn X G fun _ _ _ _ _ _ us hl => match us, hl with | [_, _], _ => rfl
  have N_prts : Dfn K mg "parts" sParts f_prts d_prts ["term"] := D_prts.dfn X G fun _ _ _ _ _ _ us hl => match us, hl with | [_], _ => rfl
  have N_partat : Dfn K mg "part_at" sPartAt f_partat d_partat ["term", "spot"] := D_partat.dfn X G fun _ _ _ _ _ _ us hl => match us, hl with | [_, _], _ => rfl
  have N_binders : Dfn K mg "binders_at" sBinders f_binders d_binders ["term", "spot"] := D_binders.dfn X G fun _ _ _ _ _ _ us hl => match us, hl with | [_, _], _ => rfl
  have N_spots : Dfn K mg "spots" sSpots f_spots d_spots ["term"] := D_spots.dfn X G fun _ _ _ _ _ _ us hl => match us, hl with | [_], _ => rfl
  have N_changed : Dfn K mg "changed" sChanged f_changed d_changed ["term", "spot", "other"] := D_changed.dfn X G fun _ _ _ _ _ _ us hl => match us, hl with | [_, _, _], _ => rfl
  have N_cell : Dfn K mg "_law_cell" sCell f_cell d_cell ["_law_script", "_law_k"] := D_cell.dfn X G fun _ _ _ _ _ _ us hl => match us, hl with | [_, _], _ => rfl
  have N_purse : Dfn K mg "_law_purse" sPurse f_purse d_purse ["_law_cell_here"] := D_purse.dfn X G fun _ _ _ _ _ _ us hl => match us, hl with | [_], _ => rfl
  have N_take : Dfn K mg "_law_take" sTake f_take d_take ["_law_purse_here", "_law_many"] := D_take.dfn X G fun _ _ _ _ _ _ us hl => match us, hl with | [_, _], _ => rfl
  have N_forms : Dfn K mg "_law_forms" sForms f_forms d_forms [] := D_forms.dfn X G fun _ _ _ _ _ _ us hl => match us, hl with | [], _ => rfl
  have N_word : Dfn K mg "_law_word" sWord f_word d_word ["_law_purse_here"] := D_word.dfn X G fun _ _ _ _ _ _ us hl => match us, hl with | [_], _ => rfl
  have N_tm : Dfn K mg "_law_term" sTm f_tm d_tm psTm := D_tm.dfn X G fun _ _ _ _ _ _ us hl => match us, hl with | [_, _, _], _ => rfl
  have N_any : Dfn K mg "_law_any" sAny f_any d_any ["_law_purse_here", "_law_deep", "_law_below"] := D_any.dfn X G fun _ _ _ _ _ _ us hl => match us, hl with | [_, _, _], _ => rfl
  have N_lparts : Dfn K mg "_law_parts" sLParts f_lparts d_lparts ["_law_term_here"] := D_lparts.dfn X G fun _ _ _ _ _ _ us hl => match us, hl with | [_], _ => rfl
  have N_lover : Dfn K mg "_law_over" sLOver f_lover d_lover ["_law_term_here", "_law_number"] := D_lover.dfn X G fun _ _ _ _ _ _ us hl => match us, hl with | [_, _], _ => rfl
  have N_lwalk : Dfn K mg "_law_walk" sLWalk f_lwalk d_lwalk psLWalk := D_lwalk.dfn X G fun _ _ _ _ _ _ us hl => match us, hl with | [_, _, _], _ => rfl
  have N_lchanged : Dfn K mg "_law_changed" sLChanged f_lchanged d_lchanged psLChanged := D_lchanged.dfn X G fun _ _ _ _ _ _ us hl => match us, hl with | [_, _, _], _ => rfl
  have N_lasked : Dfn K mg "_law_asked" sLAsked f_lasked d_lasked psLAsked := D_lasked.dfn X G fun _ _ _ _ _ _ us hl => match us, hl with | [_, _, _, _], _ => rfl
  have N_lrefused : Dfn K mg "_law_refused_right" sLRefused f_lrefused d_lrefused psLRefused := D_lrefused.dfn X G fun _ _ _ _ _ _ us hl => match us, hl with | [_, _, _], _ => rfl
  have N_law : Dfn K mg "law" sLaw fa d_law ["_law_script"] := D_law.dfn X G fun _ _ _ _ _ _ us hl => match us, hl with | [_], _ => rfl
  obtain ⟨oc, od, kV, doc, pm, an, cdv, ct, osl, e19, _⟩ := D_law.fn.ex
  refine ⟨d_law, fun s v => by rw [e19]; exact .of_eq rfl, fun base _ _ => ?_⟩
  have Cc := ok_count (P := P) (w := w) (base := base) D6 T
  have c60 : C8.Cal P w K mg base 1 "is_count" spCount [.int 0] := ⟨f6, d6, _, ds0, Cc, m6, D6.kp, b0, v0⟩
  have c61 : C8.Cal P w K mg base 1 "is_count" spCount [] := ⟨f6, d6, _, ds1, Cc, m6, D6.kp, b1, v1⟩
  have c1 := N_whole.cal (P := P) (w := w) (base := base) (ok_whole N_whole.fn T c61)
  have c2 := N_name.cal (P := P) (w := w) (base := base) (ok_name N_name.fn T)
  have c3 := N_leaf.cal (P := P) (w := w) (base := base) (ok_leaf N_leaf.fn T c60 c1 c2)
  have c4 := N_term.cal (P := P) (w := w) (base := base) (ok_term N_term.fn T c3)
  have cS := N_spot.cal (P := P) (w := w) (base := base) (ok_spot N_spot.fn T c60)
  have cPo := N_partsof.cal (P := P) (w := w) (base := base) (ok_partsof N_partsof.fn T)
  have cPa := N_passed.cal (P := P) (w := w) (base := base) (ok_passed N_passed.fn)
  have cAl := N_allspots.cal (P := P) (w := w) (base := base) (ok_allspots N_allspots.fn T Trev cPo)
  have cRe := N_reached.cal (P := P) (w := w) (base := base) (ok_reached N_reached.fn T cPo cPa)
  have cWp := N_withpart.cal (P := P) (w := w) (base := base) (ok_withpart N_withpart.fn T Trev)
  have F_want := ok_want (P := P) (w := w) (base := base) N_want.fn NT c4
  have xW : CalX P w K mg base 5 "want_term" ["thing"] (spX 1 (tWant C1)) := ⟨_, _, F_want, N_want.mgf, N_want.fn.kp, N_want.b⟩
  have F_placeof := ok_placeof (P := P) (w := w) (base := base) N_placeof.fn NS xW cS cRe
  have xP : CalX P w K mg base 6 "_place_of" ["term", "spot"] (spX 2 (tPlace C1 C2)) := ⟨_, _, F_placeof, N_placeof.mgf, N_placeof.fn.kp, N_placeof.b⟩
  have F_prts := ok_parts (P := P) (w := w) (base := base) N_prts.fn T xW cPo
  have xPs : CalX P w K mg base 6 "parts" ["term"] (spX 1 (tParts C1)) := ⟨_, _, F_prts, N_prts.mgf, N_prts.fn.kp, N_prts.b⟩
  have F_spots := ok_spots (P := P) (w := w) (base := base) N_spots.fn xW cAl
  have xSs : CalX P w K mg base 6 "spots" ["term"] (spX 1 (tSpots C1)) := ⟨_, _, F_spots, N_spots.mgf, N_spots.fn.kp, N_spots.b⟩
  have F_partat := ok_partat (P := P) (w := w) (base := base) N_partat.fn xP
  have xA : CalX P w K mg base 7 "part_at" ["term", "spot"] (spX 2 (tAt C1 C2 (·.1))) := ⟨_, _, F_partat, N_partat.mgf, N_partat.fn.kp, N_partat.b⟩
  have F_binders := ok_binders (P := P) (w := w) (base := base) N_binders.fn xP
  have xB : CalX P w K mg base 7 "binders_at" ["term", "spot"] (spX 2 (tAt C1 C2 fun r => .int r.2)) := ⟨_, _, F_binders, N_binders.mgf, N_binders.fn.kp, N_binders.b⟩
  have F_changed := ok_changed (P := P) (w := w) (base := base) N_changed.fn xP xW cWp
  have xC : CalX P w K mg base 7 "changed" ["term", "spot", "other"] (spX 3 (tChanged C1 C2)) := ⟨_, _, F_changed, N_changed.mgf, N_changed.fn.kp, N_changed.b⟩
  have c7 := N_cell.cal (P := P) (w := w) (base := base) (ok_cell N_cell.fn T)
  have c8 := N_purse.cal (P := P) (w := w) (base := base) (ok_purse N_purse.fn T)
  have c9 := N_take.cal (P := P) (w := w) (base := base) (ok_take2 N_take.fn T)
  have c10 := N_forms.cal (P := P) (w := w) (base := base) (ok_forms N_forms.fn T)
  have c11 := N_word.cal (P := P) (w := w) (base := base) (ok_word2 N_word.fn T c9)
  have c12 : C8.Cal P w K mg base 9 "_law_term" (spB 2 (tTerm 6)) [] := N_tm.cal (P := P) (w := w) (base := base) (ok_tm2 N_tm T c9 c11 c10 6)
  have c13 := N_any.cal (P := P) (w := w) (base := base) (ok_any2 N_any.fn T c9 c12)
  have c14 := N_lparts.cal (P := P) (w := w) (base := base) (ok_lparts N_lparts.fn T c10)
  have c15 := N_lover.cal (P := P) (w := w) (base := base) (ok_lover N_lover.fn T)
  have c16 : C8.Cal P w K mg base 63 "_law_walk" (spD 3 (tLWalk 60)) [] := N_lwalk.cal (P := P) (w := w) (base := base) (ok_lwalk N_lwalk T Tenum c14 c15 60)
  have c17 : C8.Cal P w K mg base 63 "_law_changed" (spD 3 (tLChanged 60)) [] := N_lchanged.cal (P := P) (w := w) (base := base) (ok_lchanged N_lchanged T c14 60)
  have c18 := N_lasked.cal (P := P) (w := w) (base := base) (ok_lasked N_lasked.fn NT NS n21 xA xB xC ⟨_, _, F_prts, N_prts.fn.kp, N_prts.b⟩ N_prts.mgf ⟨_, _, F_spots, N_spots.fn.kp, N_spots.b⟩ N_spots.mgf)
  have FR := ok_lrefused (P := P) (w := w) (base := base) N_lrefused.fn T c9 c18
  exact ok_law (C1 := C1) (C2 := C2) N_law.fn T ⟨c7, c8, c9, c12, c13, c14, c16, c17, xSs, xPs, xA, xB, xC, ⟨_, _, FR, N_lrefused.mgf, N_lrefused.fn.kp, N_lrefused.b⟩⟩
theorem exm_self {C : Addr} (b : PySem.W.subIn K (.ref C) (.type "BaseException") = some true) (i : (PySem.W.clsIn K C).isSome = true) (t : PySem.W.typeIn K (.ref C) = some (.type "type")) (s : PySem.W.subIn K (.ref C) (.ref C) = some true) : PySem.W.exmOne K (.ref C) (.ref C) = some true := by
  unfold PySem.W.exmOne PySem.W.kitCls
  rw [b]
  show (if ((PySem.W.clsIn K C).isSome && PySem.W.typeIn K (.ref C) == some (.type "type")) = true then PySem.W.subIn K (.ref C) (.ref C) else none) = some true
  rw [t, s, i]
  simp
theorem cls_there {C : Addr} {nm q N bs bm sn sub ab col dd k0 k1 k2 k3 k5 : _} {t : String} (l : K.lookup C = some (excClassObj nm q C N bs bm true sn sub ab col dd k0 k1 k2 k3 k5 t)) : (PySem.W.clsIn K C).isSome = true := by
  unfold PySem.W.clsIn
  rw [l] <;> rfl
theorem exm_other {C D : Addr} (b : PySem.W.subIn K (.ref C) (.type "BaseException") = some true) (i : (PySem.W.clsIn K C).isSome = true) (t : PySem.W.typeIn K (.ref C) = some (.type "type")) (s : PySem.W.subIn K (.ref D) (.ref C) = some false) : PySem.W.exmOne K (.ref D) (.ref C) = some false := by
  unfold PySem.W.exmOne PySem.W.kitCls
  rw [b]
  show (if ((PySem.W.clsIn K C).isSome && PySem.W.typeIn K (.ref C) == some (.type "type")) = true then PySem.W.subIn K (.ref D) (.ref C) else none) = some false
  rw [t, s, i]
  simp
theorem not_mk {nm0 qual : Str} {st : Stmt} {C fI : Addr} {nm q N bs bm sn sub ab col dd k0 k1 k2 k3 k5 : _} {oc : Value} {od an : Option Addr} {osl : Array (Option Value)} {kV doc pm cdv ct : Value}
    (eC : PySem.W.nsIn K mainGlobals nm0 = some (some (.ref C)))
    (lC : K.lookup C = some (excClassObj nm q C N bs bm true sn sub ab col dd k0 k1 k2 k3 k5 "ValueError.__new__")) (rv : PySem.HandSPX.refsVE bm = true) (sa : PySem.W.findIn K (.ref C) "__setattr__" = some (some (.builtin "object.__setattr__"))) (exC : PySem.W.subIn K (.ref C) (.type "BaseException") = some true)
    (tyC : PySem.W.typeIn K (.ref C) = some (.type "type")) (kC : PySem.W.keepIn K (.ref C) = true) (iC : PySem.W.findIn K (.ref C) "__init__" = some (some (.ref fI))) (tI : PySem.W.typeIn K (.ref fI) = some (.type "function")) (noF : PySem.W.findIn K (.ref C) "found" = some none)
    (lI : K.lookup fI = some ⟨oc, od, .func (PySem.W.fnOf "__init__" qual (defArgs st) (defBody st) (defScope st) .none kV doc pm an cdv ct), osl⟩) (cI : PySem.W.codeIn K cdv qual = true) (kI : PySem.W.keepIn K (.ref fI) = true)
    (ga : PySem.W.findIn K (.ref C) "__getattribute__" = some (some (.builtin "BaseException.__getattribute__"))) (gg : PySem.W.findIn K (.ref C) "__getattr__" = some none) (hdC : PySem.W.hasDictIn K C = true) (suC : PySem.W.subIn K (.ref C) (.ref C) = some true) :
    ∃ fdI, NotC K nm0 qual st C fI fdI ∧ (PySem.W.clsIn K C).isSome = true :=
  ⟨_, ⟨eC, ⟨⟨_, _, _, _, _, _, _, _, _, _, _, _, _, _, _, lC, rv⟩, sa, exC, tyC, kC⟩, iC, tI, noF, fun_mk lI cI kI, ⟨ga, gg, exC, hdC⟩, exm_self exC (cls_there lC) tyC suC⟩, cls_there lC⟩
theorem nots_mk {U C1 C2 fI1 fI2 : Addr} (eU : PySem.W.nsIn K mainGlobals "PaperError" = some (some (.ref U))) (kU : PySem.W.keepIn K (.ref U) = true) (spU : PySem.W.specialIn K (.ref U) "__getattribute__" = some (some (.builtin "type.__getattribute__"))) (rdU : PySem.W.readsIn K U (.type "type") = true)
    (fcU : PySem.W.findCls K (.ref U) (.type "type") "__init__" = some (.val (.builtin "ValueError.__init__"))) (h1 : ∃ fdI, NotC K "NoTerm" "NoTerm.__init__" sInitT C1 fI1 fdI ∧ (PySem.W.clsIn K C1).isSome = true) (h2 : ∃ fdI, NotC K "NoSpot" "NoSpot.__init__" sInitS C2 fI2 fdI ∧ (PySem.W.clsIn K C2).isSome = true)
    (b1 : PySem.W.subIn K (.ref C1) (.type "BaseException") = some true) (t1 : PySem.W.typeIn K (.ref C1) = some (.type "type")) (s21 : PySem.W.subIn K (.ref C2) (.ref C1) = some false) :
    ∃ U C1 fI1 fdI1 C2 fI2 fdI2, PySem.W.nsIn K mainGlobals "PaperError" = some (some (.ref U)) ∧ UpC K U ∧ NotC K "NoTerm" "NoTerm.__init__" sInitT C1 fI1 fdI1 ∧ NotC K "NoSpot" "NoSpot.__init__" sInitS C2 fI2 fdI2 ∧ PySem.W.exmOne K (.ref C2) (.ref C1) = some false := by
  obtain ⟨fd1, N1, i1⟩ := h1
  obtain ⟨fd2, N2, i2⟩ := h2
  exact ⟨U, C1, fI1, fd1, C2, fI2, fd2, eU, ⟨kU, spU, _, rdU, fcU⟩, N1, N2, exm_other b1 i1 t1 s21⟩
end
section
variable {K : PySem.W.Frag} {w : World}
theorem glo_mk {x : Str} {u : Value} {v : V} (e : PySem.W.nsIn K mainGlobals x = some (some u)) (r : RelV v u) : ∃ u, PySem.W.nsIn K mainGlobals x = some (some u) ∧ RelV v u := ⟨u, e, r⟩
theorem no_mk {a : Addr} {dd : Option Addr} {its : Array Value} {n : Nat} {sl : Array (Option Value)} (e : PySem.W.nsIn K mainGlobals "NO_NAMES" = some (some (.ref a))) (l : K.lookup a = some ⟨.type "tuple", dd, .seq its n, sl⟩) (s : its.size ≤ sizeLine) (v : Vals (noNames.map V.str) its.toList) :
    ∃ a o its n, PySem.W.nsIn K mainGlobals "NO_NAMES" = some (some (.ref a)) ∧ K.lookup a = some o ∧ o.cls = .type "tuple" ∧ o.data = .seq its n ∧ its.size ≤ sizeLine ∧ Vals (noNames.map V.str) its.toList := ⟨a, _, its, n, e, l, rfl, rfl, s, v⟩
theorem count_mk {f T : Addr} {oc : Value} {od an td : Option Addr} {kV doc pm cdv ct tc : Value} {osl tsl : Array (Option Value)} {its : Array Value} {n : Nat} (e : PySem.W.nsIn K mainGlobals "is_count" = some (some (.ref f)))
    (l : K.lookup f = some ⟨oc, od, .func (PySem.W.fnOf "is_count" "is_count" (defArgs sCount) (defBody sCount) (defScope sCount) (.ref T) kV doc pm an cdv ct), osl⟩) (c : PySem.W.codeIn K cdv "is_count" = true) (k : PySem.W.keepIn K (.ref f) = true)
    (lT : K.lookup T = some ⟨tc, td, .seq its n, tsl⟩) (v : Vals [.int 0] its.toList) :
    ∃ f fd, PySem.W.nsIn K mainGlobals "is_count" = some (some (.ref f)) ∧ FunD K "is_count" "is_count" (defArgs sCount) (defBody sCount) (defScope sCount) [.int 0] [] f fd :=
  ⟨f, _, e, ⟨_, _, _, _, _, _, _, _, _, _, rfl, l, c, Or.inr ⟨by simp, T, _, its.toList, n, rfl, lT, rfl, v⟩, Or.inl rfl⟩, k⟩
theorem parted_z {a : Addr} {c : Value} {d : Option Addr} {n : Nat} {sl : Array (Option Value)} {h1 h2 h3 h4 h5 h6 : Int} {k1 k2 k3 k4 k5 k6 v1 v2 v3 v4 v5 v6 : Tok}
    (l : K.lookup a = some ⟨c, d, .dict #[⟨h1, .str "all" k1, .int 2 v1⟩, ⟨h2, .str "fun" k2, .int 2 v2⟩, ⟨h3, .str "app" k3, .int 2 v3⟩, ⟨h4, .str "same" k4, .int 3 v4⟩, ⟨h5, .str "self" k5, .int 2 v5⟩, ⟨h6, .str "put" k6, .int 3 v6⟩] n, sl⟩) :
    ∀ z, ∃ r, PySem.W.nsIn K a z = some r ∧ RelO ((parts z).map fun n => V.int (n : Int)) r := by
  intro z
  have y : ∀ {s : Str} {t : Tok}, s = z → (Value.str s t).isStr z = true := fun h => by
    subst h
    show (_ == _) = true
    simp
  have no : ∀ {s : Str} {t : Tok}, z ≠ s → (Value.str s t).isStr z = false := fun h => by
    show (_ == _) = false
    exact beq_eq_false_iff_ne.mpr fun e => h e.symm
  have pos : ∀ {h : Int} {s : Str} {t : Tok} {v : Value} {r : List DictEntry}, s = z → List.find? (fun x : DictEntry => x.key.isStr z) (⟨h, .str s t, v⟩ :: r) = some ⟨h, .str s t, v⟩ := fun e => List.find?_cons_of_pos (y e)
  have neg : ∀ {h : Int} {s : Str} {t : Tok} {v : Value} {r : List DictEntry}, z ≠ s → List.find? (fun x : DictEntry => x.key.isStr z) (⟨h, .str s t, v⟩ :: r) = List.find? (fun x : DictEntry => x.key.isStr z) r := fun e => List.find?_cons_of_neg (by
    show ¬ (Value.str _ _).isStr z = true
    rw [no e]
    exact Bool.false_ne_true)
  unfold PySem.W.nsIn
  rw [l]
  dsimp only
  by_cases c1 : z = "all"
  · rw [pos c1.symm]
    refine ⟨_, rfl, ?_⟩
    rw [c1]
    exact ⟨_, rfl⟩
  rw [neg c1]
  by_cases c2 : z = "fun"
  · rw [pos c2.symm]
    refine ⟨_, rfl, ?_⟩
    rw [c2]
    exact ⟨_, rfl⟩
  rw [neg c2]
  by_cases c3 : z = "app"
  · rw [pos c3.symm]
    refine ⟨_, rfl, ?_⟩
    rw [c3]
    exact ⟨_, rfl⟩
  rw [neg c3]
  by_cases c4 : z = "same"
  · rw [pos c4.symm]
    refine ⟨_, rfl, ?_⟩
    rw [c4]
    exact ⟨_, rfl⟩
  rw [neg c4]
  by_cases c5 : z = "self"
  · rw [pos c5.symm]
    refine ⟨_, rfl, ?_⟩
    rw [c5]
    exact ⟨_, rfl⟩
  rw [neg c5]
  by_cases c6 : z = "put"
  · rw [pos c6.symm]
    refine ⟨_, rfl, ?_⟩
    rw [c6]
    exact ⟨_, rfl⟩
  rw [neg c6]
  have e : parts z = none := by
    unfold parts
    rw [if_neg c1, if_neg c2, if_neg c3, if_neg c4, if_neg c5, if_neg c6]
  rw [e]
  exact ⟨none, rfl, trivial⟩
theorem parted_mk {a : Addr} {n : Nat} {h1 h2 h3 h4 h5 h6 : Int} {k1 k2 k3 k4 k5 k6 v1 v2 v3 v4 v5 v6 : Tok} (e : PySem.W.nsIn K mainGlobals "PARTED" = some (some (.ref a)))
    (l : K.lookup a = some ⟨.type "dict", none, .dict #[⟨h1, .str "all" k1, .int 2 v1⟩, ⟨h2, .str "fun" k2, .int 2 v2⟩, ⟨h3, .str "app" k3, .int 2 v3⟩, ⟨h4, .str "same" k4, .int 3 v4⟩, ⟨h5, .str "self" k5, .int 2 v5⟩, ⟨h6, .str "put" k6, .int 3 v6⟩] n, #[]⟩)
    (k : PySem.W.KeysLit w.params (#[(⟨h1, .str "all" k1, .int 2 v1⟩ : DictEntry), ⟨h2, .str "fun" k2, .int 2 v2⟩, ⟨h3, .str "app" k3, .int 2 v3⟩, ⟨h4, .str "same" k4, .int 3 v4⟩, ⟨h5, .str "self" k5, .int 2 v5⟩, ⟨h6, .str "put" k6, .int 3 v6⟩] : Array DictEntry).toList) (lo : (a == sysModules) = false) :
    ∃ a es n, PySem.W.nsIn K mainGlobals "PARTED" = some (some (.ref a)) ∧ KDict K w a es n ∧ ∀ z, ∃ r, PySem.W.nsIn K a z = some r ∧ RelO ((parts z).map fun n => V.int (n : Int)) r := ⟨a, _, n, e, ⟨l, k, lo⟩, parted_z l⟩
end
end KP
set_option Elab.async false
set_option maxRecDepth 100000
open PySem PySem.W PyProof.Rows in
set_option maxRecDepth 100000 in
set_option maxHeartbeats 0 in
theorem PySem.Challenge.cw_kernelpapers_k02_parts_and_spots_holds : PySem.Challenge.rw_kernelpapers_k02_parts_and_spots.Holds := by
  w_on; o_law; k_head; (case hw => w_witness2)
  k_fill
  refine KA.walkG (l := PySem.Challenge.rw_kernelpapers_k02_parts_and_spots) (n := 63) (k := 90) (x := "_law_script") (sp := KP.spLaw) rfl (by decide) rfl ⟨rfl, by decide, by decide⟩ (fun w h Y => PySem.W.kIn_of Y) ?F ?G
  case G => exact fun K H a ns hl _ hS => ⟨a, ns, rfl, hS, hl, fun _ => rfl⟩
  case F =>
    intro w mg fa h KX G hmg
    refine KP.all_mk KX G hmg ?Z
    clear hmg
    constructor
    case letters =>
      refine KP.glo_mk (by k_is) ?_
      exact ⟨_, rfl⟩
    case most =>
      refine KP.glo_mk (by k_is) ?_
      exact ⟨_, rfl⟩
    case highest =>
      refine KP.glo_mk (by k_is) ?_
      exact ⟨_, rfl⟩
    case no =>
      refine KP.no_mk (by k_is) (by k_is) ?s ?v
      (case s => decide)
      (case v => exact .cons ⟨_, rfl⟩ (.cons ⟨_, rfl⟩ (.cons ⟨_, rfl⟩ (.cons ⟨_, rfl⟩ (.cons ⟨_, rfl⟩ .nil)))))
    case parted =>
      refine KP.parted_mk (by k_is) (by k_is) ?k ?lo
      (case k => k_keys)
      (case lo => rfl)
    case count =>
      refine KP.count_mk (by k_is) (by k_is) (by k_is) (by k_is) (by k_is) ?v
      exact .cons ⟨_, rfl⟩ .nil
    case nots =>
      refine KP.nots_mk (by k_is) (by k_is) (by k_is) (by k_is) (by k_is) (KP.not_mk (by k_is) (by k_is) ?rv1 (by k_is) (by k_is) (by k_is) (by k_is) (by k_is) (by k_is) (by k_is) (by k_is) (by k_is) (by k_is) (by k_is) (by k_is) (by k_is) (by k_is)) (KP.not_mk (by k_is) (by k_is) ?rv2 (by k_is) (by k_is) (by k_is) (by k_is) (by k_is) (by k_is) (by k_is) (by k_is) (by k_is) (by k_is) (by k_is) (by k_is) (by k_is) (by k_is)) (by k_is) (by k_is) (by k_is)
      (case rv1 => decide +kernel)
      (case rv2 => decide +kernel)
    all_goals first | k_is | exact KP.defAt (by k_is) (by k_is) (by k_is) (by k_is)
