import PyProof.Rows.All
import Wide.All
import OpenK.AllK
import Wide.FinOn
import Lean
import PyProof.EqAt
import PyProof.EqKinds
import PyProof.TupleCall
import KE.KMinKey
import PyProof.StrOps2
import PyProof.DictWalks
import KE.KDictList
import PyProof.Rows.ZipGen
import PyProof.StationsW
import PyProof.ExcClass3
import OpenK.KOwn
import KE.KTryDeep
import KE.KIsAll
import PyProof.ExcAttrAll.ValueError
import PyProof.ExcBaseAll.ValueError
import PyProof.FactsAll.tuple_2
import PyProof.CollectIter
import PyProof.TupleOfGen
import PyProof.AttrMissHeap
import KE.KDictOf
import PySem.Challenge.RW_orderkeep_k22_longest_ways
set_option Elab.async false
set_option linter.all false
set_option maxRecDepth 100000
namespace L2
open PySem PySem.Spec PyProof.Rows
noncomputable abbrev Key := Sum Int Str
noncomputable def keyIs : Key → Value → Bool
  | .inl k, v => Value.isInt k v
  | .inr x, v => Value.isStrOf x v
noncomputable def keyH (w : World) : Key → Int
  | .inl k => hashInt k
  | .inr x => hashStr w x
theorem keyIs_shape : ∀ {k : Key} {v : Value}, keyIs k v = true → (∃ i t, k = Sum.inl i ∧ v = Value.int i t) ∨ (∃ x t, k = Sum.inr x ∧ v = Value.str x t)
  | .inl i, v, h => by
    obtain ⟨t, e⟩ := Value.isInt_shape (k := i) (v := v) h
    exact .inl ⟨i, t, rfl, e⟩
  | .inr x, v, h => by
    obtain ⟨t, e⟩ := Value.isStrOf_shape (x := x) (v := v) h
    exact .inr ⟨x, t, rfl, e⟩
theorem keyIs_int (i : Int) (t : Tok) : keyIs (.inl i) (.int i t) = true := by simp [keyIs, Value.isInt]
theorem keyIs_str (x : Str) (t : Tok) : keyIs (.inr x) (.str x t) = true := by simp [keyIs, Value.isStrOf]
theorem key_ll (a b : Int) : decide ((Sum.inl a : Key) = Sum.inl b) = (a == b) := by
  by_cases e : a = b
  · subst e; simp
  · have h : ¬ (Sum.inl a : Key) = Sum.inl b := fun q => e (Sum.inl.inj q)
    rw [decide_eq_false h]
    exact (beq_eq_false_iff_ne.mpr e).symm
theorem key_rr (a b : Str) : decide ((Sum.inr a : Key) = Sum.inr b) = decide (a = b) := by
  by_cases e : a = b
  · subst e; simp
  · have h : ¬ (Sum.inr a : Key) = Sum.inr b := fun q => e (Sum.inr.inj q)
    rw [decide_eq_false h, decide_eq_false e]
theorem key_lr (a : Int) (b : Str) : decide ((Sum.inl a : Key) = Sum.inr b) = false := decide_eq_false (fun q => nomatch q)
theorem key_rl (a : Str) (b : Int) : decide ((Sum.inr a : Key) = Sum.inl b) = false := decide_eq_false (fun q => nomatch q)
noncomputable def mixKind (prog : Program) (w : World) : PySem.KeyKind prog w Key where
  is := keyIs
  hash := keyH w
  inj := fun v a b ha hb => by
    rcases keyIs_shape ha with ⟨i, t, rfl, rfl⟩ | ⟨x, t, rfl, rfl⟩
    · rcases keyIs_shape hb with ⟨j, u, rfl, e⟩ | ⟨y, u, rfl, e⟩
      · injection e with e1 _; rw [e1]
      · exact nomatch e
    · rcases keyIs_shape hb with ⟨j, u, rfl, e⟩ | ⟨y, u, rfl, e⟩
      · exact nomatch e
      · injection e with e1 _; rw [e1]
  byValue := fun k v h => by
    rcases keyIs_shape h with ⟨i, t, rfl, rfl⟩ | ⟨x, t, rfl, rfl⟩ <;> rfl
  pyHash := fun hv h => by
    rcases keyIs_shape hv with ⟨i, t, rfl, rfl⟩ | ⟨x, t, rfl, rfl⟩
    · exact wpAny_pyHash_int h
    · exact wpAny_pyHash_str h
  eqBool := fun hu hv h => by
    rcases keyIs_shape hu with ⟨i, t, rfl, rfl⟩ | ⟨x, t, rfl, rfl⟩
    · rcases keyIs_shape hv with ⟨j, u, rfl, rfl⟩ | ⟨y, u, rfl, rfl⟩
      · rw [key_ll] at h; exact wpAny_eqBool_int h
      · rw [key_lr] at h; exact SeqAt.EqAt.int_str i t y u _ _ _ _ h
    · rcases keyIs_shape hv with ⟨j, u, rfl, rfl⟩ | ⟨y, u, rfl, rfl⟩
      · rw [key_rl] at h; exact SeqAt.EqAt.str_int x t j u _ _ _ _ h
      · rw [key_rr] at h; exact wpAny_eqBool_str h
  «strs» := fun k x t v h => by
    rcases keyIs_shape h with ⟨i, u, rfl, e⟩ | ⟨y, u, rfl, e⟩
    · exact nomatch e
    · injection e with e1 _
      subst e1
      cases v <;> rfl
theorem mixKind_int (prog : Program) (w : World) (i : Int) (t : Tok) : (mixKind prog w).is (.inl i) (.int i t) = true := keyIs_int i t
theorem mixKind_str (prog : Program) (w : World) (x : Str) (t : Tok) : (mixKind prog w).is (.inr x) (.str x t) = true := keyIs_str x t
end L2
namespace L2
open PySem PySem.Spec PyProof.Rows
inductive V where
  | non | bl (b : Bool) | int (i : Int) | str (x : Str) | byt (b : Array UInt8) | flt (b : UInt64) | ref (a : Addr) | ty (n : String)
  deriving DecidableEq
noncomputable def RelV : V → Value → Prop
  | .non, u => u = Value.none
  | .bl b, u => u = Value.bool b
  | .int i, u => ∃ t, u = Value.int i t
  | .str x, u => ∃ t, u = Value.str x t
  | .byt b, u => ∃ t, u = Value.bytes b t
  | .flt b, u => ∃ t, u = Value.float b t
  | .ref a, u => u = Value.ref a
  | .ty n, u => u = Value.type n
noncomputable abbrev Vals : List V → List Value → Prop := Paired RelV
theorem Vals.length {xs : List V} {us : List Value} (r : Vals xs us) : xs.length = us.length := Paired.length r
theorem Vals.get : ∀ {xs : List V} {us : List Value} {i : Nat} {x : V}, Vals xs us → xs[i]? = some x → ∃ u, us[i]? = some u ∧ RelV x u
  | _, _, _, _, .nil, e => by simp at e
  | _, _, 0, _, .cons r _, e => by simp at e; subst e; exact ⟨_, rfl, r⟩
  | _, _, i + 1, x, .cons _ t, e => by
    obtain ⟨u, h1, h2⟩ := Vals.get (i := i) (x := x) t (by simpa using e)
    exact ⟨u, by simpa using h1, h2⟩
theorem Vals.set {x : V} {u : Value} (r : RelV x u) : ∀ {xs : List V} {us : List Value} (i : Nat), Vals xs us → Vals (xs.set i x) (us.set i u)
  | _, _, _, .nil => .nil
  | _, _, 0, .cons _ t => .cons r t
  | _, _, i + 1, .cons q t => .cons q (Vals.set r i t)
theorem Vals.append : ∀ {xs ys : List V} {us ws : List Value}, Vals xs us → Vals ys ws → Vals (xs ++ ys) (us ++ ws)
  | _, _, _, _, .nil, s => s
  | _, _, _, _, .cons r t, s => .cons r (Vals.append t s)
theorem Vals.take : ∀ {xs : List V} {us : List Value} (n : Nat), Vals xs us → Vals (xs.take n) (us.take n)
  | _, _, 0, _ => .nil
  | _, _, _ + 1, .nil => .nil
  | _, _, n + 1, .cons r t => .cons r (Vals.take n t)
theorem Vals.drop : ∀ {xs : List V} {us : List Value} (n : Nat), Vals xs us → Vals (xs.drop n) (us.drop n)
  | _, _, 0, r => r
  | _, _, _ + 1, .nil => .nil
  | _, _, n + 1, .cons _ t => Vals.drop n t
noncomputable def RelO : Option V → Option Value → Prop
  | some v, some u => RelV v u
  | none, none => True
  | _, _ => False
noncomputable def KV {κ : Type} : List (κ × V) → List (κ × Value) → Prop := Paired fun (p : κ × V) (q : κ × Value) => p.1 = q.1 ∧ RelV p.2 q.2
noncomputable def kV : Key → V
  | .inl i => .int i
  | .inr x => .str x
inductive HO where
  /-- a list -/
  | lst (xs : List V)
  /-- a tuple (never changes) -/
  | tup (xs : List V)
  /-- a dict whose keys are ints and texts; one whose keys are tuples of ints and texts (the empty one is both) -/
  | dK (kvs : List (Key × V)) | dT (kvs : List (List Key × V))
  /-- a set of ints: its members, its size -/
  | set (S : Int → Bool) (n : Nat)
  /-- an instance of the class at C, its dict at dx, its attributes -/
  | ins (C dx : Addr) (fs : List (Str × V))
  /-- the dict of the instance at x -/
  | own (x : Addr)
  /-- the dict of an exception -/
  | xd (fs : List (Str × V))
  /-- a bound method, f of x -/
  | met (f x : Addr)
  /-- a range object lo, lo + 1, .. below hi -/
  | rng (lo hi : Int)
  /-- a thing that is known to the object (the script; a dict while a loop walks it): read, never written while it is so -/
  | frz (o : Obj) (u : HO)
  /-- a code object's table -/
  | tbl (ps : Array Value)
  /-- any other thing, by what is true of its one object (a def of one's own: SetO a S n := HO.ext fun h => ..) -/
  | ext (φ : Heap → Prop)
noncomputable abbrev Hp := Addr → Option HO
noncomputable def upd (H : Hp) (a : Addr) (o : HO) : Hp := fun b => if b = a then some o else H b
theorem upd_same {H : Hp} {a : Addr} {o : HO} : upd H a o a = some o := by unfold upd; rw [if_pos rfl]
theorem upd_ne {H : Hp} {a b : Addr} {o : HO} (h : b ≠ a) : upd H a o b = H b := by unfold upd; rw [if_neg h]
theorem ne_of {H : Hp} {a b : Addr} {o u : HO} (h : H a = some o) (h' : H b = some u) (d : o ≠ u) : a ≠ b := by
  intro e; subst e; rw [h] at h'; exact d (Option.some.inj h')
theorem ne_of_none {H : Hp} {a b : Addr} {o : HO} (h : H a = some o) (h' : H b = none) : a ≠ b := by
  intro e; subst e; rw [h] at h'; cases h'
noncomputable def TupN (h : Heap) (a : Addr) (items : Array Value) : Prop := ∃ o, h.get? a = some o ∧ o.cls = .type "tuple" ∧ ∃ n, o.data = .seq items n ∧ o.dict = none
theorem TupN.tup {h : Heap} {a : Addr} {items : Array Value} (x : TupN h a items) : IsTup h a items := let ⟨o, e, c, n, d, _⟩ := x; ⟨o, e, c, n, d⟩
theorem TupN.new (h : Heap) (items : Array Value) : TupN (h.push { cls := .type "tuple", data := .seq items }) h.objs.size items := ⟨_, Heap.get?_push_size _ rfl, rfl, _, rfl, rfl⟩
section
variable (P : Program) (w : World)
noncomputable def ObjOk (H : Hp) (h : Heap) (a : Addr) : HO → Prop
  | .lst xs => xs.length ≤ sizeLine ∧ ∃ (its : List Value) (n : Nat), Vals xs its ∧ h.get? a = some { cls := .type "list", data := .seq its.toArray n }
  | .tup xs => xs.length ≤ sizeLine ∧ ∃ its : List Value, Vals xs its ∧ TupN h a its.toArray
  | .dK kvs => kvs.length ≤ sizeLine ∧ (a == sysModules) = false ∧ ∃ vs, KV kvs vs ∧ h.DictOf (mixKind P w) a vs
  | .dT kvs => kvs.length ≤ sizeLine ∧ (a == sysModules) = false ∧ ∃ xs : List (List Key × Addr × Value),
      Paired (fun (p : List Key × V) (q : List Key × Addr × Value) => p.1 = q.1 ∧ H q.2.1 = some (.tup (p.1.map kV)) ∧ RelV p.2 q.2.2) kvs xs ∧
      ∃ o es ep, h.get? a = some o ∧ o.ExactDict ∧ o.data = .dict es ep ∧ es.toList = xs.map (entryOfKey (tupleKind (mixKind P w))) ∧ (xs.map (·.1)).Nodup
  | .set S n => h.SetOf (intKind P w) a S n
  | .ins C dx fs => H dx = some (.own a) ∧ fs.length ≤ 1000 ∧ dx ≠ a ∧ h.get? a = some (PySem.W.instObj C dx) ∧
      ∃ mA, h.Ns1 dx mA ∧ (∀ f, RelO (fs.lookup f) (mA f)) ∧ PySem.Within mA (fs.map (·.1))
  | .own _ => ∃ o, h.get? a = some o
  | .xd fs => ∃ mA, h.Ns1 a mA ∧ ∀ f, RelO (fs.lookup f) (mA f)
  | .rng lo hi => ∃ t u v, h.get? a = some { cls := .type "range", data := .fields #[.int lo t, .int hi u, .int 1 v] }
  | .frz o u => h.get? a = some o ∧ ObjOk H h a u
  | .tbl ps => h.get? a = some { cls := .none, data := .fields ps }
  | .met f x => h.get? a = some (PySem.W.methodObj (.ref f) (.ref x))
  | .ext φ => φ h ∧ (∃ o, h.get? a = some o) ∧ ∀ h1 h2 : Heap, φ h1 → (∀ o, h1.get? a = some o → h2.get? a = some o) → φ h2
noncomputable def HOk (H : Hp) (h : Heap) : Prop := ∀ a o, H a = some o → ObjOk P w H h a o
end
section
variable {P : Program} {w : World} {H H' : Hp} {h h' : Heap} {a : Addr} {o : HO}
theorem ObjOk.lt (x : ObjOk P w H h a o) : a < h.objs.size := by
  cases o with
  | lst xs => obtain ⟨_, _, _, _, e⟩ := x; exact Heap.lt_size e
  | tup xs => obtain ⟨_, _, _, p⟩ := x; exact p.tup.lt
  | dK kvs => obtain ⟨_, _, _, _, o, _, _, e, _⟩ := x; exact Heap.lt_size e
  | dT kvs => obtain ⟨_, _, _, _, o, _, _, e, _⟩ := x; exact Heap.lt_size e
  | set S n => obtain ⟨o, _, _, _, e, _⟩ := x; exact Heap.lt_size e
  | ins C dx fs => obtain ⟨_, _, _, e, _⟩ := x; exact Heap.lt_size e
  | own y => obtain ⟨_, e⟩ := x; exact Heap.lt_size e
  | xd fs => obtain ⟨_, ⟨_, _, _, e, _⟩, _⟩ := x; exact Heap.lt_size e
  | rng lo hi => obtain ⟨_, _, _, e⟩ := x; exact Heap.lt_size e
  | frz ob u => obtain ⟨e, _⟩ := x; exact Heap.lt_size e
  | tbl ps => exact Heap.lt_size (show h.get? a = some _ from x)
  | met f y => exact Heap.lt_size (show h.get? a = some _ from x)
  | ext φ => obtain ⟨_, ⟨_, e⟩, _⟩ := x; exact Heap.lt_size e
theorem Paired.mapP {α β : Type} {F G : α → β → Prop} : ∀ {l₁ : List α} {l₂ : List β}, Paired F l₁ l₂ → (∀ a b, F a b → G a b) → Paired G l₁ l₂
  | _, _, .nil, _ => .nil
  | _, _, .cons r t, f => .cons (f _ _ r) (Paired.mapP t f)
theorem ObjOk.stay (x : ObjOk P w H h a o) (k : ∀ b u, (b = a ∨ H b = some (.own a)) → h.get? b = some u → h'.get? b = some u)
    (ho : ∀ b, H b = some (.own a) → H' b = some (.own a)) (ht : ∀ b xs, H b = some (.tup xs) → H' b = some (.tup xs)) : ObjOk P w H' h' a o := by
  induction o with
  | lst xs => obtain ⟨z, its, n, r, e⟩ := x; exact ⟨z, its, n, r, k _ _ (.inl rfl) e⟩
  | tup xs => obtain ⟨z, its, r, ob, e, c⟩ := x; exact ⟨z, its, r, ob, k _ _ (.inl rfl) e, c⟩
  | dK kvs => obtain ⟨z, y, vs, r, ob, es, ep, e, c⟩ := x; exact ⟨z, y, vs, r, ob, es, ep, k _ _ (.inl rfl) e, c⟩
  | dT kvs =>
    obtain ⟨z, y, xs, r, ob, es, ep, e, c⟩ := x
    exact ⟨z, y, xs, Paired.mapP r fun p q z => ⟨z.1, ht _ _ z.2.1, z.2.2⟩, ob, es, ep, k _ _ (.inl rfl) e, c⟩
  | set S n => obtain ⟨ob, es, ep, t, e, c⟩ := x; exact ⟨ob, es, ep, t, k _ _ (.inl rfl) e, c⟩
  | ins C dx fs =>
    obtain ⟨d, z, ne, e, mA, ⟨od, es, ep, e2, c⟩, r⟩ := x
    exact ⟨ho _ d, z, ne, k _ _ (.inl rfl) e, mA, ⟨od, es, ep, k _ _ (.inr d) e2, c⟩, r⟩
  | own y => obtain ⟨ob, e⟩ := x; exact ⟨ob, k _ _ (.inl rfl) e⟩
  | xd fs => obtain ⟨mA, ⟨od, es, ep, e, c⟩, r⟩ := x; exact ⟨mA, ⟨od, es, ep, k _ _ (.inl rfl) e, c⟩, r⟩
  | rng lo hi => obtain ⟨t, u, v, e⟩ := x; exact ⟨t, u, v, k _ _ (.inl rfl) e⟩
  | frz ob u ih => obtain ⟨e, q⟩ := x; exact ⟨k _ _ (.inl rfl) e, ih q⟩
  | tbl ps =>
    have e : h.get? a = some { cls := .none, data := .fields ps } := x
    show h'.get? a = some { cls := .none, data := .fields ps }
    exact k a _ (.inl rfl) e
  | met f y =>
    have e : h.get? a = some (PySem.W.methodObj (.ref f) (.ref y)) := x
    show h'.get? a = some (PySem.W.methodObj (.ref f) (.ref y))
    exact k a _ (.inl rfl) e
  | ext φ => obtain ⟨p, ⟨o, e⟩, st⟩ := x; exact ⟨st _ _ p fun o q => k _ _ (.inl rfl) q, ⟨o, k _ _ (.inl rfl) e⟩, st⟩
theorem HOk.lt (x : HOk P w H h) (e : H a = some o) : a < h.objs.size := (x a o e).lt
theorem HOk.fresh (x : HOk P w H h) (e : h.objs.size ≤ a) : H a = none := by
  cases q : H a with
  | none => rfl
  | some u => exact absurd (Nat.lt_of_lt_of_le (x.lt q) e) (Nat.lt_irrefl _)
theorem HOk.kept (x : HOk P w H h) (k : ∀ b u, h.get? b = some u → h'.get? b = some u) : HOk P w H h' := fun a o e =>
  (x a o e).stay (fun b u _ q => k b u q) (fun _ q => q) fun _ _ q => q
theorem HOk.laid (x : HOk P w H h) (k : ∀ b u, h.get? b = some u → h'.get? b = some u) (hp : h.objs.size ≤ a) (new : ObjOk P w (upd H a o) h' a o) : HOk P w (upd H a o) h' := fun b u e => by
  have hn := x.fresh hp
  by_cases hb : b = a
  · subst hb; rw [upd_same] at e; cases e; exact new
  · rw [upd_ne hb] at e
    exact (x b u e).stay (fun c v _ q => k c v q) (fun c q => by rw [upd_ne (ne_of_none q hn)]; exact q) fun c xs q => by rw [upd_ne (ne_of_none q hn)]; exact q
end
noncomputable def Rd (H : Hp) (a : Addr) (u : HO) : Prop := H a = some u ∨ ∃ o, H a = some (.frz o u)
theorem Rd.ok {P : Program} {w : World} {H : Hp} {h : Heap} {a : Addr} {u : HO} (r : Rd H a u) (x : HOk P w H h) : ObjOk P w H h a u := by
  rcases r with r | ⟨o, r⟩
  · exact x a u r
  · obtain ⟨_, q⟩ := x a _ r
    exact q
noncomputable def Mut : Option HO → Prop
  | some (.lst _) => True
  | some (.dK _) => True
  | some (.dT _) => True
  | some (.set _ _) => True
  | some (.ins _ _ _) => True
  | some (.ext _) => True
  | _ => False
section
variable {P : Program} {w : World} {H : Hp} {h h' : Heap} {x e : Addr} {o' : HO}
theorem HOk.write (ok : HOk P w H h) (mu : Mut (H x)) (he : e = x ∨ H e = some (.own x)) (k : ∀ b u, b ≠ e → h.get? b = some u → h'.get? b = some u) (heo : ∃ u, h'.get? e = some u)
    (new : ObjOk P w (upd H x o') h' x o') : HOk P w (upd H x o') h' := fun b u q => by
  have nown : ∀ c y, H c = some (.own y) → c ≠ x := fun c y r z => by subst z; rw [r] at mu; exact mu
  have ntup : ∀ c xs, H c = some (.tup xs) → c ≠ x := fun c xs r z => by subst z; rw [r] at mu; exact mu
  by_cases hb : b = x
  · subst hb; rw [upd_same] at q; cases q; exact new
  · rw [upd_ne hb] at q
    by_cases hbe : b = e
    · have q' : H b = some (.own x) := by
        rcases he with z | z
        · exact absurd (hbe.trans z) hb
        · rw [hbe]; exact z
      rw [q] at q'; cases q'
      obtain ⟨v, hv⟩ := heo
      exact ⟨v, by rw [hbe]; exact hv⟩
    · refine (ok b u q).stay (fun c v hc r => k c v ?_ r) (fun c r => by rw [upd_ne (nown c b r)]; exact r) fun c xs r => by rw [upd_ne (ntup c xs r)]; exact r
      rcases hc with rfl | hc
      · exact hbe
      · rintro rfl
        rcases he with z | z
        · exact nown c b hc z
        · rw [hc] at z; cases z; exact hb rfl
end
structure Un (fs ex : List Addr) (H H' : Hp) (h h' : Heap) : Prop where
  keep : ∀ b o, h.get? b = some o → H b = none → b ∉ fs → b ∉ ex → h'.get? b = some o
  slot : ∀ b o, h.get? b = some o → H b = none → b ∈ fs → b ∉ ex → ∃ sl, h'.get? b = some { o with slots := sl }
  free : ∀ b o, h.get? b = some o → H b = none → b ∉ ex → H' b = none
  there : ∀ b o, h.get? b = some o → b ∉ ex → ∃ o', h'.get? b = some o'
  tups : ∀ b xs, H b = some (.tup xs) → H' b = some (.tup xs)
  frzs : ∀ b o u, H b = some (.frz o u) → H' b = some (.frz o u)
  tbls : ∀ b ps, H b = some (.tbl ps) → ∃ more, H' b = some (.tbl (ps ++ more))
section
variable {fs fs' ex ex' : List Addr} {H H1 H2 : Hp} {h h1 h2 h' : Heap} {a x e : Addr} {o : HO}
theorem Un.any (u : Un fs ex H H1 h h1) {b : Addr} {ob : Obj} (q : h.get? b = some ob) (n : H b = none) (hx : b ∉ ex) : ∃ sl, h1.get? b = some { ob with slots := sl } := by
  by_cases hb : b ∈ fs
  · exact u.slot b ob q n hb hx
  · exact ⟨ob.slots, u.keep b ob q n hb hx⟩
theorem Un.kept (k : ∀ b u, h.get? b = some u → h'.get? b = some u) : Un fs ex H H h h' :=
  ⟨fun b ob q _ _ _ => k b ob q, fun b ob q _ _ _ => ⟨ob.slots, k b ob q⟩, fun _ _ _ n _ => n, fun b ob q _ => ⟨ob, k b ob q⟩, fun _ _ q => q, fun _ _ _ q => q, fun _ ps q => ⟨#[], by rw [q]; simp⟩⟩
theorem Un.refl : Un fs ex H H h h := Un.kept fun _ _ q => q
theorem Un.laid (k : ∀ b u, h.get? b = some u → h'.get? b = some u) (hp : h.objs.size ≤ a) (hn : H a = none) : Un fs ex H (upd H a o) h h' where
  keep := fun b u q _ _ _ => k b u q
  slot := fun b u q _ _ _ => ⟨u.slots, k b u q⟩
  free := fun b u q n _ => by rw [upd_ne (Nat.ne_of_lt (Nat.lt_of_lt_of_le (Heap.lt_size q) hp))]; exact n
  there := fun b u q _ => ⟨u, k b u q⟩
  tups := fun b xs q => by rw [upd_ne (ne_of_none q hn)]; exact q
  frzs := fun b u xs q => by rw [upd_ne (ne_of_none q hn)]; exact q
  tbls := fun b ps q => ⟨#[], by rw [upd_ne (ne_of_none q hn), q]; simp⟩
theorem Un.write (mu : Mut (H x)) (he : e = x ∨ H e = some (.own x)) (k : ∀ b u, b ≠ e → h.get? b = some u → h'.get? b = some u) (heo : ∃ u, h'.get? e = some u) : Un fs ex H (upd H x o) h h' := by
  have hx : ∀ b, H b = none → b ≠ x := fun b n z => by subst z; rw [n] at mu; exact mu
  have hb : ∀ b, H b = none → b ≠ e := fun b n z => by
    subst z
    rcases he with r | r
    · exact hx b n r
    · rw [n] at r; cases r
  have hm : ∀ b u, H b = some u → ¬ Mut (some u) → b ≠ x := fun b u q nm z => by subst z; rw [q] at mu; exact nm mu
  refine ⟨fun b u q n _ _ => k b u (hb b n) q, fun b u q n _ _ => ⟨u.slots, k b u (hb b n) q⟩, fun b u q n _ => by rw [upd_ne (hx b n)]; exact n, fun b u q _ => ?_,
    fun b xs q => by rw [upd_ne (hm b _ q fun z => z)]; exact q, fun b u xs q => by rw [upd_ne (hm b _ q fun z => z)]; exact q, fun b ps q => ⟨#[], by rw [upd_ne (hm b _ q fun z => z), q]; simp⟩⟩
  by_cases hbe : b = e
  · subst hbe; exact heo
  · exact ⟨u, k b u hbe q⟩
end
noncomputable def trk (h : Heap) (H : Hp) : List Addr := (List.range h.objs.size).filter fun a => (H a).isSome
noncomputable def hidT (h : Heap) (H : Hp) : Heap := PySem.W.hideAll h (trk h H)
theorem hidT_size (h : Heap) (H : Hp) : (hidT h H).objs.size = h.objs.size := PySem.W.hideAll_size _ _
theorem hidT_get {h : Heap} {H : Hp} {b : Addr} {o : Obj} (e : h.get? b = some o) (n : H b = none) : (hidT h H).get? b = some o :=
  PySem.W.hideAll_get _ e fun hm => by
    have q : (H b).isSome = true := (List.mem_filter.mp hm).2
    rw [n] at q; simp at q
theorem of_hidT {h : Heap} {H : Hp} {b : Addr} {o : Obj} (e : (hidT h H).get? b = some o) : h.get? b = some o ∧ H b = none := by
  have e' : h.get? b = some o := PySem.W.of_hideAll (trk h H) e
  refine ⟨e', ?_⟩
  cases q : H b with
  | none => rfl
  | some x =>
    have hm : b ∈ trk h H := List.mem_filter.mpr ⟨List.mem_range.mpr (Heap.lt_size e'), by simp [q]⟩
    have z : (hidT h H).get? b = none := PySem.W.hideAll_none (trk h H) hm
    rw [z] at e; cases e
noncomputable def allNews (g h : Heap) (L : Addr) : List (Addr × Obj) := (List.range h.objs.size).filterMap fun a => if a = L ∨ (g.get? a).isSome = true then none else (h.get? a).map fun o => (a, o)
noncomputable def rest (g h : Heap) (L d : Addr) : List (Addr × Obj) := (allNews g h L).filter fun p => decide (p.1 ≠ d)
end L2
namespace L2
open PySem PySem.Spec PyProof.Rows
structure Mod (K : PySem.W.Frag) (mg : Str → Option Value) (base : Heap) : Prop where
  kin : K.In base
  glob : base.Ns mainGlobals mg
  blt : ∃ mb, base.Ns builtinsNs mb ∧ ∀ x : Str, x ≠ "__name__" → mb x = bootBuiltins x
  nolimit : base.NoLimit
structure Cx where
  prog : Program
  w : World
  K : PySem.W.Frag
  mg : Str → Option Value
  base : Heap
  A : Around
  N : List Str
  s₀ : Shared
  H₀ : Hp
  env : Env
  outer : List Env
  stack : List Env
  ex : List Addr
  fn : Str → Bool
  calm : Bool
  pn : List (Addr × Obj)
  xe : Value → Shared → Prop
noncomputable def frs (l : List Env) : List Addr := l.filterMap (·.frame)
noncomputable abbrev Cx.fs (X : Cx) : List Addr := frs X.outer
noncomputable def Vis (sc : Scope) (x : Str) : Prop := sc.names.lookup x = some .local ∨ sc.names.lookup x = some .cell ∨ sc.names.lookup x = some .free
noncomputable def Loc (sc : Scope) (x : Str) : Prop := sc.names.lookup x = some .local ∨ sc.names.lookup x = some .cell
noncomputable def Look (env : Env) (h : Heap) (m : Str → Option Value) (x : Str) (u : Value) : Prop :=
  (env.kindOf x = some .local ∧ m x = some u) ∨ ((env.kindOf x = some .cell ∨ env.kindOf x = some .free) ∧ ∃ c, env.cells.lookup x = some c ∧ h.IsCell c (some u))
structure Cx.Ok (X : Cx) : Prop where
  mod : Mod X.K X.mg X.base
  kind : X.env.scope.kind = .function
  glob : X.env.globals = mainGlobals
  blt : X.env.builtins = builtinsNs
  above : X.s₀.heap.objs.size ≤ X.env.locals
  inj : ∀ x y c, X.env.cells.lookup x = some c → X.env.cells.lookup y = some c → x = y
  has : ∀ x, (X.env.kindOf x = some .cell ∨ X.env.kindOf x = some .free) → ∃ c, X.env.cells.lookup x = some c
  cab : ∀ x c, X.fn x = true → X.env.cells.lookup x = some c → X.s₀.heap.objs.size ≤ c
  hd : X.calm = true → X.A.handled = none
  frames : X.A.frames = some X.stack
  stk : X.stack = X.outer ∨ (X.stack = X.env :: X.outer ∧ X.env.frame = some X.env.locals)
  exf : ∀ b ∈ X.ex, b ≠ X.env.locals ∧ ∀ x c, X.env.cells.lookup x = some c → c ≠ b
  bs : ∀ b o, X.base.get? b = some o → X.s₀.heap.get? b = some o ∧ X.H₀ b = none
  bsz : X.base.objs.size ≤ X.s₀.heap.objs.size
  noex : ∀ b o, X.base.get? b = some o → b ∉ X.ex
  exfs : ∀ b ∈ X.ex, b ∉ X.fs
  funs : X.s₀.heap.FunFrames X.base X.outer
  frf : ∀ b ∈ X.fs, X.H₀ b = none
structure Inv (X : Cx) (pins : List (Addr × Obj)) (σ : List (Option V)) (H : Hp) (s : Shared) : Prop where
  ok : X.Ok
  os : s.os = X.s₀.os
  bare : AllBare s.gens
  base : Un X.fs X.ex X.H₀ H X.s₀.heap s.heap
  loc : ∃ m, s.heap.Ns X.env.locals m ∧ ∀ (i : Nat) (x : Str) (v : V), X.N[i]? = some x → σ[i]? = some (some v) → Vis X.env.scope x → ∃ u, RelV v u ∧ Look X.env s.heap m x u
  cell : ∀ x c, X.env.cells.lookup x = some c → ∃ v, s.heap.IsCell c v
  free : H X.env.locals = none
  freeC : ∀ x c, X.env.cells.lookup x = some c → H c = none
  pin : ∀ p ∈ X.pn ++ pins, s.heap.get? p.1 = some p.2 ∧ H p.1 = none ∧ p.1 ≠ X.env.locals ∧ p.1 ∉ X.fs ∧ ∀ v, p.2.data ≠ .cell v
  hok : HOk X.prog X.w H s.heap
  len : σ.length = X.N.length
section
variable {X : Cx} {pins : List (Addr × Obj)} {σ : List (Option V)} {H H' : Hp} {s : Shared} {h' : Heap}
theorem Cx.Ok.nofr (ok : X.Ok) {b : Addr} {o : Obj} (e : X.base.get? b = some o) : b ∉ X.fs := fun hb => by
  have := (ok.funs.mem hb).1
  rw [e] at this; cases this
theorem Inv.bs (I : Inv X pins σ H s) : ∀ b o, X.base.get? b = some o → s.heap.get? b = some o ∧ H b = none := fun b o e =>
  ⟨I.base.keep b o (I.ok.bs b o e).1 (I.ok.bs b o e).2 (I.ok.nofr e) (I.ok.noex b o e), I.base.free b o (I.ok.bs b o e).1 (I.ok.bs b o e).2 (I.ok.noex b o e)⟩
theorem Inv.bk (I : Inv X pins σ H s) : ∀ b o, X.base.get? b = some o → s.heap.get? b = some o := fun b o e => (I.bs b o e).1
theorem Inv.mod (I : Inv X pins σ H s) : Mod X.K X.mg X.base := I.ok.mod
theorem Inv.kIn (I : Inv X pins σ H s) : X.K.In s.heap := I.ok.mod.kin.keeps I.bk
theorem Inv.lt (I : Inv X pins σ H s) : X.env.locals < s.heap.objs.size := let ⟨_, hn, _⟩ := I.loc; hn.lt
theorem Inv.sz (I : Inv X pins σ H s) : X.s₀.heap.objs.size ≤ s.heap.objs.size := Nat.le_trans I.ok.above (Nat.le_of_lt I.lt)
theorem Inv.nofs (I : Inv X pins σ H s) {a : Addr} (h : s.heap.objs.size ≤ a) : a ∉ X.fs := fun hb => by
  obtain ⟨_, o, ho, _⟩ := I.ok.funs.mem hb
  exact absurd (Nat.lt_of_lt_of_le (Heap.lt_size ho) (Nat.le_trans I.sz h)) (Nat.lt_irrefl _)
theorem Inv.cne (I : Inv X pins σ H s) : ∀ x c, X.env.cells.lookup x = some c → c ≠ X.env.locals := fun x c e z => by
  obtain ⟨v, o, ho, hd⟩ := I.cell x c e
  obtain ⟨m, ⟨o', es, ep, ho', hd', _⟩, _⟩ := I.loc
  rw [z, ho'] at ho; cases ho; rw [hd'] at hd; cases hd
theorem Inv.funs (I : Inv X pins σ H s) : s.heap.FunFrames X.base X.outer := by
  have all : ∀ (l : List Env), (∀ b ∈ frs l, b ∈ X.fs) → X.s₀.heap.FunFrames X.base l → s.heap.FunFrames X.base l := by
    intro l
    induction l with
    | nil => intro _ _; trivial
    | cons env r ih =>
      intro hs hl
      obtain ⟨hk, ⟨L, o, hf, hn, ho, hd⟩, hr⟩ := hl
      have hL : L ∈ X.fs := hs L (by unfold frs; rw [List.filterMap_cons, hf]; exact List.mem_cons_self)
      obtain ⟨sl, e⟩ := I.base.slot L o ho (I.ok.frf L hL) hL fun z => I.ok.exfs L z hL
      exact ⟨hk, ⟨L, _, hf, hn, e, hd⟩, ih (fun b hb => hs b (by unfold frs; rw [List.filterMap_cons, hf]; exact List.mem_cons_of_mem _ hb)) hr⟩
  exact all X.outer (fun _ hb => hb) I.ok.funs
theorem Inv.stack (I : Inv X pins σ H s) : s.heap.FunFrames X.base X.stack := by
  rcases I.ok.stk with e | ⟨e, hf⟩
  · rw [e]; exact I.funs
  · rw [e]
    obtain ⟨m, hn, _⟩ := I.loc
    refine .cons (by rw [I.ok.kind]; decide) hf hn ?_ I.funs
    exact Heap.get?_none_of_le (Nat.le_trans I.ok.bsz I.ok.above)
theorem Inv.stkSub (I : Inv X pins σ H s) : ∀ b ∈ frs X.stack, b ∈ X.env.locals :: X.fs := fun b hb => by
  rcases I.ok.stk with e | ⟨e, hf⟩
  · rw [e] at hb; exact List.mem_cons_of_mem _ hb
  · rw [e] at hb
    unfold frs at hb
    rw [List.filterMap_cons, hf] at hb
    exact hb
theorem Inv.stkFree (I : Inv X pins σ H s) : ∀ b ∈ frs X.stack, H b = none := fun b hb => by
  rcases List.mem_cons.mp (I.stkSub b hb) with e | hb
  · rw [e]; exact I.free
  · obtain ⟨_, o, ho, _⟩ := I.ok.funs.mem hb
    exact I.base.free b o ho (I.ok.frf b hb) fun z => I.ok.exfs b z hb
theorem Inv.step {g' : Array GenState} {t' : Nat} {d' : Drawn} {ch : List Addr} (I : Inv X pins σ H s)
    (hch : ∀ b ∈ ch, (b ∈ X.ex ∨ X.s₀.heap.objs.size ≤ b) ∧ b ≠ X.env.locals ∧ (∀ x c, X.env.cells.lookup x = some c → c ≠ b) ∧ ∀ p ∈ X.pn ++ pins, p.1 ≠ b)
    (keep : ∀ b o, b ≠ X.env.locals → b ∉ X.fs → b ∉ ch → s.heap.get? b = some o → H b = none → h'.get? b = some o)
    (slot : ∀ b o, b ≠ X.env.locals → b ∈ X.fs → b ∉ ch → s.heap.get? b = some o → H b = none → ∃ sl, h'.get? b = some { o with slots := sl }) (free : ∀ b o, b ∉ ch → s.heap.get? b = some o → H b = none → H' b = none)
    (there : ∀ b o, b ∉ ch → s.heap.get? b = some o → ∃ o', h'.get? b = some o')
    (tups : ∀ b xs, H b = some (.tup xs) → H' b = some (.tup xs)) (frzs : ∀ b o u, H b = some (.frz o u) → H' b = some (.frz o u)) (tbls : ∀ b ps, H b = some (.tbl ps) → ∃ more, H' b = some (.tbl (ps ++ more)))
    (ns : ∀ m, s.heap.Ns X.env.locals m → h'.Ns X.env.locals m) (hok : HOk X.prog X.w H' h') (hg : AllBare g') :
    Inv X pins σ H' { s with heap := h', gens := g', drawn := d', toks := t' } := by
  have neL : ∀ b o, X.s₀.heap.get? b = some o → b ≠ X.env.locals := fun b o e => Nat.ne_of_lt (Nat.lt_of_lt_of_le (Heap.lt_size e) I.ok.above)
  have neC : ∀ b o, X.s₀.heap.get? b = some o → b ∉ X.ex → b ∉ ch := fun b o e hx hb => by
    rcases (hch b hb).1 with z | z
    · exact hx z
    · exact absurd (Nat.lt_of_lt_of_le (Heap.lt_size e) z) (Nat.lt_irrefl _)
  have cellK : ∀ x c, X.env.cells.lookup x = some c → ∀ v, s.heap.IsCell c v → h'.IsCell c v := fun x c e v ⟨o, ho, hd⟩ => by
    have nch : c ∉ ch := fun z => (hch c z).2.2.1 x c e rfl
    by_cases hc : c ∈ X.fs
    · obtain ⟨sl, q⟩ := slot c o (I.cne x c e) hc nch ho (I.freeC x c e)
      exact ⟨_, q, hd⟩
    · exact ⟨o, keep c o (I.cne x c e) hc nch ho (I.freeC x c e), hd⟩
  refine ⟨I.ok, I.os, hg, ⟨fun b o e n hb hx => ?_, fun b o e n hb hx => ?_, fun b o e n hx => ?_, fun b o e hx => ?_, fun b xs e => tups b xs (I.base.tups b xs e), fun b o xs e => frzs b o xs (I.base.frzs b o xs e), fun b ps e => ?_⟩, ?_, fun x c e => ?_, ?_, fun x c e => ?_, fun p hp => ?_, hok, I.len⟩
  · exact keep b o (neL b o e) hb (neC b o e hx) (I.base.keep b o e n hb hx) (I.base.free b o e n hx)
  · obtain ⟨sl, e1⟩ := I.base.slot b o e n hb hx
    obtain ⟨sl', e2⟩ := slot b _ (neL b o e) hb (neC b o e hx) e1 (I.base.free b o e n hx)
    exact ⟨sl', e2⟩
  · obtain ⟨o', e1⟩ := I.base.there b o e hx
    exact free b o' (neC b o e hx) e1 (I.base.free b o e n hx)
  · obtain ⟨o', e1⟩ := I.base.there b o e hx
    exact there b o' (neC b o e hx) e1
  · obtain ⟨m1, e1⟩ := I.base.tbls b ps e
    obtain ⟨m2, e2⟩ := tbls b _ e1
    exact ⟨m1 ++ m2, by rw [e2, Array.append_assoc]⟩
  · obtain ⟨m, hn, hl⟩ := I.loc
    refine ⟨m, ns m hn, fun i x v e1 e2 e3 => ?_⟩
    obtain ⟨u, r, l⟩ := hl i x v e1 e2 e3
    refine ⟨u, r, ?_⟩
    rcases l with l | ⟨k, c, e, z⟩
    · exact .inl l
    · exact .inr ⟨k, c, e, cellK x c e _ z⟩
  · obtain ⟨v, z⟩ := I.cell x c e
    exact ⟨v, cellK x c e v z⟩
  · obtain ⟨m, ⟨o, _, _, ho, _⟩, _⟩ := I.loc
    exact free _ o (fun z => (hch _ z).2.1 rfl) ho I.free
  · obtain ⟨v, o, ho, hd⟩ := I.cell x c e
    exact free c o (fun z => (hch c z).2.2.1 x c e rfl) ho (I.freeC x c e)
  · obtain ⟨e, n, ne, nf, d⟩ := I.pin p hp
    have nch : p.1 ∉ ch := fun z => (hch p.1 z).2.2.2 p hp rfl
    exact ⟨keep p.1 p.2 ne nf nch e n, free p.1 p.2 nch e n, ne, nf, d⟩
theorem Inv.un {t' : Nat} (I : Inv X pins σ H s) (u : Un X.fs [] H H' s.heap h') (hok : HOk X.prog X.w H' h') : Inv X pins σ H' { s with heap := h', toks := t' } := by
  obtain ⟨m, ⟨o, es, ep, ho, r⟩, _⟩ := id I.loc
  obtain ⟨sl, hL⟩ := u.any ho I.free (by simp)
  exact I.step (g' := s.gens) (d' := s.drawn) (ch := []) (fun _ z => nomatch z) (fun b o _ hb _ e n => u.keep b o e n hb (by simp)) (fun b o _ hb _ e n => u.slot b o e n hb (by simp)) (fun b o _ e n => u.free b o e n (by simp)) (fun b o _ e => u.there b o e (by simp)) u.tups u.frzs u.tbls (fun m' hm => by
    obtain ⟨o', es', ep', ho', r'⟩ := hm
    rw [ho] at ho'; cases ho'
    exact ⟨_, es', ep', hL, r'⟩) hok I.bare
theorem Inv.call {g' : Array GenState} {t' : Nat} {d' : Drawn} {ch : List Addr} (I : Inv X pins σ H s) (u : Un (frs X.stack) ch H H' s.heap h') (hok : HOk X.prog X.w H' h') (hg : AllBare g')
    (hch : ∀ b ∈ ch, (b ∈ X.ex ∨ X.s₀.heap.objs.size ≤ b) ∧ b ≠ X.env.locals ∧ (∀ x c, X.env.cells.lookup x = some c → c ≠ b) ∧ ∀ p ∈ X.pn ++ pins, p.1 ≠ b) :
    Inv X pins σ H' { s with heap := h', gens := g', drawn := d', toks := t' } := by
  obtain ⟨m, ⟨o, es, ep, ho, r⟩, _⟩ := id I.loc
  obtain ⟨sl, hL⟩ := u.any ho I.free fun z => (hch _ z).2.1 rfl
  exact I.step (ch := ch) hch (fun b o hL hb hc e n => u.keep b o e n (fun z => (List.mem_cons.mp (I.stkSub b z)).elim hL hb) hc) (fun b o _ _ hc e n => u.any e n hc) (fun b o hc e n => u.free b o e n hc) (fun b o hc e => u.there b o e hc) u.tups u.frzs u.tbls (fun m' hm => by
    obtain ⟨o', es', ep', ho', r'⟩ := hm
    rw [ho] at ho'; cases ho'
    exact ⟨_, es', ep', hL, r'⟩) hok hg
theorem Inv.turned {t' : Nat} {it : Addr} (I : Inv X pins σ H s) (k : ∀ b o, b ≠ it → s.heap.get? b = some o → h'.get? b = some o) (hn : H it = none) (hL : it ≠ X.env.locals)
    (h1 : it ∈ X.ex ∨ X.s₀.heap.objs.size ≤ it) (h2 : ∀ x c, X.env.cells.lookup x = some c → c ≠ it) (h3 : ∀ p ∈ X.pn ++ pins, p.1 ≠ it) : Inv X pins σ H { s with heap := h', toks := t' } := by
  have nit : ∀ b u, H b = some u → b ≠ it := fun b u e z => by rw [z, hn] at e; cases e
  refine I.step (g' := s.gens) (d' := s.drawn) (ch := [it]) (fun b hb => ?_) (fun b o _ _ hc e _ => k b o (fun z => hc (by simp [z])) e) (fun b o _ _ hc e _ => ⟨o.slots, k b o (fun z => hc (by simp [z])) e⟩) (fun _ _ _ _ n => n)
    (fun b o hc e => ⟨o, k b o (fun z => hc (by simp [z])) e⟩) (fun _ _ e => e) (fun _ _ _ e => e) (fun b ps e => ⟨#[], by rw [e]; simp⟩) (fun m hm => ?_) (fun b u e => ?_) I.bare
  · have e : b = it := by simpa using hb
    subst e
    exact ⟨h1, hL, h2, h3⟩
  · obtain ⟨o, es, ep, ho, r⟩ := hm
    exact ⟨o, es, ep, k _ o (Ne.symm hL) ho, r⟩
  · refine (I.hok b u e).stay (fun c v hc q => k c v ?_ q) (fun _ q => q) fun _ _ q => q
    rcases hc with z | z
    · rw [z]; exact nit b u e
    · exact nit c _ z
theorem Inv.tok (I : Inv X pins σ H s) (t : Nat) : Inv X pins σ H { s with toks := t } := I.un (h' := s.heap) (t' := t) Un.refl I.hok
theorem Inv.kept {t' : Nat} (I : Inv X pins σ H s) (k : ∀ b u, s.heap.get? b = some u → h'.get? b = some u) : Inv X pins σ H { s with heap := h', toks := t' } := I.un (Un.kept k) (I.hok.kept k)
theorem Inv.laid {a : Addr} {o : HO} {t' : Nat} (I : Inv X pins σ H s) (k : ∀ b u, s.heap.get? b = some u → h'.get? b = some u) (hp : s.heap.objs.size ≤ a) (new : ObjOk X.prog X.w (upd H a o) h' a o) :
    Inv X pins σ (upd H a o) { s with heap := h', toks := t' } := I.un (Un.laid k hp (I.hok.fresh hp)) (I.hok.laid k hp new)
theorem Inv.write {x e : Addr} {o : HO} {t' : Nat} (I : Inv X pins σ H s) (mu : Mut (H x)) (he : e = x ∨ H e = some (.own x)) (k : ∀ b u, b ≠ e → s.heap.get? b = some u → h'.get? b = some u) (heo : ∃ u, h'.get? e = some u)
    (new : ObjOk X.prog X.w (upd H x o) h' x o) : Inv X pins σ (upd H x o) { s with heap := h', toks := t' } := I.un (Un.write mu he k heo) (I.hok.write mu he k heo new)
theorem Inv.pins_of {pins' : List (Addr × Obj)} (I : Inv X pins σ H s) (h : ∀ p ∈ pins', s.heap.get? p.1 = some p.2 ∧ H p.1 = none ∧ p.1 ≠ X.env.locals ∧ p.1 ∉ X.fs ∧ ∀ v, p.2.data ≠ .cell v) : Inv X pins' σ H s :=
  ⟨I.ok, I.os, I.bare, I.base, I.loc, I.cell, I.free, I.freeC, fun p hp => (List.mem_append.mp hp).elim (fun z => I.pin p (List.mem_append_left _ z)) (h p), I.hok, I.len⟩
theorem nodup_ix {N : List Str} (hN : N.Nodup) {i j : Nat} {x : Str} (a : N[i]? = some x) (b : N[j]? = some x) : i = j := by
  obtain ⟨h1, e1⟩ := List.getElem?_eq_some_iff.mp a
  obtain ⟨h2, e2⟩ := List.getElem?_eq_some_iff.mp b
  exact (List.getElem_inj hN).mp (e1.trans e2.symm)
theorem store_ok2 {M : Model} {A : Around} {E : Value → Shared → Prop} {i : Nat} {x : Str} {v : V} {u : Value} {Q : Unit → Shared → Prop} (I : Inv X pins σ H s) (hN : X.N.Nodup) (hi : X.N[i]? = some x) (hx : Loc X.env.scope x) (r : RelV v u)
    (h : ∀ s', Inv X pins (σ.set i (some v)) H s' → (∃ a, Heap.SameBut a s.heap s'.heap ∧ (a = X.env.locals ∨ X.env.cells.lookup x = some a)) → Q () s') (hf : X.fn x = true ∨ X.env.scope.names.lookup x = some .local := by first | exact .inl rfl | exact .inr rfl | assumption) : wpAny M A (storeName X.env x u) Q E s := by
  obtain ⟨m, hn, hl⟩ := id I.loc
  have hcls : (X.env.scope.kind == .class || (X.env.scope.kind == .module && X.env.locals != X.env.globals)) = false := by rw [I.ok.kind]; rfl
  have hiσ : i < σ.length := by rw [I.len]; exact (List.getElem?_eq_some_iff.mp hi).1
  have cne := I.cne
  have tracked : ∀ {a : Addr} {h' : Heap}, (∃ o, s.heap.get? a = some o ∧ H a = none) → Heap.SameBut a s.heap h' → HOk X.prog X.w H h' := fun {a h'} ha hs b ob e => by
    obtain ⟨_, _, hfree⟩ := ha
    refine (I.hok b ob e).stay (fun c w' hc q => (hs.2 c ?_).trans q) (fun _ q => q) fun _ _ q => q
    rintro rfl
    rcases hc with rfl | hc
    · rw [hfree] at e; cases e
    · rw [hfree] at hc; cases hc
  rcases hx with hk | hk
  · refine wpAny_storeName_local hk hn (fun h' hn' hs => ?_) hcls
    obtain ⟨oL, _, _, hoL, _⟩ := id hn
    refine h _ ⟨I.ok, I.os, I.bare, ⟨fun b o e n hb hx => ?_, fun b o e n hb hx => ?_, I.base.free, fun b o e hx => ?_, I.base.tups, I.base.frzs, I.base.tbls⟩, ⟨_, hn', fun j y v' e1 e2 e3 => ?_⟩, fun y c e => ?_, I.free, I.freeC, fun p hp => ?_, tracked ⟨oL, hoL, I.free⟩ hs, by simpa using I.len⟩ ⟨_, hs, .inl rfl⟩
    · exact (hs.2 b (Nat.ne_of_lt (Nat.lt_of_lt_of_le (Heap.lt_size e) I.ok.above))).trans (I.base.keep b o e n hb hx)
    · obtain ⟨sl, e1⟩ := I.base.slot b o e n hb hx
      exact ⟨sl, (hs.2 b (Nat.ne_of_lt (Nat.lt_of_lt_of_le (Heap.lt_size e) I.ok.above))).trans e1⟩
    · obtain ⟨o', e1⟩ := I.base.there b o e hx
      exact ⟨o', (hs.2 b (Nat.ne_of_lt (Nat.lt_of_lt_of_le (Heap.lt_size e) I.ok.above))).trans e1⟩
    · by_cases hj : j = i
      · subst hj
        rw [hi] at e1; cases e1
        rw [List.getElem?_set_self hiσ] at e2
        cases e2
        exact ⟨u, r, .inl ⟨hk, by simp⟩⟩
      · rw [List.getElem?_set_ne (Ne.symm hj)] at e2
        obtain ⟨u', r', q⟩ := hl j y v' e1 e2 e3
        refine ⟨u', r', ?_⟩
        rcases q with ⟨k, e⟩ | ⟨k, c, e, z⟩
        · refine .inl ⟨k, ?_⟩
          have : y ≠ x := fun e => hj (nodup_ix hN e1 (e ▸ hi))
          simp [this, e]
        · exact .inr ⟨k, c, e, z.sameBut hs (cne y c e)⟩
    · obtain ⟨w', z⟩ := I.cell y c e
      exact ⟨w', z.sameBut hs (cne y c e)⟩
    · obtain ⟨e, n, ne, nf, d⟩ := I.pin p hp
      exact ⟨(hs.2 p.1 ne).trans e, n, ne, nf, d⟩
  · have hfn : X.fn x = true := by
      rcases hf with z | z
      · exact z
      · rw [z] at hk; cases hk
    obtain ⟨c, hc⟩ := I.ok.has x (.inl hk)
    obtain ⟨w', z⟩ := I.cell x c hc
    refine wpAny_storeName_cell I.ok.kind hk hc z (fun h' hc' hs => ?_)
    obtain ⟨oc, hoc, hocd⟩ := id z
    refine h { s with heap := h' } ⟨I.ok, I.os, I.bare, ⟨fun b o e n hb hx => ?_, fun b o e n hb hx => ?_, I.base.free, fun b o e hx => ?_, I.base.tups, I.base.frzs, I.base.tbls⟩, ⟨m, hn.sameBut hs (Ne.symm (cne x c hc)), fun j y v' e1 e2 e3 => ?_⟩, fun y c' e => ?_, I.free, I.freeC, fun p hp => ?_, tracked ⟨oc, hoc, I.freeC x c hc⟩ hs, by simpa using I.len⟩ ⟨c, hs, .inr hc⟩
    · exact (hs.2 b (Nat.ne_of_lt (Nat.lt_of_lt_of_le (Heap.lt_size e) (I.ok.cab x c hfn hc)))).trans (I.base.keep b o e n hb hx)
    · obtain ⟨sl, e1⟩ := I.base.slot b o e n hb hx
      exact ⟨sl, (hs.2 b (Nat.ne_of_lt (Nat.lt_of_lt_of_le (Heap.lt_size e) (I.ok.cab x c hfn hc)))).trans e1⟩
    · obtain ⟨o', e1⟩ := I.base.there b o e hx
      exact ⟨o', (hs.2 b (Nat.ne_of_lt (Nat.lt_of_lt_of_le (Heap.lt_size e) (I.ok.cab x c hfn hc)))).trans e1⟩
    · by_cases hj : j = i
      · subst hj
        rw [hi] at e1; cases e1
        rw [List.getElem?_set_self hiσ] at e2
        cases e2
        exact ⟨u, r, .inr ⟨.inl hk, c, hc, hc'⟩⟩
      · rw [List.getElem?_set_ne (Ne.symm hj)] at e2
        obtain ⟨u', r', q⟩ := hl j y v' e1 e2 e3
        refine ⟨u', r', ?_⟩
        rcases q with q | ⟨k, c', e, z'⟩
        · exact .inl q
        · refine .inr ⟨k, c', e, z'.sameBut hs ?_⟩
          rintro rfl
          exact hj (nodup_ix hN e1 (I.ok.inj _ _ _ e hc ▸ hi))
    · by_cases hcc : c' = c
      · subst hcc; exact ⟨_, hc'⟩
      · obtain ⟨w2, z2⟩ := I.cell y c' e
        exact ⟨w2, z2.sameBut hs hcc⟩
    · obtain ⟨e, n, ne, nf, d⟩ := I.pin p hp
      refine ⟨(hs.2 p.1 ?_).trans e, n, ne, nf, d⟩
      intro q
      rw [q, hoc] at e
      have q' : oc = p.2 := Option.some.inj e
      exact d w' (by rw [← q']; exact hocd)
theorem store_ok {M : Model} {A : Around} {E : Value → Shared → Prop} {i : Nat} {x : Str} {v : V} {u : Value} {Q : Unit → Shared → Prop} (I : Inv X pins σ H s) (hN : X.N.Nodup) (hi : X.N[i]? = some x) (hx : Loc X.env.scope x) (r : RelV v u)
    (h : ∀ s', Inv X pins (σ.set i (some v)) H s' → Q () s') (hf : X.fn x = true ∨ X.env.scope.names.lookup x = some .local := by first | exact .inl rfl | exact .inr rfl | assumption) : wpAny M A (storeName X.env x u) Q E s :=
  store_ok2 I hN hi hx r (fun s' I' _ => h s' I') hf
theorem Inv.call' {s' : Shared} {ch : List Addr} (I : Inv X pins σ H s) (ho : s'.os = s.os) (u : Un (frs X.stack) ch H H' s.heap s'.heap) (hok : HOk X.prog X.w H' s'.heap) (hg : AllBare s'.gens)
    (hch : ∀ b ∈ ch, (b ∈ X.ex ∨ X.s₀.heap.objs.size ≤ b) ∧ b ≠ X.env.locals ∧ (∀ x c, X.env.cells.lookup x = some c → c ≠ b) ∧ ∀ p ∈ X.pn ++ pins, p.1 ≠ b) : Inv X pins σ H' s' := by
  obtain ⟨h', g', d', t', o'⟩ := s'
  have e : o' = s.os := ho
  subst e
  exact I.call (g' := g') (t' := t') (d' := d') u hok hg hch
end
noncomputable abbrev XK := Value → Option Addr → Hp → Prop
noncomputable abbrev St := List (Option V)
noncomputable abbrev VK := V → Hp → Prop
noncomputable abbrev TE := St → Hp → VK → Prop
noncomputable abbrev TT := St → Hp → (Bool → Hp → Prop) → Prop
noncomputable abbrev TA := St → Hp → (List V → Hp → Prop) → Prop
structure Ends where
  nx : St → Hp → Prop
  rt : VK
  bk : St → Hp → Prop := fun _ _ => False
  ct : St → Hp → Prop := fun _ _ => False
noncomputable abbrev TS := Ends → St → Hp → Prop
noncomputable def EP (X : Cx) (pins : List (Addr × Obj)) (σ : St) (Q : VK) (u : Value) (s' : Shared) : Prop := ∃ v H', Inv X pins σ H' s' ∧ RelV v u ∧ Q v H'
noncomputable def TP (X : Cx) (pins : List (Addr × Obj)) (σ : St) (Q : Bool → Hp → Prop) (b : Bool) (s' : Shared) : Prop := ∃ H', Inv X pins σ H' s' ∧ Q b H'
noncomputable def AP (X : Cx) (pins : List (Addr × Obj)) (σ : St) (Q : List V → Hp → Prop) (us : List Value) (s' : Shared) : Prop := ∃ vs H', Inv X pins σ H' s' ∧ Vals vs us ∧ Q vs H'
noncomputable def SP (X : Cx) (pins : List (Addr × Obj)) (D : Ends) (f : Flow) (s' : Shared) : Prop :=
  match f with
  | .next => ∃ σ' H', Inv X pins σ' H' s' ∧ D.nx σ' H'
  | .brk => ∃ σ' H', Inv X pins σ' H' s' ∧ D.bk σ' H'
  | .cont => ∃ σ' H', Inv X pins σ' H' s' ∧ D.ct σ' H'
  | .ret u => ∃ v σ' H', Inv X pins σ' H' s' ∧ RelV v u ∧ D.rt v H'
noncomputable def PE (X : Cx) (e : Expr) (t : TE) : Prop :=
  ∀ (pins : List (Addr × Obj)) (s : Shared) (σ : St) (H : Hp) (Q : VK), Inv X pins σ H s → t σ H Q → wpAny (model X.prog X.w) X.A (eval e X.env) (EP X pins σ Q) X.xe s
noncomputable def PT (X : Cx) (e : Expr) (t : TT) : Prop :=
  ∀ (pins : List (Addr × Obj)) (s : Shared) (σ : St) (H : Hp) (Q : Bool → Hp → Prop), Inv X pins σ H s → t σ H Q → wpAny (model X.prog X.w) X.A (isTrue e X.env (eval e X.env)) (TP X pins σ Q) X.xe s
noncomputable def PW (X : Cx) (e : Expr) (t : TT) : Prop :=
  ∀ (whole : Sem Value) (pins : List (Addr × Obj)) (s : Shared) (σ : St) (H : Hp) (Q : Bool → Hp → Prop), Inv X pins σ H s → t σ H Q → wpAny (model X.prog X.w) X.A (isTrue e X.env whole) (TP X pins σ Q) X.xe s
theorem PW.pt {X : Cx} {e : Expr} {t : TT} (h : PW X e t) : PT X e t := h _
noncomputable def PA (X : Cx) (es : List Expr) (t : TA) : Prop :=
  ∀ (pos : Pos) (pins : List (Addr × Obj)) (s : Shared) (σ : St) (H : Hp) (Q : List V → Hp → Prop), Inv X pins σ H s → t σ H Q → wpAny (model X.prog X.w) X.A (spliced (backTo pos (starEach es X.env))) (AP X pins σ Q) X.xe s
noncomputable def PS (X : Cx) (st : Stmt) (t : TS) : Prop :=
  ∀ (pins : List (Addr × Obj)) (s : Shared) (σ : St) (H : Hp) (D : Ends), Inv X pins σ H s → t D σ H → wpAny (model X.prog X.w) X.A (exec st X.env) (SP X pins D) X.xe s
noncomputable def PSs (X : Cx) (st : List Stmt) (t : TS) : Prop :=
  ∀ (pins : List (Addr × Obj)) (s : Shared) (σ : St) (H : Hp) (D : Ends), Inv X pins σ H s → t D σ H → wpAny (model X.prog X.w) X.A (execs st X.env) (SP X pins D) X.xe s
theorem thn {α : Type} {t : Sem α} {Q Q' : α → Shared → Prop} {M : Model} {A : Around} {E : Value → Shared → Prop} {s : Shared} (h : wpAny M A t Q E s) (hQ : ∀ a s, Q a s → Q' a s) : wpAny M A t Q' E s := wpAny_mono h hQ fun _ _ x => x
end L2
namespace L2
open PySem PySem.Spec PyProof.Rows
section
variable {X : Cx}
noncomputable def tVar (i : Nat) : TE := fun σ H Q => ∃ v, σ[i]? = some (some v) ∧ Q v H
noncomputable def tC (v : V) : TE := fun _ H Q => Q v H
theorem pe_var {i : Nat} {x : Str} {pos : Pos} (hN : X.N[i]? = some x) (hv : Vis X.env.scope x) (hd : (x == ("__debug__" : Str)) = false := by decide) (hcd : (x == ("__classdict__" : Str)) = false := by decide) : PE X (.Name x pos) (tVar i) := by
  intro pins s σ H Q I h
  obtain ⟨v, e, h⟩ := h
  obtain ⟨m, hn, hl⟩ := I.loc
  obtain ⟨u, r, l⟩ := hl i x v hN e hv
  have fin : EP X pins σ Q u s := ⟨v, H, I, r, h⟩
  rcases l with ⟨hk, hm⟩ | ⟨hk, c, hc, hcell⟩
  · exact wpAny_Name (wpAny_loadName_local I.ok.kind hk hn hm fin) hd
  · rcases hk with hk | hk
    · exact wpAny_Name (wpAny_loadName_cell I.ok.kind hk hc hcell fin) hd
    · exact wpAny_Name (wpAny_loadName_free I.ok.kind hk hc hcell fin hcd) hd
theorem pe_int {i j pos} : PE X (.Constant (.int i) j pos) (tC (.int i)) := fun _ _ _ H _ I h => wpAny_Constant_int ⟨.int i, H, I.tok _, ⟨_, rfl⟩, h⟩
theorem pe_bl {b j pos} : PE X (.Constant (.bool b) j pos) (tC (.bl b)) := fun _ _ _ H _ I h => Constant_bool ⟨.bl b, H, I, rfl, h⟩
theorem pe_non {j pos} : PE X (.Constant .none j pos) (tC .non) := fun _ _ _ H _ I h => Constant_none ⟨.non, H, I, rfl, h⟩
theorem pe_str {x j pos} : PE X (.Constant (.str x) j pos) (tC (.str x)) := fun _ _ _ H _ I h => Calls.Constant_str ⟨.str x, H, I.tok _, ⟨_, rfl⟩, h⟩
noncomputable def Gl (X : Cx) (x : Str) : Prop := X.env.kindOf x = some .globalImplicit
theorem ld_glob {E : Value → Shared → Prop} {pins : List (Addr × Obj)} {s : Shared} {σ : St} {H : Hp} {x : Str} {u : Value} {pos : Pos} {Q : Value → Shared → Prop} (I : Inv X pins σ H s) (hg : Gl X x) (hm : X.mg x = some u) (h : Q u s)
    (hd : (x == ("__debug__" : Str)) = false := by decide) : wpAny (model X.prog X.w) X.A (eval (.Name x pos) X.env) Q E s :=
  Calls.Name_function_global I.ok.kind hg (Calls.loadGlobal_global (by rw [I.ok.glob]; exact I.mod.glob.keeps I.bk) hm h) hd
theorem ld_blt {E : Value → Shared → Prop} {pins : List (Addr × Obj)} {s : Shared} {σ : St} {H : Hp} {x : Str} {u : Value} {pos : Pos} {Q : Value → Shared → Prop} (I : Inv X pins σ H s) (hg : Gl X x) (hm : X.mg x = none) (hv : bootBuiltins x = some u) (h : Q u s)
    (hn : x ≠ "__name__" := by decide) (hd : (x == ("__debug__" : Str)) = false := by decide) : wpAny (model X.prog X.w) X.A (eval (.Name x pos) X.env) Q E s := by
  obtain ⟨mb, h1, h2⟩ := I.mod.blt
  exact Calls.Name_function_global I.ok.kind hg (Calls.loadGlobal_builtin (by rw [I.ok.glob]; exact I.mod.glob.keeps I.bk) hm (by rw [I.ok.blt]; exact h1.keeps I.bk) ((h2 x hn).trans hv) h) hd
theorem pe_bltn {x : Str} {v : V} {u : Value} {pos : Pos} (hg : Gl X x) (hm : X.mg x = none) (hv : bootBuiltins x = some u) (r : RelV v u) (hn : x ≠ "__name__" := by decide) (hd : (x == ("__debug__" : Str)) = false := by decide) : PE X (.Name x pos) (tC v) :=
  fun _ _ _ H _ I h => ld_blt I hg hm hv ⟨v, H, I, r, h⟩ hn hd
variable {a b : Expr} {ta tb : TE} {pos : Pos}
noncomputable def tB (t : TE) : TT := fun σ H Q => t σ H fun x H1 => ∃ c, x = .bl c ∧ Q c H1
theorem pt_val {e : Expr} {t : TE} (h : PE X e t) (he : ∀ whole, isTrue e X.env whole = (do let v ← whole; standAt e.pos; holding [v] (truthy v)) := by intro _; rfl) : PT X e (tB t) := by
  intro pins s σ H Q I hw
  refine isTrue_plain (thn (h pins s σ H _ I hw) fun v s1 ⟨x, H1, I1, r1, q1⟩ => ?_) (he _)
  obtain ⟨d, rfl, q⟩ := q1
  cases r1
  exact wpAny_truthy_bool ⟨H1, I1, q⟩
variable {tA tB' : TT} {rest : List Expr}
noncomputable def tAnd (t u : TT) : TT := fun σ H Q => t σ H fun c H1 => if c = true then u σ H1 Q else Q false H1
noncomputable def tOr (t u : TT) : TT := fun σ H Q => t σ H fun c H1 => if c = true then Q true H1 else u σ H1 Q
noncomputable def tNot (t : TT) : TT := fun σ H Q => t σ H fun c H1 => Q (!c) H1
theorem pw_and1 (ha : PT X a tA) : PW X (.BoolOp .And [a] pos) tA := by
  intro wh pins s σ H Q I h
  refine isTrue_and (thn (ha pins s σ H Q I h) fun c s1 e => ?_)
  cases c with
  | true => exact isTrue_and_nil e
  | false => exact e
theorem pw_or1 (ha : PT X a tA) : PW X (.BoolOp .Or [a] pos) tA := by
  intro wh pins s σ H Q I h
  refine isTrue_or (thn (ha pins s σ H Q I h) fun c s1 e => ?_)
  cases c with
  | false => exact isTrue_or_nil e
  | true => exact e
theorem pw_and (ha : PT X a tA) (hb : PW X (.BoolOp .And (b :: rest) pos) tB') : PW X (.BoolOp .And (a :: b :: rest) pos) (tAnd tA tB') := by
  intro wh pins s σ H Q I h
  refine isTrue_and (thn (ha pins s σ H _ I h) fun c s1 ⟨H1, I1, q1⟩ => ?_)
  cases c with
  | true => exact hb wh pins s1 σ H1 Q I1 q1
  | false => exact ⟨H1, I1, q1⟩
theorem pw_or (ha : PT X a tA) (hb : PW X (.BoolOp .Or (b :: rest) pos) tB') : PW X (.BoolOp .Or (a :: b :: rest) pos) (tOr tA tB') := by
  intro wh pins s σ H Q I h
  refine isTrue_or (thn (ha pins s σ H _ I h) fun c s1 ⟨H1, I1, q1⟩ => ?_)
  cases c with
  | true => exact ⟨H1, I1, q1⟩
  | false => exact hb wh pins s1 σ H1 Q I1 q1
theorem pt_not (ha : PT X a tA) : PT X (.UnaryOp .Not a pos) (tNot tA) := by
  intro pins s σ H Q I h
  exact isTrue_not (ha pins s σ H (fun c H1 => Q (!c) H1) I h)
noncomputable def tAndV (ta tb : TE) : TE := fun σ H Q => ta σ H fun x H1 => ∃ c, x = .bl c ∧ if c = true then tb σ H1 Q else Q (.bl false) H1
noncomputable def tNotV (ta : TE) : TE := fun σ H Q => ta σ H fun x H1 => ∃ c, x = .bl c ∧ Q (.bl (!c)) H1
theorem pe_one {op} {t : TE} (h : PE X a t) : PE X (.BoolOp op [a] pos) t := fun pins s σ H Q I hw => BoolOp_one (h pins s σ H Q I hw)
theorem pe_and (ha : PE X a ta) (hb : PE X (.BoolOp .And (b :: rest) pos) tb) : PE X (.BoolOp .And (a :: b :: rest) pos) (tAndV ta tb) := by
  intro pins s σ H Q I h
  refine BoolOp_and (thn (ha pins s σ H _ I h) fun v s1 ⟨x, H1, I1, r1, q1⟩ => ?_)
  obtain ⟨c, rfl, q1⟩ := q1
  cases r1
  refine wpAny_truthy_bool ?_
  cases c with
  | true => exact hb pins s1 σ H1 Q I1 q1
  | false => exact ⟨.bl false, H1, I1, rfl, q1⟩
theorem pe_not (ha : PE X a ta) : PE X (.UnaryOp .Not a pos) (tNotV ta) := by
  intro pins s σ H Q I h
  refine UnaryOp_ (thn (ha pins s σ H _ I h) fun v s1 ⟨x, H1, I1, r1, q1⟩ => ?_)
  obtain ⟨c, rfl, q1⟩ := q1
  cases r1
  exact not_of (wpAny_truthy_bool ⟨.bl (!c), H1, I1, rfl, q1⟩)
end
end L2
namespace L2
open PySem PySem.Spec PyProof.Rows
noncomputable def SqL (K : PySem.W.Frag) (H : Hp) (a : Addr) (xs : List V) : Prop :=
  Rd H a (.lst xs) ∨
    ∃ (o : Obj) (its : Array Value) (n : Nat), K.lookup a = some o ∧ o.cls = .type "list" ∧ o.dict = none ∧ o.data = .seq its n ∧ its.size ≤ sizeLine ∧ Vals xs its.toList
noncomputable def SqT (K : PySem.W.Frag) (H : Hp) (a : Addr) (xs : List V) : Prop :=
  Rd H a (.tup xs) ∨
    ∃ (o : Obj) (its : Array Value) (n : Nat), K.lookup a = some o ∧ o.cls = .type "tuple" ∧ o.data = .seq its n ∧ its.size ≤ sizeLine ∧ Vals xs its.toList
noncomputable def absV : Value → Option V
  | .none => some .non
  | .bool b => some (.bl b)
  | .int i _ => some (.int i)
  | .str x _ => some (.str x)
  | .bytes b _ => some (.byt b)
  | .float b _ => some (.flt b)
  | .ref a => some (.ref a)
  | .type n => some (.ty n)
  | _ => none
theorem RelV.abs {x : V} {u : Value} (r : RelV x u) : absV u = some x := by
  cases x with
  | non => cases r; rfl
  | bl _ => cases r; rfl
  | int _ => obtain ⟨t, rfl⟩ := r; rfl
  | str _ => obtain ⟨t, rfl⟩ := r; rfl
  | byt _ => obtain ⟨t, rfl⟩ := r; rfl
  | flt _ => obtain ⟨t, rfl⟩ := r; rfl
  | ref _ => cases r; rfl
  | ty _ => cases r; rfl
theorem RelV.inj {x y : V} {u : Value} (r : RelV x u) (q : RelV y u) : x = y := Option.some.inj (r.abs.symm.trans q.abs)
theorem Vals.inj : ∀ {xs ys : List V} {us : List Value}, Vals xs us → Vals ys us → xs = ys
  | _, _, _, .nil, .nil => rfl
  | _, _, _, .cons r t, .cons r' t' => by rw [r.inj r', Vals.inj t t']
section
variable {X : Cx} {pins : List (Addr × Obj)} {σ : St} {H : Hp} {s : Shared} {a : Addr} {xs ys : List V}
theorem SqL.of {K : PySem.W.Frag} (h : H a = some (.lst xs)) : SqL K H a xs := .inl (.inl h)
theorem SqT.of {K : PySem.W.Frag} (h : H a = some (.tup xs)) : SqT K H a xs := .inl (.inl h)
theorem Inv.list (I : Inv X pins σ H s) (h : SqL X.K H a xs) : ∃ its : List Value, Vals xs its ∧ PlainL s.heap a its.toArray ∧ xs.length ≤ sizeLine := by
  rcases h with h | ⟨o, its, n, hk, hc, hd, hs, hz, r⟩
  · obtain ⟨z, its, n, r, e⟩ := h.ok I.hok
    exact ⟨its, r, ⟨_, n, e, rfl, rfl, rfl⟩, z⟩
  · refine ⟨its.toList, r, ⟨o, n, I.kIn a o hk, hc, hd, by simpa using hs⟩, ?_⟩
    have e := r.length
    simp only [Array.length_toList] at e
    omega
theorem Inv.tuple (I : Inv X pins σ H s) (h : SqT X.K H a xs) : ∃ its : List Value, Vals xs its ∧ IsTup s.heap a its.toArray ∧ xs.length ≤ sizeLine := by
  rcases h with h | ⟨o, its, n, hk, hc, hs, hz, r⟩
  · obtain ⟨z, its, r, p⟩ := h.ok I.hok
    exact ⟨its, r, p.tup, z⟩
  · refine ⟨its.toList, r, ⟨o, I.kIn a o hk, hc, n, by simpa using hs⟩, ?_⟩
    have e := r.length
    simp only [Array.length_toList] at e
    omega
theorem Inv.list_inj (I : Inv X pins σ H s) (h : SqL X.K H a xs) (h' : SqL X.K H a ys) : xs = ys := by
  obtain ⟨its, r, ⟨o, n, e, _, _, d⟩, _⟩ := I.list h
  obtain ⟨its', r', ⟨o', n', e', _, _, d'⟩, _⟩ := I.list h'
  rw [e] at e'; cases e'
  rw [d] at d'
  injection d' with d1 _
  have : its = its' := by simpa using congrArg Array.toList d1
  subst this
  exact r.inj r'
theorem Inv.tuple_inj (I : Inv X pins σ H s) (h : SqT X.K H a xs) (h' : SqT X.K H a ys) : xs = ys := by
  obtain ⟨its, r, ⟨o, e, _, n, d⟩, _⟩ := I.tuple h
  obtain ⟨its', r', ⟨o', e', _, n', d'⟩, _⟩ := I.tuple h'
  rw [e] at e'; cases e'
  rw [d] at d'
  injection d' with d1 _
  have : its = its' := by simpa using congrArg Array.toList d1
  subst this
  exact r.inj r'
end
noncomputable abbrev Cx.wish (X : Cx) (E : Value → Shared → Prop) : Cx := { X with xe := E }
noncomputable abbrev Cx.nox (X : Cx) : Cx := X.wish fun _ _ => False
theorem Cx.Ok.wish {X : Cx} (ok : X.Ok) (E : Value → Shared → Prop) : (X.wish E).Ok :=
  ⟨ok.mod, ok.kind, ok.glob, ok.blt, ok.above, ok.inj, ok.has, ok.cab, ok.hd, ok.frames, ok.stk, ok.exf, ok.bs, ok.bsz, ok.noex, ok.exfs, ok.funs, ok.frf⟩
theorem Cx.Ok.unwish {X : Cx} {E : Value → Shared → Prop} (ok : (X.wish E).Ok) : X.Ok :=
  ⟨ok.mod, ok.kind, ok.glob, ok.blt, ok.above, ok.inj, ok.has, ok.cab, ok.hd, ok.frames, ok.stk, ok.exf, ok.bs, ok.bsz, ok.noex, ok.exfs, ok.funs, ok.frf⟩
section
variable {X : Cx} {pins : List (Addr × Obj)} {σ : St} {H : Hp} {s : Shared} {E : Value → Shared → Prop}
theorem Inv.wish (I : Inv X pins σ H s) (E : Value → Shared → Prop) : Inv (X.wish E) pins σ H s := ⟨I.ok.wish E, I.os, I.bare, I.base, I.loc, I.cell, I.free, I.freeC, I.pin, I.hok, I.len⟩
theorem Inv.unwish (I : Inv (X.wish E) pins σ H s) : Inv X pins σ H s := ⟨I.ok.unwish, I.os, I.bare, I.base, I.loc, I.cell, I.free, I.freeC, I.pin, I.hok, I.len⟩
theorem SP.unwish {D : Ends} {f : Flow} {s' : Shared} (h : SP (X.wish E) pins D f s') : SP X pins D f s' := by
  cases f with
  | next => obtain ⟨σ', H', I, q⟩ := h; exact ⟨σ', H', I.unwish, q⟩
  | brk => obtain ⟨σ', H', I, q⟩ := h; exact ⟨σ', H', I.unwish, q⟩
  | cont => obtain ⟨σ', H', I, q⟩ := h; exact ⟨σ', H', I.unwish, q⟩
  | ret u => obtain ⟨v, σ', H', I, r, q⟩ := h; exact ⟨v, σ', H', I.unwish, r, q⟩
theorem PSs.nox {st : List Stmt} {t : TS} (h : PSs X.nox st t) : PSs X st t := fun pins s σ H D I hw =>
  wpAny_mono (h pins s σ H D (I.wish _) hw) (fun _ _ q => q.unwish) fun _ _ z => False.elim z
end
section
variable {X : Cx} {st : Stmt} {rest : List Stmt} {t u : TS} {e : Expr} {te : TE} {pos : Pos}
noncomputable def tNext : TS := fun D σ H => D.nx σ H
noncomputable def tSeq (t u : TS) : TS := fun D σ H => t { D with nx := u D } σ H
theorem pss_nil : PSs X [] tNext := fun _ _ σ H _ I h => wpAny_execs_nil ⟨σ, H, I, h⟩
theorem pss_cons (h1 : PS X st t) (h2 : PSs X rest u) : PSs X (st :: rest) (tSeq t u) := by
  intro pins s σ H D I h
  refine wpAny_execs_cons (thn (h1 pins s σ H { D with nx := u D } I h) fun f s1 q => ?_)
  cases f with
  | next =>
    obtain ⟨σ', H', I', q⟩ := q
    exact h2 pins s1 σ' H' D I' q
  | ret v => exact q
  | brk => exact q
  | cont => exact q
theorem pss_one (h1 : PS X st t) : PSs X [st] t := by
  intro pins s σ H D I h
  refine wpAny_execs_cons (thn (h1 pins s σ H D I h) fun f s1 q => ?_)
  cases f with
  | next => exact wpAny_execs_nil q
  | ret v => exact q
  | brk => exact q
  | cont => exact q
theorem Inv.quiet {pins : List (Addr × Obj)} {σ : St} {H : Hp} {s : Shared} (I : Inv X pins σ H s) : interactive X.env = false := by simp [interactive, I.ok.kind]
noncomputable def tDrop (te : TE) : TS := fun D σ H => te σ H fun _ H1 => D.nx σ H1
theorem ps_expr (he : PE X e te) (hs : swapsWith e none pos.line X.env = pure false := by rfl) : PS X (.Expr e pos) (tDrop te) := by
  intro pins s σ H D I h
  exact wpAny_Expr_any (thn (he pins s σ H _ I h) fun v s1 ⟨x, H1, I1, r1, q1⟩ => ⟨σ, H1, I1, q1⟩) I.quiet hs
noncomputable def tRet (te : TE) : TS := fun D σ H => te σ H D.rt
theorem ps_ret (he : PE X e te) : PS X (.Return (some e) pos) (tRet te) := by
  intro pins s σ H D I h
  exact wpAny_Return_some (thn (he pins s σ H _ I h) fun v s1 ⟨x, H1, I1, r1, q1⟩ => ⟨x, σ, H1, I1, r1, q1⟩)
noncomputable def tIfS (c : TT) (t u : TS) : TS := fun D σ H => c σ H fun b H1 => if b = true then t D σ H1 else u D σ H1
theorem ps_if {c : Expr} {a b : List Stmt} {tc : TT} (hc : PT X c tc) (ha : PSs X a t) (hb : PSs X b u) : PS X (.If c a b pos) (tIfS tc t u) := by
  intro pins s σ H D I h
  refine wpAny_If (thn (hc pins s σ H _ I h) fun d s1 ⟨H1, I1, q1⟩ => ?_)
  cases d with
  | true => exact ha pins s1 σ H1 D I1 q1
  | false => exact hb pins s1 σ H1 D I1 q1
noncomputable def tNever : TS := fun _ _ _ => False
theorem ps_never : PS X st tNever := fun _ _ _ _ _ _ h => h.elim
end
noncomputable abbrev TG := V → St → Hp → (St → Hp → Prop) → Prop
noncomputable abbrev TGs := List V → St → Hp → (St → Hp → Prop) → Prop
noncomputable def PG (X : Cx) (target : Expr) (t : TG) : Prop :=
  ∀ (pins : List (Addr × Obj)) (s : Shared) (σ : St) (H : Hp) (v : V) (u : Value) (Q : St → Hp → Prop), Inv X pins σ H s → RelV v u → t v σ H Q →
    wpAny (model X.prog X.w) X.A (assign target X.env u) (fun _ s' => ∃ σ' H', Inv X pins σ' H' s' ∧ Q σ' H') X.xe s
noncomputable def PGs (X : Cx) (ts : List Expr) (t : TGs) : Prop :=
  ∀ (pins : List (Addr × Obj)) (s : Shared) (σ : St) (H : Hp) (vs : List V) (us : List Value) (Q : St → Hp → Prop), Inv X pins σ H s → Vals vs us → t vs σ H Q →
    wpAny (model X.prog X.w) X.A (assignInOrder ((assignEach ts X.env).map (·.2)) us) (fun _ s' => ∃ σ' H', Inv X pins σ' H' s' ∧ Q σ' H') X.xe s
noncomputable abbrev TSet := V → V → V → Hp → (Hp → Prop) → Prop
noncomputable def PSet (X : Cx) (t : TSet) : Prop :=
  ∀ (pins : List (Addr × Obj)) (s : Shared) (σ : St) (H : Hp) (o i v : V) (ov iv u : Value) (Q : Hp → Prop), Inv X pins σ H s → RelV o ov → RelV i iv → RelV v u → t o i v H Q →
    wpAny (model X.prog X.w) X.A (setItem ov iv u) (fun _ s' => ∃ H', Inv X pins σ H' s' ∧ Q H') X.xe s
section
variable {X : Cx} {pos : Pos}
noncomputable def gName (i : Nat) : TG := fun v σ H Q => Q (σ.set i (some v)) H
theorem pg_name {i : Nat} {x : Str} (hN : X.N.Nodup) (hi : X.N[i]? = some x) (hx : Loc X.env.scope x) (hf : X.fn x = true ∨ X.env.scope.names.lookup x = some .local := by first | exact .inl rfl | exact .inr rfl | assumption) : PG X (.Name x pos) (gName i) := by
  intro pins s σ H v u Q I r h
  exact wpAny_assign_Name (store_ok I hN hi hx r (fun s' I' => ⟨_, H, I', h⟩) hf)
noncomputable def gNil : TGs := fun vs σ H Q => vs = [] ∧ Q σ H
noncomputable def gCons (t : TG) (u : TGs) : TGs := fun vs σ H Q => ∃ v r, vs = v :: r ∧ t v σ H fun σ' H' => u r σ' H' Q
theorem pgs_nil : PGs X [] gNil := by
  intro pins s σ H vs us Q I r h
  obtain ⟨e, h⟩ := h
  subst e
  cases r
  exact assignInOrder_nil ⟨σ, H, I, h⟩
theorem pgs_cons {e : Expr} {es : List Expr} {t : TG} {u : TGs} (h1 : PG X e t) (h2 : PGs X es u)
    (hs : (assignEach (e :: es) X.env).map (·.2) = assign e X.env :: (assignEach es X.env).map (·.2) := by rfl) : PGs X (e :: es) (gCons t u) := by
  intro pins s σ H vs us Q I r h
  obtain ⟨v, vr, e1, h⟩ := h
  subst e1
  cases r with
  | cons r rr =>
    rw [hs]
    refine assignInOrder_cons (thn (h1 pins s σ H _ _ _ I r h) fun _ s1 ⟨σ1, H1, I1, q1⟩ => ?_)
    exact h2 pins s1 σ1 H1 _ _ Q I1 rr q1
noncomputable def gTup (K : PySem.W.Frag) (n : Nat) (t : TGs) : TG := fun v σ H Q => ∃ a xs, v = .ref a ∧ SqT K H a xs ∧ xs.length = n ∧ t xs σ H Q
theorem pg_tup {es : List Expr} {k : Nat} {t : TGs} {n : Nat} (hc : X.calm = true) (h : PGs X es t)
    (hn : (assignEach es X.env).length = n := by rfl) (hst : (assignEach es X.env).findIdx? (·.1) = none := by rfl) : PG X (.Tuple es k pos) (gTup X.K n t) := by
  intro pins s σ H v u Q I r hw
  obtain ⟨a, xs, e1, hq, hl, hw⟩ := hw
  subst e1
  cases r
  obtain ⟨its, rv, ht, hz⟩ := I.tuple hq
  refine assign_Tuple_tuple (I.ok.hd hc) ht (by simp [hn, ← hl, rv.length]) hst fun h' hx => ?_
  have I1 : Inv X pins σ H { s with heap := h' } := I.kept (t' := s.toks) fun b o e => hx b o (Nat.ne_of_lt (Heap.lt_size e)) e
  exact h pins _ σ H xs _ Q I1 (by simpa using rv) hw
noncomputable def gSub (to ti : TE) (t : TSet) : TG := fun v σ H Q => to σ H fun o H1 => ti σ H1 fun i H2 => t o i v H2 fun H3 => Q σ H3
theorem pg_sub {o i : Expr} {to ti : TE} {t : TSet} (ho : PE X o to) (hi : PE X i ti) (hs : PSet X t)
    (ha : ∀ v, assign (.Subscript o i pos) X.env v = (do
      let ov ← holding [v] (eval o X.env)
      let iv ← holding [v, ov] (eval i X.env)
      standAt pos
      holding [v, ov, iv] (setItem ov iv v)
      release [v, ov, iv] []) := by intro _; rfl) : PG X (.Subscript o i pos) (gSub to ti t) := by
  intro pins s σ H v u Q I r h
  rw [ha]
  refine wpAny_bind (wpAny_holding (thn (ho pins s σ H _ I h) fun ov s1 ⟨x, H1, I1, r1, q1⟩ => ?_))
  refine wpAny_bind (wpAny_holding (thn (hi pins s1 σ H1 _ I1 q1) fun iv s2 ⟨y, H2, I2, r2, q2⟩ => ?_))
  refine wpAny_bind (wpAny_standAt (wpAny_bind (wpAny_holding (thn (hs pins s2 σ H2 x y v ov iv u _ I2 r1 r2 r q2) fun _ s3 ⟨H3, I3, q3⟩ => ?_))))
  exact wpAny_release ⟨σ, H3, I3, q3⟩
noncomputable def tAsg (te : TE) (g : TG) : TS := fun D σ H => te σ H fun x H1 => g x σ H1 D.nx
theorem ps_asg {tg e : Expr} {te : TE} {g : TG} (he : PE X e te) (hg : PG X tg g) (hs : swapsWithSole [tg] e pos.line X.env = pure false := by rfl) (hw : swappedStores [tg] e X.env = pure none := by rfl)
    (h1 : (assignEach [tg] X.env).map (·.2) = [assign tg X.env] := by rfl) : PS X (.Assign [tg] e pos) (tAsg te g) := by
  intro pins s σ H D I h
  refine wpAny_Assign_stores (thn (he pins s σ H _ I h) fun v s1 ⟨x, H1, I1, r1, q1⟩ => ?_) hs hw
  rw [h1]
  exact thn (hg pins s1 σ H1 x v _ I1 r1 q1) fun _ s2 q => q
theorem ps_set {i : Nat} {x : Str} {e : Expr} {te : TE} {pos' : Pos} (hN : X.N.Nodup) (hi : X.N[i]? = some x) (hx : Loc X.env.scope x) (he : PE X e te) (hs : swapsWith e (some (.Name x pos')) pos.line X.env = pure false := by rfl) (hf : X.fn x = true ∨ X.env.scope.names.lookup x = some .local := by first | exact .inl rfl | exact .inr rfl | assumption) :
    PS X (.Assign [.Name x pos'] e pos) (tAsg te (gName i)) := by
  intro pins s σ H D I h
  refine wpAny_Assign_Name (thn (he pins s σ H _ I h) fun v s1 ⟨y, H1, I1, r1, q1⟩ => ?_) hs
  exact store_ok I1 hN hi hx r1 (fun s2 I2 => ⟨_, H1, I2, q1⟩) hf
end
section
variable {X : Cx} {pos : Pos}
noncomputable def tWhile (c : TT) (tb : TS) : TS := fun D σ H => ∃ W : Nat → St → Hp → Prop, (∃ m, W m σ H) ∧ ∀ m σ H, W m σ H →
  c σ H fun b H1 => if b = true then ∃ N : St → Hp → Prop, (∀ σ' H', N σ' H' → ∃ m', m' < m ∧ W m' σ' H') ∧ tb { D with nx := N, ct := N, bk := D.nx } σ H1 else D.nx σ H1
theorem ps_while {c : Expr} {body : List Stmt} {tc : TT} {tb : TS} (hp : PassesOwn (model X.prog X.w) X.A X.env X.xe) (hc : PT X c tc) (hb : PSs X body tb) : PS X (.While c body [] pos) (tWhile tc tb) := by
  intro pins s σ H D I h
  obtain ⟨W, ⟨m0, w0⟩, turn⟩ := h
  refine wpAny_While (codeAny_whileLoop (fun n s' => ∃ σ' H', Inv X pins σ' H' s' ∧ W n σ' H') ?_ m0 ⟨σ, H, I, w0⟩)
  rintro n s1 ⟨σ1, H1, I1, w1⟩
  refine wpAny_passesOwn hp (thn (hc pins s1 σ1 H1 _ I1 (turn n σ1 H1 w1)) fun b s2 ⟨H2, I2, q2⟩ => ?_)
  cases b with
  | true =>
    obtain ⟨N, hN, q2⟩ := q2
    rw [if_pos rfl]
    refine wpAny_passesOwn hp (thn (hb pins s2 σ1 H2 _ I2 q2) fun f s3 q3 => ?_)
    cases f with
    | next =>
      obtain ⟨σ3, H3, I3, n3⟩ := q3
      obtain ⟨m', hm, w3⟩ := hN σ3 H3 n3
      exact ⟨m', hm, σ3, H3, I3, w3⟩
    | cont =>
      obtain ⟨σ3, H3, I3, n3⟩ := q3
      obtain ⟨m', hm, w3⟩ := hN σ3 H3 n3
      exact ⟨m', hm, σ3, H3, I3, w3⟩
    | brk => exact q3
    | ret v => exact q3
  | false =>
    rw [if_neg Bool.false_ne_true]
    exact wpAny_execs_nil ⟨σ1, H2, I2, q2⟩
end
structure It where
  go : Nat → Hp → Prop
  yld : Nat → Hp → V → Hp → Prop
  stop : Nat → Hp → Prop
noncomputable def FpOk (X : Cx) (pins : List (Addr × Obj)) (H : Hp) (b : Addr) : Prop :=
  H b = none ∧ b ≠ X.env.locals ∧ b ∉ X.fs ∧ (b ∈ X.ex ∨ X.s₀.heap.objs.size ≤ b) ∧ (∀ x c, X.env.cells.lookup x = some c → c ≠ b) ∧ ∀ p ∈ X.pn ++ pins, p.1 ≠ b
theorem Inv.fpOk {X : Cx} {pins : List (Addr × Obj)} {σ : St} {H H' : Hp} {s : Shared} {b : Addr} (I : Inv X pins σ H s) (hb : s.heap.objs.size ≤ b) (hn : H' b = none) : FpOk X pins H' b := by
  refine ⟨hn, Nat.ne_of_gt (Nat.lt_of_lt_of_le I.lt hb), I.nofs hb, .inr (Nat.le_trans I.sz hb), fun x c e z => ?_, fun p hp z => ?_⟩
  · obtain ⟨v, q⟩ := I.cell x c e
    exact absurd (Nat.lt_of_lt_of_le q.lt (by rw [z]; exact hb)) (Nat.lt_irrefl _)
  · exact absurd (Nat.lt_of_lt_of_le (Heap.lt_size (I.pin p hp).1) (by rw [z]; exact hb)) (Nat.lt_irrefl _)
structure Turn (P : Program) (w : World) (K : PySem.W.Frag) (tg : Expr) (J : It) (fp : List Addr) (it : Addr) (tn : Nat → Heap → Prop) : Prop where
  mem : it ∈ fp
  obj : ∀ i h, tn i h → ∀ b ∈ fp, ∃ o, h.get? b = some o ∧ ∀ v, o.data ≠ .cell v
  keep : ∀ i h h', tn i h → (∀ b ∈ fp, ∀ o, h.get? b = some o → h'.get? b = some o) → tn i h'
  item : ∀ (X : Cx), X.prog = P → X.w = w → X.K = K → X.calm = true → ∀ (i : Nat) (pins : List (Addr × Obj)) (s : Shared) (σ : St) (H : Hp) (E : Value → Shared → Prop), Inv X pins σ H s → (∀ b ∈ fp, FpOk X pins H b) → tn i s.heap → J.go i H →
    wpAny (model P w) X.A (pyNext (.ref it)) (fun r s1 => ∃ u, r = some u ∧
      wpAny (model P w) X.A (letOwnedTupleGo tg (.ref it) u) (fun _ s2 => ∃ x H', Inv X pins σ H' s2 ∧ RelV x u ∧ J.yld i H x H' ∧ tn (i + 1) s2.heap ∧ ∀ b ∈ fp, H' b = none) E s1) E s
  done : ∀ (X : Cx), X.prog = P → X.w = w → X.K = K → X.calm = true → ∀ (i : Nat) (pins : List (Addr × Obj)) (s : Shared) (σ : St) (H : Hp) (E : Value → Shared → Prop), Inv X pins σ H s → (∀ b ∈ fp, FpOk X pins H b) → tn i s.heap → J.stop i H →
    wpAny (model P w) X.A (pyNext (.ref it)) (fun r s1 => r = none ∧ Inv X pins σ H s1) E s
  self : ∀ (A : Around) (i : Nat) (s : Shared) (Q : Value → Shared → Prop) (E : Value → Shared → Prop), tn i s.heap → Q (.ref it) s → wpAny (model P w) A (pyIter (.ref it)) Q E s
noncomputable abbrev TI := St → Hp → (It → Hp → Prop) → Prop
noncomputable def PIE (X : Cx) (pins : List (Addr × Obj)) (σ : St) (tg : Expr) (R : It → Hp → Prop) (itv : Value) (s2 : Shared) : Prop :=
  ∃ (it : Addr) (fp : List Addr) (tn : Nat → Heap → Prop) (J : It) (H' : Hp), itv = .ref it ∧ Inv X pins σ H' s2 ∧ Turn X.prog X.w X.K tg J fp it tn ∧ tn 0 s2.heap ∧ (∀ b ∈ fp, FpOk X pins H' b) ∧ R J H'
noncomputable def PI (X : Cx) (tg iter : Expr) (wi : TI) : Prop :=
  ∀ (pins : List (Addr × Obj)) (s : Shared) (σ : St) (H : Hp) (R : It → Hp → Prop), Inv X pins σ H s → wi σ H R →
    wpAny (model X.prog X.w) X.A (eval iter X.env) (fun v s1 => wpAny (model X.prog X.w) X.A (pyIter v) (PIE X pins σ tg R) X.xe s1) X.xe s
theorem go_of {M : Model} {A : Around} {E : Value → Shared → Prop} {s : Shared} {tg : Expr} {it : Addr} {u : Value} {o : Obj} {n : String} {vs : Array Value} {Q : Unit → Shared → Prop} (ho : s.heap.get? it = some o) (hc : o.cls = .type n) (hd : o.data = .fields vs)
    (hn : ["enumerate", "zip", "dict_itemiterator", "dict_reverseitemiterator", "odict_iterator", "itertools.zip_longest", "itertools.pairwise"].contains n = false) (hQ : Q () s) : wpAny M A (letOwnedTupleGo tg (.ref it) u) Q E s := by
  unfold letOwnedTupleGo
  cases tg <;> first
    | exact wpAny_pure hQ
    | (cases u <;> first
        | exact wpAny_pure hQ
        | (refine wpAny_bind (wpAny_load ho ?_)
           rw [hc, hd]
           show wpAny M A (if (["enumerate", "zip", "dict_itemiterator", "dict_reverseitemiterator", "odict_iterator", "itertools.zip_longest", "itertools.pairwise"].contains n && vs[0]? == some (rawInt _)) = true then _ else _) Q E s
           rw [if_neg (by intro h; rw [hn, Bool.false_and] at h; cases h)]
           exact wpAny_pure hQ))
noncomputable def Itl (K : PySem.W.Frag) (a : Addr) : It :=
  ⟨fun i H => ∃ xs x, SqL K H a xs ∧ xs[i]? = some x, fun i H x H' => H' = H ∧ ∀ xs, SqL K H a xs → xs[i]? = some x, fun i H => ∃ xs, SqL K H a xs ∧ xs.length ≤ i⟩
noncomputable def Itt (K : PySem.W.Frag) (a : Addr) : It :=
  ⟨fun i H => ∃ xs x, SqT K H a xs ∧ xs[i]? = some x, fun i H x H' => H' = H ∧ ∀ xs, SqT K H a xs → xs[i]? = some x, fun i H => ∃ xs, SqT K H a xs ∧ xs.length ≤ i⟩
noncomputable def Itr (lo : Int) (n : Nat) : It := ⟨fun i _ => i < n, fun i H x H' => H' = H ∧ x = .int (lo + i), fun i _ => n ≤ i⟩
theorem turn_list {P : Program} {w : World} {K : PySem.W.Frag} {tg : Expr} (a it : Addr) : Turn P w K tg (Itl K a) [it] it (fun i h => h.IsListIter it a i) where
  mem := by simp
  obj := fun i h st b hb => by
    have e : b = it := by simpa using hb
    subst e
    obtain ⟨o, e, c, d⟩ := st
    exact ⟨o, e, fun v z => by rw [d] at z; cases z⟩
  keep := fun i h h' st k => st.at fun o e => k it (by simp) o e
  item := by
    intro X hP hw hK hc i pins s σ H E I hf st hg
    subst hP hw hK
    obtain ⟨xs, x, hq, hx⟩ := hg
    obtain ⟨its, rv, p, hz⟩ := I.list hq
    obtain ⟨u, hu, ru⟩ := rv.get hx
    obtain ⟨f0, f1, f2, f3, f4, f5⟩ := hf it (by simp)
    refine wpAny_pyNext_list_item st p.isList (x := u) (by simpa using hu) fun h' st' sb => ?_
    have I1 : Inv X pins σ H { s with heap := h' } := I.turned (t' := s.toks) (fun b o hb e => (sb.2 b hb).trans e) f0 f1 f3 f4 f5
    obtain ⟨o, e, c, d⟩ := id st'
    exact ⟨u, rfl, go_of (s := { s with heap := h' }) e c d (by decide) ⟨x, H, I1, ru, ⟨rfl, fun ys hy => by rw [I.list_inj hy hq]; exact hx⟩, st', fun b hb => (hf b hb).1⟩⟩
  done := by
    intro X hP hw hK hc i pins s σ H E I hf st hg
    subst hP hw hK
    obtain ⟨xs, hq, hx⟩ := hg
    obtain ⟨its, rv, p, hz⟩ := I.list hq
    obtain ⟨f0, f1, f2, f3, f4, f5⟩ := hf it (by simp)
    have hl := rv.length
    exact wpAny_pyNext_list_end (I.ok.hd hc) st p.isList (by simp; omega) fun h' eb => ⟨rfl, I.turned (t' := s.toks) (fun b o hb e => eb b o hb e) f0 f1 f3 f4 f5⟩
  self := fun _ _ _ _ _ st h => wpAny_pyIter_listiter st h
theorem turn_tuple {P : Program} {w : World} {K : PySem.W.Frag} {tg : Expr} (a it : Addr) : Turn P w K tg (Itt K a) [it] it (fun i h => h.IsTupleIter it a i) where
  mem := by simp
  obj := fun i h st b hb => by
    have e : b = it := by simpa using hb
    subst e
    obtain ⟨o, e, c, d⟩ := st
    exact ⟨o, e, fun v z => by rw [d] at z; cases z⟩
  keep := fun i h h' st k => st.at fun o e => k it (by simp) o e
  item := by
    intro X hP hw hK hc i pins s σ H E I hf st hg
    subst hP hw hK
    obtain ⟨xs, x, hq, hx⟩ := hg
    obtain ⟨its, rv, p, hz⟩ := I.tuple hq
    obtain ⟨u, hu, ru⟩ := rv.get hx
    obtain ⟨f0, f1, f2, f3, f4, f5⟩ := hf it (by simp)
    refine wpAny_pyNext_tuple_item st (show s.heap.IsTuple a its.toArray from p) (x := u) (by simpa using hu) fun h' st' sb => ?_
    have I1 : Inv X pins σ H { s with heap := h' } := I.turned (t' := s.toks) (fun b o hb e => (sb.2 b hb).trans e) f0 f1 f3 f4 f5
    obtain ⟨o, e, c, d⟩ := id st'
    exact ⟨u, rfl, go_of (s := { s with heap := h' }) e c d (by decide) ⟨x, H, I1, ru, ⟨rfl, fun ys hy => by rw [I.tuple_inj hy hq]; exact hx⟩, st', fun b hb => (hf b hb).1⟩⟩
  done := by
    intro X hP hw hK hc i pins s σ H E I hf st hg
    subst hP hw hK
    obtain ⟨xs, hq, hx⟩ := hg
    obtain ⟨its, rv, p, hz⟩ := I.tuple hq
    obtain ⟨f0, f1, f2, f3, f4, f5⟩ := hf it (by simp)
    have hl := rv.length
    exact wpAny_pyNext_tuple_end (I.ok.hd hc) st (show s.heap.IsTuple a its.toArray from p) (by simp; omega) fun h' eb => ⟨rfl, I.turned (t' := s.toks) (fun b o hb e => eb b o hb e) f0 f1 f3 f4 f5⟩
  self := fun _ _ _ _ _ st h => wpAny_pyIter_tupleiter st h
theorem turn_range {P : Program} {w : World} {K : PySem.W.Frag} {tg : Expr} (it : Addr) (lo : Int) (n : Nat) : Turn P w K tg (Itr lo n) [it] it (fun i h => IsRangeIter h it (lo + (i : Nat) * 1) ((n : Int) - (i : Nat)) 1) where
  mem := by simp
  obj := fun i h st b hb => by
    have e : b = it := by simpa using hb
    subst e
    exact ⟨_, st, fun v z => by
      have z' : Data.fields _ = Data.cell v := z
      cases z'⟩
  keep := fun i h h' st k => k it (by simp) _ st
  item := by
    intro X hP hw hK hc i pins s σ H E I hf st hg
    subst hP hw hK
    obtain ⟨f0, f1, f2, f3, f4, f5⟩ := hf it (by simp)
    have W := Walks.range (prog := X.prog) (w := X.w) (I.ok.hd hc) it lo 1 n
    refine W.item i s _ _ hg st fun v h' tk hv st' kk => ?_
    obtain ⟨t, rfl⟩ := hv
    have I1 : Inv X pins σ H { s with heap := h', toks := tk } := I.turned (fun b o hb e => kk b o (by simpa using hb) e) f0 f1 f3 f4 f5
    refine ⟨_, rfl, go_of (s := { s with heap := h', toks := tk }) (n := "range_iterator") st' rfl rfl (by decide) ⟨.int (lo + i), H, I1, ⟨t, ?_⟩, ⟨rfl, rfl⟩, st', fun b hb => (hf b hb).1⟩⟩
    rw [Int.mul_one]
  done := by
    intro X hP hw hK hc i pins s σ H E I hf st hg
    subst hP hw hK
    obtain ⟨f0, f1, f2, f3, f4, f5⟩ := hf it (by simp)
    exact wpAny_pyNext_range_end (I.ok.hd hc) st (by have : n ≤ i := hg; omega) fun h' eb => ⟨rfl, I.turned (t' := s.toks) (fun b o hb e => eb b o hb e) f0 f1 f3 f4 f5⟩
  self := fun _ _ _ _ _ st h => wpAny_pyIter_rangeiter st h
end L2
namespace L2
open PySem PySem.Spec PyProof.Rows
section
variable {X : Cx} {tg : Expr}
noncomputable def iList (K : PySem.W.Frag) (tl : TE) : TI := fun σ H R => tl σ H fun x H1 => ∃ a, x = .ref a ∧ (∃ xs, SqL K H1 a xs) ∧ R (Itl K a) H1
noncomputable def iTup (K : PySem.W.Frag) (tl : TE) : TI := fun σ H R => tl σ H fun x H1 => ∃ a, x = .ref a ∧ (∃ xs, SqT K H1 a xs) ∧ R (Itt K a) H1
theorem pi_list {l : Expr} {tl : TE} (hl : PE X l tl) : PI X tg l (iList X.K tl) := by
  intro pins s σ H R I h
  refine thn (hl pins s σ H _ I h) fun v s1 ⟨x, H1, I1, r1, q1⟩ => ?_
  obtain ⟨a, e, ⟨xs, hq⟩, q⟩ := q1
  subst e
  cases r1
  obtain ⟨its, rv, p, hz⟩ := I1.list hq
  refine wpAny_pyIter_list p.isList ?_
  refine ⟨s1.heap.objs.size, [s1.heap.objs.size], _, _, H1, rfl, I1.kept (t' := s1.toks) fun b o e => Heap.get?_push_of_some _ e, turn_list a _, ⟨_, Heap.get?_push_size _ rfl, rfl, rfl⟩, fun b hb => ?_, q⟩
  have e : b = s1.heap.objs.size := by simpa using hb
  subst e
  exact I1.fpOk (Nat.le_refl _) (I1.hok.fresh (Nat.le_refl _))
theorem pi_tup {l : Expr} {tl : TE} (hl : PE X l tl) : PI X tg l (iTup X.K tl) := by
  intro pins s σ H R I h
  refine thn (hl pins s σ H _ I h) fun v s1 ⟨x, H1, I1, r1, q1⟩ => ?_
  obtain ⟨a, e, ⟨xs, hq⟩, q⟩ := q1
  subst e
  cases r1
  obtain ⟨its, rv, p, hz⟩ := I1.tuple hq
  refine wpAny_pyIter_tuple (show s1.heap.IsTuple a its.toArray from p) ?_
  refine ⟨s1.heap.objs.size, [s1.heap.objs.size], _, _, H1, rfl, I1.kept (t' := s1.toks) fun b o e => Heap.get?_push_of_some _ e, turn_tuple a _, ⟨_, Heap.get?_push_size _ rfl, rfl, rfl⟩, fun b hb => ?_, q⟩
  have e : b = s1.heap.objs.size := by simpa using hb
  subst e
  exact I1.fpOk (Nat.le_refl _) (I1.hok.fresh (Nat.le_refl _))
theorem range_it {pins : List (Addr × Obj)} {σ : St} {H : Hp} {s : Shared} {R : It → Hp → Prop} {E : Value → Shared → Prop} {lo hi : Int} {t u v : Tok} {tk : Nat} (I : Inv X pins σ H s) (h1 : -(2 ^ 62) ≤ lo) (h2 : lo < 2 ^ 62) (h3 : -(2 ^ 62) ≤ hi) (h4 : hi < 2 ^ 62)
    (q : R (Itr lo (hi - lo).toNat) H) : wpAny (model X.prog X.w) X.A (pyIter (.ref s.heap.objs.size)) (PIE X pins σ tg R) E { s with heap := s.heap.push { cls := .type "range", data := .fields #[.int lo t, .int hi u, .int 1 v] }, toks := tk } := by
  refine wpAny_pyIter_range (IsRange.new ..) (small_one h1 h2 h3 h4) ?_
  have I1 : Inv X pins σ H { s with heap := s.heap.push { cls := .type "range", data := .fields #[.int lo t, .int hi u, .int 1 v] }, toks := tk } := I.kept fun b o e => Heap.get?_push_of_some _ e
  refine ⟨(s.heap.push { cls := .type "range", data := .fields #[.int lo t, .int hi u, .int 1 v] }).objs.size, [(s.heap.push { cls := .type "range", data := .fields #[.int lo t, .int hi u, .int 1 v] }).objs.size], _, _, H, rfl,
    I1.kept (t' := tk) fun b o e => Heap.get?_push_of_some _ e, turn_range _ lo (hi - lo).toNat, ?_, fun b hb => ?_, q⟩
  · have e1 : lo + ((0 : Nat) : Int) * 1 = lo := by simp
    have e2 : (((hi - lo).toNat : Nat) : Int) - ((0 : Nat) : Int) = Builtin.Range.rangeSize lo hi 1 := by rw [rangeSize_one]; split <;> omega
    show IsRangeIter _ _ (lo + ((0 : Nat) : Int) * 1) ((((hi - lo).toNat : Nat) : Int) - ((0 : Nat) : Int)) 1
    rw [e1, e2]
    exact Heap.get?_push_size _ rfl
  · have e : b = (s.heap.push { cls := .type "range", data := .fields #[.int lo t, .int hi u, .int 1 v] }).objs.size := by simpa using hb
    subst e
    exact I1.fpOk (Nat.le_refl _) (I1.hok.fresh (Nat.le_refl _))
noncomputable def iRng1 (ta : TA) : TI := fun σ H R => ta σ H fun vs H1 => ∃ j : Int, vs = [.int j] ∧ -(2 ^ 62) ≤ j ∧ j < 2 ^ 62 ∧ R (Itr 0 j.toNat) H1
theorem pi_range1 {a : Expr} {ta : TA} {p pos : Pos} (hg : Gl X "range") (hm : X.mg "range" = none) (ha : PA X [a] ta) (hs : starEach [a] X.env = [(false, eval a X.env)] := by rfl) : PI X tg (.Call (.Name "range" p) [a] [] pos) (iRng1 ta) := by
  intro pins s σ H R I h
  refine Call_ (ld_blt I hg hm boot_range (PyProof.Rows.callWith_type1 (thn (ha pos pins s σ H _ I h) fun us s1 ⟨vs, H1, I1, r1, q1⟩ => ?_) hs rfl))
  obtain ⟨j, e, q1, q2, q⟩ := q1
  subst e
  cases r1 with
  | cons r rr =>
    cases rr
    obtain ⟨t, rfl⟩ := r
    exact call_range_1 (range_it I1 (by omega) (by omega) q1 q2 (by simpa using q))
noncomputable def tFor (wi : TI) (g : TG) (tb : TS) : TS := fun D σ H => wi σ H fun J H1 => ∃ W : Nat → Nat → St → Hp → Prop, (∃ m, W 0 m σ H1) ∧ ∀ i m σ H, W i m σ H →
  (J.stop i H ∧ D.nx σ H) ∨ (J.go i H ∧ ∃ N : St → Hp → Prop, (∀ σ' H', N σ' H' → ∃ m', m' < m ∧ W (i + 1) m' σ' H') ∧ ∀ x H', J.yld i H x H' → g x σ H' fun σ2 H2 => tb { D with nx := N, ct := N, bk := D.nx } σ2 H2)
noncomputable def pinsAt (fp : List Addr) (h : Heap) : List (Addr × Obj) := fp.filterMap fun b => (h.get? b).map fun o => (b, o)
theorem mem_pinsAt {fp : List Addr} {h : Heap} {b : Addr} {o : Obj} (hb : b ∈ fp) (e : h.get? b = some o) : (b, o) ∈ pinsAt fp h := List.mem_filterMap.mpr ⟨b, hb, by rw [e]; rfl⟩
theorem of_pinsAt {fp : List Addr} {h : Heap} {p : Addr × Obj} (hp : p ∈ pinsAt fp h) : p.1 ∈ fp ∧ h.get? p.1 = some p.2 := by
  obtain ⟨b, hb, e⟩ := List.mem_filterMap.mp hp
  cases q : h.get? b with
  | none => rw [q] at e; cases e
  | some o =>
    rw [q] at e
    have e' : (b, o) = p := Option.some.inj e
    subst e'
    exact ⟨hb, q⟩
theorem Inv.pinned {pins : List (Addr × Obj)} {σ : St} {H : Hp} {s : Shared} {fp : List Addr} (I : Inv X pins σ H s) (hf : ∀ b ∈ fp, FpOk X pins H b) (ho : ∀ b ∈ fp, ∃ o, s.heap.get? b = some o ∧ ∀ v, o.data ≠ .cell v) : Inv X (pins ++ pinsAt fp s.heap) σ H s :=
  I.pins_of fun p hp => (List.mem_append.mp hp).elim (fun z => I.pin p (List.mem_append_right _ z)) fun z => by
    obtain ⟨hb, e⟩ := of_pinsAt z
    obtain ⟨f0, f1, f2, _⟩ := hf p.1 hb
    obtain ⟨o, e', d⟩ := ho p.1 hb
    rw [e] at e'; cases e'
    exact ⟨e, f0, f1, f2, d⟩
theorem Inv.unpinned {pins pl : List (Addr × Obj)} {σ : St} {H : Hp} {s : Shared} (I : Inv X (pins ++ pl) σ H s) : Inv X pins σ H s := I.pins_of fun p hp => I.pin p (List.mem_append_right _ (List.mem_append_left _ hp))
theorem ps_for {iter : Expr} {body : List Stmt} {wi : TI} {g : TG} {tb : TS} {pos : Pos} (hp : PassesOwn (model X.prog X.w) X.A X.env X.xe) (hc : X.calm = true) (hi : PI X tg iter wi) (hg : PG X tg g) (hb : PSs X body tb)
    (hs : ∀ x, foldedSetIterable iter X.env x = pure x := by intro _; rfl) : PS X (.For tg iter body [] pos) (tFor wi g tb) := by
  intro pins s σ H D I h
  refine wpAny_For (thn (hi pins s σ H _ I h) fun v s1 h1 => thn h1 fun itv s2 h2 => ?_) hs
  obtain ⟨it, fp, tn, J, H2, e, I2, T, st2, f2, W, ⟨m0, w0⟩, turn⟩ := h2
  subst e
  have stat : ∀ {H' : Hp}, (∀ b ∈ fp, H' b = none) → ∀ b ∈ fp, FpOk X pins H' b := fun hn b hb => ⟨hn b hb, (f2 b hb).2⟩
  refine codeAny_forLoop_any (fun n s' => ∃ i σ' H', Inv X pins σ' H' s' ∧ tn i s'.heap ∧ (∀ b ∈ fp, H' b = none) ∧ W i n σ' H') ?_ m0 ⟨0, σ, H2, I2, st2, fun b hb => (f2 b hb).1, w0⟩
  rintro n s3 ⟨i, σ3, H3, I3, st3, fr3, w3⟩
  rcases turn i n σ3 H3 w3 with ⟨stop, qn⟩ | ⟨go, N, hN, step⟩
  · refine wpAny_passesOwn hp (thn (T.done X rfl rfl rfl hc i pins s3 σ3 H3 X.xe I3 (stat fr3) st3 stop) fun r s4 ⟨hr, I4⟩ => ?_)
    subst hr
    exact wpAny_execs_nil ⟨σ3, H3, I4, qn⟩
  · refine wpAny_passesOwn hp (thn (T.item X rfl rfl rfl hc i pins s3 σ3 H3 X.xe I3 (stat fr3) st3 go) fun r s4 ⟨u, hr, h4⟩ => ?_)
    subst hr
    refine wpAny_passesOwn hp (thn h4 fun _ s5 ⟨x, H5, I5, r5, y5, st5, fr5⟩ => ?_)
    have I5' := I5.pinned (stat fr5) (T.obj _ _ st5)
    refine wpAny_passesOwn hp (thn (hg _ s5 σ3 H5 x u _ I5' r5 (step x H5 y5)) fun _ s6 ⟨σ6, H6, I6, q6⟩ => ?_)
    refine wpAny_passesOwn hp (thn (hb _ s6 σ6 H6 _ I6 q6) fun f s7 q7 => ?_)
    have again : ∀ {σ7 : St} {H7 : Hp}, Inv X (pins ++ pinsAt fp s5.heap) σ7 H7 s7 → N σ7 H7 → ∃ m, m < n ∧ ∃ i σ' H', Inv X pins σ' H' s7 ∧ tn i s7.heap ∧ (∀ b ∈ fp, H' b = none) ∧ W i m σ' H' := fun {σ7 H7} I7 n7 => by
      obtain ⟨m', hm, w7⟩ := hN σ7 H7 n7
      refine ⟨m', hm, i + 1, σ7, H7, I7.unpinned, T.keep _ _ _ st5 fun b hb o e => (I7.pin (b, o) (List.mem_append_right _ (List.mem_append_right _ (mem_pinsAt hb e)))).1, fun b hb => ?_, w7⟩
      obtain ⟨o, e, d⟩ := T.obj _ _ st5 b hb
      exact (I7.pin (b, o) (List.mem_append_right _ (List.mem_append_right _ (mem_pinsAt hb e)))).2.1
    cases f with
    | next => obtain ⟨σ7, H7, I7, n7⟩ := q7; exact again I7 n7
    | cont => obtain ⟨σ7, H7, I7, n7⟩ := q7; exact again I7 n7
    | brk => obtain ⟨σ7, H7, I7, q7⟩ := q7; exact ⟨σ7, H7, I7.unpinned, q7⟩
    | ret v => obtain ⟨x7, σ7, H7, I7, r7, q7⟩ := q7; exact ⟨x7, σ7, H7, I7.unpinned, r7, q7⟩
end
theorem for_list {K : PySem.W.Frag} {a : Addr} {xs : List V} {g : TG} {tb : TS} {D : Ends} {σ : St} {H : Hp} (Pv : Nat → St → Hp → Prop) (h0 : Pv 0 σ H) (hl : ∀ i σ H, i ≤ xs.length → Pv i σ H → SqL K H a xs)
    (hs : ∀ i x σ H, xs[i]? = some x → Pv i σ H → g x σ H fun σ2 H2 => tb { D with nx := Pv (i + 1), ct := Pv (i + 1), bk := D.nx } σ2 H2) (hd : ∀ σ H, Pv xs.length σ H → D.nx σ H) :
    ∃ W : Nat → Nat → St → Hp → Prop, (∃ m, W 0 m σ H) ∧ ∀ i m σ H, W i m σ H →
      ((Itl K a).stop i H ∧ D.nx σ H) ∨ ((Itl K a).go i H ∧ ∃ N : St → Hp → Prop, (∀ σ' H', N σ' H' → ∃ m', m' < m ∧ W (i + 1) m' σ' H') ∧ ∀ x H', (Itl K a).yld i H x H' → g x σ H' fun σ2 H2 => tb { D with nx := N, ct := N, bk := D.nx } σ2 H2) := by
  refine ⟨fun i m σ H => m = xs.length - i ∧ i ≤ xs.length ∧ Pv i σ H, ⟨xs.length, by simp, Nat.zero_le _, h0⟩, ?_⟩
  rintro i m σ H ⟨rfl, hi, p⟩
  have q := hl i σ H hi p
  by_cases hlt : i < xs.length
  · refine .inr ⟨⟨xs, xs[i], q, by simp [hlt]⟩, Pv (i + 1), fun σ' H' p' => ⟨xs.length - (i + 1), by omega, rfl, hlt, p'⟩, fun x H' y => ?_⟩
    obtain ⟨e, y⟩ := y
    subst e
    exact hs i x σ _ (y xs q) p
  · have e : i = xs.length := by omega
    subst e
    exact .inl ⟨⟨xs, q, Nat.le_refl _⟩, hd σ H p⟩
theorem for_tup {K : PySem.W.Frag} {a : Addr} {xs : List V} {g : TG} {tb : TS} {D : Ends} {σ : St} {H : Hp} (Pv : Nat → St → Hp → Prop) (h0 : Pv 0 σ H) (hl : ∀ i σ H, i ≤ xs.length → Pv i σ H → SqT K H a xs)
    (hs : ∀ i x σ H, xs[i]? = some x → Pv i σ H → g x σ H fun σ2 H2 => tb { D with nx := Pv (i + 1), ct := Pv (i + 1), bk := D.nx } σ2 H2) (hd : ∀ σ H, Pv xs.length σ H → D.nx σ H) :
    ∃ W : Nat → Nat → St → Hp → Prop, (∃ m, W 0 m σ H) ∧ ∀ i m σ H, W i m σ H →
      ((Itt K a).stop i H ∧ D.nx σ H) ∨ ((Itt K a).go i H ∧ ∃ N : St → Hp → Prop, (∀ σ' H', N σ' H' → ∃ m', m' < m ∧ W (i + 1) m' σ' H') ∧ ∀ x H', (Itt K a).yld i H x H' → g x σ H' fun σ2 H2 => tb { D with nx := N, ct := N, bk := D.nx } σ2 H2) := by
  refine ⟨fun i m σ H => m = xs.length - i ∧ i ≤ xs.length ∧ Pv i σ H, ⟨xs.length, by simp, Nat.zero_le _, h0⟩, ?_⟩
  rintro i m σ H ⟨rfl, hi, p⟩
  have q := hl i σ H hi p
  by_cases hlt : i < xs.length
  · refine .inr ⟨⟨xs, xs[i], q, by simp [hlt]⟩, Pv (i + 1), fun σ' H' p' => ⟨xs.length - (i + 1), by omega, rfl, hlt, p'⟩, fun x H' y => ?_⟩
    obtain ⟨e, y⟩ := y
    subst e
    exact hs i x σ _ (y xs q) p
  · have e : i = xs.length := by omega
    subst e
    exact .inl ⟨⟨xs, q, Nat.le_refl _⟩, hd σ H p⟩
theorem for_range {lo : Int} {n : Nat} {g : TG} {tb : TS} {D : Ends} {σ : St} {H : Hp} (Pv : Nat → St → Hp → Prop) (h0 : Pv 0 σ H)
    (hs : ∀ i σ H, i < n → Pv i σ H → g (.int (lo + i)) σ H fun σ2 H2 => tb { D with nx := Pv (i + 1), ct := Pv (i + 1), bk := D.nx } σ2 H2) (hd : ∀ σ H, Pv n σ H → D.nx σ H) :
    ∃ W : Nat → Nat → St → Hp → Prop, (∃ m, W 0 m σ H) ∧ ∀ i m σ H, W i m σ H →
      ((Itr lo n).stop i H ∧ D.nx σ H) ∨ ((Itr lo n).go i H ∧ ∃ N : St → Hp → Prop, (∀ σ' H', N σ' H' → ∃ m', m' < m ∧ W (i + 1) m' σ' H') ∧ ∀ x H', (Itr lo n).yld i H x H' → g x σ H' fun σ2 H2 => tb { D with nx := N, ct := N, bk := D.nx } σ2 H2) := by
  refine ⟨fun i m σ H => m = n - i ∧ i ≤ n ∧ Pv i σ H, ⟨n, by simp, Nat.zero_le _, h0⟩, ?_⟩
  rintro i m σ H ⟨rfl, hi, p⟩
  by_cases hlt : i < n
  · refine .inr ⟨hlt, Pv (i + 1), fun σ' H' p' => ⟨n - (i + 1), by omega, rfl, hlt, p'⟩, fun x H' y => ?_⟩
    obtain ⟨e, y⟩ := y
    subst e y
    exact hs i σ _ hlt p
  · have e : i = n := by omega
    subst e
    exact .inl ⟨Nat.le_refl _, hd σ H p⟩
end L2
namespace L2
open PySem PySem.Spec PyProof.Rows
noncomputable abbrev R2 := V → V → Hp → VK → Prop
noncomputable def OpR (X : Cx) (f : Value → Value → Sem Value) (r : R2) : Prop :=
  ∀ (pins : List (Addr × Obj)) (s : Shared) (σ : St) (H : Hp) (x y : V) (v u : Value) (Q : VK), Inv X pins σ H s → RelV x v → RelV y u → r x y H Q →
    wpAny (model X.prog X.w) X.A (f v u) (EP X pins σ Q) X.xe s
noncomputable def UnR (X : Cx) (f : Value → Sem Value) (r : V → Hp → VK → Prop) : Prop :=
  ∀ (pins : List (Addr × Obj)) (s : Shared) (σ : St) (H : Hp) (x : V) (v : Value) (Q : VK), Inv X pins σ H s → RelV x v → r x H Q →
    wpAny (model X.prog X.w) X.A (f v) (EP X pins σ Q) X.xe s
noncomputable def CallR (X : Cx) (f : Value) (r : List V → Hp → VK → Prop) : Prop :=
  ∀ (pins : List (Addr × Obj)) (s : Shared) (σ : St) (H : Hp) (xs : List V) (us : List Value) (Q : VK), Inv X pins σ H s → Vals xs us → r xs H Q →
    wpAny (model X.prog X.w) X.A (call f us) (EP X pins σ Q) X.xe s
noncomputable def tOp (r : R2) (ta tb : TE) : TE := fun σ H Q => ta σ H fun x H1 => tb σ H1 fun y H2 => r x y H2 Q
noncomputable def tUn (r : V → Hp → VK → Prop) (ta : TE) : TE := fun σ H Q => ta σ H fun x H1 => r x H1 Q
noncomputable def rI (C : Int → Int → Prop) (g : Int → Int → V) : R2 := fun x y H Q => ∃ i j, x = .int i ∧ y = .int j ∧ C i j ∧ Q (g i j) H
noncomputable def rI0 (g : Int → Int → V) : R2 := fun x y H Q => ∃ i j, x = .int i ∧ y = .int j ∧ Q (g i j) H
noncomputable def rU (g : Int → V) : V → Hp → VK → Prop := fun x H Q => ∃ i, x = .int i ∧ Q (g i) H
section
variable {X : Cx} {a b c : Expr} {ta tb tc : TE} {pos : Pos}
theorem binT (ha : PE X a ta) (hb : PE X b tb) {pins : List (Addr × Obj)} {s : Shared} {σ : St} {H : Hp} {R : V → V → Hp → Prop} (I : Inv X pins σ H s)
    (h : ta σ H fun x H1 => tb σ H1 fun y H2 => R x y H2) {Q : Value → Shared → Prop} {f : Value → Value → Sem Value}
    (hf : ∀ v u s2 x y H2, Inv X pins σ H2 s2 → RelV x v → RelV y u → R x y H2 → wpAny (model X.prog X.w) X.A (f v u) Q X.xe s2) :
    wpAny (model X.prog X.w) X.A (eval a X.env) (fun v s₁ => wpAny (model X.prog X.w) X.A (eval b X.env) (fun u s₂ => wpAny (model X.prog X.w) X.A (f v u) Q X.xe s₂) X.xe s₁) X.xe s := by
  refine thn (ha pins s σ H _ I h) fun v s1 ⟨x, H1, I1, r1, q1⟩ => ?_
  refine thn (hb pins s1 σ H1 _ I1 q1) fun u s2 ⟨y, H2, I2, r2, q2⟩ => ?_
  exact hf v u s2 x y H2 I2 r1 r2 q2
theorem pe_op {op : Operator} {r : R2} (ho : OpR X (binaryOp op) r) (ha : PE X a ta) (hb : PE X b tb) : PE X (.BinOp a op b pos) (tOp r ta tb) := by
  intro pins s σ H Q I h
  exact wpAny_BinOp (binT ha hb I h fun v u s2 x y H2 I2 rx ry q => ho pins s2 σ H2 x y v u Q I2 rx ry q)
theorem pe_un {op : UnaryOp} {r : V → Hp → VK → Prop} (ho : UnR X (unaryOp op) r) (ha : PE X a ta) : PE X (.UnaryOp op a pos) (tUn r ta) := by
  intro pins s σ H Q I h
  exact UnaryOp_ (thn (ha pins s σ H _ I h) fun v s1 ⟨x, H1, I1, r1, q1⟩ => ho pins s1 σ H1 x v Q I1 r1 q1)
theorem opI {f : Value → Value → Sem Value} {C : Int → Int → Prop} {g : Int → Int → Int}
    (rule : ∀ (i j : Int) (t u : Tok) (s : Shared) (Q : Value → Shared → Prop) (E : Value → Shared → Prop), C i j → Q (.int (g i j) s.toks) { s with toks := s.toks + 1 } → wpAny (model X.prog X.w) X.A (f (.int i t) (.int j u)) Q E s) :
    OpR X f (rI C fun i j => .int (g i j)) := by
  intro pins s σ H x y v u Q I rx ry h
  obtain ⟨i, j, rfl, rfl, hc, q⟩ := h
  obtain ⟨t, rfl⟩ := rx
  obtain ⟨t', rfl⟩ := ry
  exact rule i j t t' s _ _ hc ⟨.int (g i j), H, I.tok _, ⟨_, rfl⟩, q⟩
theorem opI0 {f : Value → Value → Sem Value} {g : Int → Int → Int}
    (rule : ∀ (i j : Int) (t u : Tok) (s : Shared) (Q : Value → Shared → Prop) (E : Value → Shared → Prop), Q (.int (g i j) s.toks) { s with toks := s.toks + 1 } → wpAny (model X.prog X.w) X.A (f (.int i t) (.int j u)) Q E s) :
    OpR X f (rI0 fun i j => .int (g i j)) := by
  intro pins s σ H x y v u Q I rx ry h
  obtain ⟨i, j, rfl, rfl, q⟩ := h
  obtain ⟨t, rfl⟩ := rx
  obtain ⟨t', rfl⟩ := ry
  exact rule i j t t' s _ _ ⟨.int (g i j), H, I.tok _, ⟨_, rfl⟩, q⟩
theorem opB0 {f : Value → Value → Sem Value} {g : Int → Int → Bool}
    (rule : ∀ (i j : Int) (t u : Tok) (s : Shared) (Q : Value → Shared → Prop) (E : Value → Shared → Prop), Q (.bool (g i j)) s → wpAny (model X.prog X.w) X.A (f (.int i t) (.int j u)) Q E s) :
    OpR X f (rI0 fun i j => .bl (g i j)) := by
  intro pins s σ H x y v u Q I rx ry h
  obtain ⟨i, j, rfl, rfl, q⟩ := h
  obtain ⟨t, rfl⟩ := rx
  obtain ⟨t', rfl⟩ := ry
  exact rule i j t t' s _ _ ⟨.bl (g i j), H, I, rfl, q⟩
noncomputable def CDiv (i j : Int) : Prop := 0 < j ∧ j < 1073741824
noncomputable def CPow (i j : Int) : Prop := 0 ≤ j ∧ j ≤ 1000000 ∧ i.natAbs < 2 ^ 64
noncomputable def CMul (i j : Int) : Prop := (-(2 ^ 64) < i ∧ i < 2 ^ 64) ∨ (-(2 ^ 64) < j ∧ j < 2 ^ 64)
theorem CMul.ok {i j : Int} (h : CMul i j) : IntMulOk i j := by
  rcases h with ⟨h1, h2⟩ | ⟨h1, h2⟩
  · exact .of_left (intBits_le_64 h1 h2)
  · exact .of_right (intBits_le_64 h1 h2)
theorem op_add : OpR X (binaryOp .Add) (rI0 fun i j => .int (i + j)) := opI0 fun _ _ _ _ _ _ _ q => add_int q
theorem op_sub : OpR X (binaryOp .Sub) (rI0 fun i j => .int (i - j)) := opI0 fun _ _ _ _ _ _ _ q => sub_int q
theorem op_mul : OpR X (binaryOp .Mult) (rI CMul fun i j => .int (i * j)) := opI fun _ _ _ _ _ _ _ hc q => mul_int q hc.ok
theorem op_fdiv : OpR X (binaryOp .FloorDiv) (rI CDiv fun i j => .int (i / j)) := opI fun i j _ _ _ _ _ hc q => by
  have h1 : (0 : Int) < j := hc.1
  have h2 : j < 1073741824 := hc.2
  exact floordiv_int (by omega) (by rw [Int.fdiv_eq_ediv_of_nonneg i (by omega)]; exact q) (.inl (PyProof.noPylong_small (by omega)))
theorem op_mod : OpR X (binaryOp .Mod) (rI (fun _ j => 0 < j) fun i j => .int (i % j)) := opI fun i j _ _ _ _ _ hc q => by
  have h1 : (0 : Int) < j := hc
  exact mod_int' (by omega) (by rw [Int.fmod_eq_emod_of_nonneg i (by omega)]; exact q)
theorem op_pow : OpR X (binaryOp .Pow) (rI CPow fun i j => .int (i ^ j.toNat)) := opI fun _ _ _ _ _ _ _ hc q => pow_int_small hc.1 hc.2.1 hc.2.2 q
theorem unI {f : Value → Sem Value} {g : Int → Int}
    (rule : ∀ (i : Int) (t : Tok) (s : Shared) (Q : Value → Shared → Prop) (E : Value → Shared → Prop), Q (.int (g i) s.toks) { s with toks := s.toks + 1 } → wpAny (model X.prog X.w) X.A (f (.int i t)) Q E s) :
    UnR X f (rU fun i => .int (g i)) := by
  intro pins s σ H x v Q I rx h
  obtain ⟨i, rfl, q⟩ := h
  obtain ⟨t, rfl⟩ := rx
  exact rule i t s _ _ ⟨.int (g i), H, I.tok _, ⟨_, rfl⟩, q⟩
theorem un_neg : UnR X (unaryOp .USub) (rU fun i => .int (-i)) := unI fun _ _ _ _ _ q => neg_int q
end
noncomputable def scal : V → V → Bool
  | .non, .non => true | .non, .int _ => true | .int _, .non => true | .non, .bl _ => true | .bl _, .non => true | .non, .str _ => true | .str _, .non => true
  | .int _, .int _ => true | .bl _, .bl _ => true | .str _, .str _ => true | .byt _, .byt _ => true
  | .int _, .str _ => true | .str _, .int _ => true | .bl _, .str _ => true | .str _, .bl _ => true
  | _, _ => false
noncomputable def rEq : R2 := fun x y H Q => scal x y = true ∧ Q (.bl (decide (x = y))) H
noncomputable def rNe : R2 := fun x y H Q => scal x y = true ∧ Q (.bl (!decide (x = y))) H
theorem dec_int {i j : Int} : decide (V.int i = V.int j) = (i == j) := by
  rw [Bool.eq_iff_iff]
  simp
theorem dec_bl {i j : Bool} : decide (V.bl i = V.bl j) = (i == j) := by
  rw [Bool.eq_iff_iff]
  simp
theorem dec_str {i j : Str} : decide (V.str i = V.str j) = (i == j) := by
  rw [Bool.eq_iff_iff]
  simp
theorem dec_byt {i j : Array UInt8} : decide (V.byt i = V.byt j) = (i.toList == j.toList) := by
  rw [Bool.eq_iff_iff]
  cases i
  cases j
  simp
section
variable {X : Cx} {a b c : Expr} {ta tb tc : TE} {pos : Pos}
theorem fin_bl {pins : List (Addr × Obj)} {σ : St} {H : Hp} {s : Shared} {Q : VK} {k k' : Bool} (I : Inv X pins σ H s) (q : Q (.bl k) H) (e : k = k') : EP X pins σ Q (.bool k') s := by
  subst e
  exact ⟨.bl k, H, I, rfl, q⟩
theorem op_eq : OpR X (compareOp .Eq) rEq := by
  intro pins s σ H x y v u Q I rx ry h
  obtain ⟨hs, q⟩ := h
  cases x with
  | non =>
    cases rx
    cases y with
    | non => cases ry; exact PySem.EqNone.eq_none_none (fin_bl I q (by simp))
    | bl j => cases ry; exact PySem.EqNone.eq_none_bool (fin_bl I q (by simp))
    | int j => obtain ⟨t', rfl⟩ := ry; exact PySem.EqNone.eq_none_int (fin_bl I q (by simp))
    | str j => obtain ⟨t', rfl⟩ := ry; exact PySem.EqNone.eq_none_str (fin_bl I q (by simp))
    | _ => exact absurd (show false = true from hs) Bool.false_ne_true
  | bl i =>
    cases rx
    cases y with
    | non => cases ry; exact PySem.EqNone.eq_bool_none (fin_bl I q (by simp))
    | bl j => cases ry; exact eq_bool (fin_bl I q dec_bl)
    | str j => obtain ⟨t', rfl⟩ := ry; exact PySem.EqMixed.eq_bool_str (fin_bl I q (by simp))
    | _ => exact absurd (show false = true from hs) Bool.false_ne_true
  | int i =>
    obtain ⟨t, rfl⟩ := rx
    cases y with
    | non => cases ry; exact PySem.EqNone.eq_int_none (fin_bl I q (by simp))
    | int j => obtain ⟨t', rfl⟩ := ry; exact eq_int (fin_bl I q dec_int)
    | str j => obtain ⟨t', rfl⟩ := ry; exact PySem.EqMixed.eq_int_str (fin_bl I q (by simp))
    | _ => exact absurd (show false = true from hs) Bool.false_ne_true
  | str i =>
    obtain ⟨t, rfl⟩ := rx
    cases y with
    | non => cases ry; exact PySem.EqNone.eq_str_none (fin_bl I q (by simp))
    | bl j => cases ry; exact PySem.EqMixed.eq_str_bool (fin_bl I q (by simp))
    | int j => obtain ⟨t', rfl⟩ := ry; exact PySem.EqMixed.eq_str_int (fin_bl I q (by simp))
    | str j => obtain ⟨t', rfl⟩ := ry; exact eq_str (fin_bl I q dec_str)
    | _ => exact absurd (show false = true from hs) Bool.false_ne_true
  | byt i =>
    obtain ⟨t, rfl⟩ := rx
    cases y with
    | byt j => obtain ⟨t', rfl⟩ := ry; exact PySem.W.eq_bytes (fin_bl I q dec_byt)
    | _ => exact absurd (show false = true from hs) Bool.false_ne_true
  | _ => cases y <;> exact absurd (show false = true from hs) Bool.false_ne_true
theorem op_ne : OpR X (compareOp .NotEq) rNe := by
  intro pins s σ H x y v u Q I rx ry h
  obtain ⟨hs, q⟩ := h
  cases x with
  | non =>
    cases rx
    cases y with
    | non => cases ry; exact PySem.EqNone.ne_none_none (fin_bl I q (by simp))
    | bl j => cases ry; exact PySem.EqNone.ne_none_bool (fin_bl I q (by simp))
    | int j => obtain ⟨t', rfl⟩ := ry; exact PySem.EqNone.ne_none_int (fin_bl I q (by simp))
    | str j => obtain ⟨t', rfl⟩ := ry; exact PySem.EqNone.ne_none_str (fin_bl I q (by simp))
    | _ => exact absurd (show false = true from hs) Bool.false_ne_true
  | bl i =>
    cases rx
    cases y with
    | non => cases ry; exact PySem.EqNone.ne_bool_none (fin_bl I q (by simp))
    | bl j => cases ry; exact ne_bool (fin_bl I q (congrArg not dec_bl))
    | str j => obtain ⟨t', rfl⟩ := ry; exact PySem.EqMixed.ne_bool_str (fin_bl I q (by simp))
    | _ => exact absurd (show false = true from hs) Bool.false_ne_true
  | int i =>
    obtain ⟨t, rfl⟩ := rx
    cases y with
    | non => cases ry; exact PySem.EqNone.ne_int_none (fin_bl I q (by simp))
    | int j => obtain ⟨t', rfl⟩ := ry; exact ne_int (fin_bl I q (congrArg not dec_int))
    | str j => obtain ⟨t', rfl⟩ := ry; exact PySem.EqMixed.ne_int_str (fin_bl I q (by simp))
    | _ => exact absurd (show false = true from hs) Bool.false_ne_true
  | str i =>
    obtain ⟨t, rfl⟩ := rx
    cases y with
    | non => cases ry; exact PySem.EqNone.ne_str_none (fin_bl I q (by simp))
    | bl j => cases ry; exact PySem.EqMixed.ne_str_bool (fin_bl I q (by simp))
    | int j => obtain ⟨t', rfl⟩ := ry; exact PySem.EqMixed.ne_str_int (fin_bl I q (by simp))
    | str j => obtain ⟨t', rfl⟩ := ry; exact ne_str (fin_bl I q (congrArg not dec_str))
    | _ => exact absurd (show false = true from hs) Bool.false_ne_true
  | byt i =>
    obtain ⟨t, rfl⟩ := rx
    cases y with
    | byt j => obtain ⟨t', rfl⟩ := ry; exact PySem.W.ne_bytes (fin_bl I q (congrArg not dec_byt))
    | _ => exact absurd (show false = true from hs) Bool.false_ne_true
  | _ => cases y <;> exact absurd (show false = true from hs) Bool.false_ne_true
theorem op_lt : OpR X (compareOp .Lt) (rI0 fun i j => .bl (decide (i < j))) := opB0 fun _ _ _ _ _ _ _ q => lt_int q
theorem op_gt : OpR X (compareOp .Gt) (rI0 fun i j => .bl (decide (j < i))) := opB0 fun _ _ _ _ _ _ _ q => gt_int q
theorem op_ge : OpR X (compareOp .GtE) (rI0 fun i j => .bl (decide (j ≤ i))) := opB0 fun _ _ _ _ _ _ _ q => ge_int q
theorem op_lt_str : OpR X (compareOp .Lt) (fun x y H Q => ∃ i j, x = .str i ∧ y = .str j ∧ Q (.bl (decide (i.cps.toList < j.cps.toList))) H) := by
  intro pins s σ H x y v u Q I rx ry h
  obtain ⟨i, j, rfl, rfl, q⟩ := h
  obtain ⟨t, rfl⟩ := rx
  obtain ⟨t', rfl⟩ := ry
  exact lt_str (fin_bl I q rfl)
theorem op_isN : OpR X (compareOp .Is) (fun x y H Q => y = .non ∧ Q (.bl (decide (x = .non))) H) := by
  intro pins s σ H x y v u Q I rx ry h
  obtain ⟨rfl, q⟩ := h
  cases ry
  refine is_none_gen (fin_bl I q ?_)
  cases x <;> first
    | (cases rx; rfl)
    | (obtain ⟨t, rfl⟩ := rx; rfl)
theorem op_notN : OpR X (compareOp .IsNot) (fun x y H Q => y = .non ∧ Q (.bl (!decide (x = .non))) H) := by
  intro pins s σ H x y v u Q I rx ry h
  obtain ⟨rfl, q⟩ := h
  cases ry
  refine isnot_none_gen (fin_bl I q ?_)
  cases x <;> first
    | (cases rx; rfl)
    | (obtain ⟨t, rfl⟩ := rx; rfl)
theorem nomark (b : Expr) {op : CmpOp} (h : op ≠ .In := by decide) (h2 : op ≠ .NotIn := by decide) : behindInMarks op b = false := by
  have e1 : (op == CmpOp.In) = false := by cases op <;> first | rfl | exact absurd rfl h
  have e2 : (op == CmpOp.NotIn) = false := by cases op <;> first | rfl | exact absurd rfl h2
  cases b <;> simp [behindInMarks, e1, e2]
theorem pe_cmpR {op : CmpOp} {r : R2} (ho : OpR X (compareOp op) r) (ha : PE X a ta) (hb : PE X b tb) (hm : behindInMarks op b = false) : PE X (.Compare a [op] [b] pos) (tOp r ta tb) := by
  intro pins s σ H Q I h
  exact wpAny_Compare1 (binT ha hb I h fun v u s2 x y H2 I2 rx ry q => ho pins s2 σ H2 x y v u Q I2 rx ry q) hm
noncomputable def tTest (t : TE) : TT := fun σ H Q => t σ H fun x H' => ∃ k, x = .bl k ∧ Q k H'
theorem pt_cmpR {op : CmpOp} {r : R2} (ho : OpR X (compareOp op) r) (ha : PE X a ta) (hb : PE X b tb) (hm : behindInMarks op b = false) : PT X (.Compare a [op] [b] pos) (tTest (tOp r ta tb)) := by
  intro pins s σ H Q I h
  refine wpAny_isTrue_Compare1 (thn (ha pins s σ H _ I h) fun v s1 ⟨x, H1, I1, r1, q1⟩ => thn (hb pins s1 σ H1 _ I1 q1) fun u s2 ⟨y, H2, I2, r2, q2⟩ =>
    thn (ho pins s2 σ H2 x y v u _ I2 r1 r2 q2) fun c s3 ⟨z, H3, I3, r3, k, e, q3⟩ => ?_) hm
  subst e
  cases r3
  exact wpAny_truthy_bool ⟨H3, I3, q3⟩
theorem line63 : (sizeLine : Nat) < 2 ^ 63 := by rw [sizeLine_eq]; decide
theorem op_add_str : OpR X (binaryOp .Add) (fun x y H Q => ∃ i j, x = .str i ∧ y = .str j ∧ i.length + j.length ≤ sizeLine ∧ Q (.str (i ++ j)) H) := by
  intro pins s σ H x y v u Q I rx ry h
  obtain ⟨i, j, rfl, rfl, hz, q⟩ := h
  obtain ⟨t, rfl⟩ := rx
  obtain ⟨t', rfl⟩ := ry
  exact add_str (fun t' tk => ⟨.str (i ++ j), H, I.tok _, ⟨_, rfl⟩, q⟩) hz
theorem vals1 {x : V} {us : List Value} (r : Vals [x] us) : ∃ u, us = [u] ∧ RelV x u := by
  cases r with
  | cons r1 r2 => cases r2; exact ⟨_, rfl, r1⟩
theorem vals2 {x y : V} {us : List Value} (r : Vals [x, y] us) : ∃ u w', us = [u, w'] ∧ RelV x u ∧ RelV y w' := by
  cases r with
  | cons r1 r2 =>
    cases r2 with
    | cons r3 r4 => cases r4; exact ⟨_, _, rfl, r1, r3⟩
theorem call_abs : CallR X (.builtin "abs") (fun xs H Q => ∃ i, xs = [.int i] ∧ Q (.int (if i < 0 then -i else i)) H) := by
  intro pins s σ H xs us Q I r h
  obtain ⟨i, rfl, q⟩ := h
  obtain ⟨u, rfl, t, rfl⟩ := vals1 r
  exact call_abs_int fun u tk => ⟨.int (if i < 0 then -i else i), H, I.tok _, ⟨_, rfl⟩, q⟩
theorem call_max2 (hc : X.calm = true) : CallR X (.builtin "max") (fun xs H Q => ∃ i j, xs = [.int i, .int j] ∧ Q (.int (if j > i then j else i)) H) := by
  intro pins s σ H xs us Q I r h
  obtain ⟨i, j, rfl, q⟩ := h
  obtain ⟨u, w', rfl, ⟨t, rfl⟩, ⟨t', rfl⟩⟩ := vals2 r
  refine max_two_ints (I.ok.hd hc) fun h' tk k => ⟨_, H, I.kept k, ?_, q⟩
  by_cases hj : j > i
  · rw [if_pos hj, if_pos hj]; exact ⟨_, rfl⟩
  · rw [if_neg hj, if_neg hj]; exact ⟨_, rfl⟩
theorem call_min2 (hc : X.calm = true) : CallR X (.builtin "min") (fun xs H Q => ∃ i j, xs = [.int i, .int j] ∧ Q (.int (if j < i then j else i)) H) := by
  intro pins s σ H xs us Q I r h
  obtain ⟨i, j, rfl, q⟩ := h
  obtain ⟨u, w', rfl, ⟨t, rfl⟩, ⟨t', rfl⟩⟩ := vals2 r
  refine min_two_ints (I.ok.hd hc) fun h' tk k => ⟨_, H, I.kept k, ?_, q⟩
  by_cases hj : j < i
  · rw [if_pos hj, if_pos hj]; exact ⟨_, rfl⟩
  · rw [if_neg hj, if_neg hj]; exact ⟨_, rfl⟩
noncomputable def LenV (K : PySem.W.Frag) (x : V) (H : Hp) (n : Nat) : Prop :=
  match x with
  | .str y => y.length ≤ sizeLine ∧ n = y.length
  | .byt y => y.size ≤ sizeLine ∧ n = y.size
  | .ref p => (∃ xs, SqL K H p xs ∧ n = xs.length) ∨ ∃ xs, SqT K H p xs ∧ n = xs.length
  | _ => False
theorem call_len : CallR X (.builtin "len") (fun xs H Q => ∃ x n, xs = [x] ∧ LenV X.K x H n ∧ Q (.int n) H) := by
  intro pins s σ H xs us Q I r h
  obtain ⟨x, n, rfl, e, q⟩ := h
  obtain ⟨u, rfl, rx⟩ := vals1 r
  have hl := line63
  have hs : sizeLine = 16777216 := sizeLine_eq
  cases x with
  | str y =>
    obtain ⟨t, rfl⟩ := rx
    obtain ⟨hy, e'⟩ : y.length ≤ sizeLine ∧ n = y.length := e
    subst e'
    exact len_str (by omega) ⟨.int _, H, I.tok _, ⟨_, rfl⟩, q⟩
  | byt y =>
    obtain ⟨t, rfl⟩ := rx
    obtain ⟨hy, e'⟩ : y.size ≤ sizeLine ∧ n = y.size := e
    subst e'
    exact PySem.W.len_bytes (by omega) ⟨.int _, H, I.tok _, ⟨_, rfl⟩, q⟩
  | ref p =>
    cases rx
    have e' : (∃ xs, SqL X.K H p xs ∧ n = xs.length) ∨ ∃ xs, SqT X.K H p xs ∧ n = xs.length := e
    rcases e' with ⟨xs, hx, e'⟩ | ⟨xs, hx, e'⟩
    · subst e'
      obtain ⟨its, r', pl, hz⟩ := I.list hx
      have hlen := r'.length
      exact Calls.call_len_list pl.isList (by simp only [List.size_toArray]; omega) ⟨.int xs.length, H, I.tok _, ⟨_, by simp only [List.size_toArray]; rw [hlen]⟩, q⟩
    · subst e'
      obtain ⟨its, r', pl, hz⟩ := I.tuple hx
      have hlen := r'.length
      exact len_tuple pl (by simp only [List.size_toArray]; omega) ⟨.int xs.length, H, I.tok _, ⟨_, by simp only [List.size_toArray]; rw [hlen]⟩, q⟩
  | _ => exact (show False from e).elim
end
end L2
namespace L2
open PySem PySem.Spec PyProof.Rows
structure ObjM (h : Heap) (x dx C : Addr) (mA : Str → Option Value) : Prop where
  obj : h.get? x = some (PySem.W.instObj C dx)
  ns : h.Ns1 dx mA
  ne : dx ≠ x
theorem lookIn_ns {h : Heap} {dx : Addr} {mA : Str → Option Value} (n : h.Ns1 dx mA) : ∃ od, h.get? dx = some od ∧ ∀ name, PySem.W.lookIn name od = some (mA name) := by
  obtain ⟨o, es, ep, ho, hd, hk, _, hm⟩ := n
  refine ⟨o, ho, fun name => ?_⟩
  have e := hm name
  unfold nsFind findBy at e
  rw [← Array.find?_toList] at e
  unfold PySem.W.lookIn
  rw [hd]
  dsimp only
  split
  · rename_i y q
    rw [q] at e
    exact congrArg some e
  · rename_i q
    rw [q] at e
    have a : es.toList.any (·.refKey) = false := by
      rw [List.any_eq_false]
      intro y hy
      obtain ⟨z, t, hkey⟩ := hk y (Array.mem_toList_iff.mp hy)
      simp [DictEntry.refKey, hkey]
    have a' : ¬ es.toList.any (·.refKey) = true := by rw [a]; exact Bool.false_ne_true
    rw [if_neg a']
    exact congrArg some e
theorem ObjM.look {h : Heap} {x dx C : Addr} {mA : Str → Option Value} (I : ObjM h x dx C mA) : ∃ od, PySem.W.InstAt h x (PySem.W.instObj C dx) C (some od) ∧ ∀ name, PySem.W.lookIn name od = some (mA name) :=
  let ⟨od, ho, hl⟩ := lookIn_ns I.ns
  ⟨od, ⟨I.obj, rfl, rfl, ho⟩, hl⟩
theorem RelO.some_of {v : V} {o : Option Value} (r : RelO (some v) o) : ∃ u, o = some u ∧ RelV v u := by
  cases o with
  | none => exact (show False from r).elim
  | some u => exact ⟨u, rfl, r⟩
section
variable {P : Program} {w : World} {H H' : Hp} {h h' : Heap} {a C dx : Addr} {fs fs' : List (Str × V)}
theorem ins_get (hok : HOk P w H h) (e : H a = some (.ins C dx fs)) : ∃ mA, ObjM h a dx C mA ∧ (∀ f, RelO (fs.lookup f) (mA f)) ∧ PySem.Within mA (fs.map (·.1)) ∧ fs.length ≤ 1000 ∧ H dx = some (.own a) := by
  obtain ⟨d, z, ne, ob, mA, n, r, q⟩ := (show ObjOk P w H h a (.ins C dx fs) from hok a _ e)
  exact ⟨mA, ⟨ob, n, ne⟩, r, q, z, d⟩
end
structure Cls (K : PySem.W.Frag) (C : Addr) : Prop where
  pg : PySem.W.plainGet K C Str.empty = true
  hd : PySem.W.hasDictIn K C = true
  po : PySem.W.plainOver K C = true
  sa : PySem.W.findIn K (.ref C) "__setattr__" = some (some (.builtin "object.__setattr__"))
theorem Cls.get {K : PySem.W.Frag} {C : Addr} (c : Cls K C) (f : Str) : PySem.W.plainGet K C f = true := c.pg
section
variable {X : Cx} {pins : List (Addr × Obj)} {σ : St} {H : Hp} {s : Shared} {A : Around} {E : Value → Shared → Prop} {Q : Value → Shared → Prop} {c : Value} {b : Bool}
inductive TyOf (K : PySem.W.Frag) (H : Hp) : V → Value → Prop where
  | non : TyOf K H .non (.type "NoneType")
  | bl (x : Bool) : TyOf K H (.bl x) (.type "bool")
  | int (i : Int) : TyOf K H (.int i) (.type "int")
  | str (x : Str) : TyOf K H (.str x) (.type "str")
  | flt (x : UInt64) : TyOf K H (.flt x) (.type "float")
  | lst {a : Addr} {xs : List V} (e : H a = some (.lst xs)) : TyOf K H (.ref a) (.type "list")
  | frz {a : Addr} {o : Obj} {xs : List V} (e : H a = some (.frz o (.lst xs))) : TyOf K H (.ref a) (.type "list")
  | tup {a : Addr} {xs : List V} (e : H a = some (.tup xs)) : TyOf K H (.ref a) (.type "tuple")
  | dK {a : Addr} {kvs : List (Key × V)} (e : H a = some (.dK kvs)) : TyOf K H (.ref a) (.type "dict")
  | dT {a : Addr} {kvs : List (List Key × V)} (e : H a = some (.dT kvs)) : TyOf K H (.ref a) (.type "dict")
  | ins {a C dx : Addr} {fs : List (Str × V)} (e : H a = some (.ins C dx fs)) (cl : Cls K C) (ha : PySem.W.findIn K (.ref C) "__class__" = some (some (.builtin "object.__class__")))
      (hn : PySem.W.specialIn K (.builtin "object.__class__") "__get__" = some (some (.builtin "getset_descriptor.__get__"))) (htk : PySem.W.takesIn K (.builtin "object.__class__") = some true)
      (hm : PySem.W.mroIn K C (.type "object") = some true) : TyOf K H (.ref a) (.ref C)
theorem isinst_ok {x : V} {u t : Value} (I : Inv X pins σ H s) (rx : RelV x u) (ty : TyOf X.K H x t) (e : PySem.W.kitOne X.K t c = some b) (h : ∀ tk, Q (.bool b) { s with toks := tk }) :
    wpAny (model X.prog X.w) A (call (.builtin "isinstance") [u, c]) Q E s := by
  cases ty with
  | non => cases (show u = Value.none from rx); exact PySem.W.kia_one PySem.W.kitx_none I.kIn True.intro e (fun z => nomatch z) h
  | bl y => cases (show u = Value.bool y from rx); exact PySem.W.kia_one PySem.W.kitx_bool I.kIn True.intro e (fun z => nomatch z) h
  | int i => obtain ⟨t, q⟩ := (show ∃ t, u = Value.int i t from rx); cases q; exact PySem.W.kia_one PySem.W.kitx_int I.kIn True.intro e (fun z => nomatch z) h
  | str y => obtain ⟨t, q⟩ := (show ∃ t, u = Value.str y t from rx); cases q; exact PySem.W.kia_one PySem.W.kitx_str I.kIn True.intro e (fun z => nomatch z) h
  | flt y => obtain ⟨t, q⟩ := (show ∃ t, u = Value.float y t from rx); cases q; exact PySem.W.kia_one PySem.W.kitx_float I.kIn True.intro e (fun z => nomatch z) h
  | @lst a xs ea =>
    cases (show u = Value.ref a from rx)
    obtain ⟨_, _, n, _, h1⟩ := (show ObjOk X.prog X.w H s.heap a (.lst xs) from I.hok a _ ea)
    exact PySem.W.kia_one PySem.W.kitx_list I.kIn ⟨_, h1, rfl⟩ e (fun z => nomatch z) h
  | @frz a ob xs ea =>
    cases (show u = Value.ref a from rx)
    obtain ⟨_, _, _, n, _, h1⟩ := (show ObjOk X.prog X.w H s.heap a (.frz ob (.lst xs)) from I.hok a _ ea)
    exact PySem.W.kia_one PySem.W.kitx_list I.kIn ⟨_, h1, rfl⟩ e (fun z => nomatch z) h
  | @tup a xs ea =>
    cases (show u = Value.ref a from rx)
    obtain ⟨_, _, _, p⟩ := (show ObjOk X.prog X.w H s.heap a (.tup xs) from I.hok a _ ea)
    obtain ⟨o, h1, h2, _⟩ := p
    exact PySem.W.kia_one PySem.W.kitx_tuple I.kIn ⟨o, h1, h2⟩ e (fun z => nomatch z) h
  | @dK a kvs ea =>
    cases (show u = Value.ref a from rx)
    obtain ⟨_, _, vs, _, p⟩ := (show ObjOk X.prog X.w H s.heap a (.dK kvs) from I.hok a _ ea)
    obtain ⟨o, es, ep, h1, h2, _⟩ := p
    exact PySem.W.kia_one PySem.W.kitx_dict I.kIn ⟨o, h1, h2.1⟩ e (fun z => nomatch z) h
  | @dT a kvs ea =>
    cases (show u = Value.ref a from rx)
    obtain ⟨_, _, xs, _, o, es, ep, h1, h2, _⟩ := (show ObjOk X.prog X.w H s.heap a (.dT kvs) from I.hok a _ ea)
    exact PySem.W.kia_one PySem.W.kitx_dict I.kIn ⟨o, h1, h2.1⟩ e (fun z => nomatch z) h
  | @ins a C dx fs ea cl ha hn htk hm =>
    cases (show u = Value.ref a from rx)
    obtain ⟨mA, O, _⟩ := ins_get I.hok ea
    obtain ⟨od, J, _⟩ := O.look
    exact PySem.W.kia_one (PySem.W.kitx_own (cl.get _) cl.hd ha hn htk hm) I.kIn J e (fun z => nomatch z) h
end
end L2
namespace L2
open PySem PySem.Spec PyProof.Rows
structure Room (k : Nat) (A : Around) : Prop where
  hd : A.handled = none
  dp : A.depth + 3 * k + 5 < recursionLimit
  un : A.units + 16 * k + 200 < cLine
  gd : A.guards = some []
theorem Room.mono {j k : Nat} {A : Around} (r : Room k A) (h : j ≤ k) : Room j A := ⟨r.hd, by have := r.dp; omega, by have := r.un; omega, r.gd⟩
theorem Room.deeper {k : Nat} {A : Around} (r : Room (k + 1) A) (env : Env) : Room k (A.deeper env) :=
  ⟨r.hd, by have := r.dp; show A.depth + 1 + 3 * k + 5 < _; omega, by have := r.un; show A.units + 3 + 16 * k + 200 < _; omega, r.gd⟩
theorem Room.in1 {k : Nat} {A : Around} (r : Room (k + 1) A) : Room k A.in1 :=
  ⟨r.hd, by have := r.dp; show A.depth + 3 * k + 5 < _; omega, by have := r.un; show A.units + 1 + 16 * k + 200 < _; omega, r.gd⟩
theorem Room.depth {k : Nat} {A : Around} (r : Room k A) : A.depth < recursionLimit := by have := r.dp; omega
theorem Room.units {k : Nat} {A : Around} (r : Room k A) : A.units + 64 < cLine := by have := r.un; omega
noncomputable def tNil : TA := fun _ H Q => Q [] H
noncomputable def tCons (ta : TE) (tr : TA) : TA := fun σ H Q => ta σ H fun x H1 => tr σ H1 fun xs H2 => Q (x :: xs) H2
section
variable {X : Cx} {e : Expr} {es : List Expr} {te : TE} {t : TA} {pos : Pos}
theorem pa_nil : PA X [] tNil := fun _ _ _ _ H Q I h => Calls.spliced_nil ⟨[], H, I, .nil, h⟩
theorem pa_cons (ha : PE X e te) (hr : PA X es t) (hs : starEach (e :: es) X.env = (false, eval e X.env) :: starEach es X.env := by rfl) : PA X (e :: es) (tCons te t) := by
  intro pos pins s σ H Q I h
  rw [hs]
  show wpAny _ _ (spliced ((false, eval e X.env) :: backTo pos (starEach es X.env))) _ _ s
  refine Calls.spliced_cons (thn (ha pins s σ H _ I h) fun u s1 ⟨x, H1, I1, r1, q1⟩ => ?_)
  exact thn (hr pos pins s1 σ H1 _ I1 q1) fun us s2 ⟨xs, H2, I2, r2, q2⟩ => ⟨x :: xs, H2, I2, .cons r1 r2, q2⟩
noncomputable def tTup (t : TA) : TE := fun σ H Q => t σ H fun xs H1 => xs.length ≤ sizeLine ∧ ∀ p, H1 p = none → Q (.ref p) (upd H1 p (.tup xs))
noncomputable def tLst (t : TA) : TE := fun σ H Q => t σ H fun xs H1 => xs.length ≤ sizeLine ∧ ∀ p, H1 p = none → Q (.ref p) (upd H1 p (.lst xs))
theorem pe_tup {x1} (h : PA X es t) : PE X (.Tuple es x1 pos) (tTup t) := by
  intro pins s σ H Q I hq
  refine wpAny_Tuple_spliced (thn (h pos pins s σ H _ I hq) fun us s1 ⟨xs, H1, I1, r, z, q⟩ => ⟨by rw [← r.length]; exact z, ?_⟩)
  have hf : H1 s1.heap.objs.size = none := I1.hok.fresh (Nat.le_refl _)
  refine ⟨.ref s1.heap.objs.size, upd H1 s1.heap.objs.size (.tup xs), I1.laid (t' := s1.toks) (fun b u e => Heap.get?_push_of_some _ e) (Nat.le_refl _) ?_, rfl, q _ hf⟩
  exact ⟨z, us, r, ⟨_, Heap.get?_push_size _ rfl, rfl, _, rfl, rfl⟩⟩
theorem pe_lst (h : PA X es t) : PE X (.List es pos) (tLst t) := by
  intro pins s σ H Q I hq
  refine wpAny_List_spliced (thn (h pos pins s σ H _ I hq) fun us s1 ⟨xs, H1, I1, r, z, q⟩ => ⟨by rw [← r.length]; exact z, ?_⟩)
  have hf : H1 s1.heap.objs.size = none := I1.hok.fresh (Nat.le_refl _)
  refine ⟨.ref s1.heap.objs.size, upd H1 s1.heap.objs.size (.lst xs), I1.laid (t' := s1.toks) (fun b u e => Heap.get?_push_of_some _ e) (Nat.le_refl _) ?_, rfl, q _ hf⟩
  exact ⟨z, us, 0, r, Heap.get?_push_size _ rfl⟩
end
noncomputable abbrev Sp := List V → Hp → VK → XK → Prop
noncomputable abbrev CXT := List Env → Hp → Shared → XK → Value → Shared → Prop
structure Env0 (P : Program) (w : World) (K : PySem.W.Frag) (mg : Str → Option Value) (base : Heap) (A : Around) (outer : List Env) (s : Shared) (H : Hp) : Prop where
  frames : A.frames = some outer
  mod : Mod K mg base
  bs : ∀ b o, base.get? b = some o → s.heap.get? b = some o ∧ H b = none
  bsz : base.objs.size ≤ s.heap.objs.size
  funs : s.heap.FunFrames base outer
  frf : ∀ b ∈ frs outer, H b = none
  hok : HOk P w H s.heap
  bare : AllBare s.gens
noncomputable def CE (outer : List Env) (P : Program) (w : World) (H : Hp) (s : Shared) (Q : VK) (u : Value) (s' : Shared) : Prop :=
  ∃ v H', s'.os = s.os ∧ AllBare s'.gens ∧ Un (frs outer) [] H H' s.heap s'.heap ∧ HOk P w H' s'.heap ∧ RelV v u ∧ Q v H'
noncomputable def CR (CX : CXT) (outer : List Env) (P : Program) (w : World) (H : Hp) (s : Shared) (Q : VK) (E : XK) (r : Result) (s' : Shared) : Prop :=
  match r with
  | .ok (.ret u) => CE outer P w H s Q u s'
  | .ok _ => False
  | .error e => CX outer H s E e s'
structure FnOk (P : Program) (w : World) (K : PySem.W.Frag) (mg : Str → Option Value) (base : Heap) (CX : CXT) (k : Nat) (f : Addr) (fd : FuncData) (ps : List Str) (sp : Sp) : Prop where
  len : ∀ vs H Q E, sp vs H Q E → vs.length = ps.length
  run : ∀ (A : Around) (outer : List Env) (s : Shared) (H : Hp) (args : Args) (us : List Value) (vs : List V) (Q : VK) (E : XK), Room k A → Env0 P w K mg base A outer s H → BindsTo s fd args (ps.zip us) → Vals vs us → sp vs H Q E →
    codeAny (model P w) A (.call (.ref f) args) (CR CX outer P w H s Q E) s
theorem FnOk.imp {P : Program} {w : World} {K : PySem.W.Frag} {mg : Str → Option Value} {base : Heap} {CX : CXT} {k : Nat} {f : Addr} {fd : FuncData} {ps : List Str} {sp sp' : Sp} (F : FnOk P w K mg base CX k f fd ps sp)
    (h : ∀ vs H Q E, sp' vs H Q E → sp vs H Q E) : FnOk P w K mg base CX k f fd ps sp' :=
  ⟨fun vs H Q E q => F.len vs H Q E (h _ _ _ _ q), fun A outer s H args us vs Q E hr he hb hv hs => F.run A outer s H args us vs Q E hr he hb hv (h _ _ _ _ hs)⟩
theorem Env0.in1 {P : Program} {w : World} {K : PySem.W.Frag} {mg : Str → Option Value} {base : Heap} {A : Around} {outer : List Env} {s : Shared} {H : Hp} (e : Env0 P w K mg base A outer s H) :
    Env0 P w K mg base A.in1 outer s H := ⟨e.frames, e.mod, e.bs, e.bsz, e.funs, e.frf, e.hok, e.bare⟩
section
variable {X : Cx} {pins : List (Addr × Obj)} {σ : St} {H : Hp} {s s' : Shared}
theorem Inv.env0 (I : Inv X pins σ H s) : Env0 X.prog X.w X.K X.mg X.base X.A X.stack s H :=
  ⟨I.ok.frames, I.ok.mod, I.bs, Nat.le_trans I.ok.bsz I.sz, I.stack, I.stkFree, I.hok, I.bare⟩
theorem Inv.after {Q : VK} {u : Value} (I : Inv X pins σ H s) (h : CE X.stack X.prog X.w H s Q u s') : EP X pins σ Q u s' := by
  obtain ⟨v, H', os, bare, un, hok, r, q⟩ := h
  obtain ⟨hh, g, d, t, os'⟩ := s'
  obtain rfl : os' = s.os := os
  exact ⟨v, H', I.call (h' := hh) (g' := g) (d' := d) (t' := t) (ch := []) un hok bare (fun b z => absurd z (by simp)), r, q⟩
end
noncomputable def tCall (sp : Sp) (dvs : List V) (E : XK) (t : TA) : TE := fun σ H Q => t σ H fun vs H1 => sp (vs ++ dvs) H1 Q E
noncomputable def Binds (K : PySem.W.Frag) (fd : FuncData) (ps : List Str) (ds : List Value) : Prop :=
  ∀ (s : Shared) (us : List Value), K.In s.heap → (us ++ ds).length = ps.length → BindsTo s fd ⟨us, []⟩ (ps.zip (us ++ ds))
theorem Binds.all {K : PySem.W.Frag} {fd : FuncData} {ps : List Str} (h : ∀ us : List Value, us.length = ps.length → bindArgs fd ⟨us, []⟩ = pure (ps.zip us)) : Binds K fd ps [] := fun s us _ hl => by
  rw [List.append_nil] at hl ⊢
  exact .of_eq (h us hl)
noncomputable def Passes (CX : CXT) (X : Cx) (E : XK) : Prop := ∀ (pins : List (Addr × Obj)) (σ : St) (H : Hp) (s : Shared) (e : Value) (s' : Shared), Inv X pins σ H s → CX X.stack H s E e s' → X.xe e s'
section
variable {X : Cx} {CX : CXT} {k : Nat} {f C : Addr} {fd : FuncData} {ps : List Str} {sp : Sp} {dvs : List V} {ds : List Value} {E : XK} {x m : Str} {p pos apos : Pos} {e o : Expr} {es : List Expr} {ta : TE} {t : TA}
theorem run_fn {pins : List (Addr × Obj)} {σ : St} {H : Hp} {s : Shared} {Q : VK} {us : List Value} {vs : List V} (F : FnOk X.prog X.w X.K X.mg X.base CX k f fd ps sp) (hr : Room k X.A) (hb : Binds X.K fd ps ds) (hd : Vals dvs ds) (hx : Passes CX X E)
    (I : Inv X pins σ H s) (r : Vals vs us) (h : sp (vs ++ dvs) H Q E) : wpAny (model X.prog X.w) X.A (call (.ref f) us) (EP X pins σ Q) X.xe s := by
  have r2 : Vals (vs ++ dvs) (us ++ ds) := r.append hd
  have hl : (us ++ ds).length = ps.length := by rw [← r2.length]; exact F.len _ _ _ _ h
  refine wpAny_call (codeAny_mono (F.run X.A X.stack s H ⟨us, []⟩ (us ++ ds) (vs ++ dvs) Q E hr I.env0 (hb s us I.kIn hl) r2 h) fun r s' hq => ?_)
  cases r with
  | error e => exact hx pins σ H s e s' I hq
  | ok fl =>
    cases fl with
    | ret u => exact I.after hq
    | next => exact False.elim hq
    | brk => exact False.elim hq
    | cont => exact False.elim hq
theorem pe_call (F : FnOk X.prog X.w X.K X.mg X.base CX k f fd ps sp) (hr : Room k X.A) (hg : Gl X x) (hm : X.mg x = some (.ref f)) (hk : PySem.W.keepIn X.K (.ref f) = true) (hb : Binds X.K fd ps ds) (hd : Vals dvs ds) (hx : Passes CX X E)
    (ha : PA X (e :: es) t) (hdb : (x == ("__debug__" : Str)) = false := by decide) (he : starEach (e :: es) X.env = (false, eval e X.env) :: starEach es X.env := by rfl) (hpl : (backTo pos (starEach es X.env)).any (·.1) = false := by rfl) :
    PE X (.Call (.Name x p) (e :: es) [] pos) (tCall sp dvs E t) := by
  intro pins s σ H Q I h
  refine wpAny_Call_Name_kw (ld_glob I hg hm ?_ hdb)
  refine PySem.W.callWith_K (h₀ := X.base) I.ok.mod.kin hk (thn (ha pos pins s σ H _ I h) fun us s1 ⟨vs, H1, I1, r, q⟩ => ⟨I1.kIn, ?_⟩) he hpl
  exact run_fn F hr hb hd hx I1 r q
end
noncomputable def PK (X : Cx) (kws : List Keyword) (t : TA) : Prop :=
  ∀ (pos : Pos) (pins : List (Addr × Obj)) (s : Shared) (σ : St) (H : Hp) (Q : List V → Hp → Prop), Inv X pins σ H s → t σ H Q → wpAny (model X.prog X.w) X.A (evalAll ((backToKw pos (keywordEach kws X.env)).map (·.2))) (AP X pins σ Q) X.xe s
section
variable {X : Cx} {CX : CXT} {k : Nat} {f C : Addr} {fd : FuncData} {ps ks : List Str} {sp : Sp} {E : XK} {x m : Str} {p pos apos kpos : Pos} {e o : Expr} {es : List Expr} {kws : List Keyword} {te ta : TE} {t tk : TA} {nm : Option Str}
theorem pk_nil : PK X [] tNil := fun _ _ _ _ H Q I h => wpAny_evalAll_nil ⟨[], H, I, .nil, h⟩
theorem pk_cons (ha : PE X e te) (hr : PK X kws t) : PK X (⟨nm, e, kpos⟩ :: kws) (tCons te t) := by
  intro pos pins s σ H Q I h
  show wpAny _ _ (evalAll ((do let v ← eval e X.env; standAt pos; pure v) :: (backToKw pos (keywordEach kws X.env)).map (·.2))) _ _ s
  refine wpAny_evalAll_cons (wpAny_bind (thn (ha pins s σ H _ I h) fun u s1 ⟨x, H1, I1, r1, q1⟩ => wpAny_bind (wpAny_standAt (wpAny_pure ?_))))
  exact thn (hr pos pins s1 σ H1 _ I1 q1) fun us s2 ⟨xs, H2, I2, r2, q2⟩ => ⟨x :: xs, H2, I2, .cons r1 r2, q2⟩
variable {g : List Value → List Value → List Value} {gV : List V → List V → List V}
end
structure FnScope (N P : List Str) (sc : Scope) : Prop where
  kind : sc.kind = .function
  co : sc.isCoroutine = false
  gen : sc.isGenerator = false
  nd : N.Nodup
  pre : N.take P.length = P
  par : ∀ x ∈ P, sc.names.lookup x = some .local ∨ sc.names.lookup x = some .cell
  nofree : ∀ y ∈ sc.names, y.2 ≠ .free
theorem bindL_out {kindOf : Str → Option NameKind} {x : Str} : ∀ {binds : List (Str × Value)} {m : Str → Option Value}, (∀ v, (x, v) ∉ binds) → bindL kindOf binds m x = m x
  | [], _, _ => rfl
  | (n, v) :: r, m, h => by
    unfold bindL
    rw [bindL_out fun w hw => h w (List.mem_cons_of_mem _ hw)]
    split
    · have : x ≠ n := by rintro rfl; exact h v List.mem_cons_self
      simp [this]
    · rfl
theorem bindC_out {kindOf : Str → Option NameKind} {x : Str} : ∀ {binds : List (Str × Value)} {m : Str → Option Value}, (∀ v, (x, v) ∉ binds) → bindC kindOf binds m x = m x
  | [], _, _ => rfl
  | (n, v) :: r, m, h => by
    unfold bindC
    rw [bindC_out fun w hw => h w (List.mem_cons_of_mem _ hw)]
    split
    · rfl
    · have : x ≠ n := by rintro rfl; exact h v List.mem_cons_self
      simp [this]
theorem bindL_get {kindOf : Str → Option NameKind} {x : Str} {v : Value} : ∀ {P : List Str} {vs : List Value} {i : Nat} {m : Str → Option Value}, P.Nodup → P[i]? = some x → vs[i]? = some v → kindOf x = some .local →
    bindL kindOf (P.zip vs) m x = some v
  | [], _, _, _, _, h, _, _ => by simp at h
  | _ :: _, [], _, _, _, _, h, _ => by simp at h
  | p :: P, w :: vs, 0, m, nd, h1, h2, hk => by
    simp at h1 h2; subst h1; subst h2
    show bindL kindOf ((p, w) :: P.zip vs) m p = _
    unfold bindL
    rw [bindL_out fun v hv => (List.nodup_cons.mp nd).1 (List.of_mem_zip hv).1, if_pos hk]
    simp
  | p :: P, w :: vs, i + 1, m, nd, h1, h2, hk => by
    show bindL kindOf ((p, w) :: P.zip vs) m x = _
    unfold bindL
    exact bindL_get (i := i) (List.nodup_cons.mp nd).2 (by simpa using h1) (by simpa using h2) hk
theorem bindC_get {kindOf : Str → Option NameKind} {x : Str} {v : Value} : ∀ {P : List Str} {vs : List Value} {i : Nat} {m : Str → Option Value}, P.Nodup → P[i]? = some x → vs[i]? = some v → kindOf x ≠ some .local →
    bindC kindOf (P.zip vs) m x = some v
  | [], _, _, _, _, h, _, _ => by simp at h
  | _ :: _, [], _, _, _, _, h, _ => by simp at h
  | p :: P, w :: vs, 0, m, nd, h1, h2, hk => by
    simp at h1 h2; subst h1; subst h2
    show bindC kindOf ((p, w) :: P.zip vs) m p = _
    unfold bindC
    rw [bindC_out fun v hv => (List.nodup_cons.mp nd).1 (List.of_mem_zip hv).1, if_neg hk]
    simp
  | p :: P, w :: vs, i + 1, m, nd, h1, h2, hk => by
    show bindC kindOf ((p, w) :: P.zip vs) m x = _
    unfold bindC
    exact bindC_get (i := i) (List.nodup_cons.mp nd).2 (by simpa using h1) (by simpa using h2) hk
noncomputable def start (N : List Str) (vs : List V) : St := vs.map some ++ List.replicate (N.length - vs.length) none
noncomputable def cxOf (CX : CXT) (P : Program) (w : World) (K : PySem.W.Frag) (mg : Str → Option Value) (base : Heap) (N : List Str) (qual : Str) (scope : Scope) (f : Addr) (cd : Value) (A : Around) (outer : List Env) (s : Shared) (H : Hp) (E : XK) : Cx where
  prog := P
  w := w
  K := K
  mg := mg
  base := base
  A := A.deeper (envOfC qual scope s.heap.objs.size f cd)
  N := N
  s₀ := s
  H₀ := H
  env := envOfC qual scope s.heap.objs.size f cd
  outer := outer
  stack := envOfC qual scope s.heap.objs.size f cd :: outer
  ex := []
  calm := true
  fn := fun _ => true
  pn := []
  xe := fun e s' => wpAny (model P w) (A.deeper (envOfC qual scope s.heap.objs.size f cd)) (leaving (envOfC qual scope s.heap.objs.size f cd) e) (fun _ s'' => CX outer H s E e s'') (fun e' s'' => CX outer H s E e' s'') s'
theorem cell_has {sc : Scope} {n : Nat} {x : Str} (h : sc.names.lookup x = some .cell) : ∃ c, (cellsFrom n sc.names []).lookup x = some c := by
  have q := PySem.W.cellsFrom_some sc.names n [] (.inl h)
  exact Option.isSome_iff_exists.mp q
theorem inv_start {CX : CXT} {P : Program} {w : World} {K : PySem.W.Frag} {mg : Str → Option Value} {base : Heap} {N ps : List Str} {qual : Str} {scope : Scope} {f : Addr} {cd : Value} {A : Around} {outer : List Env} {s s1 : Shared} {H : Hp} {E : XK} {us : List Value} {vs : List V}
    (S : FnScope N ps scope) (hd : A.handled = none) (e0 : Env0 P w K mg base A outer s H) (hl : vs.length = ps.length) (r : Vals vs us)
    (x : InCallC s s.heap.objs.size (bindL (envOfC qual scope s.heap.objs.size f cd).kindOf (ps.zip us) fun _ => none) (cellsFrom (s.heap.objs.size + 1) scope.names []) (bindC (envOfC qual scope s.heap.objs.size f cd).kindOf (ps.zip us) fun _ => none) s1) :
    Inv (cxOf CX P w K mg base N qual scope f cd A outer s H E) [] (start N vs) H s1 := by
  have hpl : ps.length ≤ N.length := by have := congrArg List.length S.pre; rw [List.length_take] at this; omega
  obtain ⟨h1, tk, rfl, hk⟩ := x.done
  have noA : ∀ b : Addr, b ∉ (cxOf CX P w K mg base N qual scope f cd A outer s H E).ex := fun b z => absurd (show b ∈ ([] : List Addr) from z) (by simp)
  refine ⟨⟨e0.mod, S.kind, rfl, rfl, Nat.le_refl _, fun y z c h1 h2 => ?_, fun y hy => ?_, fun y c _ h => ?_, fun _ => hd, Around.frames_deeper e0.frames, .inr ⟨rfl, rfl⟩, fun b z => absurd z (noA b), e0.bs, e0.bsz, fun b _ _ => noA b, fun b z => absurd z (noA b), e0.funs, e0.frf⟩,
    rfl, e0.bare, Un.kept hk, ⟨_, x.toInCall.ns, fun i y v h1 h2 h3 => ?_⟩, fun y c h => ⟨_, x.cell y c h⟩, e0.hok.fresh (Nat.le_refl _), fun y c h => ?_, fun p hp => absurd (show p ∈ ([] : List (Addr × Obj)) from hp) (by simp), e0.hok.kept hk, ?_⟩
  · exact name_of_addr x.apart (PySem.mem_of_lookup h1) (PySem.mem_of_lookup h2)
  · have hy : scope.names.lookup y = some .cell ∨ scope.names.lookup y = some .free := hy
    rcases hy with hy | hy
    · exact cell_has hy
    · exact absurd rfl (S.nofree _ (PySem.mem_of_lookup hy))
  · exact Nat.le_of_lt (x.above y c (PySem.mem_of_lookup h))
  · have hi : i < vs.length := by
      unfold start at h2
      by_cases hi : i < vs.length
      · exact hi
      · rw [List.getElem?_append_right (by simpa using hi)] at h2
        rw [List.getElem?_replicate] at h2
        split at h2 <;> cases h2
    have ha : vs[i]? = some v := by
      unfold start at h2
      rw [List.getElem?_append_left (by simpa using hi), List.getElem?_map] at h2
      cases e : vs[i]? with
      | none => rw [e] at h2; cases h2
      | some a => rw [e] at h2; cases h2; rfl
    obtain ⟨u, hu, rv⟩ := r.get ha
    have hp : ps[i]? = some y := by
      rw [← S.pre, List.getElem?_take_of_lt (by omega)]; exact h1
    have ndP : ps.Nodup := by rw [← S.pre]; exact S.nd.sublist (List.take_sublist _ _)
    refine ⟨u, rv, ?_⟩
    rcases S.par y (List.mem_of_getElem? hp) with k | k
    · exact .inl ⟨k, bindL_get ndP hp hu k⟩
    · obtain ⟨c, e⟩ := cell_has (n := s.heap.objs.size + 1) k
      refine .inr ⟨.inl k, c, e, ?_⟩
      have q := x.cell y c e
      rw [bindC_get ndP hp hu (by show scope.names.lookup y ≠ _; rw [k]; decide)] at q
      exact q
  · exact e0.hok.fresh (Nat.le_of_lt (x.above y c (PySem.mem_of_lookup h)))
  · unfold start
    show _ = N.length
    rw [List.length_append, List.length_map, List.length_replicate]
    omega
theorem fn_of {CX : CXT} {P : Program} {w : World} {K : PySem.W.Frag} {mg : Str → Option Value} {base : Heap} {k : Nat} {f : Addr} {name qual : Str} {params : Arguments} {body : List Stmt} {scope : Scope} {dV kV doc pm cdv ct oc : Value} {an od : Option Addr}
    {osl : Array (Option Value)} {N ps : List Str} {sp : Sp} (lk : K.lookup f = some ⟨oc, od, .func (PySem.W.fnOf name qual params body scope dV kV doc pm an cdv ct), osl⟩) (hcd : PySem.W.codeIn K cdv qual = true) (S : FnScope N ps scope)
    (len : ∀ vs H Q E, sp vs H Q E → vs.length = ps.length)
    (hbody : ∀ (A : Around) (outer : List Env) (s : Shared) (H : Hp) (vs : List V) (Q : VK) (E : XK), Room k (A.deeper (envOfC qual scope s.heap.objs.size f cdv)) → sp vs H Q E →
      ∃ t, PSs (cxOf CX P w K mg base N qual scope f cdv A outer s H E) body t ∧ t { nx := fun _ H' => Q .non H', rt := Q } (start N vs) H) :
    FnOk P w K mg base CX (k + 1) f (PySem.W.fnOf name qual params body scope dV kV doc pm an cdv ct) ps sp := by
  refine ⟨len, fun A outer s H args us vs Q E hr e0 hb r hsp => ?_⟩
  have hl := len _ _ _ _ hsp
  have KX : K.In s.heap := e0.mod.kin.keeps fun b o e => (e0.bs b o e).1
  have lim : s.heap.NoLimit := e0.mod.nolimit.keeps fun b o e => (e0.bs b o e).1
  have hkind : ∀ y ∈ ps.zip us, scope.names.lookup y.1 = some .local ∨ (scope.names.lookup y.1 = some .cell ∧ ((cellsFrom (s.heap.objs.size + 1) scope.names []).lookup y.1).isSome = true) := fun ⟨n, v⟩ hy => by
    rcases S.par n (List.of_mem_zip hy).1 with q | q
    · exact .inl q
    · exact .inr ⟨q, PySem.W.cellsFrom_some _ _ _ (.inl q)⟩
  refine codeAny_call_function hr.depth (KX _ _ lk) rfl S.co S.gen rfl (PySem.W.codeRec_of KX hcd) (hb _ _ _ _ ?_)
  refine wpAny_newFunctionEnv_cells S.kind hkind fun env he s1 x => ?_
  subst he
  refine ⟨lim.keeps x.toInCall.keep, codeAny_func ?_⟩
  obtain ⟨t, ht, hq⟩ := hbody A outer s H vs Q E (hr.deeper _) hsp
  have I : Inv (cxOf CX P w K mg base N qual scope f cdv A outer s H E) [] (start N vs) H s1 := inv_start S hr.hd e0 hl r x
  refine wpAny_mono (ht [] s1 (start N vs) H _ I hq) (fun fl s' hs => ?_) fun e s' hs => hs
  have fin : ∀ {σ' : St} {H' : Hp} {v : V} {u : Value}, Inv (cxOf CX P w K mg base N qual scope f cdv A outer s H E) [] σ' H' s' → RelV v u → Q v H' → CE outer P w H s Q u s' :=
    fun {σ' H' v u} J rv q => ⟨v, H', J.os, J.bare, J.base, J.hok, rv, q⟩
  cases fl with
  | ret u =>
    obtain ⟨v, σ', H', J, rv, q⟩ := hs
    exact fin J rv q
  | next =>
    obtain ⟨σ', H', J, q⟩ := hs
    exact fin (v := V.non) (u := Value.none) J rfl q
  | brk =>
    obtain ⟨_, _, _, q⟩ := hs
    exact False.elim q
  | cont =>
    obtain ⟨_, _, _, q⟩ := hs
    exact False.elim q
end L2
namespace L2
open PySem PySem.Spec PyProof.Rows
section
variable {X : Cx} {x : Str} {p pos : Pos} {e : Expr} {es : List Expr} {t : TA} {id T : String} {r : List V → Hp → VK → Prop}
noncomputable def tCB (r : List V → Hp → VK → Prop) (t : TA) : TE := fun σ H Q => t σ H fun vs H1 => r vs H1 Q
theorem pe_callB (hc : CallR X (.builtin id) r) (hg : Gl X x) (hm : X.mg x = none) (hv : bootBuiltins x = some (.builtin id)) (ha : PA X (e :: es) t) (hn : x ≠ "__name__" := by decide) (hdb : (x == ("__debug__" : Str)) = false := by decide)
    (he : starEach (e :: es) X.env = (false, eval e X.env) :: starEach es X.env := by rfl) (hpl : (backTo pos (starEach es X.env)).any (·.1) = false := by rfl) : PE X (.Call (.Name x p) (e :: es) [] pos) (tCB r t) := by
  intro pins s σ H Q I h
  refine wpAny_Call_Name_kw (ld_blt I hg hm hv ?_ hn hdb)
  exact PyProof.Rows.callWith_builtin1 (thn (ha pos pins s σ H _ I h) fun us s1 ⟨vs, H1, I1, r1, q1⟩ => hc pins s1 σ H1 vs us Q I1 r1 q1) he hpl
theorem pe_callTy (hc : CallR X (.type T) r) (hg : Gl X x) (hm : X.mg x = none) (hv : bootBuiltins x = some (.type T)) (ha : PA X (e :: es) t) (hn : x ≠ "__name__" := by decide) (hdb : (x == ("__debug__" : Str)) = false := by decide)
    (he : starEach (e :: es) X.env = (false, eval e X.env) :: starEach es X.env := by rfl) (hpl : (backTo pos (starEach es X.env)).any (·.1) = false := by rfl) : PE X (.Call (.Name x p) (e :: es) [] pos) (tCB r t) := by
  intro pins s σ H Q I h
  refine wpAny_Call_Name_kw (ld_blt I hg hm hv ?_ hn hdb)
  exact PyProof.Rows.callWith_type1 (thn (ha pos pins s σ H _ I h) fun us s1 ⟨vs, H1, I1, r1, q1⟩ => hc pins s1 σ H1 vs us Q I1 r1 q1) he hpl
end
end L2
namespace HT
open PySem PyProof.Rows
section
open PySem.SeqAt
open PySem.AutoSeq1 (wpAny_loadPart')
open PySem.MeetsSeq PySem.MeetsSeq2 PySem.MeetsSeq3
end
section
variable {prog : Program} {w : World} {A : Around} {E : Value → Shared → Prop} {s : Shared}
noncomputable def sIx (n d : Nat) : Option Int → Nat
  | none => d
  | some v => if v < 0 then (v + (n : Int)).toNat else min v.toNat n
theorem sIx_none (n d : Nat) : sIx n d none = d := rfl
theorem sIx_nat (n d k : Nat) : sIx n d (some (k : Int)) = min k n := by
  show (if (k : Int) < 0 then ((k : Int) + (n : Int)).toNat else min (k : Int).toNat n) = min k n
  rw [if_neg (by omega), Int.toNat_natCast]
end
end HT
namespace L2
open PySem PySem.Spec PyProof.Rows
noncomputable abbrev TO := St → Hp → (Option Int → Hp → Prop) → Prop
noncomputable def PO (X : Cx) (e : Option Expr) (t : TO) : Prop :=
  ∀ (pins : List (Addr × Obj)) (s : Shared) (σ : St) (H : Hp) (Q : Option Int → Hp → Prop), Inv X pins σ H s → t σ H Q →
    wpAny (model X.prog X.w) X.A (evalPart e X.env) (fun u s' => ∃ o H', Inv X pins σ H' s' ∧ IsPart u o ∧ Q o H') X.xe s
noncomputable def tNoPart : TO := fun _ H Q => Q none H
noncomputable def tPart (t : TE) : TO := fun σ H Q => t σ H fun x H1 => ∃ i, x = .int i ∧ Q (some i) H1
theorem intsAre_of {ns : List Int} : ∀ {us : List Value}, Vals (ns.map V.int) us → IntsAre us ns := by
  induction ns with
  | nil => intro us r; rw [List.map_nil] at r; cases r; exact .nil
  | cons n ns ih =>
    intro us r
    rw [List.map_cons] at r
    cases r with
    | cons r1 r2 =>
      obtain ⟨t, e⟩ := r1
      subst e
      exact .cons n t (ih r2)
section
variable {X : Cx} {e : Expr} {te : TE} {lo hi : Option Expr} {tl th : TO} {pos p2 : Pos}
theorem po_none : PO X none tNoPart := by
  intro pins s σ H Q I h
  rw [evalPart_none]
  exact wpAny_pure ⟨none, H, I, .none, h⟩
theorem po_some (h : PE X e te) : PO X (some e) (tPart te) := by
  intro pins s σ H Q I hw
  rw [evalPart_some]
  refine thn (h pins s σ H _ I hw) fun u s1 ⟨x, H1, I1, r1, q1⟩ => ?_
  obtain ⟨i, rfl, q⟩ := q1
  obtain ⟨t, rfl⟩ := r1
  exact ⟨some i, H1, I1, .int i t, q⟩
noncomputable def SlR (X : Cx) (r : V → Option Int → Option Int → Hp → VK → Prop) : Prop :=
  ∀ (pins : List (Addr × Obj)) (s : Shared) (σ : St) (H : Hp) (x : V) (v vl vu : Value) (lo hi : Option Int) (sl : Addr) (Q : VK), Inv X pins σ H s → RelV x v → s.heap.IsSliceOf sl vl vu .none → IsPart vl lo → IsPart vu hi → r x lo hi H Q →
    ∃ T id, typeLookup (.type T) "__getitem__" = pure (some (.builtin id)) ∧ s.TypeIs v T ∧ wpAny (model X.prog X.w) X.A (getItem v (.ref sl)) (EP X pins σ Q) X.xe s
noncomputable def tSl (r : V → Option Int → Option Int → Hp → VK → Prop) (te : TE) (tl th : TO) : TE := fun σ H Q => te σ H fun x H1 => tl σ H1 fun l H2 => th σ H2 fun u H3 => r x l u H3 Q
theorem pe_slice {r : V → Option Int → Option Int → Hp → VK → Prop} (hr : SlR X r) (he : PE X e te) (hl : PO X lo tl) (hu : PO X hi th) : PE X (.Subscript e (.Slice lo hi none p2) pos) (tSl r te tl th) := by
  intro pins s σ H Q I h
  refine Subscript_ (thn (he pins s σ H _ I h) fun v s1 ⟨x, H1, I1, r1, q1⟩ => ?_)
  refine wpAny_Slice (thn (hl pins s1 σ H1 _ I1 q1) fun vl s2 ⟨l, H2, I2, pl, q2⟩ => thn (hu pins s2 σ H2 _ I2 q2) fun vu s3 ⟨u, H3, I3, pu, q3⟩ => ?_)
  rw [evalPart_none]
  refine wpAny_pure ?_
  have I4 : Inv X pins σ H3 { s3 with heap := s3.heap.push { cls := .type "slice", data := .fields #[vl, vu, .none] } } := I3.kept (t' := s3.toks) fun b ob q => Heap.get?_push_of_some _ q
  obtain ⟨T, id, hT, ht, hg⟩ := hr pins { s3 with heap := s3.heap.push { cls := .type "slice", data := .fields #[vl, vu, .none] } } σ H3 x v vl vu l u s3.heap.objs.size Q I4 r1 (Heap.IsSliceOf.new ..) pl pu q3
  show wpAny (model X.prog X.w) X.A (subscriptTail e (.Slice lo hi none p2) v (.ref s3.heap.objs.size)) (EP X pins σ Q) X.xe { s3 with heap := s3.heap.push { cls := .type "slice", data := .fields #[vl, vu, .none] } }
  exact tail_any (ops := [.ref s3.heap.objs.size, v]) ht hT hg (by with_unfolding_all rfl)
noncomputable def cutV (xs : List V) (lo hi : Option Int) : List V := (xs.drop (HT.sIx xs.length 0 lo)).take (HT.sIx xs.length xs.length hi - HT.sIx xs.length 0 lo)
theorem cutV_length (xs : List V) (lo hi : Option Int) : (cutV xs lo hi).length ≤ xs.length := by
  unfold cutV
  rw [List.length_take, List.length_drop]
  omega
end
end L2
namespace L2
open PySem PySem.Spec PyProof.Rows
noncomputable def ixN (n : Nat) (i : Int) : Option Nat := if 0 ≤ i then (if i < n then some i.toNat else none) else if -(n : Int) ≤ i then some (i + n).toNat else none
noncomputable def atI {α : Type} (xs : List α) (i : Int) : Option α := (ixN xs.length i).bind fun j => xs[j]?
theorem ixN_seq {n : Nat} {i : Int} {j : Nat} (h : ixN n i = some j) : seqIndex? i n = some j ∧ j < n ∧ -(n : Int) ≤ i ∧ i < n := by
  unfold ixN at h
  by_cases h0 : 0 ≤ i
  · rw [if_pos h0] at h
    by_cases h1 : i < n
    · rw [if_pos h1] at h
      have e : i.toNat = j := Option.some.inj h
      exact ⟨by rw [seqIndex_of h0 h1, e], by omega, by omega, h1⟩
    · rw [if_neg h1] at h; cases h
  · rw [if_neg h0] at h
    by_cases h1 : -(n : Int) ≤ i
    · rw [if_pos h1] at h
      have e : (i + n).toNat = j := Option.some.inj h
      exact ⟨by rw [seqIndex_neg (by omega) h1, e], by omega, h1, by omega⟩
    · rw [if_neg h1] at h; cases h
theorem atI_get {α : Type} {xs : List α} {i : Int} {v : α} (h : atI xs i = some v) : ∃ j, seqIndex? i xs.length = some j ∧ xs[j]? = some v ∧ j < xs.length ∧ -(xs.length : Int) ≤ i ∧ i < xs.length := by
  unfold atI at h
  cases e : ixN xs.length i with
  | none => rw [e] at h; cases h
  | some j =>
    rw [e] at h
    obtain ⟨h1, h2, h3, h4⟩ := ixN_seq e
    exact ⟨j, h1, h, h2, h3, h4⟩
theorem atI_nat {α : Type} {xs : List α} {j : Nat} {v : α} (h : xs[j]? = some v) : atI xs (j : Int) = some v := by
  have hj : j < xs.length := (List.getElem?_eq_some_iff.mp h).1
  have e : ixN xs.length (j : Int) = some j := by
    unfold ixN
    rw [if_pos (by omega), if_pos (by omega)]; simp
  unfold atI; rw [e]; exact h
theorem atI_last {α : Type} (xs : List α) (v : α) : atI (xs ++ [v]) (-1) = some v := by
  have hl : (xs ++ [v]).length = xs.length + 1 := by simp
  have e : ixN (xs ++ [v]).length (-1) = some xs.length := by
    unfold ixN
    rw [hl, if_neg (by decide), if_pos (by omega)]
    congr 1
    omega
  unfold atI
  rw [e]
  show (xs ++ [v])[xs.length]? = some v
  simp
noncomputable def PlainIx (b : Expr) : Prop := ∀ o i, subscripted b false o i = operate [o, i] (getItem o i)
noncomputable def IxR (X : Cx) (r : R2) : Prop :=
  ∀ (value slice : Expr) (pins : List (Addr × Obj)) (s : Shared) (σ : St) (H : Hp) (x y : V) (v u : Value) (Q : VK), Inv X pins σ H s → RelV x v → RelV y u → r x y H Q →
    subscripted slice false v u = operate [v, u] (getItem v u) → wpAny (model X.prog X.w) X.A (subscriptTail value slice v u) (EP X pins σ Q) X.xe s
noncomputable def MtR (X : Cx) (id : String) (r : V → List V → Hp → VK → Prop) : Prop :=
  ∀ (pins : List (Addr × Obj)) (s : Shared) (σ : St) (H : Hp) (x : V) (xs : List V) (v : Value) (us : List Value) (Q : VK), Inv X pins σ H s → RelV x v → Vals xs us → r x xs H Q →
    wpAny (model X.prog X.w) X.A (call (.builtin id) (v :: us)) (EP X pins σ Q) X.xe s
section
variable {X : Cx} {a b : Expr} {ta tb : TE} {pos : Pos}
theorem pe_ix {r : R2} (hr : IxR X r) (ha : PE X a ta) (hb : PE X b tb) (hs : PlainIx b) : PE X (.Subscript a b pos) (tOp r ta tb) := by
  intro pins s σ H Q I h
  exact Subscript_ (binT ha hb I h fun v u s2 x y H2 I2 rx ry q => hr a b pins s2 σ H2 x y v u Q I2 rx ry q (hs _ _))
noncomputable def rIxL (K : PySem.W.Frag) : R2 := fun x y H Q => ∃ p xs i v, x = .ref p ∧ y = .int i ∧ SqL K H p xs ∧ atI xs i = some v ∧ Q v H
noncomputable def rIxT (K : PySem.W.Frag) : R2 := fun x y H Q => ∃ p xs i v, x = .ref p ∧ y = .int i ∧ SqT K H p xs ∧ atI xs i = some v ∧ Q v H
noncomputable def rIxS : R2 := fun x y H Q => ∃ z i c, x = .str z ∧ y = .int i ∧ z.length ≤ sizeLine ∧ atI z.cps.toList i = some c ∧ Q (.str ⟨#[c]⟩) H
theorem ix_list : IxR X (rIxL X.K) := by
  intro value slice pins s σ H x y v u Q I rx ry h hs
  obtain ⟨p, xs, i, z, rfl, rfl, hq, he, q⟩ := h
  cases rx
  obtain ⟨t, rfl⟩ := ry
  obtain ⟨its, r, pl, hz⟩ := I.list hq
  obtain ⟨j, h1, h2, h3, h4, h5⟩ := atI_get he
  obtain ⟨w, ew, rw'⟩ := r.get h2
  have hl := r.length
  have hn := line63
  have fin : EP X pins σ Q w s := ⟨z, H, I, rw', q⟩
  by_cases h0 : 0 ≤ i
  · have hj : i.toNat = j := by
      rw [seqIndex_of h0 h5] at h1
      exact Option.some.inj h1
    exact item_listR pl.isList h0 (by omega) (by rw [hj]; simpa using ew) fin hs
  · have hj : (i + (its.toArray.size : Int)).toNat = j := by
      rw [seqIndex_neg (by omega) h4] at h1
      rw [List.size_toArray, ← hl]
      exact Option.some.inj h1
    exact subscriptTail_builtinR (x := w) pl.isList.typeIs slot_list_getitem.lookup
      (wpAny_getItem_list_neg (Q := fun r s' => r = w ∧ EP X pins σ Q r s') pl.isList (by omega) (by rw [List.size_toArray] <;> omega) (by omega) (by rw [hj]; simpa using ew) ⟨rfl, fin⟩) hs
theorem ix_tup : IxR X (rIxT X.K) := by
  intro value slice pins s σ H x y v u Q I rx ry h hs
  obtain ⟨p, xs, i, z, rfl, rfl, hq, he, q⟩ := h
  cases rx
  obtain ⟨t, rfl⟩ := ry
  obtain ⟨its, r, pl, hz⟩ := I.tuple hq
  obtain ⟨j, h1, h2, h3, h4, h5⟩ := atI_get he
  obtain ⟨w, ew, rw'⟩ := r.get h2
  have hl := r.length
  have hn := line63
  have fin : EP X pins σ Q w s := ⟨z, H, I, rw', q⟩
  exact subscriptTail_builtinR (x := w) pl.typeIs slot_tuple_getitem.lookup
    (getItem_tuple (j := j) (Q := fun r s' => r = w ∧ EP X pins σ Q r s') pl (by omega) (by omega) (by rw [List.size_toArray, ← hl]; exact h1) (by simpa using ew) ⟨rfl, fin⟩) hs
theorem ix_str : IxR X rIxS := by
  intro value slice pins s σ H x y v u Q I rx ry h hs
  obtain ⟨z, i, c, rfl, rfl, hz, he, q⟩ := h
  obtain ⟨t, rfl⟩ := rx
  obtain ⟨t', rfl⟩ := ry
  obtain ⟨j, h1, h2, h3, h4, h5⟩ := atI_get he
  have hl : z.cps.toList.length = z.length := by simp [Str.length]
  rw [hl] at h1 h4 h5
  have hn := line63
  exact tail_any (typeIs_str s z t) slot_str_getitem.lookup (getItem_str (c := c) (by
    have e1 : decide (i < -(2 ^ 63 : Int)) = false := decide_eq_false (by omega)
    have e2 : decide (i ≥ 2 ^ 63) = false := decide_eq_false (by omega)
    rw [e1, e2, Bool.or_false]) (by rw [h1]; simpa using h2) ⟨.str ⟨#[c]⟩, H, I.tok _, ⟨_, rfl⟩, q⟩) hs
theorem mapSeq_set (its : List Value) (n j : Nat) (u : Value) : Obj.mapSeq (·.setIfInBounds j u) { cls := .type "list", data := .seq its.toArray n } = { cls := .type "list", data := .seq (its.set j u).toArray n } := by
  simp [Obj.mapSeq]
theorem Inv.lst {pins : List (Addr × Obj)} {σ : St} {H : Hp} {s : Shared} {p : Addr} {xs : List V} (I : Inv X pins σ H s) (h : H p = some (.lst xs)) :
    ∃ (its : List Value) (n : Nat), Vals xs its ∧ s.heap.get? p = some { cls := .type "list", data := .seq its.toArray n } ∧ xs.length ≤ sizeLine := by
  obtain ⟨z, its, n, r, e⟩ := I.hok p _ h
  exact ⟨its, n, r, e, z⟩
theorem Inv.lstUpd {pins : List (Addr × Obj)} {σ : St} {H : Hp} {s : Shared} {p : Addr} {xs ys : List V} {its its' : List Value} {n n' : Nat} {f : Obj → Obj} (I : Inv X pins σ H s) (h : H p = some (.lst xs))
    (ho : s.heap.get? p = some { cls := .type "list", data := .seq its.toArray n }) (hf : f { cls := .type "list", data := .seq its.toArray n } = { cls := .type "list", data := .seq its'.toArray n' }) (r : Vals ys its') (hz : ys.length ≤ sizeLine) (t : Nat) :
    Inv X pins σ (upd H p (.lst ys)) { s with heap := s.heap.update p f, toks := t } := by
  have e : (s.heap.update p f).get? p = some { cls := .type "list", data := .seq its'.toArray n' } := by
    rw [Heap.get?_update_self f ho (by rw [hf] <;> rfl), hf]
  refine I.write (x := p) (e := p) (by rw [h]; trivial) (.inl rfl) (fun b u hb q => (Heap.get?_update_other _ _ (Ne.symm hb)).trans q) ⟨_, e⟩ ?_
  exact ⟨hz, its', n', r, e⟩
noncomputable def rSetL : V → V → V → Hp → (Hp → Prop) → Prop := fun o i v H Q => ∃ p xs k j, o = .ref p ∧ i = .int k ∧ H p = some (.lst xs) ∧ ixN xs.length k = some j ∧ Q (upd H p (.lst (xs.set j v)))
theorem set_list : PSet X rSetL := by
  intro pins s σ H o i v ov iv u Q I ro ri rv h
  obtain ⟨p, xs, k, j, rfl, rfl, hp, hj, q⟩ := h
  cases ro
  obtain ⟨t, rfl⟩ := ri
  obtain ⟨its, n, r, ho, hz⟩ := I.lst hp
  obtain ⟨h1, h2, h3, h4⟩ := ixN_seq hj
  have hl := r.length
  have hn := line63
  have I' : Inv X pins σ (upd H p (.lst (xs.set j v))) { s with heap := s.heap.update p (Obj.mapSeq (·.setIfInBounds j u)) } :=
    I.lstUpd hp ho (mapSeq_set its n j u) (r.set rv j) (by rw [List.length_set]; exact hz) s.toks
  by_cases h0 : 0 ≤ k
  · have hk : k.toNat = j := by
      rw [seqIndex_of h0 h4] at h1
      exact Option.some.inj h1
    exact PySem.W.ki_setAt ho h0 (by omega) (by rw [List.size_toArray, ← hl]; exact h4) (by rw [hk]; exact ⟨_, I', q⟩)
  · have hk : (k + (its.toArray.size : Int)).toNat = j := by
      rw [seqIndex_neg (by omega) h3] at h1
      rw [List.size_toArray, ← hl]
      exact Option.some.inj h1
    exact PySem.W.ki_setBack ho (by omega) (by rw [List.size_toArray, ← hl]; exact h3) (by omega) (by rw [hk]; exact ⟨_, I', q⟩)
theorem slice_bounds (lo hi : Option Int) (n : Nat) : (sliceBounds lo hi none n).1 = ((HT.sIx n 0 lo : Nat) : Int) ∧ (sliceBounds lo hi none n).2.1 = ((HT.sIx n n hi : Nat) : Int) ∧ (sliceBounds lo hi none n).2.2 = 1 := by
  refine ⟨?_, ?_, rfl⟩
  · cases lo with
    | none => simp [sliceBounds, HT.sIx]
    | some i =>
      simp only [sliceBounds, HT.sIx, Option.getD_none, show (1 : Int) > 0 by decide, if_true]
      by_cases h : i < 0
      · simp only [h, if_true] <;> omega
      · simp only [h, if_false] <;> omega
  · cases hi with
    | none => simp [sliceBounds, HT.sIx]
    | some i =>
      simp only [sliceBounds, HT.sIx, Option.getD_none, show (1 : Int) > 0 by decide, if_true]
      by_cases h : i < 0
      · simp only [h, if_true] <;> omega
      · simp only [h, if_false] <;> omega
theorem slicePick_cut (its : List Value) (lo hi : Option Int) : slicePick its.toArray lo hi none = ((its.drop (HT.sIx its.length 0 lo)).take (HT.sIx its.length its.length hi - HT.sIx its.length 0 lo)).toArray := by
  obtain ⟨h1, h2, h3⟩ := slice_bounds lo hi its.toArray.size
  unfold slicePick
  rw [h1, h2, h3]
  simp only [sliceRange_one, pick_run, List.size_toArray] <;> rfl
noncomputable def rSlL (K : PySem.W.Frag) : V → Option Int → Option Int → Hp → VK → Prop := fun x lo hi H Q => ∃ a xs, x = .ref a ∧ SqL K H a xs ∧ ∀ p, H p = none → Q (.ref p) (upd H p (.lst (cutV xs lo hi)))
theorem sl_list : SlR X (rSlL X.K) := by
  intro pins s σ H x v vl vu lo hi sl Q I rx hs pl pu h
  obtain ⟨a, xs, rfl, hx, q⟩ := h
  cases rx
  obtain ⟨its, r, ht, hz⟩ := I.list hx
  have hlen := r.length
  refine ⟨"list", _, slot_list_getitem.lookup, ht.isList.typeIs, ?_⟩
  refine wpAny_getItem_list_slice ht.isList hs pl pu .none (by simp) ?_ (by rw [List.size_toArray] <;> omega)
  rw [slicePick_cut, ← hlen]
  refine ⟨.ref s.heap.objs.size, _, I.laid (t' := s.toks) (o := .lst (cutV xs lo hi)) (fun b ob q => Heap.get?_push_of_some _ q) (Nat.le_refl _) ?_, rfl, q _ (I.hok.fresh (Nat.le_refl _))⟩
  exact ⟨Nat.le_trans (cutV_length xs lo hi) hz, _, 0, (r.drop (HT.sIx xs.length 0 lo)).take (HT.sIx xs.length xs.length hi - HT.sIx xs.length 0 lo), Heap.get?_push_size _ rfl⟩
noncomputable def flatV : V → Bool
  | .non => true
  | .bl _ => true
  | .int _ => true
  | .str _ => true
  | _ => false
noncomputable def eqV : V → V → Bool
  | .non, .non => true
  | .bl a, .bl b => a == b
  | .bl a, .int b => (if a then 1 else 0) == b
  | .int a, .bl b => a == (if b then 1 else 0)
  | .int a, .int b => a == b
  | .str a, .str b => a == b
  | _, _ => false
theorem eqAt_V {A : Around} {s : Shared} {y x : V} {u v : Value} (ry : RelV y u) (rx : RelV x v) (fy : flatV y = true) (fx : flatV x = true) : SeqAt.EqAt A s u v (eqV y x) := by
  cases y with
  | non =>
    cases ry
    cases x with
    | non => cases rx; exact SeqAt.EqAt.same _
    | bl b => cases rx; exact SeqAt.EqAt.none_bool b
    | int b => obtain ⟨t, rfl⟩ := rx; exact SeqAt.EqAt.none_int b t
    | str b => obtain ⟨t, rfl⟩ := rx; exact SeqAt.EqAt.none_str b t
    | _ => exact absurd (show false = true from fx) Bool.false_ne_true
  | bl a =>
    cases ry
    cases x with
    | non => cases rx; exact SeqAt.EqAt.bool_none a
    | bl b => cases rx; exact SeqAt.EqAt.bool_bool a b
    | int b => obtain ⟨t, rfl⟩ := rx; exact SeqAt.EqAt.bool_int a b t
    | str b => obtain ⟨t, rfl⟩ := rx; exact SeqAt.EqAt.bool_str a b t
    | _ => exact absurd (show false = true from fx) Bool.false_ne_true
  | int a =>
    obtain ⟨t', rfl⟩ := ry
    cases x with
    | non => cases rx; exact SeqAt.EqAt.int_none a t'
    | bl b => cases rx; exact SeqAt.EqAt.int_bool a t' b
    | int b => obtain ⟨t, rfl⟩ := rx; exact SeqAt.EqAt.int_int a t' b t
    | str b => obtain ⟨t, rfl⟩ := rx; exact SeqAt.EqAt.int_str a t' b t
    | _ => exact absurd (show false = true from fx) Bool.false_ne_true
  | str a =>
    obtain ⟨t', rfl⟩ := ry
    cases x with
    | non => cases rx; exact SeqAt.EqAt.str_none a t'
    | bl b => cases rx; exact SeqAt.EqAt.str_bool a t' b
    | int b => obtain ⟨t, rfl⟩ := rx; exact SeqAt.EqAt.str_int a t' b t
    | str b => obtain ⟨t, rfl⟩ := rx; exact SeqAt.EqAt.str_str a t' b t
    | _ => exact absurd (show false = true from fx) Bool.false_ne_true
  | _ => exact absurd (show false = true from fy) Bool.false_ne_true
noncomputable def eqU (x : V) (u : Value) : Bool := match u with
  | .none => eqV .non x
  | .bool b => eqV (.bl b) x
  | .int i _ => eqV (.int i) x
  | .str z _ => eqV (.str z) x
  | _ => false
theorem eqU_of {x y : V} {u : Value} (r : RelV y u) (f : flatV y = true) : eqU x u = eqV y x := by
  cases y with
  | non => cases r; rfl
  | bl b => cases r; rfl
  | int i => obtain ⟨t, rfl⟩ := r; rfl
  | str z => obtain ⟨t, rfl⟩ := r; rfl
  | _ => exact absurd (show false = true from f) Bool.false_ne_true
theorem any_eqU {x : V} : ∀ {xs : List V} {us : List Value}, Vals xs us → xs.all flatV = true → us.any (eqU x) = xs.any fun y => eqV y x
  | _, _, .nil, _ => rfl
  | y :: xs, u :: us, .cons r t, f => by
    rw [List.all_cons, Bool.and_eq_true] at f
    rw [List.any_cons, List.any_cons, eqU_of r f.1, any_eqU t f.2]
theorem mem_eqAt {A : Around} {s : Shared} {x : V} {v : Value} (rx : RelV x v) (fx : flatV x = true) : ∀ {xs : List V} {us : List Value}, Vals xs us → xs.all flatV = true → ∀ u ∈ us, SeqAt.EqAt A s u v (eqU x u)
  | _, _, .nil, _ => fun u hu => by cases hu
  | y :: xs, u :: us, .cons r t, f => fun u' hu => by
    rw [List.all_cons, Bool.and_eq_true] at f
    rcases List.mem_cons.mp hu with rfl | hu
    · rw [eqU_of r f.1]; exact eqAt_V r rx f.1 fx
    · exact mem_eqAt rx fx t f.2 u' hu
noncomputable def inV (x : V) (xs : List V) : Bool := xs.any fun y => eqV y x
noncomputable def rIn (K : PySem.W.Frag) (neg : Bool) : R2 := fun x y H Q => ∃ p xs, y = .ref p ∧ (SqL K H p xs ∨ SqT K H p xs) ∧ flatV x = true ∧ xs.all flatV = true ∧ Q (.bl (if neg then !inV x xs else inV x xs)) H
theorem op_in_seq : OpR X (compareOp .In) (rIn X.K false) := by
  intro pins s σ H x y v u Q I rx ry h
  obtain ⟨p, xs, rfl, hq, fx, fs, q⟩ := h
  cases ry
  rcases hq with hq | hq
  · obtain ⟨its, r, pl, hz⟩ := I.list hq
    refine SeqAt.in_listAt (eqU x) pl.isList (fun w hw => mem_eqAt rx fx r fs w (by simpa using hw)) ⟨.bl _, H, I, rfl, ?_⟩
    rw [show its.toArray.any (eqU x) = its.any (eqU x) by simp, any_eqU r fs]
    exact q
  · obtain ⟨its, r, pl, hz⟩ := I.tuple hq
    refine SeqAt.in_tupleAt (eqU x) pl (fun w hw => mem_eqAt rx fx r fs w (by simpa using hw)) ⟨.bl _, H, I, rfl, ?_⟩
    rw [show its.toArray.any (eqU x) = its.any (eqU x) by simp, any_eqU r fs]
    exact q
theorem op_notIn_seq : OpR X (compareOp .NotIn) (rIn X.K true) := by
  intro pins s σ H x y v u Q I rx ry h
  obtain ⟨p, xs, rfl, hq, fx, fs, q⟩ := h
  cases ry
  rcases hq with hq | hq
  · obtain ⟨its, r, pl, hz⟩ := I.list hq
    refine SeqAt.notIn_listAt (eqU x) pl.isList (fun w hw => mem_eqAt rx fx r fs w (by simpa using hw)) ⟨.bl _, H, I, rfl, ?_⟩
    rw [show its.toArray.any (eqU x) = its.any (eqU x) by simp, any_eqU r fs]
    exact q
  · obtain ⟨its, r, pl, hz⟩ := I.tuple hq
    refine SeqAt.notIn_tupleAt (eqU x) pl (fun w hw => mem_eqAt rx fx r fs w (by simpa using hw)) ⟨.bl _, H, I, rfl, ?_⟩
    rw [show its.toArray.any (eqU x) = its.any (eqU x) by simp, any_eqU r fs]
    exact q
theorem call_list_of : CallR X (.type "list") (fun xs H Q => ∃ p ys, xs = [.ref p] ∧ (SqL X.K H p ys ∨ SqT X.K H p ys) ∧ ∀ l, H l = none → Q (.ref l) (upd H l (.lst ys))) := by
  intro pins s σ H xs us Q I r h
  obtain ⟨p, ys, rfl, hq, q⟩ := h
  obtain ⟨u, rfl, rx⟩ := vals1 r
  cases rx
  have fin : ∀ (its : List Value), Vals ys its → ys.length ≤ sizeLine → ∀ (h' : Heap) (c' : Nat), (∀ b o', s.heap.get? b = some o' → h'.get? b = some o') →
      h'.get? s.heap.objs.size = some { cls := .type "list", dict := none, data := .seq its.toArray c', slots := #[] } → EP X pins σ Q (.ref s.heap.objs.size) { s with heap := h' } := fun its r' hz h' c' kp e =>
    ⟨.ref s.heap.objs.size, _, I.laid (t' := s.toks) kp (Nat.le_refl _) (show ObjOk X.prog X.w _ h' _ (.lst ys) from ⟨hz, its, c', r', e⟩), rfl, q _ (I.hok.fresh (Nat.le_refl _))⟩
  rcases hq with hq | hq
  · obtain ⟨its, r', pl, hz⟩ := I.list hq
    have hlen := r'.length
    obtain ⟨o, ho, hc, n, hd⟩ := pl.isList
    exact call_list_seq p (.inl rfl) ho hc hd (fun h' c' kp e => fin its r' hz h' c' kp e) (by simp only [List.size_toArray] <;> omega)
  · obtain ⟨its, r', pl, hz⟩ := I.tuple hq
    have hlen := r'.length
    obtain ⟨o, ho, hc, n, hd⟩ := pl
    exact call_list_seq p (.inr rfl) ho hc hd (fun h' c' kp e => fin its r' hz h' c' kp e) (by simp only [List.size_toArray] <;> omega)
theorem call_tuple_of : CallR X (.type "tuple") (fun xs H Q => ∃ p ys, xs = [.ref p] ∧ ((SqL X.K H p ys ∧ ∀ l, H l = none → Q (.ref l) (upd H l (.tup ys))) ∨ (SqT X.K H p ys ∧ Q (.ref p) H))) := by
  intro pins s σ H xs us Q I r h
  obtain ⟨p, ys, rfl, h⟩ := h
  obtain ⟨u, rfl, rx⟩ := vals1 r
  cases rx
  rcases h with ⟨hq, q⟩ | ⟨hq, q⟩
  · obtain ⟨its, r', pl, hz⟩ := I.list hq
    have hlen := r'.length
    refine call_tuple_list pl.isList (fun h' kp => ?_) (by simp only [List.size_toArray] <;> omega)
    have I1 : Inv X pins σ H { s with heap := h' } := I.kept (t' := s.toks) kp
    have I2 : Inv X pins σ (upd H h'.objs.size (.tup ys)) { s with heap := h'.push { cls := .type "tuple", data := .seq its.toArray } } :=
      I1.laid (t' := s.toks) (fun b o e => Heap.get?_push_of_some _ e) (Nat.le_refl _) (show ObjOk X.prog X.w _ _ _ (.tup ys) from ⟨hz, its, r', TupN.new _ _⟩)
    exact ⟨.ref h'.objs.size, _, I2, rfl, q _ (I1.hok.fresh (Nat.le_refl _))⟩
  · obtain ⟨its, r', pl, hz⟩ := I.tuple hq
    exact call_tuple_same pl ⟨.ref p, H, I, rfl, q⟩
noncomputable def tyV (K : PySem.W.Frag) (T : String) (x : V) (H : Hp) : Prop := match x with
  | .str _ => T = "str"
  | .int _ => T = "int"
  | .ref p => (T = "list" ∧ ∃ xs, SqL K H p xs) ∨ (T = "tuple" ∧ ∃ o, K.lookup p = some o ∧ o.cls = .type "tuple" ∧ o.dict = none) ∨
      (T = "dict" ∧ ((∃ kvs, H p = some (.dK kvs)) ∨ ∃ kvs, H p = some (.dT kvs))) ∨ (T = "set" ∧ ∃ S n, H p = some (.set S n))
  | _ => False
theorem tyV_is {pins : List (Addr × Obj)} {σ : St} {H : Hp} {s : Shared} {T : String} {x : V} {v : Value} (I : Inv X pins σ H s) (r : RelV x v) (ty : tyV X.K T x H) :
    s.TypeIs v T ∧ ∀ a, v = .ref a → ∃ ob, s.heap.get? a = some ob ∧ ob.dict = none := by
  cases x with
  | str z =>
    obtain ⟨t, rfl⟩ := r
    cases (show T = "str" from ty)
    exact ⟨typeIs_str s z t, fun _ e => nomatch e⟩
  | int i =>
    obtain ⟨t, rfl⟩ := r
    cases (show T = "int" from ty)
    exact ⟨typeIs_int s i t, fun _ e => nomatch e⟩
  | ref p =>
    cases r
    rcases ty with ⟨rfl, xs, hq⟩ | ⟨rfl, o, hk, hc, hd⟩ | ⟨rfl, hk⟩ | ⟨rfl, S, n, hk⟩
    · obtain ⟨its, _, pl, _⟩ := I.list hq
      refine ⟨pl.isList.typeIs, fun a e => ?_⟩
      cases e
      obtain ⟨o, n, e, c, hd, _⟩ := pl
      exact ⟨o, e, hd⟩
    · refine ⟨⟨o, I.kIn p o hk, hc⟩, fun a e => ?_⟩
      cases e
      exact ⟨o, I.kIn _ o hk, hd⟩
    · have z : ∃ o, s.heap.get? p = some o ∧ o.ExactDict := by
        rcases hk with ⟨kvs, hk⟩ | ⟨kvs, hk⟩
        · obtain ⟨_, _, _, _, o, _, _, e, ex, _⟩ := I.hok p _ hk
          exact ⟨o, e, ex⟩
        · obtain ⟨_, _, _, _, o, _, _, e, ex, _⟩ := I.hok p _ hk
          exact ⟨o, e, ex⟩
      obtain ⟨o, e, ex⟩ := z
      refine ⟨⟨o, e, ex.1⟩, fun a e2 => ?_⟩
      cases e2
      exact ⟨o, e, ex.2.1⟩
    · obtain ⟨o, _, _, _, e, ex, _⟩ := I.hok p _ hk
      refine ⟨⟨o, e, ex.1⟩, fun a e2 => ?_⟩
      cases e2
      exact ⟨o, e, ex.2.1⟩
  | _ => exact False.elim ty
noncomputable def tBM0 (K : PySem.W.Frag) (T : String) (r : V → List V → Hp → VK → Prop) (to : TE) : TE := fun σ H Q => to σ H fun x H1 => tyV K T x H1 ∧ r x [] H1 Q
noncomputable def tBM (K : PySem.W.Frag) (T : String) (r : V → List V → Hp → VK → Prop) (to : TE) (t : TA) : TE := fun σ H Q => to σ H fun x H1 => tyV K T x H1 ∧ t σ H1 fun xs H2 => r x xs H2 Q
variable {o e : Expr} {es : List Expr} {to : TE} {t : TA} {name : Str} {apos cpos : Pos} {T id : String} {r : V → List V → Hp → VK → Prop}
theorem pe_bm0 (pa : PlainAttrs T) (slot : Slot T name id) (hty : typeOf (.builtin id) = pure (.type "method_descriptor")) (hm : MtR X id r) (ho : PE X o to)
    (hbase : attributeBase o name X.env (eval o X.env) = eval o X.env := by rfl) (hline : (apos.endLine == cpos.line) = true := by rfl) : PE X (.Call (.Attribute o name apos) [] [] cpos) (tBM0 X.K T r to) := by
  intro pins s σ H Q I h
  refine wpAny_Call_method0_late hbase hline (thn (ho pins s σ H _ I h) fun v s1 ⟨x, H1, I1, r1, ty, q1⟩ => ?_)
  obtain ⟨h1, h2⟩ := tyV_is I1 r1 ty
  exact ⟨T, id, pa, slot, hty, h1, h2, Calls.callWith_builtin rfl (PySem.evalArgs_none (hm pins s1 σ H1 x [] v [] Q I1 r1 .nil q1))⟩
theorem pe_bm (pa : PlainAttrs T) (slot : Slot T name id) (hty : typeOf (.builtin id) = pure (.type "method_descriptor")) (hm : MtR X id r) (ho : PE X o to) (ha : PA X (e :: es) t)
    (hbase : attributeBase o name X.env (eval o X.env) = eval o X.env := by rfl)
    (hfew : ((backTo cpos (starEach (e :: es) X.env)).all (fun x => !x.1) && (backToKw cpos (keywordEach [] X.env)).all (fun x => x.1.isSome)
      && decide ((e :: es).length + ([] : List Keyword).length + (if ([] : List Keyword).isEmpty then 0 else 1) < 30)) = true := by rfl)
    (hline : (apos.endLine == cpos.line) = true := by rfl) (hs : starEach (e :: es) X.env = (false, eval e X.env) :: starEach es X.env := by rfl) (hplain : (backTo cpos (starEach es X.env)).any (·.1) = false := by rfl) :
    PE X (.Call (.Attribute o name apos) (e :: es) [] cpos) (tBM X.K T r to t) := by
  intro pins s σ H Q I h
  refine wpAny_Call_method_late hbase hfew hline rfl (thn (ho pins s σ H _ I h) fun v s1 ⟨x, H1, I1, r1, ty, q1⟩ => ?_)
  obtain ⟨h1, h2⟩ := tyV_is I1 r1 ty
  refine ⟨T, id, pa, slot, hty, h1, h2, ?_⟩
  have hA := ha cpos pins s1 σ H1 _ I1 q1
  rw [hs] at hA ⊢
  refine Calls.callWith_builtin (by show (false || (backTo cpos (starEach es X.env)).any (·.1)) = false; rw [hplain] <;> rfl) (Calls.evalArgs_plain ?_)
  exact thn hA fun us s2 ⟨vs, H2, I2, r2, q2⟩ => hm pins s2 σ H2 x vs v us Q I2 r1 r2 q2
end
end L2
namespace L2
open PySem PySem.Spec PyProof.Rows
noncomputable def MtM (X : Cx) (id : String) (r : V → List V → Hp → VK → Prop) : Prop :=
  ∀ (pins : List (Addr × Obj)) (s : Shared) (σ : St) (H : Hp) (x : V) (xs : List V) (v : Value) (us : List Value) (Q : VK), Inv X pins σ H s → RelV x v → Vals xs us → r x xs H Q →
    wpAny (model X.prog X.w) X.A (call (.builtin id) (v :: us)) (EP X pins σ Q) X.xe s
theorem Vals.one : ∀ {x : V} {us : List Value}, Vals [x] us → ∃ u, us = [u] ∧ RelV x u
  | _, _, .cons r .nil => ⟨_, rfl, r⟩
theorem Vals.zero : ∀ {us : List Value}, Vals [] us → us = []
  | _, .nil => rfl
theorem Vals.reverse {xs : List V} {us : List Value} (h : Vals xs us) : Vals xs.reverse us.reverse := by
  induction h with
  | nil => exact .nil
  | cons r t ih => rw [List.reverse_cons, List.reverse_cons]; exact Vals.append ih (.cons r .nil)
theorem Vals.rep {xs : List V} {us : List Value} (h : Vals xs us) : ∀ k : Nat, Vals (List.replicate k xs).flatten (List.replicate k us).flatten
  | 0 => .nil
  | k + 1 => by
    rw [List.replicate_succ, List.replicate_succ, List.flatten_cons, List.flatten_cons]
    exact Vals.append h (Vals.rep h k)
theorem foldl_rep (its : List Value) : ∀ (k : Nat) (acc : List Value),
    List.foldl (fun x1 x2 => x1 ++ x2) acc.toArray (List.replicate k its.toArray) = (acc ++ (List.replicate k its).flatten).toArray
  | 0, acc => by simp
  | k + 1, acc => by
    have e : acc.toArray ++ its.toArray = (acc ++ its).toArray := by simp
    have e2 : (acc ++ its) ++ (List.replicate k its).flatten = acc ++ (List.replicate (k + 1) its).flatten := by
      rw [List.replicate_succ, List.flatten_cons, List.append_assoc]
    rw [← e2, ← foldl_rep its k (acc ++ its), ← e, List.replicate_succ, List.foldl_cons]
section
variable {X : Cx} {pins : List (Addr × Obj)} {σ : St} {H : Hp} {s : Shared} {l b : Addr} {xs ys zs : List V}
theorem Inv.lset {its its' : List Value} {n : Nat} {f : Array Value → Array Value} {t' : Nat} (I : Inv X pins σ H s) (hH : H l = some (.lst xs))
    (e : s.heap.get? l = some { cls := .type "list", data := .seq its.toArray n }) (hf : f its.toArray = its'.toArray) (hv : Vals ys its') (hz : ys.length ≤ sizeLine) :
    Inv X pins σ (upd H l (.lst ys)) { s with heap := s.heap.update l (Obj.mapSeq f), toks := t' } := by
  have q := PySem.IsL.update e f
  rw [hf] at q
  refine I.write (x := l) (e := l) (by rw [hH]; exact trivial) (.inl rfl) (fun b' u hb hu => (Heap.get?_update_other s.heap (Obj.mapSeq f) (Ne.symm hb)).trans hu) ⟨_, q⟩ ?_
  exact ⟨hz, its', _, hv, q⟩
theorem Inv.lnew {its : List Value} {t' : Nat} (I : Inv X pins σ H s) (hv : Vals ys its) (hz : ys.length ≤ sizeLine) :
    Inv X pins σ (upd H s.heap.objs.size (.lst ys)) { s with heap := s.heap.push { cls := .type "list", data := .seq its.toArray }, toks := t' } :=
  I.laid (fun _ _ q => Heap.get?_push_of_some _ q) (Nat.le_refl _) ⟨hz, its, 0, hv, Heap.get?_push_size _ rfl⟩
theorem Inv.fresh (I : Inv X pins σ H s) : H s.heap.objs.size = none := I.hok.fresh (Nat.le_refl _)
theorem Inv.lstM (I : Inv X pins σ H s) (hH : H l = some (.lst xs)) : xs.length ≤ sizeLine ∧ ∃ (its : List Value) (n : Nat), Vals xs its ∧ xs.length = its.length ∧ s.heap.get? l = some { cls := .type "list", data := .seq its.toArray n } := by
  obtain ⟨z, its, n, r, e⟩ := I.hok l _ hH
  exact ⟨z, its, n, r, r.length, e⟩
theorem notLongL {n : Nat} (h : n ≤ sizeLine) : Builtin.List.listTooLong n = false := by
  unfold Builtin.List.listTooLong
  exact decide_eq_false (by omega)
end
section
variable {X : Cx}
noncomputable def rAppend : V → List V → Hp → VK → Prop := fun x vs H Q => ∃ l xs y, x = .ref l ∧ vs = [y] ∧ H l = some (.lst xs) ∧ xs.length < sizeLine ∧ Q .non (upd H l (.lst (xs ++ [y])))
theorem mt_append : MtM X "list.append" rAppend := by
  intro pins s σ H x vs v us Q I rx rv h
  obtain ⟨l, xs, y, rfl, rfl, hH, hz, q⟩ := h
  cases rx
  obtain ⟨u, rfl, ru⟩ := rv.one
  obtain ⟨z, its, n, r, hl, e⟩ := I.lstM hH
  refine call_meets F.slot_list_append ⟨_, e, rfl⟩ F.entry_list_append (F.args_list_append_2 _ _) (PySem.list_append l its.toArray n u (by rw [List.size_toArray]; omega)) ⟨e, ?_⟩
  refine ⟨.non, _, I.lset (its' := its ++ [u]) hH e (by simp) (r.append (.cons ru .nil)) ?_, rfl, q⟩
  rw [List.length_append, List.length_singleton]
  omega
noncomputable def rReverse : V → List V → Hp → VK → Prop := fun x vs H Q => ∃ l xs, x = .ref l ∧ vs = [] ∧ H l = some (.lst xs) ∧ Q .non (upd H l (.lst xs.reverse))
theorem mt_reverse : MtM X "list.reverse" rReverse := by
  intro pins s σ H x vs v us Q I rx rv h
  obtain ⟨l, xs, rfl, rfl, hH, q⟩ := h
  cases rx
  have hus := rv.zero
  subst hus
  obtain ⟨z, its, n, r, hl, e⟩ := I.lstM hH
  refine call_meets F.slot_list_reverse ⟨_, e, rfl⟩ F.entry_list_reverse (F.args_list_reverse_1 _) (AutoSeq1.list_reverse_list_0 l its.toArray n (by rw [List.size_toArray]; omega)) ⟨e, ?_⟩
  refine ⟨.non, _, I.lset (its' := its.reverse) hH e (by simp) r.reverse ?_, rfl, q⟩
  rw [List.length_reverse]
  omega
noncomputable def rClear : V → List V → Hp → VK → Prop := fun x vs H Q => ∃ l xs, x = .ref l ∧ vs = [] ∧ H l = some (.lst xs) ∧ Q .non (upd H l (.lst []))
theorem mt_clear : MtM X "list.clear" rClear := by
  intro pins s σ H x vs v us Q I rx rv h
  obtain ⟨l, xs, rfl, rfl, hH, q⟩ := h
  cases rx
  have hus := rv.zero
  subst hus
  obtain ⟨z, its, n, r, hl, e⟩ := I.lstM hH
  refine call_meets F.slot_list_clear ⟨_, e, rfl⟩ F.entry_list_clear (F.args_list_clear_1 _) (AutoSeq1.list_clear_list_0 l its.toArray n (by rw [List.size_toArray]; omega)) ⟨e, ?_⟩
  exact ⟨.non, _, I.lset (its' := []) (ys := []) hH e rfl .nil (Nat.zero_le _), rfl, q⟩
noncomputable def rCat : R2 := fun x y H Q => ∃ l b xs zs, x = .ref l ∧ y = .ref b ∧ H l = some (.lst xs) ∧ H b = some (.lst zs) ∧ xs.length + zs.length ≤ sizeLine ∧ ∀ p, H p = none → Q (.ref p) (upd H p (.lst (xs ++ zs)))
theorem op_cat : OpR X (binaryOp .Add) rCat := by
  intro pins s σ H x y v u Q I rx ry h
  obtain ⟨l, b, xs, zs, rfl, rfl, hH, hB, hz, q⟩ := h
  cases rx
  cases ry
  obtain ⟨z, its, n, r, hl, e⟩ := I.lstM hH
  obtain ⟨z2, its2, n2, r2, hl2, e2⟩ := I.lstM hB
  refine PySem.P.add_list e e2 ?_ (by rw [List.size_toArray, List.size_toArray]; omega)
  have ea : its.toArray ++ its2.toArray = (its ++ its2).toArray := by simp
  rw [ea]
  exact ⟨.ref _, _, I.lnew (t' := s.toks) (r.append r2) (by rw [List.length_append]; omega), rfl, q _ I.fresh⟩
noncomputable def rRep : R2 := fun x y H Q => ∃ l k xs, x = .ref l ∧ y = .int k ∧ H l = some (.lst xs) ∧ -(2 ^ 63) ≤ k ∧ k < 2 ^ 63 ∧ xs.length * k.toNat ≤ sizeLine ∧
  ∀ p, H p = none → Q (.ref p) (upd H p (.lst (List.replicate k.toNat xs).flatten))
theorem len_rep {α : Type} (xs : List α) (k : Nat) : (List.replicate k xs).flatten.length = k * xs.length := by
  induction k with
  | zero => simp
  | succ k ih => rw [List.replicate_succ, List.flatten_cons, List.length_append, ih, Nat.succ_mul, Nat.add_comm]
theorem op_rep : OpR X (binaryOp .Mult) rRep := by
  intro pins s σ H x y v u Q I rx ry h
  obtain ⟨l, k, xs, rfl, rfl, hH, h1, h2, hz, q⟩ := h
  cases rx
  obtain ⟨t, rfl⟩ := ry
  obtain ⟨z, its, n, r, hl, e⟩ := I.lstM hH
  have hlen : its.toArray.size * k.toNat ≤ sizeLine := by rw [List.size_toArray, ← hl]; exact hz
  have hcap : ¬ its.toArray.size * k.toNat > (2 ^ 63 - 1) / 8 := by
    have : (sizeLine : Nat) ≤ (2 ^ 63 - 1) / 8 := by decide
    omega
  have hfit : ¬ (!Builtin.List.listFitsIndex k) = true := by
    rw [fitsIndex_both h1 h2]
    exact Bool.false_ne_true
  have hlong : ¬ Builtin.List.listTooLong (its.toArray.size * k.toNat) = true := by
    rw [notLongL hlen]
    exact Bool.false_ne_true
  have hnew : List.foldl (fun x1 x2 => x1 ++ x2) #[] (List.replicate (if its.toArray.isEmpty = true then 0 else k.toNat) its.toArray) = (List.replicate k.toNat its).flatten.toArray := by
    have f0 : ∀ m : Nat, List.foldl (fun x1 x2 => x1 ++ x2) #[] (List.replicate m its.toArray) = (List.replicate m its).flatten.toArray := fun m => by
      have := foldl_rep its m []
      rw [List.nil_append] at this
      exact this
    rw [f0]
    cases its with
    | nil => simp
    | cons a r' => rw [if_neg (by simp)]
  refine wpAny_binaryOp_repeat_ref (T := "list") (U := "int") (by decide) ⟨_, e, rfl⟩ (fun s' => typeIs_int s' k t) noFill_list_mul F.fills_int_mul F.slot_int_rmul repeat_list F.slot_int_index.lookup
    (call_meets F.slot_int_rmul (typeIs_int s k t) F.entry_int_rmul (F.args_int_rmul_2 _ _) (int___rmul___int_list k t l its.toArray n)
      ⟨e, rfl, ⟨_, e, rfl⟩, call_meets F.slot_list_mul ⟨_, e, rfl⟩ F.entry_list_mul (F.args_list_mul_2 _ _) (AutoListH.list___mul___list_int_3 l its.toArray n k t hfit hcap hlong) ⟨e, ?_⟩⟩)
  rw [hnew]
  exact ⟨.ref _, _, I.lnew (t' := s.toks) (r.rep k.toNat) (by rw [len_rep, Nat.mul_comm]; exact hz), rfl, q _ I.fresh⟩
end
end L2
namespace L2
open PySem PySem.Spec PyProof.Rows
section
variable {κ : Type} [DecidableEq κ]
noncomputable def valV (kvs : List (κ × V)) (k : κ) : Option V := (kvs.find? fun kv => decide (kv.1 = k)).map (·.2)
noncomputable def putK (kvs : List (κ × V)) (k : κ) (v : V) : List (κ × V) :=
  if (kvs.any fun kv => decide (kv.1 = k)) = true then kvs.map (fun kv => if kv.1 = k then (kv.1, v) else kv) else kvs ++ [(k, v)]
theorem valV_nil {k : κ} : valV ([] : List (κ × V)) k = none := rfl
theorem valV_pos {p : κ × V} {r : List (κ × V)} {k : κ} (e : p.1 = k) : valV (p :: r) k = some p.2 := by simp [valV, List.find?_cons, e]
theorem valV_neg {p : κ × V} {r : List (κ × V)} {k : κ} (e : ¬ p.1 = k) : valV (p :: r) k = valV r k := by simp [valV, List.find?_cons, e]
theorem valV_any (k : κ) : ∀ kvs : List (κ × V), (kvs.any fun kv => decide (kv.1 = k)) = (valV kvs k).isSome
  | [] => rfl
  | p :: r => by
    rw [List.any_cons]
    by_cases e : p.1 = k
    · simp only [valV_pos e, decide_eq_true e, Bool.true_or, Option.isSome_some]
    · rw [valV_neg e, decide_eq_false e, Bool.false_or]; exact valV_any k r
theorem valV_map (k j : κ) (y : V) : ∀ kvs : List (κ × V), valV (kvs.map fun kv => if kv.1 = k then (kv.1, y) else kv) j = (valV kvs j).map fun x => if j = k then y else x
  | [] => rfl
  | p :: r => by
    have ih := valV_map k j y r
    rw [List.map_cons]
    by_cases h : p.1 = k
    · rw [if_pos h]
      by_cases e : p.1 = j
      · rw [valV_pos (p := (p.1, y)) e, valV_pos e, Option.map_some, if_pos (e.symm.trans h)]
      · rw [valV_neg (p := (p.1, y)) e, valV_neg e, ih]
    · rw [if_neg h]
      by_cases e : p.1 = j
      · rw [valV_pos (p := p) e, valV_pos e, Option.map_some, if_neg (fun z => h (e.trans z))]
      · rw [valV_neg (p := p) e, valV_neg e, ih]
theorem valV_snoc (k j : κ) (y : V) : ∀ kvs : List (κ × V), valV kvs k = none → valV (kvs ++ [(k, y)]) j = if j = k then some y else valV kvs j
  | [], _ => by
    by_cases e : k = j
    · rw [if_pos e.symm]; exact valV_pos (p := (k, y)) e
    · rw [if_neg (fun z => e z.symm)]; exact valV_neg (p := (k, y)) e
  | p :: r, hn => by
    rw [List.cons_append]
    have hk : ¬ p.1 = k := fun z => by rw [valV_pos z] at hn; cases hn
    rw [valV_neg hk] at hn
    have ih := valV_snoc k j y r hn
    by_cases e : p.1 = j
    · rw [valV_pos e, valV_pos e, if_neg (fun z => hk (e.trans z))]
    · rw [valV_neg e, valV_neg e, ih]
theorem valV_put (kvs : List (κ × V)) (k j : κ) (y : V) : valV (putK kvs k y) j = if j = k then some y else valV kvs j := by
  unfold putK
  by_cases a : (kvs.any fun kv => decide (kv.1 = k)) = true
  · rw [if_pos a, valV_map]
    rw [valV_any] at a
    by_cases e : j = k
    · obtain ⟨x, hx⟩ := Option.isSome_iff_exists.mp a
      rw [if_pos e, e, hx, Option.map_some, if_pos rfl]
    · rw [if_neg e]
      cases valV kvs j with
      | none => rfl
      | some x => rw [Option.map_some, if_neg e]
  · rw [if_neg a]
    refine valV_snoc k j y kvs ?_
    rw [valV_any] at a
    cases q : valV kvs k with
    | none => rfl
    | some x => rw [q] at a; exact (a rfl).elim
theorem length_putK (kvs : List (κ × V)) (k : κ) (v : V) : (putK kvs k v).length ≤ kvs.length + 1 := by
  unfold putK
  split
  · rw [List.length_map]; omega
  · rw [List.length_append, List.length_cons, List.length_nil]; omega
theorem putK_new {kvs : List (κ × V)} {k : κ} (v : V) (h : valV kvs k = none) : putK kvs k v = kvs ++ [(k, v)] := by
  unfold putK
  rw [valV_any, h]
  exact if_neg (by decide)
theorem RelO.isSome_eq {o : Option V} {u : Option Value} (r : RelO o u) : o.isSome = u.isSome := by
  cases o with
  | none => cases u with
    | none => rfl
    | some _ => exact (show False from r).elim
  | some _ => cases u with
    | none => exact (show False from r).elim
    | some _ => rfl
theorem KV.val {kvs : List (κ × V)} {vs : List (κ × Value)} (r : KV kvs vs) (k : κ) : RelO (valV kvs k) (valueAt vs k) := by
  unfold KV at r
  induction r with
  | nil => exact True.intro
  | @cons p q ps qs h t ih =>
    obtain ⟨h1, h2⟩ := h
    by_cases e : p.1 = k
    · have e' : q.1 = k := h1.symm.trans e
      have b : valueAt (q :: qs) k = some q.2 := by simp [valueAt, List.find?_cons, e']
      rw [valV_pos e, b]; exact h2
    · have e' : ¬ q.1 = k := fun z => e (h1.trans z)
      have b : valueAt (q :: qs) k = valueAt qs k := by simp [valueAt, List.find?_cons, e']
      rw [valV_neg e, b]; exact ih
theorem KV.any {kvs : List (κ × V)} {vs : List (κ × Value)} (r : KV kvs vs) (k : κ) : (kvs.any fun kv => decide (kv.1 = k)) = vs.any fun kv => decide (kv.1 = k) := by
  unfold KV at r
  induction r with
  | nil => rfl
  | cons h t ih => rw [List.any_cons, List.any_cons, ih, h.1]
theorem KV.repl {kvs : List (κ × V)} {vs : List (κ × Value)} (r : KV kvs vs) (k : κ) {y : V} {u : Value} (ry : RelV y u) :
    KV (kvs.map fun kv => if kv.1 = k then (kv.1, y) else kv) (vs.map fun kv => if kv.1 = k then (kv.1, u) else kv) := by
  unfold KV at r ⊢
  induction r with
  | nil => exact .nil
  | @cons p q ps qs h t ih =>
    rw [List.map_cons, List.map_cons]
    refine .cons ?_ ih
    obtain ⟨h1, h2⟩ := h
    by_cases e : p.1 = k
    · rw [if_pos e, if_pos (h1.symm.trans e)]; exact ⟨h1, ry⟩
    · rw [if_neg e, if_neg (fun z => e (h1.trans z))]; exact ⟨h1, h2⟩
theorem KV.put {kvs : List (κ × V)} {vs : List (κ × Value)} (r : KV kvs vs) (k : κ) {y : V} {u : Value} (ry : RelV y u) : KV (putK kvs k y) (stored vs k u) := by
  unfold putK stored
  rw [r.any k]
  by_cases e : (vs.any fun kv => decide (kv.1 = k)) = true
  · rw [if_pos e, if_pos e]; exact r.repl k ry
  · rw [if_neg e, if_neg e]; exact Paired.snoc r ⟨rfl, ry⟩
theorem KV.length {kvs : List (κ × V)} {vs : List (κ × Value)} (r : KV kvs vs) : kvs.length = vs.length := Paired.length r
end
theorem kV_is {P : Program} {w : World} {k : Key} {u : Value} (r : RelV (kV k) u) : (mixKind P w).is k u = true := by
  cases k with
  | inl i => obtain ⟨t, e⟩ := (show ∃ t, u = Value.int i t from r); subst e; exact mixKind_int P w i t
  | inr x => obtain ⟨t, e⟩ := (show ∃ t, u = Value.str x t from r); subst e; exact mixKind_str P w x t
theorem items_are {P : Program} {w : World} : ∀ {ks : List Key} {us : List Value}, Vals (ks.map kV) us → ItemsAre (mixKind P w) ks us
  | [], _, r => by rw [List.map_nil] at r; cases r; exact .nil
  | k :: ks, _, r => by
    rw [List.map_cons] at r
    cases r with
    | cons h t => exact .cons (kV_is h) (items_are t)
noncomputable abbrev KT (H : Hp) : List (List Key × V) → List (List Key × Addr × Value) → Prop := Paired fun p q => p.1 = q.1 ∧ H q.2.1 = some (.tup (p.1.map kV)) ∧ RelV p.2 q.2.2
theorem KT.val {H : Hp} {kvs : List (List Key × V)} {xs : List (List Key × Addr × Value)} (r : KT H kvs xs) (k : List Key) : RelO (valV kvs k) ((atKey xs k).map (·.2)) := by
  induction r with
  | nil => exact True.intro
  | @cons p q ps qs h t ih =>
    obtain ⟨h1, _, h2⟩ := h
    by_cases e : p.1 = k
    · have e' : q.1 = k := h1.symm.trans e
      have b : atKey (q :: qs) k = some q.2 := by simp [atKey, List.find?_cons, e']
      rw [valV_pos e, b]; exact h2
    · have e' : ¬ q.1 = k := fun z => e (h1.trans z)
      have b : atKey (q :: qs) k = atKey qs k := by simp [atKey, List.find?_cons, e']
      rw [valV_neg e, b]; exact ih
theorem KT.repl {H : Hp} {kvs : List (List Key × V)} {xs : List (List Key × Addr × Value)} (r : KT H kvs xs) (k : List Key) {y : V} {u : Value} (ry : RelV y u) :
    KT H (kvs.map fun kv => if kv.1 = k then (kv.1, y) else kv) (xs.map (putAt k u)) := by
  induction r with
  | nil => exact .nil
  | @cons p q ps qs h t ih =>
    rw [List.map_cons, List.map_cons]
    refine .cons ?_ ih
    obtain ⟨h1, h2, h3⟩ := h
    unfold putAt
    by_cases e : p.1 = k
    · rw [if_pos e, if_pos (h1.symm.trans e)]; exact ⟨h1, h2, ry⟩
    · rw [if_neg e, if_neg (fun z => e (h1.trans z))]; exact ⟨h1, h2, h3⟩
theorem KT.put {H : Hp} {kvs : List (List Key × V)} {xs : List (List Key × Addr × Value)} (r : KT H kvs xs) (k : List Key) {b : Addr} {y : V} {u : Value} (hb : H b = some (.tup (k.map kV))) (ry : RelV y u) :
    KT H (putK kvs k y) (storedH xs k b u) := by
  have e : (kvs.any fun kv => decide (kv.1 = k)) = (atKey xs k).isSome := by
    rw [valV_any, (r.val k).isSome_eq, Option.isSome_map]
  unfold putK storedH
  rw [e]
  by_cases q : (atKey xs k).isSome = true
  · rw [if_pos q, if_pos q]; exact r.repl k ry
  · rw [if_neg q, if_neg q]; exact Paired.snoc r ⟨rfl, hb, ry⟩
theorem KT.keeps {H H' : Hp} {kvs : List (List Key × V)} {xs : List (List Key × Addr × Value)} (r : KT H kvs xs) (ht : ∀ b ys, H b = some (.tup ys) → H' b = some (.tup ys)) : KT H' kvs xs :=
  Paired.mapP r fun _ _ z => ⟨z.1, ht _ _ z.2.1, z.2.2⟩
section
variable {P : Program} {w : World} {H : Hp} {h : Heap} {a : Addr}
theorem rd_of {u : HO} (ok : HOk P w H h) (e : Rd H a u) : ObjOk P w H h a u := e.ok ok
theorem dk_rd {kvs : List (Key × V)} (ok : HOk P w H h) (e : Rd H a (.dK kvs)) : kvs.length ≤ sizeLine ∧ (a == sysModules) = false ∧ ∃ vs, KV kvs vs ∧ h.DictOf (mixKind P w) a vs :=
  show ObjOk P w H h a (.dK kvs) from rd_of ok e
theorem dk_of {kvs : List (Key × V)} (ok : HOk P w H h) (e : H a = some (.dK kvs)) : kvs.length ≤ sizeLine ∧ (a == sysModules) = false ∧ ∃ vs, KV kvs vs ∧ h.DictOf (mixKind P w) a vs := dk_rd ok (.inl e)
theorem key_of {ks : List Key} (ok : HOk P w H h) (e : H a = some (.tup (ks.map kV))) : (tupleKind (mixKind P w)).is h ks a := by
  obtain ⟨_, its, r, o, h1, h2, n, h3, _⟩ := (show ObjOk P w H h a (.tup (ks.map kV)) from ok a _ e)
  exact ⟨o, its.toArray, n, h1, h2, h3, by simpa using items_are r⟩
theorem dt_rd {kvs : List (List Key × V)} (ok : HOk P w H h) (e : Rd H a (.dT kvs)) : kvs.length ≤ sizeLine ∧ (a == sysModules) = false ∧
    ∃ xs, KT H kvs xs ∧ h.DictOfH (tupleKind (mixKind P w)) a xs := by
  obtain ⟨z, y, xs, r, o, es, ep, h1, h2, h3, h4, h5⟩ := (show ObjOk P w H h a (.dT kvs) from rd_of ok e)
  refine ⟨z, y, xs, r, o, es, ep, h1, h2, h3, h4, fun x hx => ?_, h5⟩
  have all : ∀ {l : List (List Key × V)} {m : List (List Key × Addr × Value)}, KT H l m → ∀ x ∈ m, (tupleKind (mixKind P w)).is h x.1 x.2.1 := by
    intro l m q
    induction q with
    | nil => intro x hx; exact nomatch hx
    | @cons p q ps qs hq t ih =>
      intro x hx
      rcases List.mem_cons.mp hx with e | hx
      · subst e
        exact key_of ok (by rw [← hq.1]; exact hq.2.1)
      · exact ih x hx
  exact all r x hx
theorem dt_of {kvs : List (List Key × V)} (ok : HOk P w H h) (e : H a = some (.dT kvs)) : kvs.length ≤ sizeLine ∧ (a == sysModules) = false ∧
    ∃ xs, KT H kvs xs ∧ h.DictOfH (tupleKind (mixKind P w)) a xs := dt_rd ok (.inl e)
end
noncomputable def DGet (H : Hp) (a : Addr) (y : V) (r : Option V) : Prop :=
  (∃ kvs k, Rd H a (.dK kvs) ∧ y = kV k ∧ r = valV kvs k) ∨ ∃ kvs k b, Rd H a (.dT kvs) ∧ y = .ref b ∧ H b = some (.tup (k.map kV)) ∧ r = valV kvs k
noncomputable def DPut (H : Hp) (a : Addr) (y v : V) (H' : Hp) : Prop :=
  (∃ kvs k, H a = some (.dK kvs) ∧ y = kV k ∧ kvs.length < sizeLine ∧ H' = upd H a (.dK (putK kvs k v))) ∨
  ∃ kvs k b, H a = some (.dT kvs) ∧ y = .ref b ∧ H b = some (.tup (k.map kV)) ∧ kvs.length < sizeLine ∧ H' = upd H a (.dT (putK kvs k v))
theorem DGet.k {H : Hp} {a : Addr} {kvs : List (Key × V)} {k : Key} (e : H a = some (.dK kvs)) : DGet H a (kV k) (valV kvs k) := .inl ⟨kvs, k, .inl e, rfl, rfl⟩
theorem DPut.k {H : Hp} {a : Addr} {kvs : List (Key × V)} {k : Key} {v : V} (e : H a = some (.dK kvs)) (hl : kvs.length < sizeLine) : DPut H a (kV k) v (upd H a (.dK (putK kvs k v))) := .inl ⟨kvs, k, e, rfl, hl, rfl⟩
theorem DPut.t {H : Hp} {a b : Addr} {kvs : List (List Key × V)} {k : List Key} {v : V} (e : H a = some (.dT kvs)) (eb : H b = some (.tup (k.map kV))) (hl : kvs.length < sizeLine) :
    DPut H a (.ref b) v (upd H a (.dT (putK kvs k v))) := .inr ⟨kvs, k, b, e, rfl, eb, hl, rfl⟩
section
variable {X : Cx} {pins : List (Addr × Obj)} {σ : St} {H : Hp} {s : Shared} {a : Addr} {y v : V} {u r : Value} {o : Option V} {A : Around} {E : Value → Shared → Prop}
theorem Inv.big (I : Inv X pins σ H s) : sysModules < s.heap.objs.size := by
  have h : mainGlobals < s.heap.objs.size := (I.mod.glob.keeps I.bk).lt
  exact Nat.lt_trans (by decide) h
theorem d_getItem {Q : Value → Shared → Prop} (hu : A.units + 1 < cLine) (I : Inv X pins σ H s) (g : DGet H a y (some v)) (ry : RelV y u) (h : ∀ w' s', Inv X pins σ H s' → RelV v w' → Q w' s') :
    wpAny (model X.prog X.w) A (getItem (.ref a) u) Q E s := by
  rcases g with ⟨kvs, k, e, ey, l⟩ | ⟨kvs, k, b, e, ey, eb, l⟩
  · subst ey
    obtain ⟨z, hd, vs, rel, dd⟩ := dk_rd I.hok e
    obtain ⟨w', hw, rw'⟩ := RelO.some_of (v := v) (o := valueAt vs k) (by rw [l]; exact rel.val k)
    exact wpAny_getItem_of (kV_is ry) dd.mapOf hw (h w' _ (I.tok _) rw')
  · subst ey
    cases (show u = Value.ref b from ry)
    obtain ⟨z, hd, xs, rel, dd⟩ := dt_rd I.hok e
    obtain ⟨w', hw, rw'⟩ := RelO.some_of (v := v) (o := (atKey xs k).map (·.2)) (by rw [l]; exact rel.val k)
    obtain ⟨p, hp, hp2⟩ := Option.map_eq_some_iff.mp hw
    refine wpAny_getItem_heap (tupleKind_room_in1 hu) (key_of I.hok eb) dd hp ?_
    rw [hp2]
    exact h w' _ (I.tok _) rw'
theorem d_in {Q : Value → Shared → Prop} (hu : A.units + 1 < cLine) (I : Inv X pins σ H s) (g : DGet H a y o) (ry : RelV y u) (h : ∀ s', Inv X pins σ H s' → Q (.bool o.isSome) s') :
    wpAny (model X.prog X.w) A (compareOp .In u (.ref a)) Q E s := by
  rcases g with ⟨kvs, k, e, ey, l⟩ | ⟨kvs, k, b, e, ey, eb, l⟩
  · subst ey
    obtain ⟨z, hd, vs, rel, dd⟩ := dk_rd I.hok e
    refine wpAny_in_of (kV_is ry) hd dd.mapOf ?_
    rw [← (rel.val k).isSome_eq, ← l]
    exact h _ (I.tok _)
  · subst ey
    cases (show u = Value.ref b from ry)
    obtain ⟨z, hd, xs, rel, dd⟩ := dt_rd I.hok e
    refine wpAny_in_heap (tupleKind_room_in1 hu) (key_of I.hok eb) hd dd ?_
    have q := (rel.val k).isSome_eq
    rw [Option.isSome_map] at q
    rw [← q, ← l]
    exact h _ (I.tok _)
theorem d_notIn {Q : Value → Shared → Prop} (hu : A.units + 1 < cLine) (I : Inv X pins σ H s) (g : DGet H a y o) (ry : RelV y u) (h : ∀ s', Inv X pins σ H s' → Q (.bool (!o.isSome)) s') :
    wpAny (model X.prog X.w) A (compareOp .NotIn u (.ref a)) Q E s := by
  rcases g with ⟨kvs, k, e, ey, l⟩ | ⟨kvs, k, b, e, ey, eb, l⟩
  · subst ey
    obtain ⟨z, hd, vs, rel, dd⟩ := dk_rd I.hok e
    refine wpAny_notIn_of (kV_is ry) hd dd.mapOf ?_
    rw [← (rel.val k).isSome_eq, ← l]
    exact h _ (I.tok _)
  · subst ey
    cases (show u = Value.ref b from ry)
    obtain ⟨z, hd, xs, rel, dd⟩ := dt_rd I.hok e
    refine wpAny_notIn_heap (tupleKind_room_in1 hu) (key_of I.hok eb) hd dd ?_
    have q := (rel.val k).isSome_eq
    rw [Option.isSome_map] at q
    rw [← q, ← l]
    exact h _ (I.tok _)
theorem d_write {h' : Heap} {t' : Nat} {ob : HO} (I : Inv X pins σ H s) (mu : Mut (H a)) (hs : Heap.SameBut a s.heap h') (he : ∃ q, h'.get? a = some q) (new : ObjOk X.prog X.w (upd H a ob) h' a ob) :
    Inv X pins σ (upd H a ob) { s with heap := h', toks := t' } :=
  I.write (x := a) (e := a) mu (.inl rfl) (fun b q hb z => (hs.2 b hb).trans z) he new
theorem dk_new {P : Program} {w : World} {H' : Hp} {h' : Heap} {kvs : List (Key × V)} {vs : List (Key × Value)} (z : kvs.length ≤ sizeLine) (hd : (a == sysModules) = false) (rel : KV kvs vs) (dd : h'.DictOf (mixKind P w) a vs) :
    ObjOk P w H' h' a (.dK kvs) := ⟨z, hd, vs, rel, dd⟩
theorem d_setItem {H' : Hp} {Q : Unit → Shared → Prop} (hu : A.units + 1 < cLine) (I : Inv X pins σ H s) (g : DPut H a y v H') (ry : RelV y u) (rv : RelV v r) (h : ∀ s', Inv X pins σ H' s' → Q () s') :
    wpAny (model X.prog X.w) A (setItem (.ref a) u r) Q E s := by
  rcases g with ⟨kvs, k, e, ey, l, eH⟩ | ⟨kvs, k, b, e, ey, eb, l, eH⟩
  · subst ey eH
    obtain ⟨z, hd, vs, rel, dd⟩ := dk_of I.hok e
    have hz : vs.length ≤ sizeLine := by rw [← rel.length]; exact z
    have hl : (putK kvs k v).length ≤ sizeLine := by have := length_putK kvs k v; omega
    refine wpAny_setItem_pairs (hsz := hz) (kV_is ry) dd fun h' dd' hs => h _ ?_
    have he : ∃ q, h'.get? a = some q := let ⟨q, _, _, hq, _⟩ := dd'; ⟨q, hq⟩
    exact d_write I (by rw [e]; exact True.intro) hs he (dk_new hl hd (rel.put k rv) dd')
  · subst ey eH
    cases (show u = Value.ref b from ry)
    obtain ⟨z, hd, xs, rel, dd⟩ := dt_of I.hok e
    have hz : xs.length ≤ sizeLine := by rw [← Paired.length rel]; exact z
    have hl : (putK kvs k v).length ≤ sizeLine := by have := length_putK kvs k v; omega
    refine wpAny_setItem_heap (hsz := hz) (tupleKind_room_in1 hu) (key_of I.hok eb) dd fun h' dd' hs => h _ ?_
    obtain ⟨q, es, ep, hq, h2, h3, h4, _, h5⟩ := dd'
    refine d_write I (by rw [e]; exact True.intro) hs ⟨q, hq⟩ ⟨hl, hd, _, (rel.put k eb rv).keeps fun c ys ec => ?_, q, es, ep, hq, h2, h3, h4, h5⟩
    rw [upd_ne (ne_of ec e (fun z => nomatch z))]
    exact ec
end
section
variable {X : Cx} {pins : List (Addr × Obj)} {σ : St} {H : Hp} {s : Shared} {a : Addr} {kvs : List (Key × V)} {k : Key} {u : Value} {A : Around} {E : Value → Shared → Prop}
theorem d_len {Q : Value → Shared → Prop} (I : Inv X pins σ H s) (e : Rd H a (.dK kvs)) (h : ∀ t s', Inv X pins σ H s' → Q (.int kvs.length t) s') : wpAny (model X.prog X.w) A (call (.builtin "len") [.ref a]) Q E s := by
  obtain ⟨z, hd, vs, rel, dd⟩ := dk_rd I.hok e
  refine call_len_dict hd dd (by rw [← rel.length]; rw [sizeLine_eq] at z; omega) ?_
  rw [← rel.length]
  exact h _ _ (I.tok _)
end
theorem dict_typeIs {X : Cx} {pins : List (Addr × Obj)} {σ : St} {H : Hp} {s : Shared} {a : Addr} {y : V} {o : Option V} (I : Inv X pins σ H s) (g : DGet H a y o) : s.TypeIs (.ref a) "dict" := by
  rcases g with ⟨kvs, k, e, _, _⟩ | ⟨kvs, k, b, e, _, _, _⟩
  · obtain ⟨_, _, vs, _, dd⟩ := dk_rd I.hok e
    exact dd.typeIs
  · obtain ⟨_, _, xs, _, dd⟩ := dt_rd I.hok e
    exact dd.typeIs
theorem dk_empty {P : Program} {w : World} {H : Hp} (h : Heap) (hb : sysModules < h.objs.size) : ObjOk P w H (h.push { cls := .type "dict", data := .dict #[] }) h.objs.size (.dK []) :=
  ⟨Nat.zero_le _, beq_eq_false_iff_ne.mpr (Ne.symm (Nat.ne_of_lt hb)), [], .nil, Heap.DictOf.new h⟩
theorem dt_empty {P : Program} {w : World} {H : Hp} (h : Heap) (hb : sysModules < h.objs.size) : ObjOk P w H (h.push { cls := .type "dict", data := .dict #[] }) h.objs.size (.dT []) :=
  ⟨Nat.zero_le _, beq_eq_false_iff_ne.mpr (Ne.symm (Nat.ne_of_lt hb)), [], .nil, _, #[], 0, Heap.get?_push_size _ rfl, ⟨rfl, rfl, rfl⟩, rfl, rfl, List.nodup_nil⟩
noncomputable def tDNewK : TE := fun _ H Q => ∀ p, H p = none → Q (.ref p) (upd H p (.dK []))
noncomputable def tDNewT : TE := fun _ H Q => ∀ p, H p = none → Q (.ref p) (upd H p (.dT []))
section
variable {X : Cx} {pos : Pos}
theorem pe_dnewK : PE X (.Dict [] [] pos) tDNewK := fun pins s σ H Q I h =>
  wpAny_Dict_empty ⟨.ref s.heap.objs.size, _, I.laid (a := s.heap.objs.size) (o := .dK []) (t' := s.toks) (fun _ _ q => Heap.get?_push_of_some _ q) (Nat.le_refl _) (dk_empty s.heap I.big), rfl, h _ (I.hok.fresh (Nat.le_refl _))⟩
theorem pe_dnewT : PE X (.Dict [] [] pos) tDNewT := fun pins s σ H Q I h =>
  wpAny_Dict_empty ⟨.ref s.heap.objs.size, _, I.laid (a := s.heap.objs.size) (o := .dT []) (t' := s.toks) (fun _ _ q => Heap.get?_push_of_some _ q) (Nat.le_refl _) (dt_empty s.heap I.big), rfl, h _ (I.hok.fresh (Nat.le_refl _))⟩
end
noncomputable def IsD (H : Hp) (a : Addr) : Prop := (∃ kvs, Rd H a (.dK kvs)) ∨ ∃ kvs, Rd H a (.dT kvs)
end L2
namespace Att
open PySem PySem.W PySem.Calls PyProof.Rows
theorem ints_of_wellAll {P : Params} {h : Heap} : ∀ (ns : List Int) (vs : List Value), WellAll P h vs (ns.map WData.int) → IntsAre vs ns := by
  intro ns
  induction ns with
  | nil =>
    intro vs w
    rw [List.map_nil] at w
    cases w
    exact .nil
  | cons n ns ih =>
    intro vs w
    rw [List.map_cons] at w
    cases w with
    | cons a b =>
      cases a
      exact .cons _ _ (ih _ b)
theorem script_of {l : OpenLaw} {n : Nat} (hn : l.most = some n) {P : Params} {h : Heap} {args : List WData} {vals : List Value}
    (hpre : l.row.toRowW.claim.pre args = true) (hwl : WellAll P h vals args) :
    ∃ a vs ns, vals = [Value.ref a] ∧ args = [WData.list (ns.map WData.int)] ∧ h.get? a = some { cls := .type "list", data := .seq vs.toArray } ∧ IntsAre vs ns ∧ ns.length ≤ n := by
  have hsh : WShape.hasAll [] args [.list .int] = true := (pre_splitW hpre).1
  have hc : l.pre.holds [] { args := args } = true := (pre_splitW hpre).2
  obtain ⟨d, r, rfl, h1, h2⟩ := hasAllW_cons hsh
  obtain rfl := hasAllW_nil h2
  obtain ⟨xs, rfl, h3⟩ := hasW_list h1
  obtain ⟨ns, rfl⟩ := items_int h3
  have hlen : ns.length ≤ n := by
    unfold OpenLaw.pre at hc
    have h4 : (WTm.not (.lt (.lit (.int (n : Int))) (.len (.arg 0)))).holds [] { args := [.list (ns.map .int)] } = true := by
      have h4 := (holds_andW hc).1
      rw [hn] at h4
      exact h4
    have h5 := condW_of h4 (w_not (w_lt w_lit (w_len_list (w_arg rfl))))
    rw [List.length_map] at h5
    refine Nat.le_of_not_lt fun q => ?_
    have q' : (n : Int) < ((ns.length : Nat) : Int) := by omega
    first
      | (rw [decide_eq_true q'] at h5; exact absurd h5 (by decide))
      | (simp at h5; omega)
  cases hwl with
  | cons w1 w2 =>
    cases w2
    cases w1 with
    | list ho hall => exact ⟨_, _, ns, rfl, rfl, ho, ints_of_wellAll ns _ hall, hlen⟩
theorem post_true (l : OpenLaw) (args : List WData) : l.row.toRowW.claim.post args (.bool true) args = true :=
  postW_of (r := l.row.toRowW) (X := (true == true))
    (show WShape.has [] (.bool true) .bool = true by first | rfl | decide | simp [WShape.has, WShape.arms, WShape.armsAll])
    (show (WTm.eq .res (.lit (.bool true))).value [] { args := args, res := some (.bool true), after := args } = some (.bool (true == true)) from w_eq_bool (w_res rfl) w_lit) rfl
theorem attach_call {l : OpenLaw} {n : Nat} {q : Program} {loose : List Str} {XP : (Str → Option Value) → Heap → Prop} {YP : World → Heap → Prop} {d : DefRec}
    (hn : l.most = some n) (hdf : d.params.defaults = [])
    (call : ∀ (w : World) (s₀ s₁ : Shared) (mg mb : Str → Option Value) (fa : Addr) (o : Obj) (pm cd doc : Value) (a : Addr) (vs : List Value) (ns : List Int),
      Ground q loose [] XP w s₀ mg mb s₁.heap → YP w s₁.heap →
      s₁.heap.get? fa = some o → o.data = .func (docDef d.name d.params d.body d.scope pm cd doc) → s₁.heap.CodeRec cd d.name → mg d.name = some (.ref fa) →
      s₁.heap.get? a = some { cls := .type "list", data := .seq vs.toArray } → IntsAre vs ns → ns.length ≤ n → s₁.gens = #[] →
      codeAny (model l.prog w) callerA (.call (.ref fa) ⟨[.ref a], []⟩) (fun r s' => r = .ok (.ret (.bool true)) ∧ OldK s₁.heap s'.heap ∧ s'.os = s₁.os ∧ AllBare s'.gens) s₁) :
    WalkO q loose XP YP l.row.toRowW d [] (fun f vs => PySem.call f vs) := by
  intro w s₀ s₁ mg mb G Y fa o pm cd doc dV kV ho hd hcd hD hmg hg args vals as hpre hlay hrd hwl hlo
  obtain rfl : dV = .none := Dflts.none hD hdf
  obtain rfl : kV = .none := Dflts.noKw hD
  obtain ⟨a, vs, ns, rfl, rfl, hobj, hints, hlen⟩ := script_of hn hpre hwl
  refine enter_call (codeAny_mono (call w s₀ s₁ mg mb fa o pm cd doc a vs ns G Y ho (fd_plain hd) hcd hmg hobj hints hlen hg) fun r s' hq => ?_)
  obtain ⟨rfl, h2, h3, h4⟩ := hq
  exact ⟨.inl ⟨.bool true, .bool true, [], rfl, fun _ => rfl, .bool true, post_true l _, fun _ => ⟨List.Pairwise.nil, fun _ hm => (nomatch hm)⟩⟩, h2, h3, h4⟩
end Att
namespace L2
open PySem PySem.Spec PyProof.Rows
theorem vals_ints : ∀ {vs : List Value} {ns : List Int}, IntsAre vs ns → Vals (ns.map V.int) vs
  | _, _, .nil => .nil
  | _, _, .cons n t h => .cons ⟨t, rfl⟩ (vals_ints h)
end L2
namespace L2
open PySem PySem.Spec PyProof.Rows
noncomputable def defArgs (s : Stmt) : Arguments := match s with
  | .FunctionDef _ a _ _ _ _ _ _ _ _ => a
  | _ => { posonlyargs := [], args := [], vararg := none, kwonlyargs := [], kw_defaults := [], kwarg := none, defaults := [] }
noncomputable def defBody (s : Stmt) : List Stmt := match s with
  | .FunctionDef _ _ b _ _ _ _ _ _ _ => b
  | _ => []
noncomputable def defScope (s : Stmt) : Scope := match s with
  | .FunctionDef _ _ _ _ _ _ sc _ _ _ => sc
  | _ => { kind := .function, names := [], isGenerator := false, isCoroutine := false }
noncomputable abbrev CX0 : CXT := fun _ _ _ _ _ _ => False
noncomputable abbrev E0 : XK := fun _ _ _ => False
theorem pass0 {X : Cx} : Passes CX0 X E0 := fun _ _ _ _ _ _ _ h => h.elim
structure Fun (K : PySem.W.Frag) (x qual : Str) (st : Stmt) (f : Addr) (fd : FuncData) : Prop where
  ex : ∃ (oc : Value) (od : Option Addr) (kV doc pm : Value) (an : Option Addr) (cdv ct : Value) (osl : Array (Option Value)),
    fd = PySem.W.fnOf x qual (defArgs st) (defBody st) (defScope st) .none kV doc pm an cdv ct ∧ K.lookup f = some ⟨oc, od, .func fd, osl⟩ ∧ PySem.W.codeIn K cdv qual = true
  kp : PySem.W.keepIn K (.ref f) = true
section
variable {P : Program} {w : World} {K : PySem.W.Frag} {mg : Str → Option Value} {base : Heap}
theorem Fun.ok {x qual : Str} {st : Stmt} {f : Addr} {fd : FuncData} {N ps : List Str} {k : Nat} {sp : Sp} (F : Fun K x qual st f fd) (S : FnScope N ps (defScope st)) (len : ∀ vs H Q E, sp vs H Q E → vs.length = ps.length)
    (hbody : ∀ (cdv : Value) (A : Around) (outer : List Env) (s : Shared) (H : Hp) (vs : List V) (Q : VK) (E : XK), Room k (A.deeper (envOfC qual (defScope st) s.heap.objs.size f cdv)) → sp vs H Q E →
      ∃ t, PSs (cxOf CX0 P w K mg base N qual (defScope st) f cdv A outer s H E).nox (defBody st) t ∧ t { nx := fun _ H' => Q .non H', rt := Q } (start N vs) H) : FnOk P w K mg base CX0 (k + 1) f fd ps sp := by
  obtain ⟨oc, od, kV, doc, pm, an, cdv, ct, osl, rfl, lk, hcd⟩ := F.ex
  refine fn_of lk hcd S len fun A outer s H vs Q E hr hsp => ?_
  obtain ⟨t, h, q⟩ := hbody cdv A outer s H vs Q E hr hsp
  exact ⟨t, h.nox, q⟩
theorem Fun.binds {x qual : Str} {st : Stmt} {f : Addr} {fd : FuncData} {ps : List Str} (F : Fun K x qual st f fd)
    (h : ∀ (kV doc pm : Value) (an : Option Addr) (cdv ct : Value) (us : List Value), us.length = ps.length → bindArgs (PySem.W.fnOf x qual (defArgs st) (defBody st) (defScope st) .none kV doc pm an cdv ct) ⟨us, []⟩ = pure (ps.zip us)) : Binds K fd ps [] := by
  obtain ⟨oc, od, kV, doc, pm, an, cdv, ct, osl, rfl, lk, hcd⟩ := F.ex
  exact .all (h kV doc pm an cdv ct)
theorem fun_mk {x qual : Str} {st : Stmt} {f : Addr} {oc : Value} {od an : Option Addr} {osl : Array (Option Value)} {kV doc pm cdv ct : Value} (l : K.lookup f = some ⟨oc, od, .func (PySem.W.fnOf x qual (defArgs st) (defBody st) (defScope st) .none kV doc pm an cdv ct), osl⟩)
    (c : PySem.W.codeIn K cdv qual = true) (k : PySem.W.keepIn K (.ref f) = true) : Fun K x qual st f (PySem.W.fnOf x qual (defArgs st) (defBody st) (defScope st) .none kV doc pm an cdv ct) := ⟨⟨oc, od, kV, doc, pm, an, cdv, ct, osl, rfl, l, c⟩, k⟩
end
theorem small1000 {n : Nat} (h : n ≤ 1000) : n < sizeLine := Nat.lt_of_le_of_lt h (by decide)
section
variable {X : Cx}
theorem pv (i : Nat) {x : Str} {pos : Pos} (hN : X.N[i]? = some x := by rfl) (hv : Vis X.env.scope x := by first | exact Or.inl rfl | exact Or.inr (Or.inl rfl) | exact Or.inr (Or.inr rfl)) (hd : (x == ("__debug__" : Str)) = false := by decide)
    (hcd : (x == ("__classdict__" : Str)) = false := by decide) : PE X (.Name x pos) (tVar i) := pe_var hN hv hd hcd
theorem call_lenD : CallR X (.builtin "len") (fun xs H Q => ∃ a kvs, xs = [V.ref a] ∧ H a = some (.dK kvs) ∧ Q (.int kvs.length) H) := by
  intro pins s σ H xs us Q I r h
  obtain ⟨a, kvs, rfl, ha, q⟩ := h
  obtain ⟨u, rfl, ru⟩ := vals1 r
  cases ru
  exact d_len I (.inl ha) fun t s' I' => ⟨.int kvs.length, H, I', ⟨t, rfl⟩, q⟩
end
theorem iteF {A B : Prop} (h : B) : if false = true then A else B := by
  rw [if_neg Bool.false_ne_true]
  exact h
theorem ite2 {c A B : Prop} [Decidable c] (h1 : c → A) (h2 : ¬ c → B) : if c then A else B := by
  by_cases h : c
  · rw [if_pos h]
    exact h1 h
  · rw [if_neg h]
    exact h2 h
noncomputable def Same (H H' : Hp) : Prop := ∀ b o, H b = some o → H' b = some o
theorem Same.refl (H : Hp) : Same H H := fun _ _ h => h
theorem Same.trans {H H1 H2 : Hp} (a : Same H H1) (b : Same H1 H2) : Same H H2 := fun c o h => b c o (a c o h)
section
variable {κ : Type} [DecidableEq κ]
theorem valV_not {kvs : List (κ × V)} {k : κ} (h : valV kvs k = none) : ¬ k ∈ kvs.map (·.1) := by
  intro m
  obtain ⟨p, hp, e⟩ := List.mem_map.mp m
  have q : (kvs.any fun kv => decide (kv.1 = k)) = true := List.any_eq_true.mpr ⟨p, hp, decide_eq_true e⟩
  rw [valV_any, h] at q
  exact absurd q (by simp)
theorem nd_snoc : ∀ {l : List κ} {k : κ}, l.Nodup → ¬ k ∈ l → (l ++ [k]).Nodup
  | [], k, _, _ => by simp
  | a :: r, k, h, hk => by
    obtain ⟨h1, h2⟩ := List.nodup_cons.mp h
    show (a :: (r ++ [k])).Nodup
    refine List.nodup_cons.mpr ⟨fun m => ?_, nd_snoc h2 fun m => hk (List.mem_cons.mpr (Or.inr m))⟩
    rcases List.mem_append.mp m with q | q
    · exact h1 q
    · exact hk (List.mem_cons.mpr (Or.inl (List.mem_singleton.mp q).symm))
theorem nd_putK {kvs : List (κ × V)} {k : κ} (v : V) (hn : (kvs.map (·.1)).Nodup) (h : valV kvs k = none) : ((putK kvs k v).map (·.1)).Nodup := by
  rw [putK_new v h, List.map_append]
  exact nd_snoc hn (valV_not h)
end
end L2
set_option maxHeartbeats 4000000
namespace L2
open PySem PySem.Spec PyProof.Rows
theorem clos_go {env : Env} {f : Str × NameKind → List (Str × Addr) → Sem (ForInStep (List (Str × Addr)))}
    (f1 : ∀ n k r, k ≠ NameKind.free → f (n, k) r = pure (.yield r))
    (f2 : ∀ n c r, env.cells.lookup n = some c → f (n, NameKind.free) r = pure (.yield ((n, c) :: r))) :
    ∀ (names : List (Str × NameKind)) (acc : List (Str × Addr)),
    (∀ y ∈ names, y.2 = NameKind.free → ∃ c, env.cells.lookup y.1 = some c) →
    (∀ x c, acc.lookup x = some c → env.cells.lookup x = some c) →
    ∃ cl, forIn names acc f = (pure cl : Sem (List (Str × Addr))) ∧ (∀ x c, cl.lookup x = some c → env.cells.lookup x = some c) ∧
      (∀ x, (acc.lookup x).isSome = true → (cl.lookup x).isSome = true) ∧ ∀ y ∈ names, y.2 = NameKind.free → (cl.lookup y.1).isSome = true
  | [], acc, _, h => ⟨acc, by rw [List.forIn_nil], h, fun _ q => q, fun y hy => nomatch hy⟩
  | (n, k) :: r, acc, hn, h => by
    by_cases hk : k = NameKind.free
    · subst hk
      obtain ⟨c, hc⟩ := hn (n, .free) List.mem_cons_self rfl
      have hc' : env.cells.lookup n = some c := hc
      obtain ⟨cl, e, a, b, d⟩ := clos_go f1 f2 r ((n, c) :: acc) (fun y hy => hn y (List.mem_cons_of_mem _ hy)) (fun x c' q => by
        rw [List.lookup_cons] at q
        cases e : x == n with
        | true =>
          rw [e] at q
          cases q
          rw [show x = n from LawfulBEq.eq_of_beq e]
          exact hc'
        | false =>
          rw [e] at q
          exact h x c' q)
      refine ⟨cl, ?_, a, fun x q => b x ?_, fun y hy hf => ?_⟩
      · rw [List.forIn_cons, f2 n c acc hc', pure_bind]
        exact e
      · rw [List.lookup_cons]
        cases x == n with
        | true => rfl
        | false => exact q
      · rcases List.mem_cons.mp hy with rfl | hy
        · refine b _ ?_
          rw [List.lookup_cons]
          simp
        · exact d y hy hf
    · obtain ⟨cl, e, a, b, d⟩ := clos_go f1 f2 r acc (fun y hy => hn y (List.mem_cons_of_mem _ hy)) h
      refine ⟨cl, ?_, a, b, fun y hy hf => ?_⟩
      · rw [List.forIn_cons, f1 n k acc hk, pure_bind]
        exact e
      · rcases List.mem_cons.mp hy with rfl | hy
        · exact absurd hf hk
        · exact d y hy hf
theorem clos_ok {scope : Scope} {env : Env} (hf : ∀ y ∈ scope.names, y.2 = NameKind.free → ∃ c, env.cells.lookup y.1 = some c) :
    ∃ cl, closureFor scope env = pure cl ∧ (∀ x c, cl.lookup x = some c → env.cells.lookup x = some c) ∧
      ∀ y ∈ scope.names, y.2 = NameKind.free → ∃ c, cl.lookup y.1 = some c := by
  have go := clos_go (env := env) (f := fun (x : Str × NameKind) (r : List (Str × Addr)) => match x with
      | (name, kind) => if (kind == NameKind.free) = true then do let c ← cellOf env name; pure (ForInStep.yield ((name, c) :: r)) else pure (ForInStep.yield r))
    (fun n k r hk => by
      have z : (k == NameKind.free) = false := by simpa using hk
      simp only [z, Bool.false_eq_true, if_false])
    (fun n c r hc => by
      simp only [beq_self_eq_true, if_true, cellOf, hc, pure_bind])
    scope.names [] hf (fun x c q => by cases q)
  obtain ⟨cl, e, a, _, d⟩ := go
  refine ⟨cl, ?_, a, fun y hy z => Option.isSome_iff_exists.mp (d y hy z)⟩
  simp only [closureFor]
  first
    | exact e
    | (simp only [bind_pure]; exact e)
    | (refine Eq.trans ?_ e; simp only [bind_pure])
noncomputable def cxC (X : Cx) (scope : Scope) (N : List Str) (cl : List (Str × Addr)) (C : Addr) (s₀ : Shared) (H₀ : Hp) (ex : List Addr) : Cx where
  prog := X.prog
  w := X.w
  K := X.K
  mg := X.mg
  base := X.base
  A := X.A
  N := N
  s₀ := s₀
  H₀ := H₀
  env := compEnvC scope cl C X.env
  outer := X.stack
  stack := X.stack
  ex := ex
  fn := fun _ => false
  calm := X.calm
  pn := []
  xe := fun _ _ => False
noncomputable def inSt (k : Nat) (fr : List Nat) (σ : St) : St := List.replicate k none ++ fr.map fun i => (σ[i]?).join
noncomputable def frOk (osc scope : Scope) (NX : List Str) (fr : List Nat) : Bool := fr.all fun i => match NX[i]? with
  | some x => (decide (osc.names.lookup x = some .cell) || decide (osc.names.lookup x = some .free)) && decide (scope.names.lookup x = some .free)
  | none => false
structure CompSc (osc scope : Scope) (NX own : List Str) (fr : List Nat) (N : List Str) : Prop where
  kind : scope.kind = .function
  nocell : ∀ y ∈ scope.names, y.2 ≠ NameKind.cell
  loc : ∀ y ∈ scope.names, y.2 = NameKind.local → scope.names.lookup y.1 = some .local
  free : ∀ y ∈ scope.names, y.2 = NameKind.free → osc.names.lookup y.1 = some .cell ∨ osc.names.lookup y.1 = some .free
  names : N.map some = own.map some ++ fr.map fun i => NX[i]?
  outer : frOk osc scope NX fr = true
noncomputable def compOk (osc scope : Scope) (NX own : List Str) (fr : List Nat) (N : List Str) : Bool :=
  decide (scope.kind = .function) && (scope.names.all (fun y => decide (y.2 ≠ NameKind.cell)) && (scope.names.all (fun y => decide (y.2 = NameKind.local → scope.names.lookup y.1 = some .local)) &&
    (scope.names.all (fun y => decide (y.2 = NameKind.free → (osc.names.lookup y.1 = some .cell ∨ osc.names.lookup y.1 = some .free))) && (decide (N.map some = own.map some ++ fr.map fun i => NX[i]?) && frOk osc scope NX fr))))
theorem CompSc.of {osc scope : Scope} {NX own : List Str} {fr : List Nat} {N : List Str} (h : compOk osc scope NX own fr N = true) : CompSc osc scope NX own fr N := by
  unfold compOk at h
  simp only [Bool.and_eq_true, decide_eq_true_eq, List.all_eq_true] at h
  obtain ⟨h1, h2, h3, h4, h5, h6⟩ := h
  exact ⟨h1, h2, h3, h4, h5, h6⟩
theorem CompSc.len {osc scope : Scope} {NX own : List Str} {fr : List Nat} {N : List Str} (S : CompSc osc scope NX own fr N) : N.length = own.length + fr.length := by
  have h := congrArg List.length S.names
  simpa using h
theorem lookup_relabel_free {env : Env} : ∀ {names : List (Str × NameKind)} {x : Str}, names.lookup x = some .free →
    (names.map fun (n, k) => if (k == NameKind.free && env.scope.kind == .function && env.kindOf n == some .cell) then (n, NameKind.cell) else (n, k)).lookup x = some .cell ∨
    (names.map fun (n, k) => if (k == NameKind.free && env.scope.kind == .function && env.kindOf n == some .cell) then (n, NameKind.cell) else (n, k)).lookup x = some .free
  | [], _, h => by simp at h
  | (n, k) :: r, x, h => by
    have ih := @lookup_relabel_free env r x
    cases hx : x == n with
    | true =>
      simp only [List.lookup_cons, hx] at h
      cases h
      simp only [List.map_cons]
      split
      · left; simp [List.lookup_cons, hx]
      · right; simp [List.lookup_cons, hx]
    | false =>
      simp only [List.lookup_cons, hx] at h
      simp only [List.map_cons]
      split
      · simp only [List.lookup_cons, hx]; exact ih h
      · simp only [List.lookup_cons, hx]; exact ih h
theorem of_relabel {env : Env} : ∀ {names : List (Str × NameKind)} {x : Str} {k' : NameKind},
    (names.map fun (n, k) => if (k == NameKind.free && env.scope.kind == .function && env.kindOf n == some .cell) then (n, NameKind.cell) else (n, k)).lookup x = some k' →
    k' = .cell ∨ k' = .free → (∀ y ∈ names, y.2 ≠ NameKind.cell) → ∃ y ∈ names, y.1 = x ∧ y.2 = .free
  | [], _, _, h, _, _ => by simp at h
  | (n, k) :: r, x, k', h, hk, nc => by
    have ih := @of_relabel env r x k'
    simp only [List.map_cons] at h
    cases hx : x == n with
    | true =>
      have ex : x = n := LawfulBEq.eq_of_beq hx
      refine ⟨(n, k), List.mem_cons_self, ex.symm, ?_⟩
      have nck : k ≠ .cell := nc (n, k) List.mem_cons_self
      by_cases z : k = .free
      · exact z
      · have zb : (k == NameKind.free) = false := by simpa using z
        simp only [zb, Bool.false_and, Bool.false_eq_true, if_false, List.lookup_cons, hx] at h
        cases h
        rcases hk with q | q
        · exact absurd q nck
        · exact absurd q z
    | false =>
      have h' : (r.map fun (n, k) => if (k == NameKind.free && env.scope.kind == .function && env.kindOf n == some .cell) then (n, NameKind.cell) else (n, k)).lookup x = some k' := by
        split at h
        · simpa only [List.lookup_cons, hx] using h
        · simpa only [List.lookup_cons, hx] using h
      obtain ⟨y, hy, a, b⟩ := ih h' hk fun z hz => nc z (List.mem_cons_of_mem _ hz)
      exact ⟨y, List.mem_cons_of_mem _ hy, a, b⟩
section
variable {X : Cx} {pins : List (Addr × Obj)} {σ : St} {H : Hp} {s : Shared}
noncomputable def PTs (X : Cx) (ifs : List Expr) (t : TT) : Prop :=
  ∀ (pins : List (Addr × Obj)) (s : Shared) (σ : St) (H : Hp) (Q : Bool → Hp → Prop), Inv X pins σ H s → t σ H Q →
    wpAny (model X.prog X.w) X.A (forIn ifs true fun c r => if r = true then do let ok ← isTrue c X.env (eval c X.env); pure (ForInStep.yield ok) else pure (ForInStep.yield r)) (TP X pins σ Q) X.xe s
noncomputable def tYes : TT := fun _ H Q => Q true H
theorem pts_nil : PTs X [] tYes := fun _ _ _ H _ I h => wpAny_tests_nil ⟨H, I, h⟩
theorem pts_one {c : Expr} {t : TT} (h : PT X c t) : PTs X [c] t := fun pins s σ H Q I q => wpAny_tests_one (h pins s σ H Q I q)
theorem nx {α : Type} {t : Sem α} {Q Q' : α → Shared → Prop} {M : Model} {A : Around} {E : Value → Shared → Prop} {s : Shared} (h : wpAny M A t Q (fun _ _ => False) s) (hQ : ∀ a s, Q a s → Q' a s) : wpAny M A t Q' E s :=
  wpAny_mono h hQ fun _ _ f => f.elim
theorem inv_block {scope : Scope} {own : List Str} {fr : List Nat} {N : List Str} {cl : List (Str × Addr)} {s3 s4 : Shared} {H3 : Hp} {fp : List Addr} {m : Str → Option Value}
    (hc : X.calm = true) (S : CompSc X.env.scope scope X.N own fr N)
    (c1 : ∀ x c, cl.lookup x = some c → X.env.cells.lookup x = some c) (c2 : ∀ y ∈ scope.names, y.2 = NameKind.free → ∃ c, cl.lookup y.1 = some c)
    (I3 : Inv X pins σ H3 s3) (f3 : ∀ b ∈ fp, FpOk X pins H3 b ∧ b < s3.heap.objs.size)
    (hk : ∀ b o, s3.heap.get? b = some o → s4.heap.get? b = some o) (hn : s4.heap.Ns s3.heap.objs.size m) (ho : s4.os = s3.os) (hg : s4.gens = s3.gens) :
    Inv (cxC X scope N cl s3.heap.objs.size s3 H3 fp) [] (inSt own.length fr σ) H3 s4 := by
  have kindF : (compEnvC scope cl s3.heap.objs.size X.env).scope.kind = .function := by
    show (relabel scope X.env).kind = .function
    exact S.kind
  refine ⟨⟨I3.ok.mod, kindF, I3.ok.glob, I3.ok.blt, Nat.le_refl _, ?_, ?_, ?_, I3.ok.hd, I3.ok.frames, .inl rfl, ?_, ?_, ?_, ?_, ?_, I3.stack, I3.stkFree⟩, ho, ?_, Un.kept hk, ⟨m, hn, ?_⟩, ?_, ?_, ?_, ?_, I3.hok.kept hk, ?_⟩
  · exact fun x y c h1 h2 => I3.ok.inj x y c (c1 x c h1) (c1 y c h2)
  · intro x hx
    have hx' : (relabel scope X.env).names.lookup x = some .cell ∨ (relabel scope X.env).names.lookup x = some .free := hx
    obtain ⟨k', hk', hkk⟩ : ∃ k', (relabel scope X.env).names.lookup x = some k' ∧ (k' = NameKind.cell ∨ k' = NameKind.free) := by
      rcases hx' with q | q
      · exact ⟨_, q, .inl rfl⟩
      · exact ⟨_, q, .inr rfl⟩
    obtain ⟨y, hy, e, hf⟩ := of_relabel (env := X.env) hk' hkk S.nocell
    subst e
    exact c2 y hy hf
  · exact fun x c h => by cases h
  · intro b hb
    obtain ⟨f, hl⟩ := f3 b hb
    refine ⟨Nat.ne_of_lt hl, fun x c h => f.2.2.2.2.1 x c (c1 x c h)⟩
  · exact fun b o e => I3.bs b o e
  · exact Nat.le_trans I3.ok.bsz I3.sz
  · intro b o e hb
    obtain ⟨f, hl⟩ := f3 b hb
    rcases f.2.2.2.1 with z | z
    · exact I3.ok.noex b o e z
    · exact absurd (Nat.lt_of_lt_of_le (Heap.lt_size e) (Nat.le_trans I3.ok.bsz z)) (Nat.lt_irrefl _)
  · intro b hb
    obtain ⟨f, hl⟩ := f3 b hb
    show b ∉ frs X.stack
    intro z
    rcases List.mem_cons.mp (I3.stkSub b z) with q | q
    · exact f.2.1 q
    · exact f.2.2.1 q
  · rw [hg]; exact I3.bare
  · intro i x v h1 h2 h3
    have h1 : N[i]? = some x := h1
    obtain ⟨m0, hn0, hl0⟩ := I3.loc
    have hi : own.length ≤ i := by
      refine Nat.le_of_not_lt fun q => ?_
      unfold inSt at h2
      rw [List.getElem?_append_left (by simpa using q), List.getElem?_replicate] at h2
      split at h2 <;> cases h2
    obtain ⟨j, rfl⟩ := Nat.exists_eq_add_of_le hi
    have h2' : (fr.map fun i => (σ[i]?).join)[j]? = some (some v) := by
      unfold inSt at h2
      rw [List.getElem?_append_right (by simp)] at h2
      simpa using h2
    rw [List.getElem?_map] at h2'
    cases ej : fr[j]? with
    | none => rw [ej] at h2'; cases h2'
    | some k =>
      rw [ej] at h2'
      have e2 : (σ[k]?).join = some v := Option.some.inj h2'
      have eσ : σ[k]? = some (some v) := by
        cases q : σ[k]? with
        | none => rw [q] at e2; cases e2
        | some o => rw [q] at e2; exact congrArg some e2
      have eN : X.N[k]? = some x := by
        have q := congrArg (fun l => l[own.length + j]?) S.names
        simp only [List.getElem?_map, h1, List.getElem?_append_right (show (own.map some).length ≤ own.length + j by simp), List.length_map, Nat.add_sub_cancel_left, ej, Option.map_some] at q
        exact (Option.some.inj q).symm
      have ok := List.all_eq_true.mp S.outer k (List.mem_of_getElem? ej)
      rw [eN] at ok
      simp only [Bool.and_eq_true, Bool.or_eq_true, decide_eq_true_eq] at ok
      obtain ⟨ok1, ok2⟩ := ok
      have vis : Vis X.env.scope x := .inr ok1
      obtain ⟨u, r, l⟩ := hl0 k x v eN eσ vis
      refine ⟨u, r, ?_⟩
      rcases l with ⟨l, _⟩ | ⟨_, c, e, z⟩
      · have l : X.env.scope.names.lookup x = some .local := l
        rcases ok1 with q | q
        · rw [l] at q; cases q
        · rw [l] at q; cases q
      · obtain ⟨c', e'⟩ := c2 (x, .free) (PySem.mem_of_lookup ok2) rfl
        have e' : cl.lookup x = some c' := e'
        have ec : c' = c := Option.some.inj ((c1 x c' e').symm.trans e)
        subst ec
        refine .inr ⟨lookup_relabel_free (env := X.env) ok2, c', e', ?_⟩
        obtain ⟨o, h1, h2⟩ := z
        exact ⟨o, hk _ _ h1, h2⟩
  · intro x c e
    obtain ⟨v, o, h1, h2⟩ := I3.cell x c (c1 x c e)
    exact ⟨v, o, hk _ _ h1, h2⟩
  · exact I3.hok.fresh (Nat.le_refl _)
  · exact fun x c e => I3.freeC x c (c1 x c e)
  · intro p hp
    exact absurd hp (by simp [cxC])
  · show (inSt own.length fr σ).length = N.length
    rw [S.len]
    simp [inSt]
end
section
variable {prog : Program} {w : World} {A : Around} {R : Result → Shared → Prop} {s : Shared}
theorem comp_loop {elt tg iter : Expr} {ifs : List Expr} {scope : Scope} {pos : Pos} {it acc : Value} {env : Env} (J : Nat → Shared → Prop)
    (turn : ∀ k s, J k s → ∀ E : Value → Shared → Prop, wpAny (model prog w) A (pyNext it) (fun r s1 => match r with
      | none => R (.ok .next) s1
      | some v => wpAny (model prog w) A (letOwnedTupleGo tg it v) (fun _ s2 => wpAny (model prog w) A (assign tg env v) (fun _ s3 =>
          wpAny (model prog w) A (forIn ifs true fun c r => if r = true then do let ok ← isTrue c env (eval c env); pure (ForInStep.yield ok) else pure (ForInStep.yield r)) (fun ok s4 =>
            if ok = true then wpAny (model prog w) A (eval elt env) (fun x s5 => wpAny (model prog w) A (call (.builtin "list.append") [acc, x]) (fun _ s6 => ∃ m, m < k ∧ J m s6) E s5) E s4
            else ∃ m, m < k ∧ J m s4) E s3) E s2) E s1) E s)
    (k : Nat) (h : J k s) : codeAny (model prog w) A (.compLoop (.ListComp elt [⟨tg, iter, ifs, 0⟩] scope pos) 0 it acc env) R s := by
  refine codeAny_loop rfl J (fun k s hJ => ?_) k h
  show wpAny _ A ((compTurn (.ListComp elt [⟨tg, iter, ifs, 0⟩] scope pos) 0 it acc env).onRaise (fun e => do noteFrame e env; theTreesLotGoes e)) _ _ s
  refine wpAny_noted ?_
  rw [compTurn_list]
  refine wpAny_bind (wpAny_standAt (wpAny_bind (thn (turn k s hJ _) fun r s1 h1 => ?_)))
  cases r with
  | none => exact wpAny_pure h1
  | some v =>
    refine wpAny_bind (thn h1 fun _ s2 h2 => wpAny_bind (thn h2 fun _ s3 h3 => wpAny_bind (thn h3 fun ok s4 h4 => ?_)))
    cases ok with
    | false => exact wpAny_pure ⟨rfl, h4⟩
    | true => exact wpAny_bind (wpAny_bind (thn h4 fun x s5 h5 => wpAny_bind (thn h5 fun _ s6 h6 => wpAny_pure (wpAny_pure ⟨rfl, h6⟩))))
end
noncomputable def tCompW (k : Nat) (fr : List Nat) (g : TG) (tc : TT) (te : TE) (J : It) (σ : St) (H1 : Hp) (Q : VK) : Prop :=
  ∀ D, H1 D = none → ∃ W : Nat → Nat → List V → St → Hp → Prop, (∃ m, W 0 m [] (inSt k fr σ) (upd H1 D (.lst []))) ∧ ∀ i m acc σ' H', W i m acc σ' H' → H' D = some (.lst acc) →
    (J.stop i H' ∧ Q (.ref D) H') ∨ (J.go i H' ∧ ∃ N : List V → St → Hp → Prop, (∀ acc' σ2 H2, N acc' σ2 H2 → ∃ m', m' < m ∧ W (i + 1) m' acc' σ2 H2) ∧ ∀ x H2, J.yld i H' x H2 → g x σ' H2 fun σ2 H3 => tc σ2 H3 fun b H4 =>
      if b = true then te σ2 H4 fun y H5 => H5 D = some (.lst acc) ∧ acc.length < sizeLine ∧ N (acc ++ [y]) σ2 (upd H5 D (.lst (acc ++ [y])))
      else H4 D = some (.lst acc) ∧ N acc σ2 H4)
noncomputable def tComp (k : Nat) (fr : List Nat) (wi : TI) (g : TG) (tc : TT) (te : TE) : TE := fun σ H Q => wi σ H fun J H1 => tCompW k fr g tc te J σ H1 Q
section
variable {X : Cx} {pins : List (Addr × Obj)} {σ : St} {H : Hp} {s : Shared} {tg elt iter : Expr} {ifs : List Expr} {scope : Scope} {pos : Pos}
theorem comp_block {own : List Str} {fr : List Nat} {N : List Str} {cl : List (Str × Addr)} {H2 : Hp} {s2 : Shared} {fp : List Addr} {it : Addr} {J : It} {tn : Nat → Heap → Prop} {g : TG} {tc : TT} {te : TE} {Q : VK} {E : Value → Shared → Prop} {POST : Value → Addr → Result → Shared → Prop}
    (hc : X.calm = true) (S : CompSc X.env.scope scope X.N own fr N)
    (c1 : ∀ x c, cl.lookup x = some c → X.env.cells.lookup x = some c) (c2 : ∀ y ∈ scope.names, y.2 = NameKind.free → ∃ c, cl.lookup y.1 = some c)
    (hg : ∀ C s₀ H₀ ex, PG (cxC X scope N cl C s₀ H₀ ex) tg g) (ht : ∀ C s₀ H₀ ex, PTs (cxC X scope N cl C s₀ H₀ ex) ifs tc) (he : ∀ C s₀ H₀ ex, PE (cxC X scope N cl C s₀ H₀ ex) elt te)
    (I2 : Inv X pins σ H2 s2) (T : Turn X.prog X.w X.K tg J fp it tn) (t2 : tn 0 s2.heap) (f2 : ∀ b ∈ fp, FpOk X pins H2 b) (q : tCompW own.length fr g tc te J σ H2 Q)
    (fin : ∀ D C s' H' m, Inv X pins σ H' s' → FpOk X pins H' C → s'.heap.Ns C m → Q (.ref D) H' → POST (.ref D) C (.ok .next) s') :
    wpAny (model X.prog X.w) X.A (newList []) (fun acc s3 => wpAny (model X.prog X.w) X.A (newFunctionEnv scope X.env.globals cl [] X.env.qual none .none (some X.env)) (fun cenv s4 =>
      codeAny (model X.prog X.w) X.A (.compStart (.ListComp elt [⟨tg, iter, ifs, 0⟩] scope pos) 0 (.ref it) acc { cenv with scope := relabel scope X.env }) (POST acc cenv.locals) s4) E s3) E s2 := by
  refine wpAny_newObj_type (wpAny_newFunctionEnv S.nocell (by intro y hy; simp at hy) (fun h4 ns4 sb4 => ?_) S.kind)
  dsimp only at ns4 sb4 ⊢
  have hD : H2 s2.heap.objs.size = none := I2.hok.fresh (Nat.le_refl _)
  obtain ⟨W, ⟨m0, w0⟩, turn⟩ := q s2.heap.objs.size hD
  have I3 : Inv X pins σ (upd H2 s2.heap.objs.size (.lst [])) { s2 with heap := s2.heap.push { cls := .type "list", dict := none, data := .seq ([] : List Value).toArray }, toks := s2.toks } :=
    I2.laid (fun b u q => Heap.get?_push_of_some _ q) (Nat.le_refl _) ⟨Nat.zero_le _, [], _, .nil, Heap.get?_push_size _ rfl⟩
  generalize hh3 : s2.heap.push { cls := .type "list", dict := none, data := .seq ([] : List Value).toArray } = h3 at *
  have z3 : h3.objs.size = s2.heap.objs.size + 1 := by rw [← hh3, Heap.size_push]
  have k23 : ∀ b o, s2.heap.get? b = some o → h3.get? b = some o := fun b o e => by rw [← hh3]; exact Heap.get?_push_of_some _ e
  have k34 : ∀ b o, h3.get? b = some o → h4.get? b = some o := fun b o e => sb4.extBut b o (Nat.ne_of_lt (Heap.lt_size e)) (Heap.get?_push_of_some _ e)
  have fpl : ∀ b ∈ fp, b < s2.heap.objs.size := fun b hb => by
    obtain ⟨o, e, _⟩ := T.obj _ _ t2 b hb
    exact Heap.lt_size e
  have f3 : ∀ b ∈ fp, FpOk X pins (upd H2 s2.heap.objs.size (.lst [])) b ∧ b < h3.objs.size := fun b hb => by
    refine ⟨⟨?_, (f2 b hb).2⟩, by rw [z3]; exact Nat.lt_succ_of_lt (fpl b hb)⟩
    rw [upd_ne (Nat.ne_of_lt (fpl b hb))]
    exact (f2 b hb).1
  generalize hs3 : ({ s2 with heap := h3, toks := s2.toks } : Shared) = s3 at I3
  have es3 : s3.heap = h3 := by rw [← hs3]
  have hs3' : ({ s2 with heap := h3 } : Shared) = s3 := hs3
  have I4 := inv_block (s3 := s3) (s4 := { s3 with heap := h4, toks := s3.toks + ([] : List (Str × Value)).length }) hc S c1 c2 I3 (by rw [es3]; exact f3) (by rw [es3]; exact k34) (m := fun x => ([] : List (Str × Value)).reverse.lookup x) (by rw [es3]; exact ns4) rfl rfl
  rw [es3] at I4
  have stat : ∀ {H' : Hp} {s' : Shared} {σ' : St} {pl : List (Addr × Obj)}, Inv (cxC X scope N cl h3.objs.size s3 (upd H2 s2.heap.objs.size (.lst [])) fp) pl σ' H' s' → (∀ p ∈ pl, p.1 ∉ fp) → (∀ b ∈ fp, H' b = none) → ∀ b ∈ fp, FpOk (cxC X scope N cl h3.objs.size s3 (upd H2 s2.heap.objs.size (.lst [])) fp) pl H' b := fun {H' s' σ' pl} I' hpl hn b hb => by
    refine ⟨hn b hb, Nat.ne_of_lt (f3 b hb).2, I'.ok.exfs b hb, .inl hb, fun x c e => (f2 b hb).2.2.2.2.1 x c (c1 x c e), fun p hp => ?_⟩
    intro z
    exact hpl p (by simpa [cxC] using hp) (z ▸ hb)
  have loop : ∀ s4 : Shared, s4 = { s3 with heap := h4, toks := s3.toks + ([] : List (Str × Value)).length } →
      codeAny (model X.prog X.w) X.A (.compLoop (.ListComp elt [⟨tg, iter, ifs, 0⟩] scope pos) 0 (.ref it) (.ref s2.heap.objs.size) (compEnvC scope cl h3.objs.size X.env)) (POST (.ref s2.heap.objs.size) h3.objs.size) s4 := by
    rintro s4 rfl
    refine comp_loop (fun n s' => ∃ i acc σ' H', Inv (cxC X scope N cl h3.objs.size s3 (upd H2 s2.heap.objs.size (.lst [])) fp) [] σ' H' s' ∧ tn i s'.heap ∧ (∀ b ∈ fp, H' b = none) ∧ H' s2.heap.objs.size = some (.lst acc) ∧ W i n acc σ' H') ?_ m0
      ⟨0, [], _, _, I4, T.keep _ _ _ t2 fun b hb o e => k34 b o (k23 b o e), fun b hb => (f3 b hb).1.1, upd_same, w0⟩
    rintro n s5 ⟨i, acc, σ5, H5, I5, t5, fr5, d5, w5⟩ E'
    rcases turn i n acc σ5 H5 w5 d5 with ⟨stop, qn⟩ | ⟨go, NN, hNN, step⟩
    · refine thn (T.done (cxC X scope N cl h3.objs.size s3 (upd H2 s2.heap.objs.size (.lst [])) fp) rfl rfl rfl hc i [] s5 σ5 H5 E' I5 (stat I5 (by simp) fr5) t5 stop) fun r s6 ⟨hr, I6⟩ => ?_
      subst hr
      obtain ⟨m6, n6, _⟩ := id I6.loc
      have J6 : Inv X pins σ H5 s6 := I3.call' (ch := fp) I6.os I6.base I6.hok I6.bare fun b hb => ⟨(f2 b hb).2.2.2.1, (f2 b hb).2.1, (f2 b hb).2.2.2.2.1, (f2 b hb).2.2.2.2.2⟩
      exact fin _ _ s6 H5 m6 J6 (I2.fpOk (by rw [z3]; exact Nat.le_succ _) I6.free) n6 qn
    · refine thn (T.item (cxC X scope N cl h3.objs.size s3 (upd H2 s2.heap.objs.size (.lst [])) fp) rfl rfl rfl hc i [] s5 σ5 H5 E' I5 (stat I5 (by simp) fr5) t5 go) fun r s6 ⟨u, hr, h6⟩ => ?_
      subst hr
      refine thn h6 fun _ s7 ⟨x, H7, I7, r7, y7, t7, fr7⟩ => ?_
      have I7' := I7.pinned (stat I7 (by simp) fr7) (T.obj _ _ t7)
      have backTn : ∀ {s' : Shared} {H' : Hp} {σ' : St}, Inv (cxC X scope N cl h3.objs.size s3 (upd H2 s2.heap.objs.size (.lst [])) fp) ([] ++ pinsAt fp s7.heap) σ' H' s' → tn (i + 1) s'.heap ∧ ∀ b ∈ fp, H' b = none := fun {s' H' σ'} I' => by
        refine ⟨T.keep _ _ _ t7 fun b hb o e => (I'.pin (b, o) (List.mem_append_right _ (List.mem_append_right _ (mem_pinsAt hb e)))).1, fun b hb => ?_⟩
        obtain ⟨o, e, _⟩ := T.obj _ _ t7 b hb
        exact (I'.pin (b, o) (List.mem_append_right _ (List.mem_append_right _ (mem_pinsAt hb e)))).2.1
      refine nx (hg _ _ _ _ _ s7 σ5 H7 x u _ I7' r7 (step x H7 y7)) fun _ s8 ⟨σ8, H8, I8, q8⟩ => ?_
      refine nx (ht _ _ _ _ _ s8 σ8 H8 _ I8 q8) fun ok s9 ⟨H9, I9, q9⟩ => ?_
      cases ok with
      | false =>
        obtain ⟨d9, n9⟩ := q9
        obtain ⟨m', hm, w9⟩ := hNN _ _ _ n9
        obtain ⟨a1, a2⟩ := backTn I9
        exact ⟨m', hm, i + 1, acc, σ8, H9, I9.unpinned, a1, a2, d9, w9⟩
      | true =>
        rw [if_pos rfl]
        refine nx (he _ _ _ _ _ s9 σ8 H9 _ I9 q9) fun y s10 ⟨v, H10, I10, r10, d10, l10, n10⟩ => ?_
        obtain ⟨m', hm, w10⟩ := hNN _ _ _ n10
        refine nx (mt_append _ s10 σ8 H10 (.ref s2.heap.objs.size) [v] (.ref s2.heap.objs.size) [y] (fun _ H' => H' = upd H10 s2.heap.objs.size (.lst (acc ++ [v]))) I10 rfl (.cons r10 .nil) ⟨_, acc, v, rfl, rfl, d10, l10, rfl⟩) fun _ s11 ⟨_, H11, I11, _, e11⟩ => ?_
        subst e11
        obtain ⟨a1, a2⟩ := backTn I11
        exact ⟨m', hm, i + 1, _, σ8, _, I11.unpinned, a1, a2, upd_same, w10⟩
  exact codeAny_compStart_list (loop _ (by rw [← hs3])) (T.self _ 0 _ _ _ (T.keep _ _ _ t2 fun b hb o e => k34 b o (k23 b o e)) (loop _ (by rw [← hs3])))
theorem pe_comp (osc : Scope) (NX own : List Str) (fr : List Nat) (N : List Str) {wi : TI} {g : TG} {tc : TT} {te : TE} (hc : X.calm = true)
    (hi : PI X tg iter wi) (hg : ∀ cl C s₀ H₀ ex, PG (cxC X scope N cl C s₀ H₀ ex) tg g) (ht : ∀ cl C s₀ H₀ ex, PTs (cxC X scope N cl C s₀ H₀ ex) ifs tc) (he : ∀ cl C s₀ H₀ ex, PE (cxC X scope N cl C s₀ H₀ ex) elt te)
    (hs : ∀ x, foldedSetIterable iter X.env x = pure x := by intro _; rfl) (hosc : X.env.scope = osc := by rfl) (hNX : X.N = NX := by rfl) (hS : compOk osc scope NX own fr N = true := by decide +kernel) :
    PE X (.ListComp elt [⟨tg, iter, ifs, 0⟩] scope pos) (tComp own.length fr wi g tc te) := by
  intro pins s σ H Q I h
  have S : CompSc X.env.scope scope X.N own fr N := by rw [hosc, hNX]; exact CompSc.of hS
  obtain ⟨cl, ecl, c1, c2⟩ := clos_ok (scope := scope) (env := X.env) fun y hy hf => I.ok.has y.1 (S.free y hy hf)
  rw [eval_ListComp]
  refine wpAny_comprehension_free (use := none) rfl hs ecl S.kind S.loc (thn (hi pins s σ H _ I h) fun v s1 h1 => thn h1 fun itv s2 h2 => ?_)
  obtain ⟨it, fp, tn, J, H2, e, I2, T, t2, f2, q⟩ := h2
  subst e
  refine comp_block (POST := fun acc C => compPost (model X.prog X.w) X.A X.xe none (EP X pins σ Q) acc C) hc S c1 c2 (hg cl) (ht cl) (he cl) I2 T t2 f2 q fun D C s' H' m I' fC ns q' => ?_
  refine ⟨m, ns, fun h' sb => ⟨.ref D, H', ?_, rfl, q'⟩⟩
  obtain ⟨g0, g1, _, g3, g4, g5⟩ := fC
  exact I'.turned (t' := s'.toks) (fun b o hb e => (sb.2 b hb).trans e) g0 g1 g3 g4 g5
theorem ps_setC {wi : TI} {g : TG} {tc : TT} {te : TE} {i : Nat} {x : Str} {px spos : Pos} (hN : X.N.Nodup) (hi' : X.N[i]? = some x) (hx : X.env.scope.names.lookup x = some .local)
    (hsw : swapsWith (.ListComp elt [⟨tg, iter, ifs, 0⟩] scope pos) (some (.Name x px)) spos.line X.env = pure true)
    (osc : Scope) (NX own : List Str) (fr : List Nat) (N : List Str) (hc : X.calm = true)
    (hi : PI X tg iter wi) (hg : ∀ cl C s₀ H₀ ex, PG (cxC X scope N cl C s₀ H₀ ex) tg g) (ht : ∀ cl C s₀ H₀ ex, PTs (cxC X scope N cl C s₀ H₀ ex) ifs tc) (he : ∀ cl C s₀ H₀ ex, PE (cxC X scope N cl C s₀ H₀ ex) elt te)
    (hs : ∀ x, foldedSetIterable iter X.env x = pure x := by intro _; rfl) (hosc : X.env.scope = osc := by rfl) (hNX : X.N = NX := by rfl) (hS : compOk osc scope NX own fr N = true := by decide +kernel) :
    PS X (.Assign [.Name x px] (.ListComp elt [⟨tg, iter, ifs, 0⟩] scope pos) spos) (tAsg (tComp own.length fr wi g tc te) (gName i)) := by
  intro pins s σ H D I h
  have S : CompSc X.env.scope scope X.N own fr N := by rw [hosc, hNX]; exact CompSc.of hS
  obtain ⟨cl, ecl, c1, c2⟩ := clos_ok (scope := scope) (env := X.env) fun y hy hf => I.ok.has y.1 (S.free y hy hf)
  rw [exec_Assign_Name_used _ _ _ _ hsw]
  refine wpAny_bind (wpAny_standAt (wpAny_bind ?_))
  show wpAny _ X.A (do let _ ← comprehension (.ListComp elt [⟨tg, iter, ifs, 0⟩] scope pos) scope X.env _ (newList []) false (eval iter X.env) (some (assign (.Name x px) X.env))) _ _ s
  refine wpAny_bind (thn (wpAny_comprehension_free (use := some (assign (.Name x px) X.env)) (Q := fun _ s' => SP X pins D .next s') rfl hs ecl S.kind S.loc (thn (hi pins s σ H _ I h) fun v s1 h1 => thn h1 fun itv s2 h2 => ?_)) fun _ s' hq => wpAny_pure (wpAny_pure hq))
  obtain ⟨it, fp, tn, J, H2, e, I2, T, t2, f2, q⟩ := h2
  subst e
  refine comp_block (POST := fun acc C => compPost (model X.prog X.w) X.A X.xe (some (assign (.Name x px) X.env)) (fun _ s' => SP X pins D .next s') acc C) hc S c1 c2 (hg cl) (ht cl) (he cl) I2 T t2 f2 q fun D' C s' H' m I' fC ns q' => ?_
  show wpAny _ X.A (assign (.Name x px) X.env (.ref D')) _ _ s'
  refine wpAny_assign_Name (store_ok2 I' hN hi' (.inl hx) (show RelV (.ref D') (.ref D') from rfl) (fun s3 I3 sb => ?_) (.inr hx))
  obtain ⟨a, sb, ha⟩ := sb
  obtain ⟨g0, g1, g2, g3, g4, g5⟩ := fC
  have aC : C ≠ a := by
    rcases ha with z | z
    · rw [z]; exact g1
    · exact fun w => g4 x a z w.symm
  refine ⟨m, ns.sameBut sb aC, fun h' sb' => ⟨_, H', ?_, q'⟩⟩
  exact I3.turned (t' := s3.toks) (fun b o hb e => (sb'.2 b hb).trans e) g0 g1 g3 g4 g5
end
end L2
namespace L2
open PySem PySem.Spec PyProof.Rows
noncomputable def Ite (K : PySem.W.Frag) (a : Addr) : It :=
  ⟨fun i H => ∃ xs x, SqL K H a xs ∧ xs[i]? = some x, fun i H v H' => ∃ p x, H p = none ∧ v = .ref p ∧ (∀ xs, SqL K H a xs → xs[i]? = some x) ∧ H' = upd H p (.tup [.int i, x]), fun i H => ∃ xs, SqL K H a xs ∧ xs.length ≤ i⟩
theorem turn_enum {P : Program} {w : World} {K : PySem.W.Frag} {elts : List Expr} {k : Nat} {tp : Pos} (a e it : Addr) (hne : e ≠ it) :
    Turn P w K (.Tuple elts k tp) (Ite K a) [e, it] e (fun i h => (∃ old, IsEnum h e it i old) ∧ h.IsListIter it a i) where
  mem := by simp
  obj := fun i h st b hb => by
    obtain ⟨⟨old, he⟩, hit⟩ := st
    have hb : b = e ∨ b = it := by simpa using hb
    rcases hb with z | z
    · subst z
      exact ⟨_, he, fun v z => by cases z⟩
    · subst z
      obtain ⟨o, e1, c, d⟩ := hit
      exact ⟨o, e1, fun v z => by rw [d] at z; cases z⟩
  keep := fun i h h' st kk => by
    obtain ⟨⟨old, he⟩, hit⟩ := st
    exact ⟨⟨old, kk e (by simp) _ he⟩, hit.at fun o q => kk it (by simp) o q⟩
  item := by
    intro X hP hw hK hc i pins s σ H E I hf st hg
    subst hP hw hK
    obtain ⟨⟨old, he⟩, hit⟩ := st
    obtain ⟨xs, x, hq, hx⟩ := hg
    obtain ⟨its, rv, p, hz⟩ := I.list hq
    obtain ⟨u, hu, ru⟩ := rv.get hx
    obtain ⟨f0, f1, f2, f3, f4, f5⟩ := hf e (by simp)
    obtain ⟨g0, g1, g2, g3, g4, g5⟩ := hf it (by simp)
    refine wpAny_pyNext_enum_item he hit p.isList (x := u) (by simpa using hu) hne fun h1 ho hit1 ht1 hz1 k1 => ?_
    have hel : e < s.heap.objs.size := Heap.lt_size he
    have hil : it < s.heap.objs.size := by obtain ⟨o, q, _⟩ := hit; exact Heap.lt_size q
    refine ⟨_, rfl, wpAny_letOwnedTupleGo_enum ho fun h2 he2 sb2 => ?_⟩
    have sb2 : Heap.SameBut e h1 h2 := sb2
    have T2 : h2.get? s.heap.objs.size = some { cls := .type "tuple", data := .seq #[.int i s.toks, u] } := (sb2.2 _ (Nat.ne_of_gt hel)).trans ht1
    have hp : H s.heap.objs.size = none := I.hok.fresh (Nat.le_refl _)
    have nit : ∀ b v, H b = some v → b ≠ e ∧ b ≠ it := fun b v q => ⟨fun z => (by rw [z, f0] at q; cases q), fun z => (by rw [z, g0] at q; cases q)⟩
    have kk : ∀ b o, b ≠ e → b ≠ it → s.heap.get? b = some o → h2.get? b = some o := fun b o n1 n2 q => (sb2.2 b n1).trans (k1 b o n1 n2 q)
    have up : ∀ b v, H b = some v → upd H s.heap.objs.size (.tup [.int i, x]) b = some v := fun b v q => by rw [upd_ne (ne_of_none q hp)]; exact q
    have I1 : Inv X pins σ (upd H s.heap.objs.size (.tup [.int i, x])) { s with heap := h2, gens := s.gens, drawn := s.drawn, toks := s.toks + 1 } := by
      refine I.step (g' := s.gens) (d' := s.drawn) (ch := [e, it]) (fun b hb => ?_) (fun b o _ _ hb q _ => kk b o (fun z => hb (by simp [z])) (fun z => hb (by simp [z])) q) (fun b o _ _ hb q _ => ⟨o.slots, kk b o (fun z => hb (by simp [z])) (fun z => hb (by simp [z])) q⟩) (fun b o _ q n => ?_)
        (fun b o hb q => ⟨o, kk b o (fun z => hb (by simp [z])) (fun z => hb (by simp [z])) q⟩) (fun b ys q => up b _ q) (fun b o v q => up b _ q) (fun b ps q => ⟨#[], by rw [up b _ q]; simp⟩) (fun m hm => ?_) (fun b v q => ?_) I.bare
      · have hb : b = e ∨ b = it := by simpa using hb
        rcases hb with z | z
        · subst z; exact ⟨f3, f1, f4, f5⟩
        · subst z; exact ⟨g3, g1, g4, g5⟩
      · rw [upd_ne (Nat.ne_of_lt (Heap.lt_size q))]; exact n
      · obtain ⟨o, es, ep, ho, r⟩ := hm
        exact ⟨o, es, ep, kk _ o (Ne.symm f1) (Ne.symm g1) ho, r⟩
      · by_cases hb : b = s.heap.objs.size
        · subst hb
          rw [upd_same] at q
          have q' : HO.tup [V.int i, x] = v := Option.some.inj q
          subst q'
          exact ⟨by show 2 ≤ sizeLine; decide, [.int i s.toks, u], .cons ⟨_, rfl⟩ (.cons ru .nil), ⟨_, T2, rfl, _, rfl, rfl⟩⟩
        · rw [upd_ne hb] at q
          refine (I.hok b v q).stay (fun c v' hc q' => ?_) (fun c q => up c _ q) fun c ys q => up c _ q
          rcases hc with z | z
          · rw [z] at q' ⊢; exact kk b v' (nit b v q).1 (nit b v q).2 q'
          · exact kk c v' (nit c _ z).1 (nit c _ z).2 q'
    refine ⟨.ref s.heap.objs.size, upd H s.heap.objs.size (.tup [.int i, x]), I1, rfl, ⟨_, x, hp, rfl, fun ys hy => by rw [I.list_inj hy hq]; exact hx, rfl⟩, ⟨⟨u, ?_⟩, ?_⟩, fun b hb => ?_⟩
    · exact (by simpa using he2)
    · exact hit1.at fun o q => (sb2.2 it (Ne.symm hne)).trans q
    · have hb : b = e ∨ b = it := by simpa using hb
      rcases hb with z | z
      · rw [z, upd_ne (Nat.ne_of_lt hel)]; exact f0
      · rw [z, upd_ne (Nat.ne_of_lt hil)]; exact g0
  done := by
    intro X hP hw hK hc i pins s σ H E I hf st hg
    subst hP hw hK
    obtain ⟨⟨old, he⟩, hit⟩ := st
    obtain ⟨xs, hq, hx⟩ := hg
    obtain ⟨its, rv, p, hz⟩ := I.list hq
    obtain ⟨g0, g1, g2, g3, g4, g5⟩ := hf it (by simp)
    have hl := rv.length
    exact wpAny_pyNext_enum_end (I.ok.hd hc) he hit p.isList (by simp; omega) fun h' eb => ⟨rfl, I.turned (t' := s.toks) (fun b o hb q => eb b o hb q) g0 g1 g3 g4 g5⟩
  self := fun _ _ _ _ _ st h => by
    obtain ⟨⟨old, he⟩, _⟩ := st
    exact wpAny_pyIter_enum he h
end L2
namespace L2
open PySem PySem.Spec PyProof.Rows
mutual
inductive Rep (H : Hp) : V → PyData → Prop
  | non : Rep H .non .none
  | bl (b : Bool) : Rep H (.bl b) (.bool b)
  | int (i : Int) : Rep H (.int i) (.int i)
  | str (x : Str) : Rep H (.str x) (.str x)
  | lst {a : Addr} {xs : List V} {ds : List PyData} : H a = some (.lst xs) → RepAll H xs ds → Rep H (.ref a) (.list ds)
  | tup {a : Addr} {xs : List V} {ds : List PyData} : H a = some (.tup xs) → RepAll H xs ds → Rep H (.ref a) (.tuple ds)
inductive RepAll (H : Hp) : List V → List PyData → Prop
  | nil : RepAll H [] []
  | cons {x : V} {xs : List V} {d : PyData} {ds : List PyData} : Rep H x d → RepAll H xs ds → RepAll H (x :: xs) (d :: ds)
end
mutual
theorem Rep.reads {P : Program} {w : World} {H : Hp} {h : Heap} (ok : HOk P w H h) : ∀ {v : V} {d : PyData} {u : Value}, Rep H v d → RelV v u → ∃ as, Reads h u d as
  | _, _, _, .non, r => by cases r; exact ⟨_, .none⟩
  | _, _, _, .bl b, r => by cases r; exact ⟨_, .bool b⟩
  | _, _, _, .int i, r => by obtain ⟨t, rfl⟩ := r; exact ⟨_, .int i t⟩
  | _, _, _, .str x, r => by obtain ⟨t, rfl⟩ := r; exact ⟨_, .str x t⟩
  | _, _, _, .lst (a := a) (xs := xs) e rs, r => by
    cases r
    obtain ⟨_, its, n, rv, eh⟩ := (show ObjOk P w H h a (.lst xs) from ok a _ e)
    obtain ⟨as, z⟩ := RepAll.reads ok rs rv
    exact ⟨_, .list eh rfl rfl (by simpa using z)⟩
  | _, _, _, .tup (a := a) (xs := xs) e rs, r => by
    cases r
    obtain ⟨_, its, rv, o, eh, hc, n, hd, _⟩ := (show ObjOk P w H h a (.tup xs) from ok a _ e)
    obtain ⟨as, z⟩ := RepAll.reads ok rs rv
    exact ⟨_, .tuple eh hc hd (by simpa using z)⟩
theorem RepAll.reads {P : Program} {w : World} {H : Hp} {h : Heap} (ok : HOk P w H h) : ∀ {vs : List V} {ds : List PyData} {us : List Value}, RepAll H vs ds → Vals vs us → ∃ as, ReadsAll h us ds as
  | _, _, _, .nil, r => by cases r; exact ⟨_, .nil⟩
  | _, _, _, .cons q qs, r => by
    cases r with
    | cons r1 r2 =>
      obtain ⟨as, z⟩ := Rep.reads ok q r1
      obtain ⟨bs, zs⟩ := RepAll.reads ok qs r2
      exact ⟨_, .cons z zs⟩
end
mutual
theorem Rep.same {H H' : Hp} (s : Same H H') : ∀ {v : V} {d : PyData}, Rep H v d → Rep H' v d
  | _, _, .non => .non
  | _, _, .bl b => .bl b
  | _, _, .int i => .int i
  | _, _, .str x => .str x
  | _, _, .lst e rs => .lst (s _ _ e) (rs.same s)
  | _, _, .tup e rs => .tup (s _ _ e) (rs.same s)
theorem RepAll.same {H H' : Hp} (s : Same H H') : ∀ {vs : List V} {ds : List PyData}, RepAll H vs ds → RepAll H' vs ds
  | _, _, .nil => .nil
  | _, _, .cons q qs => .cons (q.same s) (qs.same s)
end
section
variable {X : Cx}
noncomputable def shp (d : PyData) : Prop := SeqAt.shaped d = true
noncomputable def rEqD : R2 := fun x y H Q => ∃ da db, Rep H x da ∧ Rep H y db ∧ shp da ∧ shp db ∧ Q (.bl (PyData.eqv da db)) H
noncomputable def rNeD : R2 := fun x y H Q => ∃ da db, Rep H x da ∧ Rep H y db ∧ shp da ∧ shp db ∧ Q (.bl (!PyData.eqv da db)) H
theorem op_eqD (hu : X.A.units + 64 < cLine) : OpR X (compareOp .Eq) rEqD := by
  intro pins s σ H x y v u Q I rx ry h
  obtain ⟨da, db, ra, rb, sa, sb, q⟩ := h
  obtain ⟨as, za⟩ := ra.reads I.hok rx
  obtain ⟨bs, zb⟩ := rb.reads I.hok ry
  exact eq_dataH za zb sa sb hu ⟨.bl _, H, I, rfl, q⟩
theorem op_neD (hu : X.A.units + 64 < cLine) : OpR X (compareOp .NotEq) rNeD := by
  intro pins s σ H x y v u Q I rx ry h
  obtain ⟨da, db, ra, rb, sa, sb, q⟩ := h
  obtain ⟨as, za⟩ := ra.reads I.hok rx
  obtain ⟨bs, zb⟩ := rb.reads I.hok ry
  exact ne_dataH za zb sa sb hu ⟨.bl _, H, I, rfl, q⟩
theorem all_range (bs : List Bool) : ((List.range bs.length).all fun i => bs.getD i false) = bs.all id := by
  rw [Bool.eq_iff_iff, List.all_eq_true, List.all_eq_true]
  constructor
  · intro h b hb
    obtain ⟨i, hi, rfl⟩ := List.mem_iff_getElem.mp hb
    have := h i (by simpa using hi)
    simpa [List.getD_eq_getElem?_getD, hi] using this
  · intro h i hi
    have hi : i < bs.length := by simpa using hi
    have := h bs[i] (List.getElem_mem hi)
    simpa [List.getD_eq_getElem?_getD, hi] using this
theorem vals_bl {bs : List Bool} {its : List Value} (r : Vals (bs.map V.bl) its) {i : Nat} {v : Value} (e : its[i]? = some v) : v = .bool (bs.getD i false) := by
  have hl := r.length
  rw [List.length_map] at hl
  have hi : i < bs.length := by rw [hl]; exact (List.getElem?_eq_some_iff.mp e).1
  obtain ⟨u, hu, ru⟩ := r.get (i := i) (x := V.bl (bs.getD i false)) (by rw [List.getElem?_map]; simp [List.getD_eq_getElem?_getD, hi])
  rw [e] at hu
  cases hu
  exact ru
theorem call_all_bl (hc : X.calm = true) : CallR X (.builtin "all") (fun xs H Q => ∃ p bs, xs = [.ref p] ∧ H p = some (.lst (List.map V.bl bs)) ∧ Q (.bl (bs.all id)) H) := by
  intro pins s σ H xs us Q I r h
  obtain ⟨p, bs, rfl, e, q⟩ := h
  obtain ⟨u, rfl, ru⟩ := vals1 r
  cases ru
  obtain ⟨hz, its, n, rv, eh⟩ := (show ObjOk X.prog X.w H s.heap p (.lst (List.map V.bl bs)) from I.hok p _ e)
  have hl : s.heap.IsList p its.toArray := ⟨_, eh, rfl, n, rfl⟩
  have hlen : its.length = bs.length := by have := rv.length; rw [List.length_map] at this; exact this.symm
  have hpl : p < s.heap.objs.size := Heap.lt_size eh
  refine call_all_walk (wpAny_pyIter_list hl ?_)
  refine ⟨s.heap.objs.size, [s.heap.objs.size, p], [s.heap.objs.size], its.toArray.size, _, _, fun i => bs.getD i false, rfl,
    Walks.list (A := X.A.in1) (I.ok.hd hc) _ p (Nat.ne_of_lt hpl) its.toArray, ⟨⟨_, Heap.get?_push_size _ rfl, rfl, rfl⟩, ⟨_, Heap.get?_push_of_some _ eh, rfl, n, rfl⟩⟩, ?_, fun h' tk hk => ?_⟩
  · intro i v s' Q' E' hv hQ'
    have hv : its[i]? = some v := by simpa using hv
    rw [vals_bl rv hv]
    exact wpAny_pure hQ'
  · refine ⟨.bl _, H, I.kept fun b o eb => hk b o (by simpa using Nat.ne_of_lt (Heap.lt_size eb)) (Heap.get?_push_of_some _ eb), rfl, ?_⟩
    rw [List.size_toArray, hlen, all_range]
    exact q
theorem strs_of : ∀ {ys : List Str} {us : List Value}, Vals (ys.map V.str) us → StrsAre us ys
  | [], us, r => by cases r; exact .nil
  | y :: ys, us, r => by
    cases r with
    | cons r1 r2 =>
      obtain ⟨t, rfl⟩ := r1
      exact .cons y t (strs_of r2)
noncomputable def rJoin : V → List V → Hp → VK → Prop := fun x xs H Q => ∃ z p ys, x = .str z ∧ xs = [.ref p] ∧ H p = some (.lst (List.map V.str ys)) ∧ (ys.map (·.length)).sum + ys.length * z.length ≤ 16777216 ∧ Q (.str (Txt.join z ys)) H
theorem mt_join : MtR X "str.join" rJoin := by
  intro pins s σ H x xs v us Q I rx rv h
  obtain ⟨z, p, ys, rfl, rfl, e, hz, q⟩ := h
  obtain ⟨t, rfl⟩ := rx
  obtain ⟨u, rfl, ru⟩ := vals1 rv
  cases ru
  obtain ⟨_, its, n, rv, eh⟩ := (show ObjOk X.prog X.w H s.heap p (.lst (List.map V.str ys)) from I.hok p _ e)
  exact join_list (D := p) (items := its.toArray) ⟨_, eh, rfl, n, rfl⟩ (by simpa using strs_of rv) hz fun t' k => ⟨.str _, H, I.tok k, ⟨t', rfl⟩, q⟩
noncomputable def rSlS : V → Option Int → Option Int → Hp → VK → Prop := fun x lo hi H Q => ∃ z, x = .str z ∧ z.length ≤ sizeLine ∧ Q (.str (Txt.slice z lo hi)) H
theorem sl_str : SlR X rSlS := by
  intro pins s σ H x v vl vu lo hi sl Q I rx hs pl pu h
  obtain ⟨z, rfl, hz, q⟩ := h
  obtain ⟨t, rfl⟩ := rx
  refine ⟨"str", _, PySem.F.slot_str_getitem.lookup, typeIs_str _ _ _, ?_⟩
  obtain ⟨o, h1, h2, h3⟩ := hs
  have fin : ∀ t' k, EP X pins σ Q (.str (Txt.slice z lo hi) t') { s with toks := k } := fun t' k => ⟨.str _, H, I.tok k, ⟨t', rfl⟩, q⟩
  cases pl with
  | none => cases pu with
    | none => exact wpAny_getItem_str_slice (l := none) (u := none) (st := none) ⟨o, h1, h2, h3⟩ rfl (post_val_or_str ⟨Nat.le_trans (Txt.slice_le z _ _) hz, fin⟩)
    | int j tj => exact wpAny_getItem_str_slice (l := none) (u := some (j, tj)) (st := none) ⟨o, h1, h2, h3⟩ rfl (post_val_or_str ⟨Nat.le_trans (Txt.slice_le z _ _) hz, fin⟩)
  | int i ti => cases pu with
    | none => exact wpAny_getItem_str_slice (l := some (i, ti)) (u := none) (st := none) ⟨o, h1, h2, h3⟩ rfl (post_val_or_str ⟨Nat.le_trans (Txt.slice_le z _ _) hz, fin⟩)
    | int j tj => exact wpAny_getItem_str_slice (l := some (i, ti)) (u := some (j, tj)) (st := none) ⟨o, h1, h2, h3⟩ rfl (post_val_or_str ⟨Nat.le_trans (Txt.slice_le z _ _) hz, fin⟩)
noncomputable def rIsi (K : PySem.W.Frag) (c : String) : List V → Hp → VK → Prop := fun xs H Q => ∃ x t b, xs = [x, .ty c] ∧ TyOf K H x t ∧ PySem.W.kitOne K t (.type c) = some b ∧ Q (.bl b) H
theorem call_isi (c : String) : CallR X (.builtin "isinstance") (rIsi X.K c) := by
  intro pins s σ H xs us Q I r h
  obtain ⟨x, t, b, rfl, ty, e, q⟩ := h
  obtain ⟨u, w', rfl, ru, rw'⟩ := vals2 r
  cases rw'
  exact isinst_ok I ru ty e fun tk => ⟨.bl b, H, I.tok tk, rfl, q⟩
theorem any_readOf {P : Program} {w : World} {H : Hp} {h : Heap} (ok : HOk P w H h) {d : PyData} : ∀ {xs : List V} {ds : List PyData} {us : List Value}, RepAll H xs ds → Vals xs us → PyData.canLayAll0 ds = true → us.any (fun u => PyData.eqv (SeqAt.readOf h u) d) = ds.any fun e => PyData.eqv e d
  | _, _, _, .nil, r, _ => by cases r; rfl
  | _, _, _, .cons q qs, r, hl => by
    cases r with
    | cons r1 r2 =>
      have hl' := Bool.and_eq_true_iff.mp (show (PyData.canLay0 _ && PyData.canLayAll0 _) = true from hl)
      obtain ⟨as, z⟩ := q.reads ok r1
      rw [List.any_cons, List.any_cons, SeqAt.readOf_eq hl'.1 z, any_readOf ok qs r2 hl'.2]
theorem mem_readOf {P : Program} {w : World} {H : Hp} {A : Around} {s : Shared} (ok : HOk P w H s.heap) {d : PyData} {x : V} {v : Value} {bs : List Addr} (zx : Reads s.heap v d bs) (hd : d.canLay0 = true) (hu : A.units + d.depth < cLine) :
    ∀ {xs : List V} {ds : List PyData} {us : List Value}, RepAll H xs ds → Vals xs us → PyData.canLayAll0 ds = true → ∀ u ∈ us, SeqAt.EqAt A s u v (PyData.eqv (SeqAt.readOf s.heap u) d)
  | _, _, _, .nil, r, _ => by cases r; intro u hu; cases hu
  | _, _, _, .cons q qs, r, hl => by
    cases r with
    | cons r1 r2 =>
      have hl' := Bool.and_eq_true_iff.mp (show (PyData.canLay0 _ && PyData.canLayAll0 _) = true from hl)
      intro u hm
      rcases List.mem_cons.mp hm with rfl | hm
      · obtain ⟨as, z⟩ := q.reads ok r1
        rw [SeqAt.readOf_eq hl'.1 z]
        exact SeqAt.eqAt_reads _ _ _ _ _ _ _ _ z zx hl'.1 hd (Nat.lt_of_le_of_lt (Nat.add_le_add_left (Nat.min_le_right _ _) _) hu)
      · exact mem_readOf (x := x) ok zx hd hu qs r2 hl'.2 u hm
noncomputable def rInD (neg : Bool) : R2 := fun x y H Q => ∃ p xs ds d, y = .ref p ∧ H p = some (.lst xs) ∧ RepAll H xs ds ∧ Rep H x d ∧ PyData.canLayAll0 ds = true ∧ d.canLay0 = true ∧ d.depth ≤ 16 ∧
  Q (.bl (if neg then !(ds.any fun e => PyData.eqv e d) else ds.any fun e => PyData.eqv e d)) H
theorem op_inD (hu : X.A.units + 64 < cLine) : OpR X (compareOp .In) (rInD false) := by
  intro pins s σ H x y v u Q I rx ry h
  obtain ⟨p, xs, ds, d, rfl, e, rs, r, cs, c, dp, q⟩ := h
  cases ry
  obtain ⟨_, its, n, rv, eh⟩ := (show ObjOk X.prog X.w H s.heap p (.lst xs) from I.hok p _ e)
  obtain ⟨bs, zx⟩ := r.reads I.hok rx
  refine SeqAt.in_listAt (fun u => PyData.eqv (SeqAt.readOf s.heap u) d) ⟨_, eh, rfl, n, rfl⟩ (fun w hw => mem_readOf (x := x) I.hok zx c (by show X.A.units + 1 + d.depth < cLine; omega) rs rv cs w (by simpa using hw)) ⟨.bl _, H, I, rfl, ?_⟩
  rw [show its.toArray.any (fun u => PyData.eqv (SeqAt.readOf s.heap u) d) = its.any (fun u => PyData.eqv (SeqAt.readOf s.heap u) d) by simp, any_readOf I.hok rs rv cs]
  exact q
theorem op_notInD (hu : X.A.units + 64 < cLine) : OpR X (compareOp .NotIn) (rInD true) := by
  intro pins s σ H x y v u Q I rx ry h
  obtain ⟨p, xs, ds, d, rfl, e, rs, r, cs, c, dp, q⟩ := h
  cases ry
  obtain ⟨_, its, n, rv, eh⟩ := (show ObjOk X.prog X.w H s.heap p (.lst xs) from I.hok p _ e)
  obtain ⟨bs, zx⟩ := r.reads I.hok rx
  refine SeqAt.notIn_listAt (fun u => PyData.eqv (SeqAt.readOf s.heap u) d) ⟨_, eh, rfl, n, rfl⟩ (fun w hw => mem_readOf (x := x) I.hok zx c (by show X.A.units + 1 + d.depth < cLine; omega) rs rv cs w (by simpa using hw)) ⟨.bl _, H, I, rfl, ?_⟩
  rw [show its.toArray.any (fun u => PyData.eqv (SeqAt.readOf s.heap u) d) = its.any (fun u => PyData.eqv (SeqAt.readOf s.heap u) d) by simp, any_readOf I.hok rs rv cs]
  exact q
end
end L2
namespace L2
open PySem PySem.Spec PyProof.Rows
structure Cal (P : Program) (w : World) (K : PySem.W.Frag) (mg : Str → Option Value) (base : Heap) (k : Nat) (x : Str) (ps : List Str) (sp : Sp) : Prop where
  ex : ∃ (f : Addr) (fd : FuncData), FnOk P w K mg base CX0 k f fd ps sp ∧ mg x = some (.ref f) ∧ PySem.W.keepIn K (.ref f) = true ∧ Binds K fd ps []
section
variable {X : Cx} {x : Str} {ps : List Str} {sp : Sp} {k j : Nat} {p pos : Pos} {e : Expr} {es : List Expr} {t : TA}
theorem pe_cal (c : Cal X.prog X.w X.K X.mg X.base k x ps sp) (hr : Room k X.A) (hg : Gl X x) (ha : PA X (e :: es) t)
    (hs : starEach (e :: es) X.env = (false, eval e X.env) :: starEach es X.env := by rfl) (hpl : (backTo pos (starEach es X.env)).any (·.1) = false := by rfl) (hdb : (x == ("__debug__" : Str)) = false := by decide) :
    PE X (.Call (.Name x p) (e :: es) [] pos) (tCall sp [] E0 t) := by
  obtain ⟨f, fd, G, mf, kp, b⟩ := c.ex
  exact pe_call G hr hg mf kp b .nil pass0 ha (hdb := hdb) (he := hs) (hpl := hpl)
end
section
variable {X : Cx}
inductive AddR (H : Hp) : V → V → VK → Prop
  | int {i j : Int} {Q : VK} : Q (.int (i + j)) H → AddR H (.int i) (.int j) Q
  | str {i j : Str} {Q : VK} : i.length + j.length ≤ sizeLine → Q (.str (i ++ j)) H → AddR H (.str i) (.str j) Q
  | lst {l b : Addr} {xs zs : List V} {Q : VK} : H l = some (.lst xs) → H b = some (.lst zs) → xs.length + zs.length ≤ sizeLine → (∀ p, H p = none → Q (.ref p) (upd H p (.lst (xs ++ zs)))) → AddR H (.ref l) (.ref b) Q
theorem op_addX : OpR X (binaryOp .Add) (fun x y H Q => AddR H x y Q) := by
  intro pins s σ H x y v u Q I rx ry h
  cases h with
  | int q => exact op_add pins s σ H _ _ v u Q I rx ry ⟨_, _, rfl, rfl, q⟩
  | str hz q => exact op_add_str pins s σ H _ _ v u Q I rx ry ⟨_, _, rfl, rfl, hz, q⟩
  | lst h1 h2 hz q => exact op_cat pins s σ H _ _ v u Q I rx ry ⟨_, _, _, _, rfl, rfl, h1, h2, hz, q⟩
inductive EqR (neg : Bool) (H : Hp) : V → V → VK → Prop
  | sc {x y : V} {Q : VK} : scal x y = true → Q (.bl (if neg then !decide (x = y) else decide (x = y))) H → EqR neg H x y Q
  | tr {x y : V} {da db : PyData} {Q : VK} : Rep H x da → Rep H y db → shp da → shp db → Q (.bl (if neg then !PyData.eqv da db else PyData.eqv da db)) H → EqR neg H x y Q
theorem op_eqX (hu : X.A.units + 64 < cLine) : OpR X (compareOp .Eq) (fun x y H Q => EqR false H x y Q) := by
  intro pins s σ H x y v u Q I rx ry h
  cases h with
  | sc h q => exact op_eq pins s σ H _ _ v u Q I rx ry ⟨h, q⟩
  | tr ra rb sa sb q => exact op_eqD hu pins s σ H _ _ v u Q I rx ry ⟨_, _, ra, rb, sa, sb, q⟩
theorem op_neX (hu : X.A.units + 64 < cLine) : OpR X (compareOp .NotEq) (fun x y H Q => EqR true H x y Q) := by
  intro pins s σ H x y v u Q I rx ry h
  cases h with
  | sc h q => exact op_ne pins s σ H _ _ v u Q I rx ry ⟨h, q⟩
  | tr ra rb sa sb q => exact op_neD hu pins s σ H _ _ v u Q I rx ry ⟨_, _, ra, rb, sa, sb, q⟩
inductive SlX (K : PySem.W.Frag) (H : Hp) : V → Option Int → Option Int → VK → Prop
  | str {z : Str} {lo hi : Option Int} {Q : VK} : z.length ≤ sizeLine → Q (.str (Txt.slice z lo hi)) H → SlX K H (.str z) lo hi Q
  | lst {a : Addr} {xs : List V} {lo hi : Option Int} {Q : VK} : SqL K H a xs → (∀ p, H p = none → Q (.ref p) (upd H p (.lst (cutV xs lo hi)))) → SlX K H (.ref a) lo hi Q
theorem sl_X : SlR X (fun x lo hi H Q => SlX X.K H x lo hi Q) := by
  intro pins s σ H x v vl vu lo hi sl Q I rx hs pl pu h
  cases h with
  | str hz q => exact sl_str pins s σ H _ v vl vu lo hi sl Q I rx hs pl pu ⟨_, rfl, hz, q⟩
  | lst h1 q => exact sl_list pins s σ H _ v vl vu lo hi sl Q I rx hs pl pu ⟨_, _, rfl, h1, q⟩
end
section
variable {X : Cx}
inductive CmR (f : Int → Int → Bool) (g : Str → Str → Bool) (H : Hp) : V → V → VK → Prop
  | int {i j : Int} {Q : VK} : Q (.bl (f i j)) H → CmR f g H (.int i) (.int j) Q
  | str {i j : Str} {Q : VK} : Q (.bl (g i j)) H → CmR f g H (.str i) (.str j) Q
theorem op_ltX : OpR X (compareOp .Lt) (fun x y H Q => CmR (fun i j => decide (i < j)) (fun i j => decide (i.cps.toList < j.cps.toList)) H x y Q) := by
  intro pins s σ H x y v u Q I rx ry h
  cases h with
  | int q => exact op_lt pins s σ H _ _ v u Q I rx ry ⟨_, _, rfl, rfl, q⟩
  | str q => exact op_lt_str pins s σ H _ _ v u Q I rx ry ⟨_, _, rfl, rfl, q⟩
inductive IsB (neg : Bool) (H : Hp) : V → V → VK → Prop
  | int {i : Int} {b : Bool} {Q : VK} : Q (.bl neg) H → IsB neg H (.int i) (.bl b) Q
  | bl {c b : Bool} {Q : VK} : Q (.bl (if neg then !decide (c = b) else decide (c = b))) H → IsB neg H (.bl c) (.bl b) Q
  | non {x : V} {Q : VK} : Q (.bl (if neg then !decide (x = .non) else decide (x = .non))) H → IsB neg H x .non Q
theorem op_isNotX : OpR X (compareOp .IsNot) (fun x y H Q => IsB true H x y Q) := by
  intro pins s σ H x y v u Q I rx ry h
  cases h with
  | int q =>
    obtain ⟨t, rfl⟩ := rx
    cases ry
    exact wpAny_isNot_other (by rfl) (by intro z; cases z) ⟨.bl _, H, I, rfl, q⟩
  | @bl c b _ q =>
    cases rx
    cases ry
    exact wpAny_isNot_plain (by rfl) (fin_bl I q (by cases c <;> cases b <;> rfl))
  | non q => exact op_notN pins s σ H _ _ v u Q I rx ry ⟨rfl, q⟩
theorem op_isX : OpR X (compareOp .Is) (fun x y H Q => IsB false H x y Q) := by
  intro pins s σ H x y v u Q I rx ry h
  cases h with
  | int q =>
    obtain ⟨t, rfl⟩ := rx
    cases ry
    exact wpAny_is_other (by rfl) (by intro z; cases z) ⟨.bl _, H, I, rfl, q⟩
  | @bl c b _ q =>
    cases rx
    cases ry
    exact wpAny_is_plain (by rfl) (fin_bl I q (by cases c <;> cases b <;> rfl))
  | non q => exact op_isN pins s σ H _ _ v u Q I rx ry ⟨rfl, q⟩
theorem m_join (K : PySem.W.Frag) {o e : Expr} {to : TE} {t : TA} {apos cpos : Pos} (ho : PE X o to) (ha : PA X [e] t)
    (hbase : attributeBase o "join" X.env (eval o X.env) = eval o X.env := by rfl)
    (hfew : ((backTo cpos (starEach [e] X.env)).all (fun x => !x.1) && (backToKw cpos (keywordEach [] X.env)).all (fun x => x.1.isSome)
      && decide ([e].length + ([] : List Keyword).length + (if ([] : List Keyword).isEmpty then 0 else 1) < 30)) = true := by rfl)
    (hline : (apos.endLine == cpos.line) = true := by rfl) (hs : starEach [e] X.env = (false, eval e X.env) :: starEach [] X.env := by rfl) (hplain : (backTo cpos (starEach [] X.env)).any (·.1) = false := by rfl) (hK : X.K = K := by rfl) :
    PE X (.Call (.Attribute o "join" apos) [e] [] cpos) (tBM K "str" rJoin to t) := hK ▸ pe_bm PySem.F.plainAttrs_str PySem.F.slot_str_join PySem.F.type_str_join mt_join ho ha hbase hfew hline hs hplain
theorem m_append (K : PySem.W.Frag) {o e : Expr} {to : TE} {t : TA} {apos cpos : Pos} (ho : PE X o to) (ha : PA X [e] t)
    (hbase : attributeBase o "append" X.env (eval o X.env) = eval o X.env := by rfl)
    (hfew : ((backTo cpos (starEach [e] X.env)).all (fun x => !x.1) && (backToKw cpos (keywordEach [] X.env)).all (fun x => x.1.isSome)
      && decide ([e].length + ([] : List Keyword).length + (if ([] : List Keyword).isEmpty then 0 else 1) < 30)) = true := by rfl)
    (hline : (apos.endLine == cpos.line) = true := by rfl) (hs : starEach [e] X.env = (false, eval e X.env) :: starEach [] X.env := by rfl) (hplain : (backTo cpos (starEach [] X.env)).any (·.1) = false := by rfl) (hK : X.K = K := by rfl) :
    PE X (.Call (.Attribute o "append" apos) [e] [] cpos) (tBM K "list" rAppend to t) := hK ▸ pe_bm PySem.F.plainAttrs_list PySem.F.slot_list_append PySem.F.type_list_append mt_append ho ha hbase hfew hline hs hplain
theorem sl_K (K : PySem.W.Frag) (hK : X.K = K := by rfl) : SlR X (fun x lo hi H Q => SlX K H x lo hi Q) := hK ▸ sl_X
theorem pi_listK (K : PySem.W.Frag) {tg l : Expr} {tl : TE} (hl : PE X l tl) (hK : X.K = K := by rfl) : PI X tg l (iList K tl) := hK ▸ pi_list hl
theorem pi_tupK (K : PySem.W.Frag) {tg l : Expr} {tl : TE} (hl : PE X l tl) (hK : X.K = K := by rfl) : PI X tg l (iTup K tl) := hK ▸ pi_tup hl
end
theorem gYes {i : Nat} {v : V} {σ : St} {H : Hp} {A B : St → Hp → Prop} (h : A (σ.set i (some v)) H) : gName i v σ H fun σ2 H3 => tYes σ2 H3 fun b H4 => if b = true then A σ2 H4 else B σ2 H4 := by
  show (if true = true then A (σ.set i (some v)) H else B (σ.set i (some v)) H)
  rw [if_pos rfl]
  exact h
section
variable {K : PySem.W.Frag} {k : Nat} {fr : List Nat} {g : TG} {tc : TT} {te : TE} {σ : St} {H1 : Hp} {Q : VK}
theorem comp_items {J : It} (xs : List V) (Ok : Hp → Prop) (hgo : ∀ i H, Ok H → i < xs.length → J.go i H) (hyl : ∀ i H x H', Ok H → i < xs.length → J.yld i H x H' → H' = H ∧ xs[i]? = some x) (hst : ∀ H, Ok H → J.stop xs.length H)
    (Pv : Addr → Nat → List V → St → Hp → Prop)
    (h : ∀ D, H1 D = none → Pv D 0 [] (inSt k fr σ) (upd H1 D (.lst [])) ∧ (∀ i acc σ' H', i ≤ xs.length → Pv D i acc σ' H' → H' D = some (.lst acc) → Ok H') ∧
      (∀ i acc σ' H' x, xs[i]? = some x → Pv D i acc σ' H' → H' D = some (.lst acc) → g x σ' H' fun σ2 H3 => tc σ2 H3 fun b H4 =>
        if b = true then te σ2 H4 fun y H5 => H5 D = some (.lst acc) ∧ acc.length < sizeLine ∧ Pv D (i + 1) (acc ++ [y]) σ2 (upd H5 D (.lst (acc ++ [y]))) else H4 D = some (.lst acc) ∧ Pv D (i + 1) acc σ2 H4) ∧
      ∀ acc σ' H', Pv D xs.length acc σ' H' → H' D = some (.lst acc) → Q (.ref D) H') : tCompW k fr g tc te J σ H1 Q := by
  intro D hD
  obtain ⟨h0, hok, hs, hd⟩ := h D hD
  refine ⟨fun i m acc σ' H' => m = xs.length - i ∧ i ≤ xs.length ∧ Pv D i acc σ' H', ⟨xs.length, by simp, Nat.zero_le _, h0⟩, ?_⟩
  rintro i m acc σ' H' ⟨rfl, hi, p⟩ hacc
  have ok := hok i acc σ' H' hi p hacc
  by_cases hlt : i < xs.length
  · refine .inr ⟨hgo i H' ok hlt, Pv D (i + 1), fun acc' σ2 H2 p' => ⟨xs.length - (i + 1), by omega, rfl, hlt, p'⟩, fun x H2 y => ?_⟩
    obtain ⟨e, hx⟩ := hyl i H' x H2 ok hlt y
    subst e
    exact hs i acc σ' H2 x hx p hacc
  · have e : i = xs.length := by omega
    subst e
    exact .inl ⟨hst H' ok, hd acc σ' H' p hacc⟩
noncomputable def rngV (n : Nat) : List V := (List.range n).map fun i => V.int (0 + (i : Nat))
theorem comp_range {n : Nat} (Pv : Addr → Nat → List V → St → Hp → Prop)
    (h : ∀ D, H1 D = none → Pv D 0 [] (inSt k fr σ) (upd H1 D (.lst [])) ∧
      (∀ i acc σ' H', i < n → Pv D i acc σ' H' → H' D = some (.lst acc) → g (.int (0 + (i : Nat))) σ' H' fun σ2 H3 => tc σ2 H3 fun b H4 =>
        if b = true then te σ2 H4 fun y H5 => H5 D = some (.lst acc) ∧ acc.length < sizeLine ∧ Pv D (i + 1) (acc ++ [y]) σ2 (upd H5 D (.lst (acc ++ [y]))) else H4 D = some (.lst acc) ∧ Pv D (i + 1) acc σ2 H4) ∧
      ∀ acc σ' H', Pv D n acc σ' H' → H' D = some (.lst acc) → Q (.ref D) H') : tCompW k fr g tc te (Itr 0 n) σ H1 Q := by
  have hl : (rngV n).length = n := by simp [rngV]
  refine comp_items (rngV n) (fun _ => True) (fun i H _ hi => by rw [hl] at hi; exact hi) (fun i H x H' _ hi y => ⟨y.1, ?_⟩) (fun H _ => by show n ≤ (rngV n).length; rw [hl]; exact Nat.le_refl _) Pv fun D hD => ?_
  · rw [hl] at hi
    rw [y.2]
    simp [rngV, hi]
  · obtain ⟨a, b, c⟩ := h D hD
    refine ⟨a, fun _ _ _ _ _ _ _ => trivial, fun i acc σ' H' x hx p hacc => ?_, by rw [hl]; exact c⟩
    have hi : i < n := by rw [← hl]; exact (List.getElem?_eq_some_iff.mp hx).1
    have e : x = V.int (0 + (i : Nat)) := by
      simp [rngV, hi] at hx
      rw [← hx]; simp
    subst e
    exact b i acc σ' H' hi p hacc
theorem comp_list {a : Addr} (xs : List V) (Pv : Addr → Nat → List V → St → Hp → Prop)
    (h : ∀ D, H1 D = none → Pv D 0 [] (inSt k fr σ) (upd H1 D (.lst [])) ∧ (∀ i acc σ' H', i ≤ xs.length → Pv D i acc σ' H' → H' D = some (.lst acc) → SqL K H' a xs) ∧
      (∀ i acc σ' H' x, xs[i]? = some x → Pv D i acc σ' H' → H' D = some (.lst acc) → g x σ' H' fun σ2 H3 => tc σ2 H3 fun b H4 =>
        if b = true then te σ2 H4 fun y H5 => H5 D = some (.lst acc) ∧ acc.length < sizeLine ∧ Pv D (i + 1) (acc ++ [y]) σ2 (upd H5 D (.lst (acc ++ [y]))) else H4 D = some (.lst acc) ∧ Pv D (i + 1) acc σ2 H4) ∧
      ∀ acc σ' H', Pv D xs.length acc σ' H' → H' D = some (.lst acc) → Q (.ref D) H') : tCompW k fr g tc te (Itl K a) σ H1 Q :=
  comp_items xs (fun H => SqL K H a xs) (fun i H q hi => ⟨xs, xs[i], q, by simp [hi]⟩) (fun i H x H' q hi y => ⟨y.1, y.2 xs q⟩) (fun H q => ⟨xs, q, Nat.le_refl _⟩) Pv h
theorem comp_tup {a : Addr} (xs : List V) (Pv : Addr → Nat → List V → St → Hp → Prop)
    (h : ∀ D, H1 D = none → Pv D 0 [] (inSt k fr σ) (upd H1 D (.lst [])) ∧ (∀ i acc σ' H', i ≤ xs.length → Pv D i acc σ' H' → H' D = some (.lst acc) → SqT K H' a xs) ∧
      (∀ i acc σ' H' x, xs[i]? = some x → Pv D i acc σ' H' → H' D = some (.lst acc) → g x σ' H' fun σ2 H3 => tc σ2 H3 fun b H4 =>
        if b = true then te σ2 H4 fun y H5 => H5 D = some (.lst acc) ∧ acc.length < sizeLine ∧ Pv D (i + 1) (acc ++ [y]) σ2 (upd H5 D (.lst (acc ++ [y]))) else H4 D = some (.lst acc) ∧ Pv D (i + 1) acc σ2 H4) ∧
      ∀ acc σ' H', Pv D xs.length acc σ' H' → H' D = some (.lst acc) → Q (.ref D) H') : tCompW k fr g tc te (Itt K a) σ H1 Q :=
  comp_items xs (fun H => SqT K H a xs) (fun i H q hi => ⟨xs, xs[i], q, by simp [hi]⟩) (fun i H x H' q hi y => ⟨y.1, y.2 xs q⟩) (fun H q => ⟨xs, q, Nat.le_refl _⟩) Pv h
end
noncomputable def But (p : Addr) (H H' : Hp) : Prop := ∀ b o, b ≠ p → H b = some o → H' b = some o
theorem But.refl (p : Addr) (H : Hp) : But p H H := fun _ _ _ h => h
theorem But.trans {p : Addr} {H H1 H2 : Hp} (a : But p H H1) (b : But p H1 H2) : But p H H2 := fun c o n h => b c o n (a c o n h)
theorem But.upd {p : Addr} {H : Hp} {o : HO} : But p H (upd H p o) := fun b o' n h => by rw [upd_ne n]; exact h
theorem Same.new {H : Hp} {p : Addr} {o : HO} (h : H p = none) : Same H (upd H p o) := fun b o' e => by rw [upd_ne (ne_of_none e h)]; exact e
theorem Rd.but {p : Addr} {H H' : Hp} (b : But p H H') {a : Addr} {u : HO} (n : a ≠ p) (h : Rd H a u) : Rd H' a u := by
  rcases h with h | ⟨o, h⟩
  · exact .inl (b _ _ n h)
  · exact .inr ⟨o, b _ _ n h⟩
theorem SqL.but {K : PySem.W.Frag} {p : Addr} {H H' : Hp} (b : But p H H') {a : Addr} {xs : List V} (n : a ≠ p) (h : SqL K H a xs) : SqL K H' a xs := by
  rcases h with h | h
  · exact .inl (h.but b n)
  · exact .inr h
structure Blt (mg : Str → Option Value) : Prop where
  len : mg "len" = none
  range : mg "range" = none
  abs : mg "abs" = none
  all : mg "all" = none
  repr : mg "repr" = none
  isinstance : mg "isinstance" = none
  str : mg "str" = none
  int : mg "int" = none
  bool : mg "bool" = none
  enumerate : mg "enumerate" = none
  list : mg "list" = none
  tuple : mg "tuple" = none
  dict : mg "dict" = none
  min : mg "min" = none
  max : mg "max" = none
section
variable {X : Cx} {p pos : Pos} {e f : Expr} {t : TA}
noncomputable def rLen (K : PySem.W.Frag) : List V → Hp → VK → Prop := fun xs H Q => ∃ x n, xs = [x] ∧ LenV K x H n ∧ Q (.int n) H
noncomputable def rAbs : List V → Hp → VK → Prop := fun xs H Q => ∃ i, xs = [.int i] ∧ Q (.int (if i < 0 then -i else i)) H
noncomputable def rAll : List V → Hp → VK → Prop := fun xs H Q => ∃ p bs, xs = [.ref p] ∧ H p = some (.lst (List.map V.bl bs)) ∧ Q (.bl (bs.all id)) H
theorem b_len (K : PySem.W.Frag) (B : Blt X.mg) (ha : PA X [e] t) (hg : Gl X "len" := by rfl) (he : starEach [e] X.env = (false, eval e X.env) :: starEach [] X.env := by rfl) (hpl : (backTo pos (starEach [] X.env)).any (·.1) = false := by rfl) (hK : X.K = K := by rfl) : PE X (.Call (.Name "len" p) [e] [] pos) (tCB (rLen K) t) :=
  hK ▸ pe_callB call_len hg B.len PySem.boot_len ha (by decide) (by decide) he hpl
theorem b_abs (B : Blt X.mg) (ha : PA X [e] t) (hg : Gl X "abs" := by rfl) (he : starEach [e] X.env = (false, eval e X.env) :: starEach [] X.env := by rfl) (hpl : (backTo pos (starEach [] X.env)).any (·.1) = false := by rfl) : PE X (.Call (.Name "abs" p) [e] [] pos) (tCB rAbs t) :=
  pe_callB call_abs hg B.abs boot_abs ha (by decide) (by decide) he hpl
theorem b_all (hc : X.calm = true) (B : Blt X.mg) (ha : PA X [e] t) (hg : Gl X "all" := by rfl) (he : starEach [e] X.env = (false, eval e X.env) :: starEach [] X.env := by rfl) (hpl : (backTo pos (starEach [] X.env)).any (·.1) = false := by rfl) : PE X (.Call (.Name "all" p) [e] [] pos) (tCB rAll t) :=
  pe_callB (call_all_bl hc) hg B.all boot_all ha (by decide) (by decide) he hpl
theorem b_isi (K : PySem.W.Frag) (c : String) (B : Blt X.mg) (ha : PA X [e, f] t) (hg : Gl X "isinstance" := by rfl) (he : starEach [e, f] X.env = (false, eval e X.env) :: starEach [f] X.env := by rfl) (hpl : (backTo pos (starEach [f] X.env)).any (·.1) = false := by rfl) (hK : X.K = K := by rfl) : PE X (.Call (.Name "isinstance" p) [e, f] [] pos) (tCB (rIsi K c) t) :=
  hK ▸ pe_callB (call_isi c) hg B.isinstance boot_isinstance ha (by decide) (by decide) he hpl
theorem g_int (B : Blt X.mg) (hg : Gl X "int" := by rfl) : PE X (.Name "int" p) (tC (.ty "int")) := pe_bltn hg B.int PyProof.Rows.boot_int rfl
theorem g_bool (B : Blt X.mg) (hg : Gl X "bool" := by rfl) : PE X (.Name "bool" p) (tC (.ty "bool")) := pe_bltn hg B.bool PyProof.Rows.boot_bool rfl
theorem g_list (B : Blt X.mg) (hg : Gl X "list" := by rfl) : PE X (.Name "list" p) (tC (.ty "list")) := pe_bltn hg B.list (show bootBuiltins "list" = some (.type "list") by decide +kernel) rfl
end
end L2
namespace L2
open PySem PySem.Spec PyProof.Rows PySem.Builtin PySem.Builtin.Str
theorem len_app (x y : Str) : (x ++ y).length = x.length + y.length := by
  show (x.cps ++ y.cps).size = x.cps.size + y.cps.size
  rw [Array.size_append]
theorem len_join (sep : Str) (ys : List Str) : (Txt.join sep ys).length ≤ (ys.map (·.length)).sum + ys.length * sep.length := by
  unfold Txt.join
  rw [size_glued]
  exact Nat.add_le_add_left (Nat.mul_le_mul_right _ (Nat.sub_le _ _)) _
theorem sum_le {ys : List Str} {n : Nat} (h : ∀ y ∈ ys, y.length ≤ n) : (ys.map (·.length)).sum ≤ ys.length * n := by
  induction ys with
  | nil => simp
  | cons y r ih =>
    have h1 := h y (by simp)
    have h2 := ih fun z hz => h z (List.mem_cons_of_mem _ hz)
    simp only [List.map_cons, List.sum_cons, List.length_cons]
    rw [Nat.succ_mul]
    omega
theorem at_ok {α : Type} {xs : List α} {j : Int} (h0 : 0 ≤ j) (h1 : j < xs.length) : ∃ v, atI xs j = some v ∧ v ∈ xs := by
  obtain ⟨k, rfl⟩ := Int.eq_ofNat_of_zero_le h0
  have hk : k < xs.length := by omega
  exact ⟨xs[k], atI_nat (by simp [hk]), List.getElem_mem hk⟩
theorem at_int {ns : List Int} {j : Int} (h0 : 0 ≤ j) (h1 : j < (ns.map V.int).length) : ∃ c, atI (ns.map V.int) j = some (.int c) := by
  obtain ⟨v, e, m⟩ := at_ok h0 h1
  obtain ⟨c, _, rfl⟩ := List.mem_map.mp m
  exact ⟨c, e⟩
theorem fst_small (x : Int) : -(2 ^ 64) < x % 2147483647 ∧ x % 2147483647 < 2 ^ 64 := by
  have h1 := Int.emod_nonneg x (show (2147483647 : Int) ≠ 0 by decide)
  have h2 := Int.emod_lt_of_pos x (show (0 : Int) < 2147483647 by decide)
  omega
noncomputable def PenV (H : Hp) (p a : Addr) : Prop := ∃ (i n : Int), H p = some (.lst [.ref a, .int i, .int n]) ∧ 0 ≤ i ∧ 0 ≤ n
noncomputable def Pen (K : PySem.W.Frag) (H : Hp) (p a : Addr) : Prop := (∃ ns : List Int, ∀ H', But p H H' → SqL K H' a (ns.map V.int)) ∧ PenV H p a
theorem Pen.but {K : PySem.W.Frag} {H H' : Hp} {p a : Addr} (h : Pen K H p a) (b : But p H H') (v : PenV H' p a) : Pen K H' p a := ⟨let ⟨ns, q⟩ := h.1; ⟨ns, fun H2 b2 => q H2 (b.trans b2)⟩, v⟩
theorem Pen.new {K : PySem.W.Frag} {H : Hp} {p a : Addr} {ns : List Int} {o : HO} (h : SqL K H a (ns.map V.int)) (hp : H p = none) (v : PenV (upd H p o) p a) : Pen K (upd H p o) p a := by
  refine ⟨⟨ns, fun H' b => ?_⟩, v⟩
  rcases h with h | h
  · have n : a ≠ p := by
      rcases h with h | ⟨ob, h⟩
      · exact ne_of_none h hp
      · exact ne_of_none h hp
    have s : Same H (upd H p o) := Same.new hp
    exact SqL.but (fun c o' n' e => b c o' n' (s c o' e)) n (.inl h)
  · exact .inr h
theorem PenV.upd {H : Hp} {p a D : Addr} {o : HO} (h : PenV H p a) (n : p ≠ D) : PenV (L2.upd H D o) p a := let ⟨i, m, e, q⟩ := h; ⟨i, m, by rw [upd_ne n]; exact e, q⟩
theorem PenV.ne {H : Hp} {p a D : Addr} (h : PenV H p a) (e : H D = none) : p ≠ D := let ⟨_, _, q, _⟩ := h; ne_of_none q e
theorem But.at {p D : Addr} {H H' : Hp} {o : HO} (b : But p H H') (hD : H D = none) : But p H (L2.upd H' D o) := fun c o' n h => by rw [upd_ne (ne_of_none h hD)]; exact b c o' n h
theorem But.of_eq {p : Addr} {H H' : Hp} (h : ∀ b, b ≠ p → H' b = H b) : But p H H' := fun b o n e => (h b n).trans e
theorem But.free {p D : Addr} {H H' : Hp} (b : But p H H') (n : D ≠ p) (h : H' D = none) : H D = none := by
  cases e : H D with
  | none => rfl
  | some o => rw [b D o n e] at h; cases h
noncomputable def spDraw (K : PySem.W.Frag) : Sp := fun vs H Q _ => ∃ (p a : Addr) (m : Int), vs = [.ref p, .int m] ∧ Pen K H p a ∧ 0 < m ∧ m < 1073741824 ∧ ∀ r H', 0 ≤ r → r < m → PenV H' p a → (∀ b, b ≠ p → H' b = H b) → Q (.int r) H'
end L2
namespace L2
open PySem PySem.Spec PyProof.Rows
section
variable {X : Cx}
inductive InR (K : PySem.W.Frag) (neg : Bool) (H : Hp) : V → V → VK → Prop
  | dic {a : Addr} {y : V} {o : Option V} {Q : VK} : DGet H a y o → Q (.bl (if neg then !o.isSome else o.isSome)) H → InR K neg H y (.ref a) Q
  | seq {p : Addr} {x : V} {xs : List V} {Q : VK} : (SqL K H p xs ∨ SqT K H p xs) → flatV x = true → xs.all flatV = true → Q (.bl (if neg then !inV x xs else inV x xs)) H → InR K neg H x (.ref p) Q
  | tr {p : Addr} {x : V} {xs : List V} {ds : List PyData} {d : PyData} {Q : VK} : H p = some (.lst xs) → RepAll H xs ds → Rep H x d → PyData.canLayAll0 ds = true → d.canLay0 = true → d.depth ≤ 16 →
      Q (.bl (if neg then !(ds.any fun e => PyData.eqv e d) else ds.any fun e => PyData.eqv e d)) H → InR K neg H x (.ref p) Q
theorem op_inX (K : PySem.W.Frag) (hu : X.A.units + 64 < cLine) (hK : X.K = K := by rfl) : OpR X (compareOp .In) (fun x y H Q => InR K false H x y Q) := by
  subst hK
  intro pins s σ H x y v u Q I rx ry h
  cases h with
  | dic g q =>
    cases ry
    exact d_in (by omega) I g rx fun s' I' => ⟨.bl _, H, I', rfl, q⟩
  | seq hq fx fs q => exact op_in_seq pins s σ H _ _ v u Q I rx ry ⟨_, _, rfl, hq, fx, fs, q⟩
  | tr e rs r cs c dp q => exact op_inD hu pins s σ H _ _ v u Q I rx ry ⟨_, _, _, _, rfl, e, rs, r, cs, c, dp, q⟩
theorem op_notInX (K : PySem.W.Frag) (hu : X.A.units + 64 < cLine) (hK : X.K = K := by rfl) : OpR X (compareOp .NotIn) (fun x y H Q => InR K true H x y Q) := by
  subst hK
  intro pins s σ H x y v u Q I rx ry h
  cases h with
  | dic g q =>
    cases ry
    exact d_notIn (by omega) I g rx fun s' I' => ⟨.bl _, H, I', rfl, q⟩
  | seq hq fx fs q => exact op_notIn_seq pins s σ H _ _ v u Q I rx ry ⟨_, _, rfl, hq, fx, fs, q⟩
  | tr e rs r cs c dp q => exact op_notInD hu pins s σ H _ _ v u Q I rx ry ⟨_, _, _, _, rfl, e, rs, r, cs, c, dp, q⟩
inductive IxX (K : PySem.W.Frag) (H : Hp) : V → V → VK → Prop
  | lst {p : Addr} {xs : List V} {i : Int} {v : V} {Q : VK} : SqL K H p xs → atI xs i = some v → Q v H → IxX K H (.ref p) (.int i) Q
  | tup {p : Addr} {xs : List V} {i : Int} {v : V} {Q : VK} : SqT K H p xs → atI xs i = some v → Q v H → IxX K H (.ref p) (.int i) Q
  | str {z : Str} {i : Int} {c : Nat} {Q : VK} : z.length ≤ sizeLine → atI z.cps.toList i = some c → Q (.str ⟨#[c]⟩) H → IxX K H (.str z) (.int i) Q
  | dic {a : Addr} {y v : V} {Q : VK} : DGet H a y (some v) → Q v H → IxX K H (.ref a) y Q
theorem ix_X (K : PySem.W.Frag) (hu : X.A.units + 64 < cLine) (hK : X.K = K := by rfl) : IxR X (fun x y H Q => IxX K H x y Q) := by
  subst hK
  intro value slice pins s σ H x y v u Q I rx ry h hs
  cases h with
  | lst hq e q => exact ix_list value slice pins s σ H _ _ v u Q I rx ry ⟨_, _, _, _, rfl, rfl, hq, e, q⟩ hs
  | tup hq e q => exact ix_tup value slice pins s σ H _ _ v u Q I rx ry ⟨_, _, _, _, rfl, rfl, hq, e, q⟩ hs
  | str hz e q => exact ix_str value slice pins s σ H _ _ v u Q I rx ry ⟨_, _, _, rfl, rfl, hz, e, q⟩ hs
  | dic g q =>
    cases rx
    exact tail_any (dict_typeIs I g) PySem.F.slot_dict_getitem.lookup (d_getItem (by omega) I g ry fun w' s3 I3 rw' => ⟨_, H, I3, rw', q⟩) hs
inductive SetX (H : Hp) : V → V → V → (Hp → Prop) → Prop
  | lst {p : Addr} {xs : List V} {k : Int} {j : Nat} {v : V} {Q : Hp → Prop} : H p = some (.lst xs) → ixN xs.length k = some j → Q (upd H p (.lst (xs.set j v))) → SetX H (.ref p) (.int k) v Q
  | dic {a : Addr} {y v : V} {H' : Hp} {Q : Hp → Prop} : DPut H a y v H' → Q H' → SetX H (.ref a) y v Q
theorem set_X (hu : X.A.units + 64 < cLine) : PSet X (fun o i v H Q => SetX H o i v Q) := by
  intro pins s σ H o i v ov iv u Q I ro ri rv h
  cases h with
  | lst e ej q => exact set_list pins s σ H _ _ _ ov iv u Q I ro ri rv ⟨_, _, _, _, rfl, rfl, e, ej, q⟩
  | dic g q =>
    cases ro
    exact d_setItem (by omega) I g ri rv fun s4 I4 => ⟨_, I4, q⟩
theorem pg_tupK (K : PySem.W.Frag) {es : List Expr} {k : Nat} {pos : Pos} {t : TGs} {n : Nat} (hc : X.calm = true) (h : PGs X es t)
    (hn : (assignEach es X.env).length = n := by rfl) (hst : (assignEach es X.env).findIdx? (·.1) = none := by rfl) (hK : X.K = K := by rfl) : PG X (.Tuple es k pos) (gTup K n t) := hK ▸ pg_tup hc h hn hst
variable {p pos p2 pos2 : Pos} {e f : Expr} {t : TA}
end
end L2
namespace L2
open PySem PySem.Spec PyProof.Rows
section
variable {X : Cx} {p pos p2 pos2 : Pos} {e f : Expr} {t : TA}
noncomputable def rTupL (K : PySem.W.Frag) : List V → Hp → VK → Prop := fun xs H Q => ∃ a ys, xs = [.ref a] ∧ SqL K H a ys ∧ ∀ l, H l = none → Q (.ref l) (upd H l (.tup ys))
theorem b_tuple (K : PySem.W.Frag) (B : Blt X.mg) (ha : PA X [e] t) (hg : Gl X "tuple" := by rfl) (he : starEach [e] X.env = (false, eval e X.env) :: starEach [] X.env := by rfl) (hpl : (backTo pos (starEach [] X.env)).any (·.1) = false := by rfl) (hK : X.K = K := by rfl) :
    PE X (.Call (.Name "tuple" p) [e] [] pos) (tCB (rTupL K) t) := by
  subst hK
  refine pe_callTy (r := rTupL X.K) (fun pins s σ H xs us Q I r h => ?_) hg B.tuple (show bootBuiltins "tuple" = some (.type "tuple") by decide +kernel) ha (by decide) (by decide) he hpl
  obtain ⟨a, ys, rfl, hq, q⟩ := h
  exact call_tuple_of pins s σ H _ us Q I r ⟨a, ys, rfl, .inl ⟨hq, q⟩⟩
inductive LstR (K : PySem.W.Frag) (H : Hp) : V → VK → Prop
  | seq {a : Addr} {ys : List V} {Q : VK} : (SqL K H a ys ∨ SqT K H a ys) → (∀ l, H l = none → Q (.ref l) (upd H l (.lst ys))) → LstR K H (.ref a) Q
  | rng {a : Addr} {n : Nat} {Q : VK} : H a = some (.rng 0 (n : Int)) → n ≤ 1000 → (∀ l, H l = none → Q (.ref l) (upd H l (.lst (rngV n)))) → LstR K H (.ref a) Q
noncomputable def rLst (K : PySem.W.Frag) : List V → Hp → VK → Prop := fun xs H Q => ∃ x, xs = [x] ∧ LstR K H x Q
theorem vals_rng {n : Nat} {its : List Value} (hl : its.length = n) (h : ∀ i v, its[i]? = some v → ∃ t, v = Value.int (0 + (i : Nat) * 1) t) : Vals (rngV n) its := by
  subst hl
  have key : ∀ (its : List Value) (k : Nat), (∀ i v, its[i]? = some v → ∃ t, v = Value.int (0 + ((k + i : Nat) : Int)) t) → Vals ((List.range' k its.length).map fun i => V.int (0 + (i : Nat))) its := by
    intro its
    induction its with
    | nil => intro k _; exact .nil
    | cons u r ih =>
      intro k h
      rw [List.length_cons, List.range'_succ, List.map_cons]
      refine .cons ?_ (ih (k + 1) fun i v e => ?_)
      · obtain ⟨t, e⟩ := h 0 u rfl
        exact ⟨t, by rw [e, Nat.add_zero]⟩
      · obtain ⟨t, e'⟩ := h (i + 1) v (by simpa using e)
        exact ⟨t, by rw [e', show ((k + (i + 1) : Nat) : Int) = ((k + 1 + i : Nat) : Int) by omega]⟩
  have := key its 0 fun i v e => by
    obtain ⟨t, e'⟩ := h i v e
    exact ⟨t, by rw [e', Int.mul_one, Nat.zero_add]⟩
  rw [rngV, List.range_eq_range']
  exact this
theorem b_list (K : PySem.W.Frag) (hc : X.calm = true) (B : Blt X.mg) (ha : PA X [e] t) (hg : Gl X "list" := by rfl) (he : starEach [e] X.env = (false, eval e X.env) :: starEach [] X.env := by rfl) (hpl : (backTo pos (starEach [] X.env)).any (·.1) = false := by rfl) (hK : X.K = K := by rfl) :
    PE X (.Call (.Name "list" p) [e] [] pos) (tCB (rLst K) t) := by
  subst hK
  refine pe_callTy (r := rLst X.K) (fun pins s σ H xs us Q I r h => ?_) hg B.list (show bootBuiltins "list" = some (.type "list") by decide +kernel) ha (by decide) (by decide) he hpl
  obtain ⟨x, rfl, h⟩ := h
  cases h with
  | seq hq q => exact call_list_of pins s σ H _ us Q I r ⟨_, _, rfl, hq, q⟩
  | @rng a n _ ea hn q =>
    obtain ⟨u, rfl, ru⟩ := vals1 r
    cases ru
    obtain ⟨t1, t2, t3, eh⟩ := (show ObjOk X.prog X.w H s.heap a (.rng 0 (n : Int)) from I.hok a _ ea)
    refine call_list_range (n := n) (I.ok.hd hc) eh (small_one (by decide) (by decide) (by omega) (by omega)) (by rw [rangeSize_one]; split <;> omega) (by omega) fun h' tk acc' c' hk hl hi => ?_
    have hv : Vals (rngV n) acc'.toList := vals_rng (by simpa using hi.1) fun i v e => hi.2 i v (by simpa using e)
    refine ⟨.ref _, _, I.laid (o := .lst (rngV n)) hk (Nat.le_refl _) ⟨?_, acc'.toList, c', hv, by simpa using hl⟩, rfl, q _ (I.hok.fresh (Nat.le_refl _))⟩
    have : (rngV n).length = n := by simp [rngV]
    rw [this]
    exact Nat.le_of_lt (small1000 hn)
theorem b_min (hc : X.calm = true) (B : Blt X.mg) (ha : PA X [e, f] t) (hg : Gl X "min" := by rfl) (he : starEach [e, f] X.env = (false, eval e X.env) :: starEach [f] X.env := by rfl) (hpl : (backTo pos (starEach [f] X.env)).any (·.1) = false := by rfl) :
    PE X (.Call (.Name "min" p) [e, f] [] pos) (tCB (fun xs H Q => ∃ i j, xs = [.int i, .int j] ∧ Q (.int (if j < i then j else i)) H) t) :=
  pe_callB (call_min2 hc) hg B.min (show bootBuiltins "min" = some (.builtin "min") by decide +kernel) ha (by decide) (by decide) he hpl
theorem b_max (hc : X.calm = true) (B : Blt X.mg) (ha : PA X [e, f] t) (hg : Gl X "max" := by rfl) (he : starEach [e, f] X.env = (false, eval e X.env) :: starEach [f] X.env := by rfl) (hpl : (backTo pos (starEach [f] X.env)).any (·.1) = false := by rfl) :
    PE X (.Call (.Name "max" p) [e, f] [] pos) (tCB (fun xs H Q => ∃ i j, xs = [.int i, .int j] ∧ Q (.int (if j > i then j else i)) H) t) :=
  pe_callB (call_max2 hc) hg B.max (show bootBuiltins "max" = some (.builtin "max") by decide +kernel) ha (by decide) (by decide) he hpl
theorem m_clear (K : PySem.W.Frag) {o : Expr} {to : TE} {apos cpos : Pos} (ho : PE X o to) (hbase : attributeBase o "clear" X.env (eval o X.env) = eval o X.env := by rfl) (hline : (apos.endLine == cpos.line) = true := by rfl) (hK : X.K = K := by rfl) :
    PE X (.Call (.Attribute o "clear" apos) [] [] cpos) (tBM0 K "list" rClear to) := hK ▸ pe_bm0 PySem.F.plainAttrs_list PySem.F.slot_list_clear PySem.F.type_list_clear mt_clear ho hbase hline
theorem ins_at {its : List Value} {u : Value} {k : Nat} {x : Int} (hx : x = (k : Int)) (hk : k ≤ its.length) :
    (fun xs : Array Value => have k := if x < 0 then (x + (xs.size : Int)).toNat else min x.toNat xs.size; (xs.extract 0 k).push u ++ xs.extract k) its.toArray = (its.take k ++ u :: its.drop k).toArray := by
  subst hx
  simp only [List.size_toArray]
  rw [if_neg (by omega), Int.toNat_natCast, Nat.min_eq_left hk]
  simp [List.extract_eq_drop_take]
  exact List.take_of_length_le (by rw [List.length_drop]; omega)
noncomputable def rInsert : V → List V → Hp → VK → Prop := fun x vs H Q => ∃ l xs i k y, x = .ref l ∧ vs = [.int i, y] ∧ i = ((k : Nat) : Int) ∧ H l = some (.lst xs) ∧ k ≤ xs.length ∧ xs.length < sizeLine ∧ Q .non (upd H l (.lst (xs.take k ++ y :: xs.drop k)))
theorem mt_insert : MtR X "list.insert" rInsert := by
  intro pins s σ H x vs v us Q I rx rv h
  obtain ⟨l, xs, i, k, y, rfl, rfl, hi, hH, hk, hz, q⟩ := h
  cases rx
  obtain ⟨u1, u2, rfl, r1, r2⟩ := vals2 rv
  obtain ⟨t, rfl⟩ := r1
  obtain ⟨z, its, n, r, hl, e⟩ := I.lstM hH
  have hs : its.length ≤ sizeLine := by omega
  have hfit : Builtin.List.listFitsIndex i = true := by
    have h1 : i < 2 ^ 63 := by have := line63; omega
    exact fitsIndex_both (by omega) h1
  have ME := PySem.AutoSeq1.list_insert_list_int_val_1 l its.toArray n i t u2 (by simp [hfit]) (by rw [List.size_toArray]; exact hs)
  refine call_meets F.slot_list_insert ⟨_, e, rfl⟩ F.entry_list_insert (F.args_list_insert_3 _ _ _) ME ⟨e, ?_⟩
  refine ⟨.non, _, I.lset (its' := its.take k ++ u2 :: its.drop k) hH e (ins_at hi (by omega)) (Vals.append (r.take k) (.cons r2 (r.drop k))) ?_, rfl, q⟩
  simp only [List.length_append, List.length_cons, List.length_take, List.length_drop]
  omega
theorem m_insert (K : PySem.W.Frag) {o e f : Expr} {to : TE} {t : TA} {apos cpos : Pos} (ho : PE X o to) (ha : PA X [e, f] t)
    (hbase : attributeBase o "insert" X.env (eval o X.env) = eval o X.env := by rfl)
    (hfew : ((backTo cpos (starEach [e, f] X.env)).all (fun x => !x.1) && (backToKw cpos (keywordEach [] X.env)).all (fun x => x.1.isSome)
      && decide ([e, f].length + ([] : List Keyword).length + (if ([] : List Keyword).isEmpty then 0 else 1) < 30)) = true := by rfl)
    (hline : (apos.endLine == cpos.line) = true := by rfl) (hs : starEach [e, f] X.env = (false, eval e X.env) :: starEach [f] X.env := by rfl) (hplain : (backTo cpos (starEach [f] X.env)).any (·.1) = false := by rfl) (hK : X.K = K := by rfl) :
    PE X (.Call (.Attribute o "insert" apos) [e, f] [] cpos) (tBM K "list" rInsert to t) := hK ▸ pe_bm PySem.F.plainAttrs_list PySem.F.slot_list_insert PySem.F.type_list_insert mt_insert ho ha hbase hfew hline hs hplain
end
end L2
namespace L2
open PySem PySem.Spec PyProof.Rows
noncomputable def Nm (s : Str) : Prop := 1 ≤ s.length ∧ s.length ≤ 8 ∧ ∀ c ∈ s.cps.toList, 97 ≤ c ∧ c ≤ 122
noncomputable def tieD (e : Nat × Nat) : PyData := .tuple [.int e.1, .int e.2]
noncomputable def pairD (e : Str × Str) : PyData := .tuple [.str e.1, .str e.2]
noncomputable def webD (ss : List Str) (ts : List (Str × Str)) : PyData := .tuple [.tuple (ss.map .str), .tuple (ts.map pairD)]
section
variable {H H' : Hp}
theorem Rep.tupI {v : V} {ds : List PyData} (h : Rep H v (.tuple ds)) : ∃ a xs, v = .ref a ∧ H a = some (.tup xs) ∧ RepAll H xs ds := by
  cases h with
  | tup e r => exact ⟨_, _, rfl, e, r⟩
theorem Rep.strI {v : V} {s : Str} (h : Rep H v (.str s)) : v = .str s := by cases h; rfl
theorem Rep.intI {v : V} {i : Int} (h : Rep H v (.int i)) : v = .int i := by cases h; rfl
theorem RepAll.nilI {xs : List V} (h : RepAll H xs []) : xs = [] := by cases h; rfl
theorem RepAll.consI {xs : List V} {d : PyData} {ds : List PyData} (h : RepAll H xs (d :: ds)) : ∃ y ys, xs = y :: ys ∧ Rep H y d ∧ RepAll H ys ds := by
  cases h with
  | cons a b => exact ⟨_, _, rfl, a, b⟩
theorem RepAll.strs : ∀ {xs : List V} {ss : List Str}, RepAll H xs (ss.map PyData.str) → xs = ss.map V.str
  | _, [], h => by rw [h.nilI]; rfl
  | _, s :: ss, h => by
    obtain ⟨y, ys, rfl, a, b⟩ := RepAll.consI h
    rw [a.strI, RepAll.strs b]; rfl
theorem RepAll.of_strs : ∀ (ss : List Str), RepAll H (ss.map V.str) (ss.map PyData.str)
  | [] => .nil
  | s :: ss => .cons (.str s) (RepAll.of_strs ss)
theorem RepAll.len {xs : List V} {ds : List PyData} (h : RepAll H xs ds) : xs.length = ds.length := by
  induction ds generalizing xs with
  | nil => rw [h.nilI]; rfl
  | cons d ds ih =>
    obtain ⟨y, ys, rfl, a, b⟩ := h.consI
    simp [ih b]
theorem RepAll.get {xs : List V} {ds : List PyData} (h : RepAll H xs ds) {i : Nat} {x : V} (e : xs[i]? = some x) : ∃ d, ds[i]? = some d ∧ Rep H x d := by
  induction ds generalizing xs i with
  | nil => rw [h.nilI] at e; simp at e
  | cons d ds ih =>
    obtain ⟨y, ys, rfl, a, b⟩ := h.consI
    cases i with
    | zero => simp at e; subst e; exact ⟨d, rfl, a⟩
    | succ i => simpa using ih b (by simpa using e)
theorem RepAll.append {xs ys : List V} {ds es : List PyData} (h : RepAll H xs ds) (g : RepAll H ys es) : RepAll H (xs ++ ys) (ds ++ es) := by
  induction ds generalizing xs with
  | nil => rw [h.nilI]; exact g
  | cons d ds ih =>
    obtain ⟨y, zs, rfl, a, b⟩ := h.consI
    exact .cons a (ih b)
theorem tie_at {v : V} {e : Nat × Nat} (h : Rep H v (tieD e)) : ∃ a, v = .ref a ∧ H a = some (.tup [.int e.1, .int e.2]) := by
  obtain ⟨a, xs, rfl, ha, r⟩ := Rep.tupI h
  obtain ⟨y, ys, rfl, r1, r⟩ := r.consI
  obtain ⟨z, zs, rfl, r2, r⟩ := r.consI
  have e1 := RepAll.nilI r
  subst e1
  rw [r1.intI, r2.intI] at ha
  exact ⟨a, rfl, ha⟩
theorem pair_at {v : V} {e : Str × Str} (h : Rep H v (pairD e)) : ∃ a, v = .ref a ∧ H a = some (.tup [.str e.1, .str e.2]) := by
  obtain ⟨a, xs, rfl, ha, r⟩ := Rep.tupI h
  obtain ⟨y, ys, rfl, r1, r⟩ := r.consI
  obtain ⟨z, zs, rfl, r2, r⟩ := r.consI
  have e1 := RepAll.nilI r
  subst e1
  rw [r1.strI, r2.strI] at ha
  exact ⟨a, rfl, ha⟩
theorem tie_rep {a : Addr} {i j : Nat} (h : H a = some (.tup [.int i, .int j])) : Rep H (.ref a) (tieD (i, j)) := .tup h (.cons (.int _) (.cons (.int _) .nil))
theorem pair_rep {a : Addr} {s t : Str} (h : H a = some (.tup [.str s, .str t])) : Rep H (.ref a) (pairD (s, t)) := .tup h (.cons (.str _) (.cons (.str _) .nil))
theorem web_at {v : V} {ss : List Str} {ts : List (Str × Str)} (h : Rep H v (webD ss ts)) : ∃ q a b xs, v = .ref q ∧ H q = some (.tup [.ref a, .ref b]) ∧ H a = some (.tup (ss.map V.str)) ∧ H b = some (.tup xs) ∧ RepAll H xs (ts.map pairD) := by
  obtain ⟨q, ws, rfl, hq, r0⟩ := Rep.tupI h
  obtain ⟨y, ys, rfl, r1, r3⟩ := r0.consI
  obtain ⟨z, zs, rfl, r2, r4⟩ := r3.consI
  obtain ⟨a, xa, rfl, ha, ra⟩ := Rep.tupI r1
  obtain ⟨b, xb, rfl, hb, rb⟩ := Rep.tupI r2
  have e1 := RepAll.nilI r4
  subst e1
  have e2 := RepAll.strs ra
  subst e2
  exact ⟨q, a, b, xb, rfl, hq, ha, hb, rb⟩
end
theorem canLay_ties : ∀ es : List (Nat × Nat), PyData.canLayAll0 (es.map tieD) = true
  | [] => rfl
  | e :: es => by
    show (PyData.canLay0 (tieD e) && PyData.canLayAll0 (es.map tieD)) = true
    rw [canLay_ties es]
    rfl
end L2
set_option autoImplicit false
namespace MG
variable {α : Type}
noncomputable def Walk (R : α → α → Prop) : Nat → α → α → Prop
  | 0, x, y => x = y
  | n + 1, x, y => ∃ z, Walk R n x z ∧ R z y
noncomputable def Rch (R : α → α → Prop) (x y : α) : Prop := ∃ n, Walk R n x y
noncomputable def Dst (R : α → α → Prop) (x : α) (d : Nat) (y : α) : Prop := Walk R d x y ∧ ∀ k, k < d → ¬ Walk R k x y
variable {R : α → α → Prop} {x : α}
theorem Dst.uniq {d e : Nat} {y : α} (a : Dst R x d y) (b : Dst R x e y) : d = e := by
  rcases Nat.lt_trichotomy d e with h | h | h
  · exact absurd a.1 (b.2 d h)
  · exact h
  · exact absurd b.1 (a.2 e h)
theorem Rch.dst {y : α} (h : Rch R x y) : ∃ d, Dst R x d y := by
  obtain ⟨n, h⟩ := h
  induction n using Nat.strongRecOn generalizing y with
  | _ n ih =>
    by_cases e : ∃ k, k < n ∧ Walk R k x y
    · obtain ⟨k, hk, w⟩ := e
      exact ih k hk w
    · exact ⟨n, h, fun k hk w => e ⟨k, hk, w⟩⟩
theorem Dst.rch {d : Nat} {y : α} (h : Dst R x d y) : Rch R x y := ⟨d, h.1⟩
theorem Dst.pred {d : Nat} {y : α} (h : Dst R x (d + 1) y) : ∃ z, Dst R x d z ∧ R z y := by
  obtain ⟨⟨z, w, r⟩, m⟩ := h
  exact ⟨z, ⟨w, fun k hk w' => m (k + 1) (by omega) ⟨z, w', r⟩⟩, r⟩
theorem Dst.zero : Dst R x 0 x := ⟨rfl, fun k hk => by omega⟩
theorem Dst.of_zero {y : α} (h : Dst R x 0 y) : y = x := h.1.symm
theorem Dst.below {d : Nat} {y : α} (h : Dst R x d y) : ∀ e, e ≤ d → ∃ z, Dst R x e z := by
  induction d generalizing y with
  | zero => intro e he; have : e = 0 := by omega
            subst this; exact ⟨y, h⟩
  | succ d ih =>
    intro e he
    by_cases q : e = d + 1
    · subst q; exact ⟨y, h⟩
    · obtain ⟨z, hz, _⟩ := h.pred
      exact ih hz e (by omega)
theorem Rch.closed {S : α → Prop} (h0 : S x) (hs : ∀ y z, S y → R y z → S z) {y : α} (h : Rch R x y) : S y := by
  obtain ⟨n, w⟩ := h
  induction n generalizing y with
  | zero => have : x = y := w
            subst this; exact h0
  | succ n ih =>
    obtain ⟨z, w, r⟩ := w
    exact hs z y (ih w) r
structure Lev (R : α → α → Prop) (x : α) (L : Nat) (look : α → Option Nat) (edge : List α) : Prop where
  snd : ∀ y k, look y = some k → Dst R x k y ∧ k ≤ L
  cmp : ∀ y k, k ≤ L → Dst R x k y → look y = some k
  edg : ∀ y, y ∈ edge ↔ Dst R x L y
structure Mid (R : α → α → Prop) (x : α) (L : Nat) (look : α → Option Nat) (further : List α) (done : α → α → Prop) : Prop where
  snd : ∀ y k, look y = some k → (Dst R x k y ∧ k ≤ L) ∨ (k = L + 1 ∧ y ∈ further)
  cmp : ∀ y k, k ≤ L → Dst R x k y → look y = some k
  fur : ∀ y, y ∈ further → Dst R x (L + 1) y ∧ look y = some (L + 1)
  dn : ∀ z y, done z y → (look y).isSome = true
theorem Lev.start [DecidableEq α] {look : α → Option Nat} (h : ∀ y, look y = if y = x then some 0 else none) : Lev R x 0 look [x] := by
  refine ⟨fun y k e => ?_, fun y k hk d => ?_, fun y => ?_⟩
  · rw [h] at e
    split at e
    · rename_i q; subst q; cases e; exact ⟨Dst.zero, Nat.le_refl _⟩
    · cases e
  · have : k = 0 := by omega
    subst this
    rw [h, if_pos d.of_zero]
  · rw [List.mem_singleton]
    exact ⟨fun e => e ▸ Dst.zero, fun d => d.of_zero⟩
theorem Lev.mid {L : Nat} {look : α → Option Nat} {edge : List α} (h : Lev R x L look edge) : Mid R x L look [] (fun _ _ => False) :=
  ⟨fun y k e => .inl (h.snd y k e), h.cmp, fun y hy => (nomatch hy), fun _ _ f => f.elim⟩
theorem Mid.skip {L : Nat} {look : α → Option Nat} {further : List α} {done : α → α → Prop} (h : Mid R x L look further done) {z y : α} (e : (look y).isSome = true) : Mid R x L look further (fun a b => done a b ∨ (a = z ∧ b = y)) :=
  ⟨h.snd, h.cmp, h.fur, fun a b d => by
    rcases d with d | ⟨_, q⟩
    · exact h.dn a b d
    · rw [q]; exact e⟩
theorem Mid.add {L : Nat} {look look' : α → Option Nat} {further : List α} {done : α → α → Prop} (h : Mid R x L look further done) {z y : α} (hz : Dst R x L z) (r : R z y) (e : look y = none)
    [DecidableEq α] (hl : ∀ a, look' a = if a = y then some (L + 1) else look a) : Mid R x L look' (further ++ [y]) (fun a b => done a b ∨ (a = z ∧ b = y)) := by
  have dy : Dst R x (L + 1) y := by
    refine ⟨⟨z, hz.1, r⟩, fun k hk w => ?_⟩
    obtain ⟨d, dd⟩ := Rch.dst ⟨k, w⟩
    have hd : d ≤ k := Nat.le_of_not_lt fun q => dd.2 k q w
    rw [h.cmp y d (by omega) dd] at e
    cases e
  refine ⟨fun a k q => ?_, fun a k hk d => ?_, fun a ha => ?_, fun a b d => ?_⟩
  · rw [hl] at q
    split at q
    · rename_i ea; cases q; subst ea; exact .inr ⟨rfl, by simp⟩
    · rcases h.snd a k q with q' | ⟨q1, q2⟩
      · exact .inl q'
      · exact .inr ⟨q1, by simp [q2]⟩
  · rw [hl]
    split
    · rename_i ea; subst ea; have := d.uniq dy; omega
    · exact h.cmp a k hk d
  · rcases List.mem_append.mp ha with q | q
    · refine ⟨(h.fur a q).1, ?_⟩
      rw [hl]
      split
      · rfl
      · exact (h.fur a q).2
    · have : a = y := by simpa using q
      subst this
      exact ⟨dy, by rw [hl, if_pos rfl]⟩
  · rw [hl]
    split
    · rfl
    · rename_i nb
      rcases d with d | ⟨_, q⟩
      · exact h.dn a b d
      · exact absurd q nb
theorem Mid.wk {L : Nat} {look : α → Option Nat} {further : List α} {done done' : α → α → Prop} (h : Mid R x L look further done) (w : ∀ a b, done' a b → done a b) : Mid R x L look further done' :=
  ⟨h.snd, h.cmp, h.fur, fun a b d => h.dn a b (w a b d)⟩
theorem Mid.next {L : Nat} {look : α → Option Nat} {further edge : List α} {done : α → α → Prop} (h : Mid R x L look further done) (he : ∀ y, y ∈ edge ↔ Dst R x L y) (hd : ∀ z y, z ∈ edge → R z y → done z y) : Lev R x (L + 1) look further := by
  have key : ∀ y, Dst R x (L + 1) y → y ∈ further ∧ look y = some (L + 1) := fun y d => by
    obtain ⟨z, dz, r⟩ := d.pred
    have s := h.dn z y (hd z y ((he z).mpr dz) r)
    obtain ⟨k, e⟩ := Option.isSome_iff_exists.mp s
    rcases h.snd y k e with ⟨q, hk⟩ | ⟨q1, q2⟩
    · have := q.uniq d; omega
    · subst q1; exact ⟨q2, e⟩
  refine ⟨fun y k e => ?_, fun y k hk d => ?_, fun y => ⟨fun q => (h.fur y q).1, fun d => (key y d).1⟩⟩
  · rcases h.snd y k e with ⟨q, hk⟩ | ⟨q1, q2⟩
    · exact ⟨q, by omega⟩
    · subst q1; exact ⟨(h.fur y q2).1, Nat.le_refl _⟩
  · by_cases q : k = L + 1
    · subst q; exact (key y d).2
    · exact h.cmp y k (by omega) d
theorem Lev.done {L : Nat} {look : α → Option Nat} (h : Lev R x L look []) : ∀ y k, look y = some k ↔ Dst R x k y := fun y k => by
  refine ⟨fun e => (h.snd y k e).1, fun d => ?_⟩
  by_cases q : k ≤ L
  · exact h.cmp y k q d
  · obtain ⟨z, hz⟩ := d.below L (by omega)
    exact (nomatch (h.edg z).mpr hz)
end MG
namespace MG
variable {α : Type} {R : α → α → Prop} {x : α}
theorem Dst.lt {ss : List α} (hin : ∀ y, Rch R x y → y ∈ ss) {L : Nat} {y : α} (d : Dst R x L y) : L < ss.length := by
  have key : ∀ n, n ≤ L + 1 → ∃ zs : List α, zs.length = n ∧ zs.Nodup ∧ ∀ z ∈ zs, ∃ e, e < n ∧ Dst R x e z := by
    intro n
    induction n with
    | zero => intro _; exact ⟨[], rfl, List.nodup_nil, fun z hz => by cases hz⟩
    | succ n ih =>
      intro hn
      obtain ⟨zs, hl, hnd, hz⟩ := ih (by omega)
      obtain ⟨z, dz⟩ := d.below n (by omega)
      refine ⟨z :: zs, by simp [hl], List.nodup_cons.mpr ⟨fun hm => ?_, hnd⟩, fun w hw => ?_⟩
      · obtain ⟨e, he, de⟩ := hz z hm
        have := de.uniq dz
        omega
      · rcases List.mem_cons.mp hw with rfl | hw
        · exact ⟨n, by omega, dz⟩
        · obtain ⟨e, he, de⟩ := hz w hw
          exact ⟨e, by omega, de⟩
  obtain ⟨zs, hl, hnd, hz⟩ := key (L + 1) (Nat.le_refl _)
  have := hnd.length_le_of_subset (l₂ := ss) fun z hm => by
    obtain ⟨e, _, de⟩ := hz z hm
    exact hin z de.rch
  omega
end MG
namespace L2
open PySem PySem.Spec PyProof.Rows
theorem canLay_nm {s : Str} (h : Nm s) : PyData.canLay0 (.str s) = true := by
  show (s.cps.all (· < 0x110000)) = true
  rw [← Array.all_toList, List.all_eq_true]
  intro c hc
  have := h.2.2 c hc
  exact decide_eq_true (by omega)
theorem canLay_strs : ∀ ss : List Str, (∀ s ∈ ss, Nm s) → PyData.canLayAll0 (ss.map PyData.str) = true
  | [], _ => rfl
  | s :: ss, h => by
    show (PyData.canLay0 (.str s) && PyData.canLayAll0 (ss.map PyData.str)) = true
    rw [canLay_strs ss fun x hx => h x (List.mem_cons_of_mem _ hx), canLay_nm (h s (by simp))]
    rfl
theorem depth_strs : ∀ ss : List Str, PyData.depthAll (ss.map PyData.str) = 0
  | [] => rfl
  | s :: ss => by
    show max (PyData.depth (.str s)) (PyData.depthAll (ss.map PyData.str)) = 0
    rw [depth_strs ss]; rfl
theorem eqv_shp {d : PyData} (h : shp d) : PyData.eqv d d = true := SeqAt.eqv_refl d (SeqAt.canLay_of_shaped h)
theorem for_enum {K : PySem.W.Frag} {a : Addr} {xs : List V} {g : TG} {tb : TS} {D : Ends} {σ : St} {H : Hp} (Pv : Nat → St → Hp → Prop) (h0 : Pv 0 σ H) (hl : ∀ i σ H, i ≤ xs.length → Pv i σ H → SqL K H a xs)
    (hs : ∀ i x σ H p, xs[i]? = some x → Pv i σ H → H p = none → g (.ref p) σ (upd H p (.tup [.int i, x])) fun σ2 H2 => tb { D with nx := Pv (i + 1), ct := Pv (i + 1), bk := D.nx } σ2 H2) (hd : ∀ σ H, Pv xs.length σ H → D.nx σ H) :
    ∃ W : Nat → Nat → St → Hp → Prop, (∃ m, W 0 m σ H) ∧ ∀ i m σ H, W i m σ H →
      ((Ite K a).stop i H ∧ D.nx σ H) ∨ ((Ite K a).go i H ∧ ∃ N : St → Hp → Prop, (∀ σ' H', N σ' H' → ∃ m', m' < m ∧ W (i + 1) m' σ' H') ∧ ∀ x H', (Ite K a).yld i H x H' → g x σ H' fun σ2 H2 => tb { D with nx := N, ct := N, bk := D.nx } σ2 H2) := by
  refine ⟨fun i m σ H => m = xs.length - i ∧ i ≤ xs.length ∧ Pv i σ H, ⟨xs.length, by simp, Nat.zero_le _, h0⟩, ?_⟩
  rintro i m σ H ⟨rfl, hi, p⟩
  have q := hl i σ H hi p
  by_cases hlt : i < xs.length
  · refine .inr ⟨⟨xs, xs[i], q, by simp [hlt]⟩, Pv (i + 1), fun σ' H' p' => ⟨xs.length - (i + 1), by omega, rfl, hlt, p'⟩, fun x H' y => ?_⟩
    obtain ⟨r, z, hr, rfl, hz, rfl⟩ := y
    exact hs i z σ H r (hz xs q) p hr
  · have e : i = xs.length := by omega
    subst e
    exact .inl ⟨⟨xs, q, Nat.le_refl _⟩, hd σ H p⟩
noncomputable def spPlaces : Sp := fun vs H Q _ => ∃ a xs, vs = [.ref a] ∧ H a = some (.lst (List.map V.str xs)) ∧ xs.length ≤ 1000 ∧
  ∀ d kvs H', Same H H' → H d = none → H' d = some (.dK kvs) → (∀ s, (valV kvs (.inr s)).isSome = true ↔ s ∈ xs) → (∀ s v, valV kvs (.inr s) = some v → ∃ j : Nat, v = .int j ∧ xs[j]? = some s) → Q (.ref d) H'
structure Web (H : Hp) (v : V) (ss : List Str) (ts : List (Str × Str)) : Prop where
  rep : Rep H v (webD ss ts)
  nd : ss.Nodup
  nm : ∀ s ∈ ss, Nm s
  len : ss.length ≤ 60
  few : ts.length ≤ 401
  inn : ∀ e ∈ ts, e.1 ∈ ss ∧ e.2 ∈ ss
theorem Web.same {H H' : Hp} {v : V} {ss : List Str} {ts : List (Str × Str)} (h : Web H v ss ts) (s : Same H H') : Web H' v ss ts := ⟨h.rep.same s, h.nd, h.nm, h.len, h.few, h.inn⟩
noncomputable def nxtL (ss : List Str) (ts : List (Str × Str)) (s : Str) : List Str := ss.filter fun t => decide ((s, t) ∈ ts)
noncomputable def flipE (ts : List (Str × Str)) : List (Str × Str) := ts.map fun e => (e.2, e.1)
theorem mem_flip {ts : List (Str × Str)} {a b : Str} : (a, b) ∈ flipE ts ↔ (b, a) ∈ ts := by
  unfold flipE
  rw [List.mem_map]
  constructor
  · rintro ⟨⟨x, y⟩, h, e⟩
    cases e; exact h
  · intro h; exact ⟨(b, a), h, rfl⟩
noncomputable def spNexts (rev : Bool) : Sp := fun vs H Q _ => ∃ q ss ts s, vs = [q, .str s] ∧ Web H q ss ts ∧
  ∀ l H', Same H H' → H l = none → H' l = some (.lst (List.map V.str (nxtL ss (if rev then flipE ts else ts) s))) → Q (.ref l) H'
noncomputable def Tab (H : Hp) (d : Addr) (ss : List Str) (f : Str → List Str) : Prop := ∃ kvs, H d = some (.dK kvs) ∧ ∀ s ∈ ss, ∃ l, valV kvs (.inr s) = some (.ref l) ∧ H l = some (.lst (List.map V.str (f s)))
theorem Tab.same {H H' : Hp} {d : Addr} {ss : List Str} {f : Str → List Str} (h : Tab H d ss f) (s : Same H H') : Tab H' d ss f := let ⟨kvs, a, b⟩ := h; ⟨kvs, s _ _ a, fun x hx => let ⟨l, c, e⟩ := b x hx; ⟨l, c, s _ _ e⟩⟩
noncomputable def spNextsAll (rev : Bool) : Sp := fun vs H Q _ => ∃ q ss ts, vs = [q] ∧ Web H q ss ts ∧
  ∀ d H', Same H H' → H d = none → Tab H' d ss (nxtL ss (if rev then flipE ts else ts)) → Q (.ref d) H'
noncomputable def Ner (ss : List Str) (f : Str → List Str) (a b : Str) : Prop := a ∈ ss ∧ b ∈ f a
noncomputable def Tie (ts : List (Str × Str)) (a b : Str) : Prop := (a, b) ∈ ts
end L2
namespace MG
variable {α : Type} {R : α → α → Prop} {x : α}
theorem Walk.map {β : Type} {S : β → β → Prop} (f : α → β) (h : ∀ a b, R a b → S (f a) (f b)) {n : Nat} {y : α} (w : Walk R n x y) : Walk S n (f x) (f y) := by
  induction n generalizing y with
  | zero =>
    have w : x = y := w
    subst w
    exact rfl
  | succ n ih =>
    obtain ⟨z, w, r⟩ := w
    exact ⟨f z, ih w, h z y r⟩
theorem Walk.back {β : Type} {S : β → β → Prop} (f : α → β) (h : ∀ a c, S (f a) c → ∃ b, c = f b ∧ R a b) {n : Nat} {c : β} (w : Walk S n (f x) c) : ∃ y, c = f y ∧ Walk R n x y := by
  induction n generalizing c with
  | zero =>
    have w : f x = c := w
    exact ⟨x, w.symm, rfl⟩
  | succ n ih =>
    obtain ⟨z, w, r⟩ := w
    obtain ⟨y, rfl, wy⟩ := ih w
    obtain ⟨b, rfl, rb⟩ := h y c r
    exact ⟨b, rfl, y, wy, rb⟩
noncomputable def swp (es : List (Nat × Nat)) : List (Nat × Nat) := es.map fun e => (e.2, e.1)
theorem mem_swp {es : List (Nat × Nat)} {a b : Nat} : (a, b) ∈ swp es ↔ (b, a) ∈ es := by
  unfold swp
  rw [List.mem_map]
  constructor
  · rintro ⟨⟨x, y⟩, h, e⟩
    cases e; exact h
  · intro h; exact ⟨(b, a), h, rfl⟩
noncomputable def Arr (es : List (Nat × Nat)) (a b : Nat) : Prop := (a, b) ∈ es
noncomputable def To (es : List (Nat × Nat)) (goal k a : Nat) : Prop := Dst (Arr (swp es)) goal k a
variable {es : List (Nat × Nat)} {goal : Nat}
end MG
namespace MG
variable {es : List (Nat × Nat)}
theorem Walk.cons {α : Type} {R : α → α → Prop} {x y z : α} {n : Nat} (r : R x y) (w : Walk R n y z) : Walk R (n + 1) x z := by
  induction n generalizing z with
  | zero =>
    have w : y = z := w
    subst w
    exact ⟨x, rfl, r⟩
  | succ n ih =>
    obtain ⟨v, w, q⟩ := w
    exact ⟨v, ih w, q⟩
theorem walk_swp {n a b : Nat} (w : Walk (Arr es) n a b) : Walk (Arr (swp es)) n b a := by
  induction n generalizing b with
  | zero =>
    have w : a = b := w
    exact w.symm
  | succ n ih =>
    obtain ⟨z, w, r⟩ := w
    exact Walk.cons (mem_swp.mpr r) (ih w)
theorem swp_swp (es : List (Nat × Nat)) : swp (swp es) = es := by
  unfold swp
  rw [List.map_map]
  exact List.map_id'' (fun e => rfl) es
theorem rch_to {a goal : Nat} : Rch (Arr es) a goal ↔ ∃ k, To es goal k a := by
  constructor
  · rintro ⟨n, w⟩
    exact Rch.dst ⟨n, walk_swp w⟩
  · rintro ⟨k, h⟩
    have := walk_swp h.1
    rw [swp_swp] at this
    exact ⟨k, this⟩
noncomputable def RingAt (es : List (Nat × Nat)) (e : Nat × Nat) : Prop := ∃ k, To es e.1 k e.2
end MG
namespace L2
open PySem PySem.Spec PyProof.Rows
theorem same_free {H H' : Hp} {b : Addr} (s : Same H H') (h : H' b = none) : H b = none := by
  cases q : H b with
  | none => rfl
  | some o => rw [s _ _ q] at h; cases h
theorem same_at {H H' : Hp} {b : Addr} {o : HO} (s : Same H H') (h : H b = none) : Same H (upd H' b o) := fun c o' hc => by
  rw [upd_ne (ne_of_none hc h)]; exact s _ _ hc
end L2
namespace MG
section
variable {α : Type} [DecidableEq α]
noncomputable def ix : List α → α → Nat
  | [], _ => 0
  | a :: r, x => if a = x then 0 else ix r x + 1
end
variable {es : List (Nat × Nat)}
end MG
namespace L2
open PySem PySem.Spec PyProof.Rows
open PySem.AutoSeq1 (wpAny_loadPart')
section
variable {prog : Program} {w : World} {A : Around} {E : Value → Shared → Prop} {s : Shared}
theorem nextT_item {jt tt : Addr} {i : Nat} {its : Array Value} {y : Value} {Q : Value → Shared → Prop} (hj : s.heap.IsTupleIter jt tt i) (htt : s.heap.IsTuple tt its) (hy : its[i]? = some y)
    (hQ : ∀ h', h'.IsTupleIter jt tt (i + 1) → Heap.SameBut jt s.heap h' → Q y { s with heap := h' }) : wpAny (model prog w) A (Builtin.SmallTypes.nextOf (.ref jt)) Q E s := by
  obtain ⟨oj, hoj, cj, dj⟩ := id hj
  obtain ⟨ot, hot, _, nt, dt⟩ := htt
  unfold Builtin.SmallTypes.nextOf
  refine wpAny_bind (wpAny_callSpecial?_slot (name := Str.ofString "__next__") hj.typeIs F.slot_tuple_iterator_next (wpAny_call_entry F.slot_tuple_iterator_next hj.typeIs F.entry_tuple_iterator_next ?_ (F.args_tuple_iterator_next_1 _)))
  show wpAny _ _ (field (.ref jt) 0 >>= _) _ _ s
  refine wpAny_bind (wpAny_field hoj dj (x := .ref tt) rfl ?_)
  show wpAny _ _ (if (Value.ref tt == Value.none) = true then _ else _) _ _ s
  rw [if_neg (show ¬ ((Value.ref tt == Value.none) = true) from Bool.false_ne_true)]
  show wpAny _ _ (field (.ref jt) 1 >>= _) _ _ s
  refine wpAny_bind (wpAny_field hoj dj (x := .int i 0) rfl (wpAny_bind (wpAny_seqItems hot dt ?_)))
  simp only [Int.toNat_natCast, hy]
  refine wpAny_bind (wpAny_setField hoj dj (by simp) (wpAny_pure ⟨y, rfl, wpAny_pure (hQ _ ?_ (Heap.SameBut.update ..))⟩))
  exact ⟨_, Heap.get?_update_self _ hoj (Obj.isFreed_of_fields (Obj.data_mapFields dj _)), (Obj.cls_mapFields ..).trans cj, by rw [Obj.data_mapFields dj]; simp [rawInt]⟩
theorem nextT_end {jt tt : Addr} {i : Nat} {its : Array Value} {Q : Value → Shared → Prop} (hh : A.handled = none) (hj : s.heap.IsTupleIter jt tt i) (htt : s.heap.IsTuple tt its) (hy : its[i]? = none)
    (hE : ∀ h' e, Heap.ExtBut jt s.heap h' → (∃ o, h'.get? e = some o ∧ o.cls = .type "StopIteration") → E (.ref e) { s with heap := h' }) : wpAny (model prog w) A (Builtin.SmallTypes.nextOf (.ref jt)) Q E s := by
  obtain ⟨oj, hoj, cj, dj⟩ := id hj
  obtain ⟨ot, hot, _, nt, dt⟩ := htt
  unfold Builtin.SmallTypes.nextOf
  refine wpAny_bind (wpAny_callSpecial?_slot (name := Str.ofString "__next__") hj.typeIs F.slot_tuple_iterator_next (wpAny_call_entry F.slot_tuple_iterator_next hj.typeIs F.entry_tuple_iterator_next ?_ (F.args_tuple_iterator_next_1 _)))
  show wpAny _ _ (field (.ref jt) 0 >>= _) _ _ s
  refine wpAny_bind (wpAny_field hoj dj (x := .ref tt) rfl ?_)
  show wpAny _ _ (if (Value.ref tt == Value.none) = true then _ else _) _ _ s
  rw [if_neg (show ¬ ((Value.ref tt == Value.none) = true) from Bool.false_ne_true)]
  show wpAny _ _ (field (.ref jt) 1 >>= _) _ _ s
  refine wpAny_bind (wpAny_field hoj dj (x := .int i 0) rfl (wpAny_bind (wpAny_seqItems hot dt ?_)))
  simp only [Int.toNat_natCast, hy]
  refine wpAny_bind (wpAny_rule (wpAny_bind (wpAny_setField hoj dj (by simp) ?_)))
  show wpAny _ _ (newExc (.type "StopIteration") [] >>= _) _ _ _
  refine wpAny_bind ?_
  simp only [newExc, newTuple]
  refine wpAny_bind (wpAny_newObj_type (wpAny_bind (m := firstArgMember _ _) (wpAny_of_eq (a := Value.none) (by first | rfl | (simp only [firstArgMember]; rfl)) ?_)) (by size_fits))
  refine wpAny_newObj_type ?_ (by size_fits)
  simp only [raiseNew]
  refine wpAny_bind (wpAny_handled ?_)
  first | rw [show A.in1.handled = none from hh] | rw [hh]
  refine wpAny_bind (wpAny_pure (wpAny_throw (hE _ _ (((Heap.SameBut.update ..).extBut.push _).push _) ⟨_, Heap.get?_push_size _ rfl, rfl⟩)))
theorem drawsT {prog : Program} {w : World} {A : Around} (hh : A.handled = none) (jt tt : Addr) (hne : tt ≠ jt) (its : Array Value) :
    Draws prog w A jt [jt, tt] its.size (fun i y => its[i]? = some y) (fun i h => h.IsTupleIter jt tt i ∧ h.IsTuple tt its) where
  live := fun i h st => let ⟨o, e, _⟩ := st.1; ⟨o, e⟩
  frame := fun i h h' st k => ⟨let ⟨o, e, r⟩ := st.1; ⟨o, k jt (by simp) o e, r⟩, let ⟨o, e, r⟩ := st.2; ⟨o, k tt (by simp) o e, r⟩⟩
  item := fun i s Q E hi st hQ => nextT_item st.1 st.2 (y := its[i]) (by simp [hi]) fun h' j' sb => hQ _ h' s.toks (by simp [hi]) ⟨j', st.2.extBut sb.extBut hne⟩ sb
  done := fun s Q E st hE => nextT_end hh st.1 st.2 (by simp) hE
set_option maxHeartbeats 1000000 in
theorem meets_enumT (l : Addr) (its : Array Value) (n : Nat) (dct : Option Addr) (sl : Array (Option Value)) :
    Meets (Builtin.«enumerate.__new__» ⟨[.type "enumerate", .ref l], []⟩) (fun _ R s => s.heap.get? l = some { cls := .type "tuple", dict := dct, data := .seq its n, slots := sl } ∧
      R (.ok (.ret (.ref (s.heap.push { cls := .type "tuple_iterator", data := .fields #[.ref l, .int 0 0] }).objs.size)))
        { s with heap := (s.heap.push { cls := .type "tuple_iterator", data := .fields #[.ref l, .int 0 0] }).push { cls := .type "enumerate", data := .fields #[.none, .bool false, .ref s.heap.objs.size, rawInt 0, .none, .none] } }) :=
  .of_wp fun prog w A R s h => by
    obtain ⟨h0, g0, d0, t0, os0⟩ := s
    obtain ⟨hl, h⟩ := h
    have hsub := sub_enumerate
    have hT : Heap.IsTuple (Shared.heap ⟨h0, g0, d0, t0, os0⟩) l its := ⟨_, hl, rfl, n, rfl⟩
    wp_walk using wpAny_loadPart' hl
    refine wpAny_stack_any fun st => wpAny_pure ?_
    split
    · rename_i c _ _ _ _ _
      cases (c == Value.type "enumerate")
      · wp_walk using wpAny_loadPart' hl, wpAny_pyIter_tuple hT
        exact ⟨_, rfl, h⟩
      · wp_walk using wpAny_loadPart' hl, wpAny_pyIter_tuple hT
        exact ⟨_, rfl, h⟩
    · wp_walk using wpAny_loadPart' hl, wpAny_pyIter_tuple hT
      exact ⟨_, rfl, h⟩
theorem call_enumT {l : Addr} {its : Array Value} {Q : Value → Shared → Prop} (hT : s.heap.IsTuple l its)
    (h : ∀ h', IsEnum h' (s.heap.objs.size + 1) s.heap.objs.size 0 .none → h'.IsTupleIter s.heap.objs.size l 0 → (∀ b o, s.heap.get? b = some o → h'.get? b = some o) → Q (.ref (s.heap.objs.size + 1)) { s with heap := h' }) :
    wpAny (model prog w) A (call (.type "enumerate") [.ref l]) Q E s := by
  obtain ⟨⟨c, dct, dt, sl⟩, hl, hc, n, hd⟩ := hT
  replace hc : c = .type "tuple" := hc
  replace hd : dt = .seq its n := hd
  subst hc hd
  refine callType_new F.called_enumerate (by decide) (F.typeCall_enumerate_1 _) (F.newCall_enumerate_1 _) (fun obj => F.args_object_init_2 obj _) F.entry_enumerate_new (meets_enumT l its n dct sl) ⟨hl, ?_⟩
  have hz : (s.heap.push { cls := .type "tuple_iterator", data := .fields #[.ref l, .int 0 0] }).objs.size = s.heap.objs.size + 1 := Heap.size_push ..
  show _ ∧ _
  rw [hz]
  have he : IsEnum ((s.heap.push { cls := .type "tuple_iterator", data := .fields #[.ref l, .int 0 0] }).push { cls := .type "enumerate", data := .fields #[.none, .bool false, .ref s.heap.objs.size, rawInt 0, .none, .none] }) (s.heap.objs.size + 1) s.heap.objs.size 0 .none := by
    have := Heap.get?_push_size (s.heap.push { cls := .type "tuple_iterator", data := .fields #[.ref l, .int 0 0] }) (o := { cls := .type "enumerate", data := .fields #[.none, .bool false, .ref s.heap.objs.size, rawInt 0, .none, .none] }) rfl
    rw [hz] at this; exact this
  exact ⟨⟨_, he, rfl⟩, h _ he ⟨_, Heap.get?_push_of_some _ (Heap.get?_push_size _ rfl), rfl, rfl⟩ fun b o x => Heap.get?_push_of_some _ (Heap.get?_push_of_some _ x)⟩
end
noncomputable def IteT (K : PySem.W.Frag) (a : Addr) : It :=
  ⟨fun i H => ∃ xs x, SqT K H a xs ∧ xs[i]? = some x, fun i H v H' => ∃ p x, H p = none ∧ v = .ref p ∧ (∀ xs, SqT K H a xs → xs[i]? = some x) ∧ H' = upd H p (.tup [.int i, x]), fun i H => ∃ xs, SqT K H a xs ∧ xs.length ≤ i⟩
theorem turn_enumT {P : Program} {w : World} {K : PySem.W.Frag} {elts : List Expr} {k : Nat} {tp : Pos} (a e it : Addr) (hne : e ≠ it) :
    Turn P w K (.Tuple elts k tp) (IteT K a) [e, it] e (fun i h => (∃ old, IsEnum h e it i old) ∧ h.IsTupleIter it a i) where
  mem := by simp
  obj := fun i h st b hb => by
    obtain ⟨⟨old, he⟩, hit⟩ := st
    have hb : b = e ∨ b = it := by simpa using hb
    rcases hb with z | z
    · subst z
      exact ⟨_, he, fun v z => by cases z⟩
    · subst z
      obtain ⟨o, e1, c, d⟩ := hit
      exact ⟨o, e1, fun v z => by rw [d] at z; cases z⟩
  keep := fun i h h' st kk => by
    obtain ⟨⟨old, he⟩, hit⟩ := st
    exact ⟨⟨old, kk e (by simp) _ he⟩, let ⟨o, q, r⟩ := hit; ⟨o, kk it (by simp) o q, r⟩⟩
  item := by
    intro X hP hw hK hc i pins s σ H E I hf st hg
    subst hP hw hK
    obtain ⟨⟨old, he⟩, hit⟩ := st
    obtain ⟨xs, x, hq, hx⟩ := hg
    obtain ⟨its, rv, p, hz⟩ := I.tuple hq
    obtain ⟨u, hu, ru⟩ := rv.get hx
    obtain ⟨f0, f1, f2, f3, f4, f5⟩ := hf e (by simp)
    obtain ⟨g0, g1, g2, g3, g4, g5⟩ := hf it (by simp)
    have hel : e < s.heap.objs.size := Heap.lt_size he
    have hil : it < s.heap.objs.size := by obtain ⟨o, q, _⟩ := hit; exact Heap.lt_size q
    have hae : a ≠ e := fun z => by
      obtain ⟨o, q, c, _⟩ := p
      rw [z, he] at q; cases q; simp at c
    have hai : a ≠ it := fun z => by
      obtain ⟨o, q, c, _⟩ := p
      obtain ⟨o', q', c', _⟩ := hit
      rw [z, q'] at q; cases q; rw [c] at c'; simp at c'
    have hul := (List.getElem?_eq_some_iff.mp hu).1
    refine wpAny_pyNext_enum_itemD (drawsT (A := X.A.in1) (show X.A.in1.handled = none from I.ok.hd hc) it a hai its.toArray) he ⟨hit, p⟩ (by simpa using hul) hne (by simp [hne, Ne.symm hae]) fun u' h1 tk hu' ho hit1 ht1 hz1 k1 => ?_
    have eu : u' = u := by
      have : its[i]? = some u' := by simpa using hu'
      rw [hu] at this
      exact (Option.some.inj this).symm
    subst eu
    refine ⟨_, rfl, wpAny_letOwnedTupleGo_enum ho fun h2 he2 sb2 => ?_⟩
    have sb2 : Heap.SameBut e h1 h2 := sb2
    have T2 : h2.get? s.heap.objs.size = some { cls := .type "tuple", data := .seq #[.int i tk, u'] } := (sb2.2 _ (Nat.ne_of_gt hel)).trans ht1
    have hp : H s.heap.objs.size = none := I.hok.fresh (Nat.le_refl _)
    have nit : ∀ b v, H b = some v → b ≠ e ∧ b ≠ it := fun b v q => ⟨fun z => (by rw [z, f0] at q; cases q), fun z => (by rw [z, g0] at q; cases q)⟩
    have kk : ∀ b o, b ≠ e → b ≠ it → s.heap.get? b = some o → h2.get? b = some o := fun b o n1 n2 q => (sb2.2 b n1).trans (k1 b o n1 n2 q)
    have up : ∀ b v, H b = some v → upd H s.heap.objs.size (.tup [.int i, x]) b = some v := fun b v q => by rw [upd_ne (ne_of_none q hp)]; exact q
    have I1 : Inv X pins σ (upd H s.heap.objs.size (.tup [.int i, x])) { s with heap := h2, gens := s.gens, drawn := s.drawn, toks := tk + 1 } := by
      refine I.step (g' := s.gens) (d' := s.drawn) (ch := [e, it]) (fun b hb => ?_) (fun b o _ _ hb q _ => kk b o (fun z => hb (by simp [z])) (fun z => hb (by simp [z])) q) (fun b o _ _ hb q _ => ⟨o.slots, kk b o (fun z => hb (by simp [z])) (fun z => hb (by simp [z])) q⟩) (fun b o _ q n => ?_)
        (fun b o hb q => ⟨o, kk b o (fun z => hb (by simp [z])) (fun z => hb (by simp [z])) q⟩) (fun b ys q => up b _ q) (fun b o v q => up b _ q) (fun b ps q => ⟨#[], by rw [up b _ q]; simp⟩) (fun m hm => ?_) (fun b v q => ?_) I.bare
      · have hb : b = e ∨ b = it := by simpa using hb
        rcases hb with z | z
        · subst z; exact ⟨f3, f1, f4, f5⟩
        · subst z; exact ⟨g3, g1, g4, g5⟩
      · rw [upd_ne (Nat.ne_of_lt (Heap.lt_size q))]; exact n
      · obtain ⟨o, es, ep, ho, r⟩ := hm
        exact ⟨o, es, ep, kk _ o (Ne.symm f1) (Ne.symm g1) ho, r⟩
      · by_cases hb : b = s.heap.objs.size
        · subst hb
          rw [upd_same] at q
          have q' : HO.tup [V.int i, x] = v := Option.some.inj q
          subst q'
          exact ⟨by show 2 ≤ sizeLine; decide, [.int i tk, u'], .cons ⟨_, rfl⟩ (.cons ru .nil), ⟨_, T2, rfl, _, rfl, rfl⟩⟩
        · rw [upd_ne hb] at q
          refine (I.hok b v q).stay (fun c v' hc q' => ?_) (fun c q => up c _ q) fun c ys q => up c _ q
          rcases hc with z | z
          · rw [z] at q' ⊢; exact kk b v' (nit b v q).1 (nit b v q).2 q'
          · exact kk c v' (nit c _ z).1 (nit c _ z).2 q'
    refine ⟨.ref s.heap.objs.size, upd H s.heap.objs.size (.tup [.int i, x]), I1, rfl, ⟨_, x, hp, rfl, fun ys hy => by rw [I.tuple_inj hy hq]; exact hx, rfl⟩, ⟨⟨u', ?_⟩, ?_⟩, fun b hb => ?_⟩
    · exact (by simpa using he2)
    · obtain ⟨o, q, r⟩ := hit1.1
      exact ⟨o, (sb2.2 it (Ne.symm hne)).trans q, r⟩
    · have hb : b = e ∨ b = it := by simpa using hb
      rcases hb with z | z
      · rw [z, upd_ne (Nat.ne_of_lt hel)]; exact f0
      · rw [z, upd_ne (Nat.ne_of_lt hil)]; exact g0
  done := by
    intro X hP hw hK hc i pins s σ H E I hf st hg
    subst hP hw hK
    obtain ⟨⟨old, he⟩, hit⟩ := st
    obtain ⟨xs, hq, hx⟩ := hg
    obtain ⟨its, rv, p, hz⟩ := I.tuple hq
    obtain ⟨g0, g1, g2, g3, g4, g5⟩ := hf it (by simp)
    have hl := rv.length
    have hT : s.TypeIs (.ref e) "enumerate" := ⟨_, he, rfl⟩
    unfold pyNext
    refine wpAny_bind (wpAny_attempt (wpAny_callSpecial?_slot (name := Str.ofString "__next__") hT F.slot_enumerate_next (wpAny_call_entry F.slot_enumerate_next hT F.entry_enumerate_next ?_ (F.args_enumerate_next_1 _))))
    show wpAny _ _ (field (.ref e) 2 >>= _) _ _ _
    refine wpAny_bind (wpAny_field he rfl (x := .ref it) rfl (wpAny_bind (nextT_end (I.ok.hd hc) hit p (by simp; omega) fun h' x he' hx' => ?_)))
    obtain ⟨o, ho, hc'⟩ := hx'
    refine wpAny_bind (wpAny_isInstance (T := "StopIteration") (b := true) ⟨o, ho, hc'⟩ isSubtype_stop ?_)
    exact wpAny_pure ⟨rfl, I.turned (t' := s.toks) (fun b o hb q => he' b o hb q) g0 g1 g3 g4 g5⟩
  self := fun _ _ _ _ _ st h => by
    obtain ⟨⟨old, he⟩, _⟩ := st
    exact wpAny_pyIter_enum he h
inductive EnmR (K : PySem.W.Frag) (H : Hp) : V → (It → Hp → Prop) → Prop
  | lst {a : Addr} {xs : List V} {R : It → Hp → Prop} : SqL K H a xs → R (Ite K a) H → EnmR K H (.ref a) R
  | tup {a : Addr} {xs : List V} {R : It → Hp → Prop} : SqT K H a xs → R (IteT K a) H → EnmR K H (.ref a) R
noncomputable def iEnumX (K : PySem.W.Frag) (ta : TA) : TI := fun σ H R => ta σ H fun vs H1 => ∃ x, vs = [x] ∧ EnmR K H1 x R
theorem pi_enumX (K : PySem.W.Frag) {X : Cx} {elts : List Expr} {k : Nat} {tp : Pos} {a : Expr} {ta : TA} {p pos : Pos} (hg : Gl X "enumerate") (hm : X.mg "enumerate" = none) (ha : PA X [a] ta) (hs : starEach [a] X.env = [(false, eval a X.env)] := by rfl) (hK : X.K = K := by rfl) :
    PI X (.Tuple elts k tp) (.Call (.Name "enumerate" p) [a] [] pos) (iEnumX K ta) := by
  subst hK
  intro pins s σ H R I h
  refine Call_ (ld_blt I hg hm boot_enumerate (PyProof.Rows.callWith_type1 (thn (ha pos pins s σ H _ I h) fun us s1 ⟨vs, H1, I1, r1, q1⟩ => ?_) hs rfl))
  obtain ⟨x, e, q⟩ := q1
  subst e
  obtain ⟨u, rfl, ru⟩ := vals1 r1
  have fin : ∀ b, b = s1.heap.objs.size + 1 ∨ b = s1.heap.objs.size → FpOk X pins H1 b := fun b hb => by
    rcases hb with z | z
    · subst z; exact I1.fpOk (Nat.le_succ _) (I1.hok.fresh (Nat.le_succ _))
    · subst z; exact I1.fpOk (Nat.le_refl _) (I1.hok.fresh (Nat.le_refl _))
  cases q with
  | lst hq q =>
    cases ru
    obtain ⟨its, rv, pl, hz⟩ := I1.list hq
    refine call_enumerate_list pl.isList fun h' he hit hz' k' => wpAny_pyIter_enum (s := { s1 with heap := h' }) he ?_
    exact ⟨_, [s1.heap.objs.size + 1, s1.heap.objs.size], _, _, H1, rfl, I1.kept (t' := s1.toks) k', turn_enum _ _ _ (Nat.succ_ne_self _), ⟨⟨_, he⟩, hit⟩, fun b hb => fin b (by simpa using hb), q⟩
  | tup hq q =>
    cases ru
    obtain ⟨its, rv, pl, hz⟩ := I1.tuple hq
    refine call_enumT pl fun h' he hit k' => wpAny_pyIter_enum (s := { s1 with heap := h' }) he ?_
    exact ⟨_, [s1.heap.objs.size + 1, s1.heap.objs.size], _, _, H1, rfl, I1.kept (t' := s1.toks) k', turn_enumT _ _ _ (Nat.succ_ne_self _), ⟨⟨_, he⟩, hit⟩, fun b hb => fin b (by simpa using hb), q⟩
theorem for_enumT {K : PySem.W.Frag} {a : Addr} {xs : List V} {g : TG} {tb : TS} {D : Ends} {σ : St} {H : Hp} (Pv : Nat → St → Hp → Prop) (h0 : Pv 0 σ H) (hl : ∀ i σ H, i ≤ xs.length → Pv i σ H → SqT K H a xs)
    (hs : ∀ i x σ H p, xs[i]? = some x → Pv i σ H → H p = none → g (.ref p) σ (upd H p (.tup [.int i, x])) fun σ2 H2 => tb { D with nx := Pv (i + 1), ct := Pv (i + 1), bk := D.nx } σ2 H2) (hd : ∀ σ H, Pv xs.length σ H → D.nx σ H) :
    ∃ W : Nat → Nat → St → Hp → Prop, (∃ m, W 0 m σ H) ∧ ∀ i m σ H, W i m σ H →
      ((IteT K a).stop i H ∧ D.nx σ H) ∨ ((IteT K a).go i H ∧ ∃ N : St → Hp → Prop, (∀ σ' H', N σ' H' → ∃ m', m' < m ∧ W (i + 1) m' σ' H') ∧ ∀ x H', (IteT K a).yld i H x H' → g x σ H' fun σ2 H2 => tb { D with nx := N, ct := N, bk := D.nx } σ2 H2) := by
  refine ⟨fun i m σ H => m = xs.length - i ∧ i ≤ xs.length ∧ Pv i σ H, ⟨xs.length, by simp, Nat.zero_le _, h0⟩, ?_⟩
  rintro i m σ H ⟨rfl, hi, p⟩
  have q := hl i σ H hi p
  by_cases hlt : i < xs.length
  · refine .inr ⟨⟨xs, xs[i], q, by simp [hlt]⟩, Pv (i + 1), fun σ' H' p' => ⟨xs.length - (i + 1), by omega, rfl, hlt, p'⟩, fun x H' y => ?_⟩
    obtain ⟨r, z, hr, rfl, hz, rfl⟩ := y
    exact hs i z σ H r (hz xs q) p hr
  · have e : i = xs.length := by omega
    subst e
    exact .inl ⟨⟨xs, q, Nat.le_refl _⟩, hd σ H p⟩
end L2
namespace L2
open PySem PySem.Spec PyProof.Rows
noncomputable abbrev Zp (h : Heap) (z TI TO : Addr) (f0 : Value) (f1 : Bool) : Prop := h.get? z = some { cls := .type "zip", dict := none, data := .fields #[f0, .bool f1, .bool false, .ref TI, .ref TO], slots := #[] }
noncomputable def F0 (f0 : Value) : Prop := f0 = .none ∨ ∃ T : Nat, f0 = rawInt (T : Int)
section
variable {prog : Program} {w : World} {A : Around} {E : Value → Shared → Prop} {s : Shared}
theorem alive_any {a : Addr} {Q : Option Obj → Shared → Prop} (h : Q (s.heap.get? a) s) : wpAny (model prog w) A (loadIfAlive a) Q E s := fun _ _ _ => h
theorem zp_free {z TI TO : Addr} {f0 : Value} {f1 : Bool} (hf : F0 f0) (hz : Zp s.heap z TI TO f0 f1) {Q : Bool → Shared → Prop} (h : ∀ b f1' h', Zp h' z TI TO f0 f1' → Heap.SameBut z s.heap h' → Q b { s with heap := h' }) :
    wpAny (model prog w) A (Builtin.SmallTypes.ownedTupleIsFree (.ref z)) Q E s := by
  unfold Builtin.SmallTypes.ownedTupleIsFree
  rcases hf with rfl | ⟨T, rfl⟩
  · exact wpAny_bind (wpAny_field hz rfl (x := .none) rfl (wpAny_pure (h true f1 s.heap hz (Heap.SameBut.refl ..))))
  · refine wpAny_bind (wpAny_field hz rfl (x := rawInt (T : Int)) rfl ?_)
    refine wpAny_bind (alive_any ?_)
    cases s.heap.get? (T : Int).toNat with
    | none => exact wpAny_pure (h true f1 s.heap hz (Heap.SameBut.refl ..))
    | some o =>
      show wpAny _ _ (field (.ref z) 1 >>= _) _ _ _
      refine wpAny_bind (wpAny_field hz rfl (x := .bool f1) rfl ?_)
      cases f1 with
      | true => exact wpAny_pure (h false true s.heap hz (Heap.SameBut.refl ..))
      | false =>
        show wpAny _ _ (setField (.ref z) 1 (.bool true) >>= _) _ _ _
        exact wpAny_bind (wpAny_setField_rec hz (by simp) fun h1 hz1 sb => wpAny_pure (h false true h1 hz1 sb))
theorem zpn_item {z TI TO i1 i2 l1 l2 : Addr} {k1 k2 : Nat} {f0 : Value} {f1 : Bool} {xs ys : Array Value} {x y a b : Value} {Q : Value → Shared → Prop} (D : ZipApart z TI TO i1 i2 l1 l2) (hf : F0 f0)
    (hz : Zp s.heap z TI TO f0 f1) (hTI : IsPair s.heap TI (.ref i1) (.ref i2)) (hTO : IsPair s.heap TO a b)
    (h1 : s.heap.IsListIter i1 l1 k1) (h2 : s.heap.IsListIter i2 l2 k2) (hl1 : s.heap.IsList l1 xs) (hl2 : s.heap.IsList l2 ys) (hx : xs[k1]? = some x) (hy : ys[k2]? = some y)
    (hQ : ∀ h' f0' f1', F0 f0' → Zp h' z TI TO f0' f1' → (∃ a b, IsPair h' TO a b) → h'.IsListIter i1 l1 (k1 + 1) → h'.IsListIter i2 l2 (k2 + 1) → IsPair h' s.heap.objs.size x y →
      (∀ c o, c ≠ z → c ≠ TO → c ≠ i1 → c ≠ i2 → s.heap.get? c = some o → h'.get? c = some o) → Q (.ref s.heap.objs.size) { s with heap := h' }) :
    wpAny (model prog w) A (Builtin.«zip.__next__» ⟨[.ref z], []⟩) (fun fin s' => ∃ v, fin = .done (.ret v) ∧ Q v s') E s := by
  show wpAny _ _ (field (.ref z) 2 >>= _) _ _ _
  refine wpAny_bind (wpAny_field hz rfl (x := .bool false) rfl ?_)
  show wpAny _ _ (field (.ref z) 3 >>= _) _ _ _
  refine wpAny_bind (wpAny_field hz rfl (x := .ref TI) rfl (wpAny_bind (wpAny_seqItems hTI rfl ?_)))
  refine wpAny_bind (zp_free hf hz fun own f1' g0 hz0 sb0 => ?_)
  have sz0 : g0.objs.size = s.heap.objs.size := sb0.1
  cases own with
  | true =>
    simp only [if_true]
    refine wpAny_bind (wpAny_rule ?_)
    refine wpAny_bind (wpAny_field (s := { s with heap := g0 }) hz0 rfl (x := .ref TO) rfl ?_)
    refine wpAny_bind (wpAny_setField_rec (s := { s with heap := g0 }) hz0 (by simp) fun g1 hz1 sb1 => ?_)
    replace hz1 : Zp g1 z TI TO .ellipsis f1' := hz1
    refine wpAny_bind ?_
    simp only [List.zipIdx_cons, List.zipIdx_nil, List.forIn_cons, List.forIn_nil]
    refine wpAny_bind (wpAny_bind (wpAny_onRaise ?_))
    show wpAny _ _ (Builtin.SmallTypes.nextOf (.ref i1) >>= _) _ _ _
    have up1 : ∀ c o, c ≠ z → s.heap.get? c = some o → g1.get? c = some o := fun c o n e => sb1.extBut _ _ n (sb0.extBut _ _ n e)
    refine wpAny_bind (wpAny_nextOf_list_item (h1.at fun o e => up1 _ o D.i1z e) (hl1.at fun o e => up1 _ o D.l1z e) hx fun g2 j1 sb2 => wpAny_pure ?_)
    have hTO2 : IsPair g2 TO a b := sb2.extBut _ _ D.TOi1 (up1 _ _ D.TOz hTO)
    refine wpAny_bind (wpAny_seqItems hTO2 rfl (wpAny_bind (wpAny_updateSeq_pair hTO2 fun g3 hTO3 sb3 => ?_)))
    replace hTO3 : IsPair g3 TO x b := hTO3
    refine wpAny_bind (wpAny_letGo (wpAny_pure (wpAny_bind (wpAny_bind (wpAny_onRaise ?_)))))
    show wpAny _ _ (Builtin.SmallTypes.nextOf (.ref i2) >>= _) _ _ _
    have up3 : ∀ c o, c ≠ z → c ≠ i1 → c ≠ TO → s.heap.get? c = some o → g3.get? c = some o := fun c o n1 n2 n3 e => sb3.extBut _ _ n3 (sb2.extBut _ _ n2 (up1 _ _ n1 e))
    refine wpAny_bind (wpAny_nextOf_list_item (h2.at fun o e => up3 _ o D.i2z D.i12.symm D.TOi2.symm e) (hl2.at fun o e => up3 _ o D.l2z D.l2i1 D.l2TO e) hy fun g4 j2 sb4 => wpAny_pure ?_)
    have hTO4 : IsPair g4 TO x b := sb4.extBut _ _ D.TOi2 hTO3
    refine wpAny_bind (wpAny_seqItems hTO4 rfl (wpAny_bind (wpAny_updateSeq_pair hTO4 fun g5 hTO5 sb5 => ?_)))
    replace hTO5 : IsPair g5 TO x y := hTO5
    refine wpAny_bind (wpAny_letGo (wpAny_pure (wpAny_pure ?_)))
    refine wpAny_bind (wpAny_seqItems hTO5 rfl (wpAny_bind (wpAny_newTuple ?_)))
    have hsz : g5.objs.size = s.heap.objs.size := by rw [sb5.1, sb4.1, sb3.1, sb2.1, sb1.1, sz0]
    have hz5 : Zp g5 z TI TO .ellipsis f1' := sb5.extBut _ _ D.TOz.symm (sb4.extBut _ _ D.i2z.symm (sb3.extBut _ _ D.TOz.symm (sb2.extBut _ _ D.i1z.symm hz1)))
    have j15 : g5.IsListIter i1 l1 (k1 + 1) := j1.at fun o e => sb5.extBut _ _ D.TOi1.symm (sb4.extBut _ _ D.i12 (sb3.extBut _ _ D.TOi1.symm e))
    have j25 : g5.IsListIter i2 l2 (k2 + 1) := j2.at fun o e => sb5.extBut _ _ D.TOi2.symm e
    have hk5 : ∀ c o, c ≠ z → c ≠ TO → c ≠ i1 → c ≠ i2 → s.heap.get? c = some o → g5.get? c = some o := fun c o c1 c2 c3 c4 e => sb5.extBut _ _ c2 (sb4.extBut _ _ c4 (up3 _ _ c1 c3 c2 e))
    have hzlt : z < g5.objs.size := Heap.lt_size hz5
    show wpAny _ _ (Builtin.SmallTypes.ownedTupleHandOut (.ref z) (.ref g5.objs.size) >>= _) _ _ _
    refine wpAny_bind ?_
    unfold Builtin.SmallTypes.ownedTupleHandOut
    have hz6 : Zp (g5.push { cls := .type "tuple", data := .seq #[x, y] }) z TI TO .ellipsis f1' := Heap.get?_push_of_some _ hz5
    refine wpAny_bind (wpAny_setField_rec hz6 (by simp) fun g7 hz7 sb7 => ?_)
    replace hz7 : Zp g7 z TI TO (rawInt g5.objs.size) f1' := hz7
    refine wpAny_setField_rec hz7 (by simp) fun g8 hz8 sb8 => ?_
    replace hz8 : Zp g8 z TI TO (rawInt g5.objs.size) false := hz8
    have up : ∀ c o, c ≠ z → g5.get? c = some o → g8.get? c = some o := fun c o c1 e => sb8.extBut _ _ c1 (sb7.extBut _ _ c1 (Heap.get?_push_of_some _ e))
    have hT8 : IsPair g8 g5.objs.size x y := sb8.extBut _ _ (Nat.ne_of_gt hzlt) (sb7.extBut _ _ (Nat.ne_of_gt hzlt) (Heap.get?_push_size _ rfl))
    refine wpAny_pure ⟨_, rfl, ?_⟩
    show Q (.ref g5.objs.size) _
    rw [hsz] at hz8 hT8 ⊢
    exact hQ g8 _ _ (.inr ⟨_, rfl⟩) hz8 ⟨x, y, up _ _ D.TOz hTO5⟩ (j15.at fun o e => up _ o D.i1z e) (j25.at fun o e => up _ o D.i2z e) hT8 fun c o c1 c2 c3 c4 e => up c o c1 (hk5 c o c1 c2 c3 c4 e)
  | false =>
    simp only [Bool.false_eq_true, if_false]
    refine wpAny_bind ?_
    rw [← Array.forIn_toList]
    simp only [List.forIn_cons, List.forIn_nil]
    refine wpAny_bind (wpAny_bind (wpAny_holding ?_))
    show wpAny _ _ (Builtin.SmallTypes.nextOf (.ref i1) >>= _) _ _ _
    have up1 : ∀ c o, c ≠ z → s.heap.get? c = some o → g0.get? c = some o := fun c o n e => sb0.extBut _ _ n e
    refine wpAny_bind (wpAny_nextOf_list_item (s := { s with heap := g0 }) (h1.at fun o e => up1 _ o D.i1z e) (hl1.at fun o e => up1 _ o D.l1z e) hx fun g2 j1 sb2 => wpAny_pure ?_)
    replace sb2 : Heap.SameBut i1 g0 g2 := sb2
    refine wpAny_pure (wpAny_bind (wpAny_bind (wpAny_holding ?_)))
    show wpAny _ _ (Builtin.SmallTypes.nextOf (.ref i2) >>= _) _ _ _
    have up2 : ∀ c o, c ≠ z → c ≠ i1 → s.heap.get? c = some o → g2.get? c = some o := fun c o n1 n2 e => sb2.extBut _ _ n2 (up1 _ _ n1 e)
    refine wpAny_bind (wpAny_nextOf_list_item (h2.at fun o e => up2 _ o D.i2z D.i12.symm e) (hl2.at fun o e => up2 _ o D.l2z D.l2i1 e) hy fun g4 j2 sb4 => wpAny_pure ?_)
    replace sb4 : Heap.SameBut i2 g2 g4 := sb4
    refine wpAny_pure (wpAny_pure ?_)
    show wpAny _ _ (newTuple [x, y] >>= _) _ _ _
    refine wpAny_bind (wpAny_newTuple (wpAny_pure ⟨_, rfl, ?_⟩))
    have hsz : g4.objs.size = s.heap.objs.size := by rw [sb4.1, sb2.1, sz0]
    show Q (.ref g4.objs.size) _
    have pu : ∀ c o, g4.get? c = some o → (g4.push { cls := .type "tuple", data := .seq #[x, y] }).get? c = some o := fun c o e => Heap.get?_push_of_some _ e
    have hT8 : IsPair (g4.push { cls := .type "tuple", data := .seq #[x, y] }) g4.objs.size x y := Heap.get?_push_size _ rfl
    rw [hsz] at hT8 ⊢
    exact hQ _ _ _ hf (pu _ _ (sb4.extBut _ _ D.i2z.symm (sb2.extBut _ _ D.i1z.symm hz0))) ⟨a, b, pu _ _ (sb4.extBut _ _ D.TOi2 (up2 _ _ D.TOz D.TOi1 hTO))⟩ (j1.at fun o e => pu _ o (sb4.extBut _ _ D.i12 e)) (j2.at fun o e => pu _ o e) hT8 fun c o c1 c2 c3 c4 e => pu _ _ (sb4.extBut _ _ c4 (up2 _ _ c1 c3 e))
theorem zpn_end {z TI TO i1 i2 l1 l2 : Addr} {k1 k2 : Nat} {f0 : Value} {f1 : Bool} {xs ys : Array Value} {a b : Value} {Q : Fin → Shared → Prop} (hh : A.handled = none) (D : ZipApart z TI TO i1 i2 l1 l2) (hf : F0 f0)
    (hz : Zp s.heap z TI TO f0 f1) (hTI : IsPair s.heap TI (.ref i1) (.ref i2)) (hTO : IsPair s.heap TO a b)
    (h1 : s.heap.IsListIter i1 l1 k1) (h2 : s.heap.IsListIter i2 l2 k2) (hl1 : s.heap.IsList l1 xs) (hl2 : s.heap.IsList l2 ys) (hend : xs[k1]? = none ∨ ys[k2]? = none)
    (hE : ∀ h' e, (∀ c o, c ≠ z → c ≠ TO → c ≠ i1 → c ≠ i2 → s.heap.get? c = some o → h'.get? c = some o) → (∃ o, h'.get? e = some o ∧ o.cls = .type "StopIteration") → E (.ref e) { s with heap := h' }) :
    wpAny (model prog w) A (Builtin.«zip.__next__» ⟨[.ref z], []⟩) Q E s := by
  show wpAny _ _ (field (.ref z) 2 >>= _) _ _ _
  refine wpAny_bind (wpAny_field hz rfl (x := .bool false) rfl ?_)
  show wpAny _ _ (field (.ref z) 3 >>= _) _ _ _
  refine wpAny_bind (wpAny_field hz rfl (x := .ref TI) rfl (wpAny_bind (wpAny_seqItems hTI rfl ?_)))
  refine wpAny_bind (zp_free hf hz fun own f1' g0 hz0 sb0 => ?_)
  cases own with
  | true =>
    simp only [if_true]
    refine wpAny_bind (wpAny_rule ?_)
    refine wpAny_bind (wpAny_field (s := { s with heap := g0 }) hz0 rfl (x := .ref TO) rfl ?_)
    refine wpAny_bind (wpAny_setField_rec (s := { s with heap := g0 }) hz0 (by simp) fun g1 hz1 sb1 => ?_)
    replace hz1 : Zp g1 z TI TO .ellipsis f1' := hz1
    refine wpAny_bind ?_
    simp only [List.zipIdx_cons, List.zipIdx_nil, List.forIn_cons, List.forIn_nil]
    refine wpAny_bind (wpAny_bind (wpAny_onRaise ?_))
    show wpAny _ _ (Builtin.SmallTypes.nextOf (.ref i1) >>= _) _ _ _
    have up1 : ∀ c o, c ≠ z → s.heap.get? c = some o → g1.get? c = some o := fun c o n e => sb1.extBut _ _ n (sb0.extBut _ _ n e)
    cases hx : xs[k1]? with
    | none =>
      refine wpAny_bind (wpAny_nextOf_list_end hh (h1.at fun o e => up1 _ o D.i1z e) (hl1.at fun o e => up1 _ o D.l1z e) hx fun g2 e sb2 he => ?_)
      obtain ⟨oe, hoe, hce⟩ := he
      have hz2 : Zp g2 z TI TO .ellipsis f1' := sb2 _ _ D.i1z.symm hz1
      have hez : e ≠ z := fun q => by subst q; rw [hz2] at hoe; cases hoe; simp at hce
      exact wpAny_setField_rec hz2 (by simp) fun g3 _ sb3 => hE g3 e (fun c o c1 _ c3 _ q => sb3.extBut _ _ c1 (sb2 _ _ c3 (up1 _ _ c1 q))) ⟨oe, sb3.extBut _ _ hez hoe, hce⟩
    | some x =>
      have hy : ys[k2]? = none := by rcases hend with q | q; rw [hx] at q; cases q; exact q
      refine wpAny_bind (wpAny_nextOf_list_item (h1.at fun o e => up1 _ o D.i1z e) (hl1.at fun o e => up1 _ o D.l1z e) hx fun g2 j1 sb2 => wpAny_pure ?_)
      have hTO2 : IsPair g2 TO a b := sb2.extBut _ _ D.TOi1 (up1 _ _ D.TOz hTO)
      refine wpAny_bind (wpAny_seqItems hTO2 rfl (wpAny_bind (wpAny_updateSeq_pair hTO2 fun g3 hTO3 sb3 => ?_)))
      refine wpAny_bind (wpAny_letGo (wpAny_pure (wpAny_bind (wpAny_bind (wpAny_onRaise ?_)))))
      show wpAny _ _ (Builtin.SmallTypes.nextOf (.ref i2) >>= _) _ _ _
      have up3 : ∀ c o, c ≠ z → c ≠ i1 → c ≠ TO → s.heap.get? c = some o → g3.get? c = some o := fun c o n1 n2 n3 e => sb3.extBut _ _ n3 (sb2.extBut _ _ n2 (up1 _ _ n1 e))
      refine wpAny_bind (wpAny_nextOf_list_end hh (h2.at fun o e => up3 _ o D.i2z D.i12.symm D.TOi2.symm e) (hl2.at fun o e => up3 _ o D.l2z D.l2i1 D.l2TO e) hy fun g4 e sb4 he => ?_)
      obtain ⟨oe, hoe, hce⟩ := he
      have hz4 : Zp g4 z TI TO .ellipsis f1' := sb4 _ _ D.i2z.symm (sb3.extBut _ _ D.TOz.symm (sb2.extBut _ _ D.i1z.symm hz1))
      have hez : e ≠ z := fun q => by subst q; rw [hz4] at hoe; cases hoe; simp at hce
      exact wpAny_setField_rec hz4 (by simp) fun g5 _ sb5 => hE g5 e (fun c o c1 c2 c3 c4 q => sb5.extBut _ _ c1 (sb4 _ _ c4 (up3 _ _ c1 c3 c2 q))) ⟨oe, sb5.extBut _ _ hez hoe, hce⟩
  | false =>
    simp only [Bool.false_eq_true, if_false]
    refine wpAny_bind ?_
    rw [← Array.forIn_toList]
    simp only [List.forIn_cons, List.forIn_nil]
    refine wpAny_bind (wpAny_bind (wpAny_holding ?_))
    show wpAny _ _ (Builtin.SmallTypes.nextOf (.ref i1) >>= _) _ _ _
    have up1 : ∀ c o, c ≠ z → s.heap.get? c = some o → g0.get? c = some o := fun c o n e => sb0.extBut _ _ n e
    cases hx : xs[k1]? with
    | none =>
      refine wpAny_bind (wpAny_nextOf_list_end (s := { s with heap := g0 }) hh (h1.at fun o e => up1 _ o D.i1z e) (hl1.at fun o e => up1 _ o D.l1z e) hx fun g2 e sb2 he => ?_)
      exact hE g2 e (fun c o c1 _ c3 _ q => sb2 _ _ c3 (up1 _ _ c1 q)) he
    | some x =>
      have hy : ys[k2]? = none := by rcases hend with q | q; rw [hx] at q; cases q; exact q
      refine wpAny_bind (wpAny_nextOf_list_item (s := { s with heap := g0 }) (h1.at fun o e => up1 _ o D.i1z e) (hl1.at fun o e => up1 _ o D.l1z e) hx fun g2 j1 sb2 => wpAny_pure ?_)
      replace sb2 : Heap.SameBut i1 g0 g2 := sb2
      refine wpAny_pure (wpAny_bind (wpAny_bind (wpAny_holding ?_)))
      show wpAny _ _ (Builtin.SmallTypes.nextOf (.ref i2) >>= _) _ _ _
      have up2 : ∀ c o, c ≠ z → c ≠ i1 → s.heap.get? c = some o → g2.get? c = some o := fun c o n1 n2 e => sb2.extBut _ _ n2 (up1 _ _ n1 e)
      refine wpAny_bind (wpAny_nextOf_list_end hh (h2.at fun o e => up2 _ o D.i2z D.i12.symm e) (hl2.at fun o e => up2 _ o D.l2z D.l2i1 e) hy fun g4 e sb4 he => ?_)
      exact hE g4 e (fun c o c1 c2 c3 c4 q => sb4 _ _ c4 (up2 _ _ c1 c3 q)) he
end
end L2
namespace L2
open PySem PySem.Spec PyProof.Rows
theorem zip_next_typed {prog : Program} {w : World} {A : Around} {E : Value → Shared → Prop} {s : Shared} {z : Addr} {Q : Option Value → Shared → Prop} (hT : s.TypeIs (.ref z) "zip")
    (h : wpAny (model prog w) A.in1 (Builtin.«zip.__next__» ⟨[.ref z], []⟩) (fun fin s' => ∃ v, fin = .done (.ret v) ∧ Q (some v) s') (fun e s' => (∃ o, s'.heap.get? (match e with | .ref a => a | _ => 0) = some o ∧ o.cls = .type "StopIteration") ∧ (∃ a, e = .ref a) ∧ Q none s') s) :
    wpAny (model prog w) A (pyNext (.ref z)) Q E s := by
  unfold pyNext
  refine wpAny_bind (wpAny_attempt (wpAny_callSpecial?_slot (name := Str.ofString "__next__") hT F.slot_zip_next (wpAny_call_entry F.slot_zip_next hT F.entry_zip_next (wpAny_mono h (fun fin s' ⟨v, e, q⟩ => ⟨v, e, wpAny_pure q⟩) fun e s' q => ?_) (F.args_zip_next_1 _))))
  obtain ⟨⟨o, ho, hc⟩, ⟨a, rfl⟩, q⟩ := q
  exact wpAny_bind (wpAny_isInstance (T := "StopIteration") (b := true) ⟨o, ho, hc⟩ isSubtype_stop (wpAny_pure q))
noncomputable def Itz (K : PySem.W.Frag) (a b : Addr) : It :=
  ⟨fun i H => ∃ xs ys x y, SqL K H a xs ∧ SqL K H b ys ∧ xs[i]? = some x ∧ ys[i]? = some y,
   fun i H v H' => ∃ p x y, H p = none ∧ v = .ref p ∧ (∀ xs, SqL K H a xs → xs[i]? = some x) ∧ (∀ ys, SqL K H b ys → ys[i]? = some y) ∧ H' = upd H p (.tup [x, y]),
   fun i H => ∃ xs ys, SqL K H a xs ∧ SqL K H b ys ∧ (xs.length ≤ i ∨ ys.length ≤ i)⟩
theorem turn_zip {P : Program} {w : World} {K : PySem.W.Frag} {nm : Str} {tp : Pos} (a b z TI TO i1 i2 : Addr) (D : ZipApart z TI TO i1 i2 a b) :
    Turn P w K (.Name nm tp) (Itz K a b) [z, TI, TO, i1, i2] z (fun i h => (∃ f0 f1, F0 f0 ∧ Zp h z TI TO f0 f1) ∧ IsPair h TI (.ref i1) (.ref i2) ∧ (∃ c d, IsPair h TO c d) ∧ h.IsListIter i1 a i ∧ h.IsListIter i2 b i) where
  mem := by simp
  obj := fun i h st c hc => by
    obtain ⟨⟨f0, f1, _, hz⟩, hTI, ⟨u, v, hTO⟩, ⟨o1, e1, _, d1⟩, ⟨o2, e2, _, d2⟩⟩ := st
    have hc : c = z ∨ c = TI ∨ c = TO ∨ c = i1 ∨ c = i2 := by simpa using hc
    rcases hc with rfl | rfl | rfl | rfl | rfl
    · exact ⟨_, hz, fun v q => by cases q⟩
    · exact ⟨_, hTI, fun v q => by cases q⟩
    · exact ⟨_, hTO, fun v q => by cases q⟩
    · exact ⟨_, e1, fun v q => by rw [d1] at q; cases q⟩
    · exact ⟨_, e2, fun v q => by rw [d2] at q; cases q⟩
  keep := fun i h h' st k => by
    obtain ⟨⟨f0, f1, hf, hz⟩, hTI, ⟨u, v, hTO⟩, h1, h2⟩ := st
    exact ⟨⟨f0, f1, hf, k z (by simp) _ hz⟩, k TI (by simp) _ hTI, ⟨u, v, k TO (by simp) _ hTO⟩, h1.at fun o e => k i1 (by simp) o e, h2.at fun o e => k i2 (by simp) o e⟩
  item := by
    intro X hP hw hK hc i pins s σ H E I hf st hg
    subst hP hw hK
    obtain ⟨⟨f0, f1, hf0, hz⟩, hTI, ⟨ta, tb, hTO⟩, h1, h2⟩ := st
    obtain ⟨xs, ys, x, y, hqa, hqb, hx, hy⟩ := hg
    obtain ⟨its, rv, pa, _⟩ := I.list hqa
    obtain ⟨jts, rw', pb, _⟩ := I.list hqb
    obtain ⟨u, hu, ru⟩ := rv.get hx
    obtain ⟨v, hv, rv'⟩ := rw'.get hy
    refine zip_next_typed ⟨_, hz, rfl⟩ (zpn_item D hf0 hz hTI hTO h1 h2 pa.isList pb.isList (x := u) (y := v) (by simpa using hu) (by simpa using hv) fun h' f0' f1' hf' hz' hTO' j1 j2 hpr k => ⟨_, rfl, ?_⟩)
    refine wpAny_pure (s := { s with heap := h' }) ?_
    have hp : H s.heap.objs.size = none := I.hok.fresh (Nat.le_refl _)
    have fr : ∀ c ∈ [z, TI, TO, i1, i2], H c = none := fun c hc => (hf c hc).1
    have nit : ∀ c o, H c = some o → c ≠ z ∧ c ≠ TO ∧ c ≠ i1 ∧ c ≠ i2 := fun c o q => by
      refine ⟨?_, ?_, ?_, ?_⟩ <;> (intro e; rw [e, fr _ (by simp)] at q; cases q)
    have up : ∀ c o, H c = some o → upd H s.heap.objs.size (.tup [x, y]) c = some o := fun c o q => by rw [upd_ne (ne_of_none q hp)]; exact q
    have kk : ∀ c o, c ∉ [z, TO, i1, i2] → s.heap.get? c = some o → h'.get? c = some o := fun c o n q => k c o (fun e => n (by simp [e])) (fun e => n (by simp [e])) (fun e => n (by simp [e])) (fun e => n (by simp [e])) q
    have mem5 : ∀ c ∈ [z, TO, i1, i2], c ∈ [z, TI, TO, i1, i2] := fun c hc => by simp at hc ⊢; rcases hc with e | e | e | e <;> simp [e]
    have hlt : ∀ c ∈ [z, TI, TO, i1, i2], c < s.heap.objs.size := fun c hc => by
      have hc : c = z ∨ c = TI ∨ c = TO ∨ c = i1 ∨ c = i2 := by simpa using hc
      rcases hc with rfl | rfl | rfl | rfl | rfl
      · exact Heap.lt_size hz
      · exact Heap.lt_size hTI
      · exact Heap.lt_size hTO
      · obtain ⟨o, e, _⟩ := h1; exact Heap.lt_size e
      · obtain ⟨o, e, _⟩ := h2; exact Heap.lt_size e
    have I1 : Inv X pins σ (upd H s.heap.objs.size (.tup [x, y])) { s with heap := h', gens := s.gens, drawn := s.drawn, toks := s.toks } := by
      refine I.step (g' := s.gens) (d' := s.drawn) (ch := [z, TO, i1, i2]) (fun c hc => ?_) (fun c o _ _ n q _ => kk c o n q) (fun c o _ _ n q _ => ⟨o.slots, kk c o n q⟩) (fun c o _ q n => ?_) (fun c o n q => ⟨o, kk c o n q⟩) (fun c ys q => up c _ q) (fun c o v q => up c _ q) (fun c ps q => ⟨#[], by rw [up c _ q]; simp⟩) (fun m hm => ?_) (fun c o q => ?_) I.bare
      · obtain ⟨_, g1, _, g3, g4, g5⟩ := hf c (mem5 c hc)
        exact ⟨g3, g1, g4, g5⟩
      · rw [upd_ne (Nat.ne_of_lt (Heap.lt_size q))]; exact n
      · obtain ⟨o, es, ep, ho, r⟩ := hm
        refine ⟨o, es, ep, kk _ o (fun n => ?_) ho, r⟩
        exact (hf _ (mem5 _ n)).2.1 rfl
      · by_cases hb : c = s.heap.objs.size
        · subst hb
          rw [upd_same] at q
          have q' : HO.tup [x, y] = o := Option.some.inj q
          subst q'
          exact ⟨by show 2 ≤ sizeLine; decide, [u, v], .cons ru (.cons rv' .nil), ⟨_, hpr, rfl, _, rfl, rfl⟩⟩
        · rw [upd_ne hb] at q
          refine (I.hok c o q).stay (fun d o' hd q' => ?_) (fun d q => up d _ q) fun d ys q => up d _ q
          rcases hd with e | e
          · rw [e] at q' ⊢; obtain ⟨n1, n2, n3, n4⟩ := nit c o q; exact k c o' n1 n2 n3 n4 q'
          · obtain ⟨n1, n2, n3, n4⟩ := nit d _ e; exact k d o' n1 n2 n3 n4 q'
    refine ⟨.ref s.heap.objs.size, upd H s.heap.objs.size (.tup [x, y]), I1, rfl, ⟨_, x, y, hp, rfl, fun zs hz => by rw [I.list_inj hz hqa]; exact hx, fun zs hz => by rw [I.list_inj hz hqb]; exact hy, rfl⟩, ⟨⟨f0', f1', hf', hz'⟩, ?_, hTO', j1, j2⟩, fun c hc => ?_⟩
    · exact k TI _ D.TIz D.TITO D.TIi1 D.TIi2 hTI
    · rw [upd_ne (Nat.ne_of_lt (hlt c hc))]; exact fr c hc
  done := by
    intro X hP hw hK hc i pins s σ H E I hf st hg
    subst hP hw hK
    obtain ⟨⟨f0, f1, hf0, hz⟩, hTI, ⟨ta, tb, hTO⟩, h1, h2⟩ := st
    obtain ⟨xs, ys, hqa, hqb, hxy⟩ := hg
    obtain ⟨its, rv, pa, _⟩ := I.list hqa
    obtain ⟨jts, rw', pb, _⟩ := I.list hqb
    have l1 := rv.length
    have l2 := rw'.length
    have hend : its.toArray[i]? = none ∨ jts.toArray[i]? = none := by
      rcases hxy with q | q
      · exact .inl (by simp; omega)
      · exact .inr (by simp; omega)
    refine zip_next_typed ⟨_, hz, rfl⟩ (zpn_end (A := X.A.in1) (show X.A.in1.handled = none from I.ok.hd hc) D hf0 hz hTI hTO h1 h2 pa.isList pb.isList hend fun h' e k he => ⟨he, ⟨e, rfl⟩, rfl, ?_⟩)
    have fr : ∀ c ∈ [z, TI, TO, i1, i2], H c = none := fun c hc => (hf c hc).1
    have nit : ∀ c o, H c = some o → c ≠ z ∧ c ≠ TO ∧ c ≠ i1 ∧ c ≠ i2 := fun c o q => by
      refine ⟨?_, ?_, ?_, ?_⟩ <;> (intro e; rw [e, fr _ (by simp)] at q; cases q)
    have kk : ∀ c o, c ∉ [z, TO, i1, i2] → s.heap.get? c = some o → h'.get? c = some o := fun c o n q => k c o (fun e => n (by simp [e])) (fun e => n (by simp [e])) (fun e => n (by simp [e])) (fun e => n (by simp [e])) q
    have mem5 : ∀ c ∈ [z, TO, i1, i2], c ∈ [z, TI, TO, i1, i2] := fun c hc => by simp at hc ⊢; rcases hc with e | e | e | e <;> simp [e]
    refine I.step (h' := h') (g' := s.gens) (d' := s.drawn) (t' := s.toks) (ch := [z, TO, i1, i2]) (fun c hc => ?_) (fun c o _ _ n q _ => kk c o n q) (fun c o _ _ n q _ => ⟨o.slots, kk c o n q⟩) (fun c o _ q n => n) (fun c o n q => ⟨o, kk c o n q⟩) (fun c ys q => q) (fun c o v q => q) (fun c ps q => ⟨#[], by rw [q]; simp⟩) (fun m hm => ?_) (fun c o q => ?_) I.bare
    · obtain ⟨_, g1, _, g3, g4, g5⟩ := hf c (mem5 c hc)
      exact ⟨g3, g1, g4, g5⟩
    · obtain ⟨o, es, ep, ho, r⟩ := hm
      refine ⟨o, es, ep, kk _ o (fun n => ?_) ho, r⟩
      exact (hf _ (mem5 _ n)).2.1 rfl
    · refine (I.hok c o q).stay (fun d o' hd q' => ?_) (fun d q => q) fun d ys q => q
      rcases hd with e | e
      · rw [e] at q' ⊢; obtain ⟨n1, n2, n3, n4⟩ := nit c o q; exact k c o' n1 n2 n3 n4 q'
      · obtain ⟨n1, n2, n3, n4⟩ := nit d _ e; exact k d o' n1 n2 n3 n4 q'
  self := fun A i s Q E st h => by
    obtain ⟨⟨f0, f1, hf0, hz⟩, _⟩ := st
    have hT : s.TypeIs (.ref z) "zip" := ⟨_, hz, rfl⟩
    refine wpAny_pyIter_slot hT F.slot_zip_iter (wpAny_call_entry F.slot_zip_iter hT F.entry_zip_iter ?_ (F.args_zip_iter_1 _))
    show wpAny _ _ (ret (.ref z)) _ _ s
    exact wpAny_pure ⟨_, rfl, "zip", _, hT, F.slot_zip_next.lookup, h⟩
noncomputable def iZip (K : PySem.W.Frag) (ta : TA) : TI := fun σ H R => ta σ H fun vs H1 => ∃ a b xs ys, vs = [.ref a, .ref b] ∧ SqL K H1 a xs ∧ SqL K H1 b ys ∧ R (Itz K a b) H1
theorem pi_zip (K : PySem.W.Frag) {X : Cx} {nm : Str} {tp : Pos} {a b : Expr} {ta : TA} {p pos : Pos} (hg : Gl X "zip") (hm : X.mg "zip" = none) (ha : PA X [a, b] ta) (hs : starEach [a, b] X.env = (false, eval a X.env) :: starEach [b] X.env := by rfl) (hpl : (backTo pos (starEach [b] X.env)).any (·.1) = false := by rfl) (hK : X.K = K := by rfl) :
    PI X (.Name nm tp) (.Call (.Name "zip" p) [a, b] [] pos) (iZip K ta) := by
  subst hK
  intro pins s σ H R I h
  refine Call_ (ld_blt I hg hm (show bootBuiltins "zip" = some (.type "zip") by decide +kernel) (PyProof.Rows.callWith_type1 (thn (ha pos pins s σ H _ I h) fun us s1 ⟨vs, H1, I1, r1, q1⟩ => ?_) hs hpl))
  obtain ⟨l1, l2, xs, ys, e, hqa, hqb, q⟩ := q1
  subst e
  obtain ⟨u1, u2, rfl, r1, r2⟩ := vals2 r1
  cases r1
  cases r2
  obtain ⟨its, rv, pa, _⟩ := I1.list hqa
  obtain ⟨jts, rw', pb, _⟩ := I1.list hqb
  have a1 : l1 < s1.heap.objs.size := by obtain ⟨_, e, _⟩ := pa.isList; exact Heap.lt_size e
  have a2 : l2 < s1.heap.objs.size := by obtain ⟨_, e, _⟩ := pb.isList; exact Heap.lt_size e
  refine call_zip_2 pa.isList pb.isList fun h' hz hTI hTO hi1 hi2 _ hk => ?_
  have T := turn_zip (P := X.prog) (w := X.w) (K := X.K) (nm := nm) (tp := tp) l1 l2 _ _ _ _ _ (zipApart_new a1 a2)
  have t0 : (∃ f0 f1, F0 f0 ∧ Zp h' (s1.heap.objs.size + 4) (s1.heap.objs.size + 2) (s1.heap.objs.size + 3) f0 f1) ∧ IsPair h' (s1.heap.objs.size + 2) (.ref s1.heap.objs.size) (.ref (s1.heap.objs.size + 1)) ∧ (∃ c d, IsPair h' (s1.heap.objs.size + 3) c d) ∧ h'.IsListIter s1.heap.objs.size l1 0 ∧ h'.IsListIter (s1.heap.objs.size + 1) l2 0 := ⟨⟨_, _, .inl rfl, hz⟩, hTI, ⟨_, _, hTO⟩, hi1, hi2⟩
  refine T.self X.A 0 { s1 with heap := h' } _ _ t0 ?_
  refine ⟨_, _, _, _, H1, rfl, I1.kept (t' := s1.toks) hk, T, t0, fun b hb => ?_, q⟩
  have hb : b = s1.heap.objs.size + 4 ∨ b = s1.heap.objs.size + 2 ∨ b = s1.heap.objs.size + 3 ∨ b = s1.heap.objs.size ∨ b = s1.heap.objs.size + 1 := by simpa using hb
  have hle : s1.heap.objs.size ≤ b := by rcases hb with e | e | e | e | e <;> rw [e] <;> first | exact Nat.le_refl _ | exact Nat.le_add_right _ _
  exact I1.fpOk hle (I1.hok.fresh hle)
theorem comp_zip {K : PySem.W.Frag} {k : Nat} {fr : List Nat} {g : TG} {tc : TT} {te : TE} {σ : St} {H1 : Hp} {Q : VK} {a b : Addr} (xs ys : List V) (Pv : Addr → Nat → List V → St → Hp → Prop)
    (h : ∀ D, H1 D = none → Pv D 0 [] (inSt k fr σ) (upd H1 D (.lst [])) ∧ (∀ i acc σ' H', i ≤ (xs.zip ys).length → Pv D i acc σ' H' → H' D = some (.lst acc) → SqL K H' a xs ∧ SqL K H' b ys) ∧
      (∀ i acc σ' H' x y p, (xs.zip ys)[i]? = some (x, y) → Pv D i acc σ' H' → H' D = some (.lst acc) → H' p = none → g (.ref p) σ' (upd H' p (.tup [x, y])) fun σ2 H3 => tc σ2 H3 fun b H4 =>
        if b = true then te σ2 H4 fun y H5 => H5 D = some (.lst acc) ∧ acc.length < sizeLine ∧ Pv D (i + 1) (acc ++ [y]) σ2 (upd H5 D (.lst (acc ++ [y]))) else H4 D = some (.lst acc) ∧ Pv D (i + 1) acc σ2 H4) ∧
      ∀ acc σ' H', Pv D (xs.zip ys).length acc σ' H' → H' D = some (.lst acc) → Q (.ref D) H') : tCompW k fr g tc te (Itz K a b) σ H1 Q := by
  intro D hD
  obtain ⟨h0, hok, hs, hd⟩ := h D hD
  refine ⟨fun i m acc σ' H' => m = (xs.zip ys).length - i ∧ i ≤ (xs.zip ys).length ∧ Pv D i acc σ' H', ⟨(xs.zip ys).length, by simp, Nat.zero_le _, h0⟩, ?_⟩
  rintro i m acc σ' H' ⟨rfl, hi, p⟩ hacc
  obtain ⟨oka, okb⟩ := hok i acc σ' H' hi p hacc
  have hl : (xs.zip ys).length = min xs.length ys.length := List.length_zip
  by_cases hlt : i < (xs.zip ys).length
  · refine .inr ⟨⟨xs, ys, xs[i]'(by omega), ys[i]'(by omega), oka, okb, by simp, by simp⟩, Pv D (i + 1), fun acc' σ2 H2 p' => ⟨(xs.zip ys).length - (i + 1), by omega, rfl, hlt, p'⟩, fun v H2 yl => ?_⟩
    obtain ⟨q, x, y, hq, rfl, hx, hy, rfl⟩ := yl
    refine hs i acc σ' H' x y q ?_ p hacc hq
    rw [List.getElem?_zip_eq_some]
    exact ⟨hx xs oka, hy ys okb⟩
  · have e : i = (xs.zip ys).length := by omega
    subst e
    exact .inl ⟨⟨xs, ys, oka, okb, by omega⟩, hd acc σ' H' p hacc⟩
end L2
namespace L2
open PySem PySem.Spec PyProof.Rows
inductive Thg (H : Hp) : V → Prop
  | non : Thg H .non
  | bl (b : Bool) : Thg H (.bl b)
  | int (i : Int) : Thg H (.int i)
  | str {z : Str} : z.length ≤ sizeLine → Thg H (.str z)
  | lst {a : Addr} {xs : List V} : H a = some (.lst xs) → Thg H (.ref a)
  | tup {a : Addr} {xs : List V} : H a = some (.tup xs) → Thg H (.ref a)
  | dK {a : Addr} {kvs : List (Key × V)} : H a = some (.dK kvs) → Thg H (.ref a)
  | dT {a : Addr} {kvs : List (List Key × V)} : H a = some (.dT kvs) → Thg H (.ref a)
noncomputable def isS : V → Bool
  | .str _ => true
  | _ => false
noncomputable def isI : V → Bool
  | .int _ | .bl _ => true
  | _ => false
noncomputable def isB : V → Bool
  | .bl _ => true
  | _ => false
noncomputable def isL (H : Hp) : V → Bool
  | .ref a => match H a with
    | some (.lst _) => true
    | _ => false
  | _ => false
noncomputable def isT (H : Hp) : V → Bool
  | .ref a => match H a with
    | some (.tup _) => true
    | _ => false
  | _ => false
theorem isL_of {H : Hp} {a : Addr} {xs : List V} (e : H a = some (.lst xs)) : isL H (.ref a) = true := by show (match H a with | some (.lst _) => true | _ => false) = true; rw [e]
theorem isT_of {H : Hp} {a : Addr} {xs : List V} (e : H a = some (.tup xs)) : isT H (.ref a) = true := by show (match H a with | some (.tup _) => true | _ => false) = true; rw [e]
theorem isL_not {H : Hp} {a : Addr} {o : HO} (e : H a = some o) (n : ∀ xs, o ≠ .lst xs) : isL H (.ref a) = false := by
  show (match H a with | some (.lst _) => true | _ => false) = false
  rw [e]; split
  · rename_i xs q; exact absurd (Option.some.inj q) (n xs)
  · rfl
theorem isT_not {H : Hp} {a : Addr} {o : HO} (e : H a = some o) (n : ∀ xs, o ≠ .tup xs) : isT H (.ref a) = false := by
  show (match H a with | some (.tup _) => true | _ => false) = false
  rw [e]; split
  · rename_i xs q; exact absurd (Option.some.inj q) (n xs)
  · rfl
theorem ty_thg {K : PySem.W.Frag} {H : Hp} {x : V} (h : Thg H x) : ∃ t, TyOf K H x t ∧ PySem.W.kitOne K t (.type "str") = some (isS x) ∧ PySem.W.kitOne K t (.type "int") = some (isI x) ∧ PySem.W.kitOne K t (.type "bool") = some (isB x) ∧
    PySem.W.kitOne K t (.type "list") = some (isL H x) ∧ PySem.W.kitOne K t (.type "tuple") = some (isT H x) := by
  cases h with
  | non => exact ⟨_, .non, by rfl, by rfl, by rfl, by rfl, by rfl⟩
  | bl b => exact ⟨_, .bl b, by rfl, by rfl, by rfl, by rfl, by rfl⟩
  | int i => exact ⟨_, .int i, by rfl, by rfl, by rfl, by rfl, by rfl⟩
  | str z => exact ⟨_, .str _, by rfl, by rfl, by rfl, by rfl, by rfl⟩
  | lst e => exact ⟨_, .lst e, by rfl, by rfl, by rfl, by rw [isL_of e]; rfl, by rw [isT_not e (fun _ z => by cases z)]; rfl⟩
  | tup e => exact ⟨_, .tup e, by rfl, by rfl, by rfl, by rw [isL_not e (fun _ z => by cases z)]; rfl, by rw [isT_of e]; rfl⟩
  | dK e => exact ⟨_, .dK e, by rfl, by rfl, by rfl, by rw [isL_not e (fun _ z => by cases z)]; rfl, by rw [isT_not e (fun _ z => by cases z)]; rfl⟩
  | dT e => exact ⟨_, .dT e, by rfl, by rfl, by rfl, by rw [isL_not e (fun _ z => by cases z)]; rfl, by rw [isT_not e (fun _ z => by cases z)]; rfl⟩
noncomputable def pK (e : Str × Str) : List Key := [.inr e.1, .inr e.2]
theorem pK_inj {e f : Str × Str} (h : pK e = pK f) : e = f := by
  unfold pK at h
  have h1 := List.cons.inj h
  have h2 := List.cons.inj h1.2
  exact Prod.ext (Sum.inr.inj h1.1) (Sum.inr.inj h2.1)
inductive PlR (H : Hp) : V → VK → Prop
  | nm {a : Addr} {xs : List Str} {Q : VK} : (H a = some (.lst (List.map V.str xs)) ∨ H a = some (.tup (List.map V.str xs))) → xs.length ≤ 1000 →
      (∀ d kvs H', Same H H' → H d = none → H' d = some (.dK kvs) → (∀ s, (valV kvs (.inr s)).isSome = true ↔ s ∈ xs) → (∀ s v, valV kvs (.inr s) = some v → ∃ j : Nat, v = .int j ∧ xs[j]? = some s) → (kvs.map (·.1)).Nodup → (∀ k ∈ kvs.map (·.1), ∃ s ∈ xs, k = Sum.inr s) → Q (.ref d) H') → PlR H (.ref a) Q
  | pr {a : Addr} {refs : List V} {ps : List (Str × Str)} {Q : VK} : (H a = some (.lst refs) ∨ H a = some (.tup refs)) → RepAll H refs (ps.map pairD) → ps.length ≤ 1000 →
      (∀ d kvs H', Same H H' → H d = none → H' d = some (.dT kvs) → (∀ e : Str × Str, (valV kvs (pK e)).isSome = true ↔ e ∈ ps) → Q (.ref d) H') → PlR H (.ref a) Q
noncomputable def spPlacesX : Sp := fun vs H Q _ => ∃ x, vs = [x] ∧ PlR H x Q
section
variable {X : Cx} {p pos p2 pos2 : Pos} {e f : Expr} {t : TA}
theorem g_tuple (B : Blt X.mg) (hg : Gl X "tuple" := by rfl) : PE X (.Name "tuple" p) (tC (.ty "tuple")) := pe_bltn hg B.tuple (show bootBuiltins "tuple" = some (.type "tuple") by decide +kernel) rfl
noncomputable def rIsi2 (K : PySem.W.Frag) (c d : String) : List V → Hp → VK → Prop := fun xs H Q => ∃ x a t b, xs = [x, .ref a] ∧ H a = some (.tup [.ty c, .ty d]) ∧ TyOf K H x t ∧ PySem.W.kitAny K t [.type c, .type d] = some b ∧ Q (.bl b) H
theorem isinst_tup {pins : List (Addr × Obj)} {σ : St} {H : Hp} {s : Shared} {A : Around} {E : Value → Shared → Prop} {Q : Value → Shared → Prop} {x : V} {u t : Value} {tp : Addr} {dd : Option Addr} {its : List Value} {n : Nat} {sl : Array (Option Value)} {b : Bool}
    (I : Inv X pins σ H s) (rx : RelV x u) (ty : TyOf X.K H x t) (htp : s.heap.get? tp = some ⟨.type "tuple", dd, .seq its.toArray n, sl⟩) (e : PySem.W.kitAny X.K t its = some b) (h : ∀ tk, Q (.bool b) { s with toks := tk }) :
    wpAny (model X.prog X.w) A (call (.builtin "isinstance") [u, .ref tp]) Q E s := by
  cases ty with
  | non => cases (show u = Value.none from rx); exact PySem.W.kia_tup PySem.W.kitx_none I.kIn True.intro htp e (fun z => nomatch z) h
  | bl y => cases (show u = Value.bool y from rx); exact PySem.W.kia_tup PySem.W.kitx_bool I.kIn True.intro htp e (fun z => nomatch z) h
  | int i => obtain ⟨t, q⟩ := (show ∃ t, u = Value.int i t from rx); cases q; exact PySem.W.kia_tup PySem.W.kitx_int I.kIn True.intro htp e (fun z => nomatch z) h
  | str y => obtain ⟨t, q⟩ := (show ∃ t, u = Value.str y t from rx); cases q; exact PySem.W.kia_tup PySem.W.kitx_str I.kIn True.intro htp e (fun z => nomatch z) h
  | flt y => obtain ⟨t, q⟩ := (show ∃ t, u = Value.float y t from rx); cases q; exact PySem.W.kia_tup PySem.W.kitx_float I.kIn True.intro htp e (fun z => nomatch z) h
  | @lst a xs ea =>
    cases (show u = Value.ref a from rx)
    obtain ⟨_, _, n, _, h1⟩ := (show ObjOk X.prog X.w H s.heap a (.lst xs) from I.hok a _ ea)
    exact PySem.W.kia_tup PySem.W.kitx_list I.kIn ⟨_, h1, rfl⟩ htp e (fun z => nomatch z) h
  | @frz a ob xs ea =>
    cases (show u = Value.ref a from rx)
    obtain ⟨_, _, _, n, _, h1⟩ := (show ObjOk X.prog X.w H s.heap a (.frz ob (.lst xs)) from I.hok a _ ea)
    exact PySem.W.kia_tup PySem.W.kitx_list I.kIn ⟨_, h1, rfl⟩ htp e (fun z => nomatch z) h
  | @tup a xs ea =>
    cases (show u = Value.ref a from rx)
    obtain ⟨_, _, _, p⟩ := (show ObjOk X.prog X.w H s.heap a (.tup xs) from I.hok a _ ea)
    obtain ⟨o, h1, h2, _⟩ := p
    exact PySem.W.kia_tup PySem.W.kitx_tuple I.kIn ⟨o, h1, h2⟩ htp e (fun z => nomatch z) h
  | @dK a kvs ea =>
    cases (show u = Value.ref a from rx)
    obtain ⟨_, _, vs, _, p⟩ := (show ObjOk X.prog X.w H s.heap a (.dK kvs) from I.hok a _ ea)
    obtain ⟨o, es, ep, h1, h2, _⟩ := p
    exact PySem.W.kia_tup PySem.W.kitx_dict I.kIn ⟨o, h1, h2.1⟩ htp e (fun z => nomatch z) h
  | @dT a kvs ea =>
    cases (show u = Value.ref a from rx)
    obtain ⟨_, _, xs, _, o, es, ep, h1, h2, _⟩ := (show ObjOk X.prog X.w H s.heap a (.dT kvs) from I.hok a _ ea)
    exact PySem.W.kia_tup PySem.W.kitx_dict I.kIn ⟨o, h1, h2.1⟩ htp e (fun z => nomatch z) h
  | @ins a C dx fs ea cl ha hn htk hm =>
    cases (show u = Value.ref a from rx)
    obtain ⟨mA, O, _⟩ := ins_get I.hok ea
    obtain ⟨od, J, _⟩ := O.look
    exact PySem.W.kia_tup (PySem.W.kitx_own (cl.get _) cl.hd ha hn htk hm) I.kIn J htp e (fun z => nomatch z) h
theorem call_isi2 (c d : String) : CallR X (.builtin "isinstance") (rIsi2 X.K c d) := by
  intro pins s σ H xs us Q I r h
  obtain ⟨x, a, t, b, rfl, ea, ty, e, q⟩ := h
  obtain ⟨u, w', rfl, ru, rw'⟩ := vals2 r
  cases rw'
  obtain ⟨_, its, rv, ⟨oc, od, odt, osl⟩, h1, h2, n, h3, _⟩ := (show ObjOk X.prog X.w H s.heap a (.tup [.ty c, .ty d]) from I.hok a _ ea)
  have h2 : oc = .type "tuple" := h2
  have h3 : odt = .seq its.toArray n := h3
  subst h2 h3
  obtain ⟨u1, u2, rfl, r1, r2⟩ := vals2 rv
  cases r1
  cases r2
  exact isinst_tup I ru ty h1 e fun tk => ⟨.bl b, H, I.tok tk, rfl, q⟩
theorem b_isi2 (K : PySem.W.Frag) (c d : String) (B : Blt X.mg) (ha : PA X [e, f] t) (hg : Gl X "isinstance" := by rfl) (he : starEach [e, f] X.env = (false, eval e X.env) :: starEach [f] X.env := by rfl) (hpl : (backTo pos (starEach [f] X.env)).any (·.1) = false := by rfl) (hK : X.K = K := by rfl) : PE X (.Call (.Name "isinstance" p) [e, f] [] pos) (tCB (rIsi2 K c d) t) :=
  hK ▸ pe_callB (call_isi2 c d) hg B.isinstance boot_isinstance ha (by decide) (by decide) he hpl
end
theorem kit_lt {K : PySem.W.Frag} {H : Hp} {x : V} {t : Value} (h1 : PySem.W.kitOne K t (.type "list") = some (isL H x)) (h2 : PySem.W.kitOne K t (.type "tuple") = some (isT H x)) : PySem.W.kitAny K t [.type "list", .type "tuple"] = some (isL H x || isT H x) := by
  unfold PySem.W.kitAny
  rw [h1]
  cases isL H x with
  | true => rfl
  | false =>
    show PySem.W.kitAny K t [.type "tuple"] = _
    unfold PySem.W.kitAny
    rw [h2]
    cases isT H x <;> rfl
end L2
namespace MG
variable {es : List (Nat × Nat)} {goal : Nat}
end MG
namespace L2
open PySem PySem.Spec PyProof.Rows
section
variable {X : Cx} {p pos : Pos} {e : Expr} {t : TA}
noncomputable def rLenD : List V → Hp → VK → Prop := fun xs H Q => ∃ a kvs, xs = [V.ref a] ∧ H a = some (.dK kvs) ∧ Q (.int kvs.length) H
theorem b_lenD (B : Blt X.mg) (ha : PA X [e] t) (hg : Gl X "len" := by rfl) (he : starEach [e] X.env = (false, eval e X.env) :: starEach [] X.env := by rfl) (hpl : (backTo pos (starEach [] X.env)).any (·.1) = false := by rfl) : PE X (.Call (.Name "len" p) [e] [] pos) (tCB rLenD t) :=
  pe_callB call_lenD hg B.len PySem.boot_len ha (by decide) (by decide) he hpl
end
end L2
namespace L2
open PySem PySem.Spec PyProof.Rows PySem.Builtin PySem.Builtin.Str
theorem star_c {c : Const} {j : Nat} {p : Pos} {es : List Expr} {env : Env} : starEach (.Constant c j p :: es) env = (false, eval (.Constant c j p) env) :: starEach es env := rfl
end L2
namespace L2
open PySem PySem.Spec PyProof.Rows
noncomputable def SqA (H : Hp) (a : Addr) (xs : List V) : Prop := H a = some (.lst xs) ∨ H a = some (.tup xs)
theorem SqA.same {H H' : Hp} {a : Addr} {xs : List V} (h : SqA H a xs) (s : Same H H') : SqA H' a xs := by
  rcases h with h | h
  · exact .inl (s _ _ h)
  · exact .inr (s _ _ h)
theorem SqA.len {K : PySem.W.Frag} {H : Hp} {a : Addr} {xs : List V} (h : SqA H a xs) : LenV K (.ref a) H xs.length := by
  rcases h with h | h
  · exact .inl ⟨xs, .of h, rfl⟩
  · exact .inr ⟨xs, .of h, rfl⟩
theorem SqA.thg {H : Hp} {a : Addr} {xs : List V} (h : SqA H a xs) : Thg H (.ref a) := by
  rcases h with h | h
  · exact .lst h
  · exact .tup h
theorem SqA.lt {H : Hp} {a : Addr} {xs : List V} (h : SqA H a xs) : (isL H (.ref a) || isT H (.ref a)) = true := by
  rcases h with h | h
  · rw [isL_of h]; rfl
  · rw [isT_of h, Bool.or_true]
end L2
namespace L2
open PySem PySem.Spec PyProof.Rows
section
variable {X : Cx} {p pos p2 pos2 : Pos} {e f : Expr} {t : TA}
theorem mtR_reverse : MtR X "list.reverse" rReverse := mt_reverse
theorem m_reverse (K : PySem.W.Frag) {o : Expr} {to : TE} {apos cpos : Pos} (ho : PE X o to) (hbase : attributeBase o "reverse" X.env (eval o X.env) = eval o X.env := by rfl) (hline : (apos.endLine == cpos.line) = true := by rfl) (hK : X.K = K := by rfl) :
    PE X (.Call (.Attribute o "reverse" apos) [] [] cpos) (tBM0 K "list" rReverse to) := hK ▸ pe_bm0 PySem.F.plainAttrs_list PySem.F.slot_list_reverse PySem.F.type_list_reverse mtR_reverse ho hbase hline
end
end L2
namespace L2
open PySem PySem.Spec PyProof.Rows
theorem cutV_from (xs : List V) (k : Nat) : cutV xs (some (k : Int)) none = xs.drop k := by
  unfold cutV
  rw [HT.sIx_nat, HT.sIx_none]
  by_cases h : k ≤ xs.length
  · rw [Nat.min_eq_left h, List.take_of_length_le (by rw [List.length_drop]; omega)]
  · rw [Nat.min_eq_right (by omega), List.drop_of_length_le (Nat.le_refl _), List.drop_of_length_le (by omega)]; simp
end L2
namespace MG
variable {α : Type}
end MG
namespace L2
open PySem PySem.Spec PyProof.Rows
theorem wpAny_flat {α : Type} {M : Model} {A : Around} {E : Value → Shared → Prop} {s : Shared} {m : Sem (Option α)} {P : α → Shared → Prop}
    (h : wpAny M A m (fun r s1 => ∃ u, r = some u ∧ wpAny M A (pure () : Sem Unit) (fun _ s2 => P u s2) E s1) E s) : wpAny M A m (fun r s1 => ∃ u, r = some u ∧ P u s1) E s := by
  intro Γ p hΓ
  exact Sem.wp_mono M Γ m (fun r p' s1 ⟨u, e, q⟩ => ⟨u, e, q Γ p' hΓ⟩) (fun _ _ _ z => z) p s (h Γ p hΓ)
theorem Inv.atA {X : Cx} {pins : List (Addr × Obj)} {σ : St} {H : Hp} {s : Shared} (I : Inv X pins σ H s) (A' : Around) (h1 : A'.handled = X.A.handled) (h2 : A'.frames = X.A.frames) : Inv { X with A := A' } pins σ H s :=
  ⟨⟨I.ok.mod, I.ok.kind, I.ok.glob, I.ok.blt, I.ok.above, I.ok.inj, I.ok.has, I.ok.cab, fun c => h1.trans (I.ok.hd c), h2.trans I.ok.frames, I.ok.stk, I.ok.exf, I.ok.bs, I.ok.bsz, I.ok.noex, I.ok.exfs, I.ok.funs, I.ok.frf⟩,
    I.os, I.bare, I.base, I.loc, I.cell, I.free, I.freeC, I.pin, I.hok, I.len⟩
theorem Inv.ofA {X : Cx} {pins : List (Addr × Obj)} {σ : St} {H : Hp} {s : Shared} {A' : Around} (ok : X.Ok) (I : Inv { X with A := A' } pins σ H s) : Inv X pins σ H s :=
  ⟨ok, I.os, I.bare, I.base, I.loc, I.cell, I.free, I.freeC, I.pin, I.hok, I.len⟩
theorem keys_miss_zip : typeLookup (.type "zip") "keys" = pure none := am_miss_of_fast (by decide +kernel)
end L2
namespace L2
open PySem PySem.Spec PyProof.Rows
namespace DU
theorem entry_loop : entryFor table "dict.update.loop" = some Builtin.«dict.update.loop» := entryFor_of_fast (by kernel_rfl)
theorem plain_loop : plainId "dict.update.loop" = true := by decide +kernel
end DU
section
variable {X : Cx} {pins : List (Addr × Obj)} {σ : St} {H : Hp} {s : Shared} {a : Addr} {y v : V} {u r : Value} {A : Around} {E : Value → Shared → Prop}
theorem d_dictSet {H' : Hp} {Q : Unit → Shared → Prop} (hu : A.units < cLine) (I : Inv X pins σ H s) (g : DPut H a y v H') (ry : RelV y u) (rv : RelV v r) (h : ∀ s', Inv X pins σ H' s' → (∀ b o, b ≠ a → s.heap.get? b = some o → s'.heap.get? b = some o) → Q () s') :
    wpAny (model X.prog X.w) A (dictSet a u r) Q E s := by
  rcases g with ⟨kvs, k, e, ey, l, eH⟩ | ⟨kvs, k, b, e, ey, eb, l, eH⟩
  · subst ey eH
    obtain ⟨z, hd, vs, rel, dd⟩ := dk_of I.hok e
    have hz : vs.length ≤ sizeLine := by rw [← rel.length]; exact z
    have hl : (putK kvs k v).length ≤ sizeLine := by have := length_putK kvs k v; omega
    refine wpAny_dictSet_pairs (hsz := hz) (kV_is ry) dd fun h' dd' hs => h _ ?_ fun b o n q => hs.extBut _ _ n q
    have he : ∃ q, h'.get? a = some q := let ⟨q, _, _, hq, _⟩ := dd'; ⟨q, hq⟩
    exact d_write I (by rw [e]; exact True.intro) hs he (dk_new hl hd (rel.put k rv) dd')
  · subst ey eH
    cases (show u = Value.ref b from ry)
    obtain ⟨z, hd, xs, rel, dd⟩ := dt_of I.hok e
    have hz : xs.length ≤ sizeLine := by rw [← Paired.length rel]; exact z
    have hl : (putK kvs k v).length ≤ sizeLine := by have := length_putK kvs k v; omega
    refine wpAny_dictSet_heap (hsz := hz) hu (key_of I.hok eb) dd fun h' dd' hs => h _ ?_ fun b o n q => hs.extBut _ _ n q
    obtain ⟨q, es, ep, hq, h2, h3, h4, _, h5⟩ := dd'
    refine d_write I (by rw [e]; exact True.intro) hs ⟨q, hq⟩ ⟨hl, hd, _, (rel.put k eb rv).keeps fun c ys ec => ?_, q, es, ep, hq, h2, h3, h4, h5⟩
    rw [upd_ne (ne_of ec e (fun z => nomatch z))]
    exact ec
theorem DPut.at_ {H' : Hp} (g : DPut H a y v H') : (∃ o, H a = some o) ∧ ∀ b, b ≠ a → H' b = H b := by
  rcases g with ⟨kvs, k, e, ey, l, eH⟩ | ⟨kvs, k, b, e, ey, eb, l, eH⟩
  · exact ⟨⟨_, e⟩, fun b n => by rw [eH, upd_ne n]⟩
  · exact ⟨⟨_, e⟩, fun b n => by rw [eH, upd_ne n]⟩
end
theorem dict_loop {X : Cx} {pins : List (Addr × Obj)} {σ : St} {nm : Str} {tp : Pos} {J : It} {fp : List Addr} {it : Addr} {tn : Nat → Heap → Prop} (T : Turn X.prog X.w X.K (.Name nm tp) J fp it tn) (hc : X.calm = true) (hu : X.A.units + 64 < cLine) (d : Addr) (n : Nat) (Dv : Nat → Hp → Prop)
    (go : ∀ i H, i < n → Dv i H → J.go i H ∧ ∀ x H1, J.yld i H x H1 → ∃ b k v H2, x = .ref b ∧ SqT X.K H1 b [k, v] ∧ DPut H1 d k v H2 ∧ Dv (i + 1) H2)
    (stop : ∀ H, Dv n H → J.stop n H) {R : Result → Shared → Prop} : ∀ (k i : Nat) (j : Int) (s : Shared) (H : Hp), n - i = k → i ≤ n → Inv X pins σ H s → (∀ b ∈ fp, FpOk X pins H b) → tn i s.heap → Dv i H →
      (∀ H' s', Inv X pins σ H' s' → Dv n H' → R (.ok (.ret .none)) s') → codeAny (model X.prog X.w) X.A.in1 (.builtin "dict.update.loop" ⟨[.ref d, .ref it, rawInt j, .none], []⟩) R s := by
  intro k
  induction k with
  | zero =>
    intro i j s H hk hi I hf ht hd hR
    have hin : i = n := by omega
    subst hin
    refine codeAny_builtin DU.entry_loop ?_
    rw [Around.under_plainId DU.plain_loop _]
    show wpAny _ X.A.in1.in1 (pyNext (.ref it) >>= _) _ _ s
    refine wpAny_bind (wpAny_mono (T.done { X with A := X.A.in1.in1 } rfl rfl rfl hc i pins s σ H _ (I.atA _ rfl rfl) hf ht (stop H hd)) (fun r s1 ⟨e, I1⟩ => ?_) fun _ _ z => z)
    subst e
    show wpAny _ _ (Builtin.Dict.addKeywords d [] >>= _) _ _ _
    exact wpAny_bind (wpAny_pure (wpAny_pure (hR H s1 (Inv.ofA I.ok I1) hd)))
  | succ k ih =>
    intro i j s H hk hi I hf ht hd hR
    have hlt : i < n := by omega
    obtain ⟨hg, hy⟩ := go i H hlt hd
    refine codeAny_builtin DU.entry_loop ?_
    rw [Around.under_plainId DU.plain_loop _]
    show wpAny _ X.A.in1.in1 (pyNext (.ref it) >>= _) _ _ s
    refine wpAny_bind (wpAny_mono (wpAny_flat (T.item { X with A := X.A.in1.in1 } rfl rfl rfl hc i pins s σ H _ (I.atA _ rfl rfl) hf ht hg)) (fun r s1 ⟨u, e, x, H1, I1, rx, yl, t1, fn⟩ => ?_) fun _ _ z => z)
    subst e
    replace I1 := Inv.ofA I.ok I1
    obtain ⟨b, kk, v, H2, ex, sq, dp, dv⟩ := hy x H1 yl
    subst ex
    cases (show u = Value.ref b from rx)
    obtain ⟨its, rv, pt, hz⟩ := I1.tuple sq
    obtain ⟨u1, u2, e2, r1, r2⟩ := vals2 rv
    subst e2
    obtain ⟨o, ho, hcl, m, hdt⟩ := pt
    show wpAny _ _ (holding [Value.ref b] _ >>= _) _ _ _
    refine wpAny_bind (wpAny_holding ?_)
    show wpAny _ _ (Sem.tryCatch (Builtin.Dict.pairItems (Value.ref b)) _ >>= _) _ _ _
    refine wpAny_bind (wpAny_tryCatch ?_)
    unfold Builtin.Dict.pairItems
    refine wpAny_bind (wpAny_typeOf (T := "tuple") ⟨o, ho, hcl⟩ ?_)
    simp only [show ((Value.type "tuple" == Value.type "list") || (Value.type "tuple" == Value.type "tuple")) = true from rfl, if_true]
    unfold seqItems?
    refine wpAny_bind (wpAny_bind (wpAny_load ho ?_))
    rw [hdt]
    refine wpAny_pure (wpAny_pure ?_)
    show wpAny _ _ (holding [u1, u2] (dictSet d u1 u2)) _ _ _
    have hu' : X.A.in1.in1.units < cLine := by show X.A.units + 1 + 1 < cLine; omega
    refine wpAny_holding (d_dictSet hu' I1 dp r1 r2 fun s2 I2 hk2 => ?_)
    have dn : ∀ b ∈ fp, b ≠ d := fun b hb q => by
      obtain ⟨o, eo⟩ := dp.at_.1
      rw [← q, fn b hb] at eo
      cases eo
    refine wpAny_pure ⟨plainId_quiet DU.plain_loop _, ih (i + 1) (j + 1) s2 H2 (by omega) hlt I2 (fun b hb => ?_) (T.keep _ _ _ t1 fun b hb o q => hk2 b o (dn b hb) q) dv hR⟩
    obtain ⟨_, f1, f2, f3, f4, f5⟩ := hf b hb
    exact ⟨(dp.at_.2 b (dn b hb)).trans (fn b hb), f1, f2, f3, f4, f5⟩
theorem foldK_le {κ : Type} [DecidableEq κ] : ∀ (ps : List (κ × V)) (m : List (κ × V)), (ps.foldl (fun m q => putK m q.1 q.2) m).length ≤ m.length + ps.length := by
  intro ps
  induction ps with
  | nil => intro m; exact Nat.le_refl _
  | cons q r ih =>
    intro m
    have h1 := ih (putK m q.1 q.2)
    have h2 := length_putK m q.1 q.2
    rw [List.foldl_cons, List.length_cons]
    omega
noncomputable def mkK {κ : Type} [DecidableEq κ] (ps : List (κ × V)) : List (κ × V) := ps.foldl (fun m q => putK m q.1 q.2) []
theorem mkK_le {κ : Type} [DecidableEq κ] (ps : List (κ × V)) : (mkK ps).length ≤ ps.length := by
  have := foldK_le ps []
  rw [List.length_nil, Nat.zero_add] at this
  exact this
theorem mkK_take {κ : Type} [DecidableEq κ] (ps : List (κ × V)) (i : Nat) (q : κ × V) (h : ps[i]? = some q) : mkK (ps.take (i + 1)) = putK (mkK (ps.take i)) q.1 q.2 := by
  unfold mkK
  rw [List.take_add_one, h, List.foldl_append]
  rfl
end L2
namespace L2
open PySem PySem.Spec PyProof.Rows
namespace SP
open PySem.Builtin PySem.Builtin.Str PySem.StrLaws
noncomputable abbrev one (c : Nat) : Str := ⟨#[c]⟩
end SP
end L2
namespace MG
variable {es : List (Nat × Nat)} {goal : Nat}
end MG
namespace L2
open PySem PySem.Spec PyProof.Rows
section
variable {X : Cx} {p pos : Pos} {e : Expr} {t : TA}
noncomputable def rMaxL (K : PySem.W.Frag) : List V → Hp → VK → Prop := fun xs H Q => ∃ a ns, xs = [.ref a] ∧ SqL K H a (List.map V.int ns) ∧ 0 < ns.length ∧ ∀ M, M ∈ ns → (∀ b, b ∈ ns → b ≤ M) → Q (.int M) H
theorem call_maxL (hc : X.calm = true) : CallR X (.builtin "max") (rMaxL X.K) := by
  intro pins s σ H xs us Q I r h
  obtain ⟨a, ns, rfl, hq, hne, q⟩ := h
  obtain ⟨u, rfl, ru⟩ := vals1 r
  cases ru
  obtain ⟨its, rv, pl, hz⟩ := I.list hq
  have hi := intsAre_of rv
  obtain ⟨xs, e⟩ := hi.allInts.items
  have hns : ns = xs.toList.map (·.1) := by
    rw [← hi.numsOf, ← nums_intItems, ← e]
  have hsz : 0 < xs.size := by
    have h3 := hne; rw [hns, List.length_map, Array.length_toList] at h3; exact h3
  have hl := pl.isList
  rw [e] at hl
  refine max_intList (I.ok.hd hc) hl hsz fun v h' tk hv hk => ?_
  obtain ⟨t, rfl⟩ := intItems_at hv
  obtain ⟨h1, h2⟩ := argBest_gt (numAt xs) (xs.size - 1)
  refine ⟨.int _, H, I.kept hk, ⟨_, rfl⟩, q _ ?_ fun b hb => ?_⟩
  · rw [hns, numAt_eq]; exact getD_mem (by rw [List.length_map, Array.length_toList]; omega)
  · rw [hns] at hb
    obtain ⟨j, hj, rfl⟩ := mem_getD hb
    rw [List.length_map, Array.length_toList] at hj
    rw [← numAt_eq]; exact h2 j (by omega)
theorem b_maxL (K : PySem.W.Frag) (hc : X.calm = true) (B : Blt X.mg) (ha : PA X [e] t) (hg : Gl X "max" := by rfl) (he : starEach [e] X.env = (false, eval e X.env) :: starEach [] X.env := by rfl) (hpl : (backTo pos (starEach [] X.env)).any (·.1) = false := by rfl) (hK : X.K = K := by rfl) :
    PE X (.Call (.Name "max" p) [e] [] pos) (tCB (rMaxL K) t) := hK ▸ pe_callB (call_maxL hc) hg B.max (show bootBuiltins "max" = some (.builtin "max") by decide +kernel) ha (by decide) (by decide) he hpl
end
end L2
set_option maxHeartbeats 400000
namespace L2
open PySem PySem.Spec PyProof.Rows
section
variable {X : Cx}
noncomputable def rInDT (neg : Bool) : V → V → Hp → VK → Prop := fun x y H Q => ∃ p xs ds d, y = .ref p ∧ H p = some (.tup xs) ∧ RepAll H xs ds ∧ Rep H x d ∧ PyData.canLayAll0 ds = true ∧ d.canLay0 = true ∧ d.depth ≤ 16 ∧ Q (.bl (if neg then !(ds.any fun e => PyData.eqv e d) else ds.any fun e => PyData.eqv e d)) H
theorem op_notInDT (hu : X.A.units + 64 < cLine) : OpR X (compareOp .NotIn) (rInDT true) := by
  intro pins s σ H x y v u Q I rx ry h
  obtain ⟨p, xs, ds, d, rfl, e, rs, r, cs, c, dp, q⟩ := h
  cases ry
  obtain ⟨its, rv, pl, _⟩ := I.tuple (a := p) (xs := xs) (.of e)
  obtain ⟨bs, zx⟩ := r.reads I.hok rx
  refine SeqAt.notIn_tupleAt (fun u => PyData.eqv (SeqAt.readOf s.heap u) d) pl (fun w hw => mem_readOf (x := x) I.hok zx c (by show X.A.units + 1 + d.depth < cLine; omega) rs rv cs w (by simpa using hw)) ⟨.bl _, H, I, rfl, ?_⟩
  rw [show its.toArray.any (fun u => PyData.eqv (SeqAt.readOf s.heap u) d) = its.any (fun u => PyData.eqv (SeqAt.readOf s.heap u) d) by simp, any_readOf I.hok rs rv cs]
  exact q
end
end L2
set_option maxHeartbeats 4000000
namespace L2
open PySem PySem.Spec PyProof.Rows
noncomputable def knO (o : Obj) : HO := .frz o (.ext fun _ => True)
theorem kn_ok {P : Program} {w : World} {H : Hp} {h : Heap} {a : Addr} {o : Obj} (e : h.get? a = some o) : ObjOk P w H h a (knO o) := ⟨e, trivial, ⟨o, e⟩, fun _ _ _ _ => trivial⟩
theorem kn_at {P : Program} {w : World} {H : Hp} {h : Heap} {a : Addr} {o : Obj} (x : HOk P w H h) (e : H a = some (knO o)) : h.get? a = some o := (x a _ e).1
noncomputable def lessC (H : Hp) (l : List (Addr × Obj)) : Hp := fun b => match l.lookup b with
  | some _ => none
  | none => H b
noncomputable def moreC (H : Hp) (l : List (Addr × Obj)) : Hp := fun b => match l.lookup b with
  | some o => some (knO o)
  | none => H b
theorem less_in {H : Hp} {l : List (Addr × Obj)} {b : Addr} {o : Obj} (h : l.lookup b = some o) : lessC H l b = none := by unfold lessC; rw [h]
theorem less_out {H : Hp} {l : List (Addr × Obj)} {b : Addr} (h : l.lookup b = none) : lessC H l b = H b := by unfold lessC; rw [h]
theorem more_in {H : Hp} {l : List (Addr × Obj)} {b : Addr} {o : Obj} (h : l.lookup b = some o) : moreC H l b = some (knO o) := by unfold moreC; rw [h]
theorem more_out {H : Hp} {l : List (Addr × Obj)} {b : Addr} (h : l.lookup b = none) : moreC H l b = H b := by unfold moreC; rw [h]
noncomputable def KnC (H : Hp) (l : List (Addr × Obj)) : Prop := ∀ b o, l.lookup b = some o → H b = some (knO o)
noncomputable def Unk (H : Hp) (l : List (Addr × Obj)) : Prop := ∀ b o, l.lookup b = some o → H b = none
section
variable {P : Program} {w : World} {H H1 : Hp} {h h1 : Heap} {l : List (Addr × Obj)} {fs : List Addr}
theorem KnC.out (k : KnC H l) {b : Addr} {u : HO} (e : H b = some u) (n : ∀ o, u ≠ knO o) : l.lookup b = none := by
  cases q : l.lookup b with
  | none => rfl
  | some o => rw [k b o q] at e; exact absurd (Option.some.inj e).symm (n o)
theorem Unk.out (k : Unk H l) {b : Addr} {u : HO} (e : H b = some u) : l.lookup b = none := by
  cases q : l.lookup b with
  | none => rfl
  | some o => rw [k b o q] at e; cases e
theorem KnC.outN (k : KnC H l) {b : Addr} (e : H b = none) : l.lookup b = none := by
  cases q : l.lookup b with
  | none => rfl
  | some o => rw [k b o q] at e; cases e
theorem more_less (k : KnC H l) : moreC (lessC H l) l = H := by
  funext b
  cases q : l.lookup b with
  | none => rw [more_out q, less_out q]
  | some o => rw [more_in q, k b o q]
theorem less_more (k : Unk H l) : lessC (moreC H l) l = H := by
  funext b
  cases q : l.lookup b with
  | none => rw [less_out q, more_out q]
  | some o => rw [less_in q, k b o q]
theorem HOk.lessC (x : HOk P w H h) (k : KnC H l) : HOk P w (lessC H l) h := fun b u e => by
  cases q : l.lookup b with
  | some o => rw [less_in q] at e; cases e
  | none =>
    rw [less_out q] at e
    refine (x b u e).stay (fun _ _ _ z => z) (fun c z => ?_) fun c xs z => ?_
    · rw [less_out (k.out z fun o q => by cases q)]; exact z
    · rw [less_out (k.out z fun o q => by cases q)]; exact z
theorem HOk.moreC (x : HOk P w H h) (k : Unk H l) (g : ∀ b o, l.lookup b = some o → h.get? b = some o) : HOk P w (moreC H l) h := fun b u e => by
  cases q : l.lookup b with
  | some o => rw [more_in q] at e; cases e; exact kn_ok (g b o q)
  | none =>
    rw [more_out q] at e
    refine (x b u e).stay (fun _ _ _ z => z) (fun c z => ?_) fun c xs z => ?_
    · rw [more_out (k.out z)]; exact z
    · rw [more_out (k.out z)]; exact z
theorem Un.call (u : Un fs [] (moreC H l) H1 h h1) (k : Unk H l) (g : ∀ b o, l.lookup b = some o → h.get? b = some o) (x : HOk P w H1 h1) : Un fs [] H (lessC H1 l) h h1 := by
  have kn1 : KnC H1 l := fun b o q => u.frzs b o _ (more_in q)
  have same : ∀ b o o', l.lookup b = some o → h.get? b = some o' → h1.get? b = some o' := fun b o o' q e => by
    rw [g b o q] at e; cases e; exact kn_at x (kn1 b o q)
  refine ⟨fun b o e n hb he => ?_, fun b o e n hb he => ?_, fun b o e n he => ?_, u.there, fun b xs e => ?_, fun b o v e => ?_, fun b ps e => ?_⟩
  · cases q : l.lookup b with
    | some o' => exact same b o' o q e
    | none => exact u.keep b o e (by rw [more_out q]; exact n) hb he
  · cases q : l.lookup b with
    | some o' => exact ⟨o.slots, same b o' o q e⟩
    | none => exact u.slot b o e (by rw [more_out q]; exact n) hb he
  · cases q : l.lookup b with
    | some o' => exact less_in q
    | none => rw [less_out q]; exact u.free b o e (by rw [more_out q]; exact n) he
  · have q := k.out e
    rw [less_out q]; exact u.tups b xs (by rw [more_out q]; exact e)
  · have q := k.out e
    rw [less_out q]; exact u.frzs b o v (by rw [more_out q]; exact e)
  · have q := k.out e
    rw [less_out q]; exact u.tbls b ps (by rw [more_out q]; exact e)
theorem Un.lam (u : Un fs [] (lessC H l) H1 h h1) (k : KnC H l) : Un fs [] H (moreC H1 l) h h1 := by
  refine ⟨fun b o e n hb he => ?_, fun b o e n hb he => ?_, fun b o e n he => ?_, u.there, fun b xs e => ?_, fun b o v e => ?_, fun b ps e => ?_⟩
  · exact u.keep b o e (by rw [less_out (k.outN n)]; exact n) hb he
  · exact u.slot b o e (by rw [less_out (k.outN n)]; exact n) hb he
  · rw [more_out (k.outN n)]; exact u.free b o e (by rw [less_out (k.outN n)]; exact n) he
  · have q := k.out e fun o q => by cases q
    rw [more_out q]; exact u.tups b xs (by rw [less_out q]; exact e)
  · cases q : l.lookup b with
    | some o' => rw [more_in q, ← k b o' q]; exact e
    | none => rw [more_out q]; exact u.frzs b o v (by rw [less_out q]; exact e)
  · have q := k.out e fun o q => by cases q
    rw [more_out q]; exact u.tbls b ps (by rw [less_out q]; exact e)
end
noncomputable def cxLam (CX : CXT) (P : Program) (w : World) (K : PySem.W.Frag) (mg : Str → Option Value) (base : Heap) (N : List Str) (qual : Str) (scope : Scope) (g : Addr) (cd : Value) (cl : List (Str × Addr)) (A : Around) (outer : List Env) (s : Shared) (H : Hp) (E' : Value → Shared → Prop) : Cx where
  prog := P
  w := w
  K := K
  mg := mg
  base := base
  A := A.deeper (PySem.W.envX qual scope s.heap.objs.size g cd cl)
  N := N
  s₀ := s
  H₀ := H
  env := PySem.W.envX qual scope s.heap.objs.size g cd cl
  outer := outer
  stack := PySem.W.envX qual scope s.heap.objs.size g cd cl :: outer
  ex := []
  calm := true
  fn := fun _ => false
  pn := []
  xe := E'
structure Clos (scope : Scope) (N : List Str) (cl : List (Str × Addr)) (l : List (Addr × Obj)) (vs : List V) : Prop where
  len : vs.length = N.length
  inj : ∀ x y c, cl.lookup x = some c → cl.lookup y = some c → x = y
  has : ∀ x, scope.names.lookup x = some .free → ∃ c, cl.lookup x = some c
  cel : ∀ x c, cl.lookup x = some c → ∃ o v, l.lookup c = some o ∧ o.data = .cell v
  val : ∀ (i : Nat) (x : Str) (v : V), N[i]? = some x → vs[i]? = some v → scope.names.lookup x = some .free ∧ ∃ c o u, cl.lookup x = some c ∧ l.lookup c = some o ∧ o.data = .cell (some u) ∧ RelV v u
structure LamScope (scope : Scope) : Prop where
  kind : scope.kind = .function
  co : scope.isCoroutine = false
  gen : scope.isGenerator = false
  nocell : ∀ x ∈ scope.names, x.2 ≠ NameKind.cell
theorem tbl_step {P : Program} {w : World} {H : Hp} {h h2 : Heap} {fs : List Addr} {Pt c' g : Addr} {ps mo : Array Value} {oc fo : Obj} (x : HOk P w H h) (eP : H Pt = some (.tbl ps)) (k : ∀ b o, b ≠ Pt → h.get? b = some o → h2.get? b = some o)
    (hP : h2.get? Pt = some (PySem.W.tabObj (ps ++ mo))) (c1 : h.objs.size ≤ c') (g1 : h.objs.size ≤ g) (ne : c' ≠ g) (ec : h2.get? c' = some oc) (eg : h2.get? g = some fo) :
    Un fs [] H (upd (upd (upd H Pt (.tbl (ps ++ mo))) c' (knO oc)) g (knO fo)) h h2 ∧ HOk P w (upd (upd (upd H Pt (.tbl (ps ++ mo))) c' (knO oc)) g (knO fo)) h2 := by
  have old : ∀ b, b < h.objs.size → b ≠ Pt → upd (upd (upd H Pt (.tbl (ps ++ mo))) c' (knO oc)) g (knO fo) b = H b := fun b hb hn => by
    rw [upd_ne (Nat.ne_of_lt (Nat.lt_of_lt_of_le hb g1)), upd_ne (Nat.ne_of_lt (Nat.lt_of_lt_of_le hb c1)), upd_ne hn]
  have lP : Pt < h.objs.size := x.lt eP
  have atP : upd (upd (upd H Pt (.tbl (ps ++ mo))) c' (knO oc)) g (knO fo) Pt = some (.tbl (ps ++ mo)) := by
    rw [upd_ne (Nat.ne_of_lt (Nat.lt_of_lt_of_le lP g1)), upd_ne (Nat.ne_of_lt (Nat.lt_of_lt_of_le lP c1)), upd_same]
  have nP : ∀ b, H b = none → b ≠ Pt := fun b n z => by rw [z, eP] at n; cases n
  have nPs : ∀ b u, H b = some u → u ≠ .tbl ps → b ≠ Pt := fun b u e d z => by rw [z, eP] at e; exact d (Option.some.inj e).symm
  refine ⟨⟨fun b o e n _ _ => k b o (nP b n) e, fun b o e n _ _ => ⟨o.slots, k b o (nP b n) e⟩, fun b o e n _ => ?_, fun b o e _ => ?_, fun b xs e => ?_, fun b o u e => ?_, fun b qs e => ?_⟩, fun b u e => ?_⟩
  · rw [old b (Heap.lt_size e) (nP b n)]; exact n
  · by_cases hb : b = Pt
    · subst hb; exact ⟨_, hP⟩
    · exact ⟨o, k b o hb e⟩
  · rw [old b (x.lt e) (nPs b _ e (by intro z; cases z))]; exact e
  · rw [old b (x.lt e) (nPs b _ e (by intro z; cases z))]; exact e
  · by_cases hb : b = Pt
    · subst hb; rw [eP] at e; cases e; exact ⟨mo, atP⟩
    · exact ⟨#[], by rw [old b (x.lt e) hb, e]; simp⟩
  · by_cases hg : b = g
    · subst hg; rw [upd_same] at e; cases e; exact kn_ok eg
    · rw [upd_ne hg] at e
      by_cases hc : b = c'
      · subst hc; rw [upd_same] at e; cases e; exact kn_ok ec
      · rw [upd_ne hc] at e
        by_cases hb : b = Pt
        · subst hb; rw [upd_same] at e; cases e; exact hP
        · rw [upd_ne hb] at e
          refine (x b u e).stay (fun c v hcv z => k c v ?_ z) (fun c z => ?_) fun c xs z => ?_
          · rcases hcv with rfl | hcv
            · exact hb
            · exact nPs c _ hcv (by intro z; cases z)
          · rw [old c (x.lt z) (nPs c _ z (by intro z; cases z))]; exact z
          · rw [old c (x.lt z) (nPs c _ z (by intro z; cases z))]; exact z
noncomputable def CodeN (qual : Str) (oc : Obj) : Prop := ∃ ws t, oc.data = .fields ws ∧ ws[1]? = some (.str qual t)
structure CTab (H : Hp) (Pt : Addr) (ps : Array Value) (pos : Pos) (qual : Str) : Prop where
  tri : TriplesOk ps.toList
  at_ : H Pt = some (.tbl ps)
  code : codeAmong pos ps.toList = none ∨ ∃ c' oc, codeAmong pos ps.toList = some (.ref c') ∧ H c' = some (knO oc) ∧ CodeN qual oc
noncomputable def tLam (Pt : Addr) (pos : Pos) (qual : Str) (fo : Addr → Value → Obj) : TE := fun _ H Q => ∃ ps, CTab H Pt ps pos qual ∧
  ∀ (H' : Hp) (g c' : Addr) (oc : Obj) (ctv : Value) (ps' : Array Value), H g = none → H' g = some (knO (fo c' ctv)) → H' c' = some (knO oc) → CodeN qual oc → H' Pt = some (.tbl ps') → TriplesOk ps'.toList → codeAmong pos ps'.toList = some (.ref c') →
    (∀ pos2 : Pos, (pos2.line ≠ pos.line ∨ pos2.col ≠ pos.col) → codeAmong pos2 ps'.toList = codeAmong pos2 ps.toList) → (∀ b u, b ≠ Pt → H b = some u → H' b = some u) → Q (.ref g) H'
theorem codeAmong_app {pos2 : Pos} {a b : Int} {c : Value} (hne : (a == (pos2.line : Int) && b == (pos2.col : Int)) = false) : ∀ (l : List Value), TriplesOk l → codeAmong pos2 (l ++ [rawInt a, rawInt b, c]) = codeAmong pos2 l := by
  intro l
  induction l using TriplesOk.induct with
  | case1 =>
    intro _
    show codeAmong pos2 [Value.int a 0, Value.int b 0, c] = _
    rw [codeAmong.eq_1, hne]
    rfl
  | case2 i t j u head rest ih =>
    intro h
    rw [TriplesOk.eq_2] at h
    show codeAmong pos2 (Value.int i t :: Value.int j u :: head :: (rest ++ _)) = _
    rw [codeAmong.eq_1, codeAmong.eq_1, ih h]
  | case3 l h1 h2 =>
    intro h
    rw [TriplesOk.eq_3 l h1 h2] at h
    exact h.elim
theorem pe_lam {X : Cx} {params : Arguments} {body : Expr} {scope : Scope} {pos : Pos} {c Pt : Addr} {cl : List (Str × Addr)} {qual : Str} (hdf : defaultsOf params X.env = ([], [])) (hcl : closureFor scope X.env = pure cl) (hc : X.env.code = .ref c)
    (hq : X.env.qual ++ Str.ofString "<lambda>" = qual) (hcd : ∀ h : Heap, X.K.In h → PySem.W.CodeHd h c Pt) (hbm : X.base.BuiltinsAt X.mg Pt) :
    PE X (.Lambda params body scope pos) (tLam Pt pos qual fun c' ctv => PySem.W.kla_obj (Str.ofString "<lambda>") qual params body scope cl ((X.mg (Str.ofString "__name__")).getD .none) c' ctv) := by
  intro pins s σ H Q I ⟨ps, T, h⟩
  subst hq
  have hP : s.heap.get? Pt = some (PySem.W.tabObj ps) := I.hok Pt _ T.at_
  have hns : s.heap.Ns mainGlobals X.mg := I.mod.glob.keeps I.bk
  have hbs : s.heap.BuiltinsAt X.mg Pt := by
    obtain ⟨bm, o, a1, a2, a3, a4, a5, a6⟩ := hbm
    exact ⟨bm, o, a1, a2, a3, a4, I.bk bm o a5, a6⟩
  refine PySem.W.kla_eval hdf ?_
  rcases T.code with n | ⟨c', oc, n, kc, hn⟩
  · have nm : mainGlobals ≠ Pt := fun z => by
      obtain ⟨o, es, ep, e, d, _⟩ := I.mod.glob
      have := (I.bs _ _ e).2
      rw [z, T.at_] at this; cases this
    refine PySem.W.kla_makeFunction hcl I.ok.glob hns hc (hcd _ I.kIn) hP T.tri n nm hbs fun c' ctv h' tk hx hge hlt hrec htb => ?_
    obtain ⟨c2, oc, ws, t, e2, hoc, hdt, hw⟩ := hrec
    have e2 : c' = c2 := by injection e2
    subst e2
    have zz : s.heap.objs.size ≤ h'.objs.size := Nat.le_trans hge (Nat.le_of_lt hlt)
    obtain ⟨un, ok⟩ := tbl_step (fs := X.fs) (h2 := h'.push (PySem.W.kla_obj (Str.ofString "<lambda>") (X.env.qual ++ Str.ofString "<lambda>") params body scope cl ((X.mg (Str.ofString "__name__")).getD .none) c' ctv)) (c' := c') (g := h'.objs.size) I.hok T.at_ (fun b o nb e => Heap.get?_push_of_some _ (hx b o nb e))
      (Heap.get?_push_of_some _ htb) hge zz (Nat.ne_of_lt hlt) (Heap.get?_push_of_some _ hoc) (Heap.get?_push_size _ rfl)
    have lP : Pt < s.heap.objs.size := I.hok.lt T.at_
    refine ⟨.ref h'.objs.size, _, I.un (t' := tk) un ok, rfl, ?_⟩
    refine h _ h'.objs.size c' oc ctv _ (I.hok.fresh zz) upd_same (by rw [upd_ne (Nat.ne_of_lt hlt), upd_same]) ⟨ws, t, hdt, hw⟩
      (by rw [upd_ne (Nat.ne_of_lt (Nat.lt_of_lt_of_le lP zz)), upd_ne (Nat.ne_of_lt (Nat.lt_of_lt_of_le lP hge)), upd_same]) ?_ ?_ (fun pos2 hne => ?_) fun b u nb e => ?_
    · rw [Array.toList_append]; exact TriplesOk_snoc _ _ _ _ T.tri
    · rw [Array.toList_append]; exact codeAmong_snoc _ T.tri n
    · rw [Array.toList_append]
      refine codeAmong_app ?_ _ T.tri
      rcases hne with hne | hne
      · have : ((pos.line : Int) == (pos2.line : Int)) = false := by
          simp only [beq_eq_false_iff_ne, ne_eq]; omega
        rw [this]; rfl
      · have : ((pos.col : Int) == (pos2.col : Int)) = false := by
          simp only [beq_eq_false_iff_ne, ne_eq]; omega
        rw [this, Bool.and_false]
    · have lb := I.hok.lt e
      rw [upd_ne (Nat.ne_of_lt (Nat.lt_of_lt_of_le lb zz)), upd_ne (Nat.ne_of_lt (Nat.lt_of_lt_of_le lb hge)), upd_ne nb]; exact e
  · refine PySem.W.kla_makeFunctionHit hcl I.ok.glob hns hc (hcd _ I.kIn) hP T.tri n hbs fun ctv h' tk hx zz => ?_
    have J := I.laid (a := h'.objs.size) (t' := tk) (o := knO (PySem.W.kla_obj (Str.ofString "<lambda>") (X.env.qual ++ Str.ofString "<lambda>") params body scope cl ((X.mg (Str.ofString "__name__")).getD .none) c' ctv)) (h' := h'.push (PySem.W.kla_obj (Str.ofString "<lambda>") (X.env.qual ++ Str.ofString "<lambda>") params body scope cl ((X.mg (Str.ofString "__name__")).getD .none) c' ctv)) (fun b o e => Heap.get?_push_of_some _ (hx b o e)) zz (kn_ok (Heap.get?_push_size _ rfl))
    refine ⟨.ref h'.objs.size, _, J, rfl, ?_⟩
    have fr := I.hok.fresh zz
    exact h _ h'.objs.size c' oc ctv ps fr upd_same (by rw [upd_ne (ne_of_none kc fr)]; exact kc) hn (by rw [upd_ne (ne_of_none T.at_ fr)]; exact T.at_) T.tri n (fun _ _ => rfl) fun b u nb e => by rw [upd_ne (ne_of_none e fr)]; exact e
noncomputable def clOf (sc : Scope) (env : Env) : List (Str × Addr) := Classical.epsilon fun cl => closureFor sc env = pure cl ∧ (∀ x c, cl.lookup x = some c → env.cells.lookup x = some c) ∧ ∀ y ∈ sc.names, y.2 = NameKind.free → ∃ c, cl.lookup y.1 = some c
theorem clOf_ok {sc : Scope} {env : Env} (hf : ∀ y ∈ sc.names, y.2 = NameKind.free → ∃ c, env.cells.lookup y.1 = some c) :
    closureFor sc env = pure (clOf sc env) ∧ (∀ x c, (clOf sc env).lookup x = some c → env.cells.lookup x = some c) ∧ ∀ y ∈ sc.names, y.2 = NameKind.free → ∃ c, (clOf sc env).lookup y.1 = some c := Classical.epsilon_spec (clos_ok hf)
noncomputable def cellsAt (cl : List (Str × Addr)) (h : Heap) : List (Addr × Obj) := cl.filterMap fun p => match cl.lookup p.1 with
  | none => none
  | some c => match h.get? c with
    | none => none
    | some o => some (c, o)
theorem cellsAt_mem {cl : List (Str × Addr)} {h : Heap} {b : Addr} {o : Obj} (m : (b, o) ∈ cellsAt cl h) : h.get? b = some o ∧ ∃ x, cl.lookup x = some b := by
  obtain ⟨⟨x, c0⟩, _, e⟩ := List.mem_filterMap.mp m
  cases q : cl.lookup x with
  | none => simp only [q] at e; cases e
  | some c =>
    simp only [q] at e
    cases r : h.get? c with
    | none => simp only [r] at e; cases e
    | some u => simp only [r] at e; cases e; exact ⟨r, x, q⟩
theorem memA : ∀ {l : List (Addr × Obj)} {b : Addr} {o : Obj}, l.lookup b = some o → (b, o) ∈ l
  | [], _, _, h => by cases h
  | (c, u) :: r, b, o, h => by
    rw [List.lookup_cons] at h
    split at h
    · rename_i q
      rw [LawfulBEq.eq_of_beq q, Option.some.inj h]; exact List.mem_cons_self
    · exact List.mem_cons_of_mem _ (memA h)
theorem cellsAt_get {cl : List (Str × Addr)} {h : Heap} {b : Addr} {o : Obj} (m : (cellsAt cl h).lookup b = some o) : h.get? b = some o ∧ ∃ x, cl.lookup x = some b := cellsAt_mem (memA m)
theorem lookup_mem {l : List (Addr × Obj)} {h : Heap} (a : ∀ b o, (b, o) ∈ l → h.get? b = some o) {c : Addr} {o : Obj} (m : (c, o) ∈ l) : l.lookup c = some o := by
  have is : (l.lookup c).isSome = true := by
    clear a
    induction l with
    | nil => cases m
    | cons p r ih =>
      obtain ⟨b, u⟩ := p
      rw [List.lookup_cons]
      split
      · rfl
      · rename_i q
        rcases List.mem_cons.mp m with z | z
        · cases z; simp at q
        · exact ih z
  obtain ⟨o', e⟩ := Option.isSome_iff_exists.mp is
  have z := a _ _ (memA e)
  rw [a _ _ m] at z; cases z
  exact e
theorem cellsAt_in {cl : List (Str × Addr)} {h : Heap} {x : Str} {c : Addr} {o : Obj} (e : cl.lookup x = some c) (g : h.get? c = some o) : (cellsAt cl h).lookup c = some o := by
  refine lookup_mem (fun b u m => (cellsAt_mem m).1) ?_
  refine List.mem_filterMap.mpr ⟨(x, c), PySem.mem_of_lookup e, ?_⟩
  simp only [e, g]
theorem law_callT {P : Program} {w : World} {K : PySem.W.Frag} {mg mb : Str → Option Value} {CX : CXT} {k : Nat} {fa a Pt c : Addr} {fd : FuncData} {x : Str} {sp : Sp} {s₁ : Shared} {vs : List Value} {ns : List Int}
    (KX : K.In s₁.heap) (hns : s₁.heap.Ns mainGlobals mg) (hb : s₁.heap.Ns builtinsNs mb) (hbb : ∀ x : Str, x ≠ "__name__" → mb x = bootBuiltins x) (hlim : s₁.heap.NoLimit) (hg : s₁.gens = #[])
    (hbm : ∃ bm ob, mg (Str.ofString "__builtins__") = some (.ref bm) ∧ bm ≠ builtinsNs ∧ s₁.heap.get? bm = some ob ∧ ob.cls = .type "module" ∧ ob.dict = some builtinsNs ∧ ob.data = .plain)
    (hP : s₁.heap.get? Pt = some (PySem.W.tabObj #[])) (hKP : K.lookup Pt = none) (hC : PySem.W.CodeHd s₁.heap c Pt)
    (ha : s₁.heap.get? a = some { cls := .type "list", data := .seq vs.toArray }) (hi : IntsAre vs ns) (hl : ns.length ≤ sizeLine) (hr : Room k callerA)
    (F : ∀ base : Heap, K.In base → base.Ns mainGlobals mg → base.BuiltinsAt mg Pt → FnOk P w K mg base CX k fa fd [x] sp) (hbind : ∀ (s : Shared) (u : Value), BindsTo s fd ⟨[u], []⟩ [(x, u)])
    (hsp : ∀ H : Hp, H Pt = some (.tbl #[]) → SqL K H a (ns.map V.int) → sp [.ref a] H (fun v _ => v = .bl true) fun _ _ _ => False)
    (hCX : ∀ H e s', CX [] H s₁ (fun _ _ _ => False) e s' → False) :
    codeAny (model P w) callerA (.call (.ref fa) ⟨[.ref a], []⟩) (fun r s' => r = .ok (.ret (.bool true)) ∧ OldK s₁.heap s'.heap ∧ s'.os = s₁.os ∧ AllBare s'.gens) s₁ := by
  have rv := vals_ints hi
  have lenV := hi.length
  have aP : a ≠ Pt := fun z => by
    rw [z, hP] at ha
    have := congrArg Obj.cls (Option.some.inj ha)
    cases this
  have core : ∀ H : Hp, H Pt = some (.tbl #[]) → (∀ b, b ≠ Pt → H b = none ∨ ∃ o xs, H b = some (.frz o (.lst xs))) → SqL K H a (ns.map V.int) → HOk P w H s₁.heap → (∀ b, H b ≠ none → b = a ∨ b = Pt) → (H a ≠ none → K.lookup a = none) →
      codeAny (model P w) callerA (.call (.ref fa) ⟨[.ref a], []⟩) (fun r s' => r = .ok (.ret (.bool true)) ∧ OldK s₁.heap s'.heap ∧ s'.os = s₁.os ∧ AllBare s'.gens) s₁ := by
    intro H hT hO hS hok hA hK
    have base_of : ∀ {b : Addr} {o : Obj}, s₁.heap.get? b = some o → H b = none → (hidT s₁.heap H).get? b = some o := fun e n => hidT_get e n
    have noB : ∀ {b : Addr} {o : Obj}, s₁.heap.get? b = some o → (∀ xs n, o.data ≠ .seq xs n) → (∀ fs, o.data ≠ .fields fs) → H b = none := fun {b o} e d1 d2 => by
      cases q : H b with
      | none => rfl
      | some u =>
        rcases hA b (by rw [q]; simp) with e' | e'
        · subst e'
          rw [ha] at e; cases e
          exact absurd rfl (d1 _ _)
        · subst e'
          rw [hP] at e; cases e
          exact absurd rfl (d2 _)
    have nsK : ∀ {b : Addr} {m : Str → Option Value}, s₁.heap.Ns b m → (hidT s₁.heap H).Ns b m := fun {b m} ⟨o, es, ep, e, d, r⟩ => ⟨o, es, ep, base_of e (noB e (fun _ _ z => by rw [d] at z; cases z) fun _ z => by rw [d] at z; cases z), d, r⟩
    have hKb : K.In (hidT s₁.heap H) := fun b o e => base_of (KX b o e) (by
      cases q : H b with
      | none => rfl
      | some u =>
        rcases hA b (by rw [q]; simp) with e' | e'
        · subst e'
          rw [hK (by rw [q]; simp)] at e; cases e
        · subst e'
          rw [hKP] at e; cases e)
    have hM : Mod K mg (hidT s₁.heap H) := ⟨hKb, nsK hns, ⟨mb, nsK hb, hbb⟩, let ⟨mc, h1, h2⟩ := hlim; ⟨mc, nsK h1, h2⟩⟩
    have hBm : (hidT s₁.heap H).BuiltinsAt mg Pt := by
      obtain ⟨bm, ob, b1, b2, b3, b4, b5, b6⟩ := hbm
      refine ⟨bm, ob, b1, b2, fun z => ?_, fun z => ?_, base_of b3 (noB b3 (fun _ _ z => by rw [b6] at z; cases z) fun _ z => by rw [b6] at z; cases z), b4, b5, b6⟩
      · obtain ⟨o, es, ep, e, d, _⟩ := hns
        rw [← z, b3] at e; cases e
        rw [b6] at d; cases d
      · rw [z, hP] at b3; cases b3; cases b4
    have e0 : Env0 P w K mg (hidT s₁.heap H) callerA [] s₁ H := ⟨rfl, hM, fun b o e => of_hidT e, Nat.le_of_eq (hidT_size _ _), trivial, fun b hb => absurd (show b ∈ ([] : List Addr) from hb) (by simp), hok, .of_eq hg⟩
    refine codeAny_mono ((F _ hKb (nsK hns) hBm).run callerA [] s₁ H ⟨[.ref a], []⟩ [.ref a] [.ref a] _ _ hr e0 (hbind s₁ (.ref a)) (.cons rfl .nil) (hsp H hT hS)) fun r s' h => ?_
    cases r with
    | error e => exact (hCX H e s' h).elim
    | ok fl =>
      cases fl with
      | next => exact False.elim h
      | brk => exact False.elim h
      | cont => exact False.elim h
      | ret u =>
        obtain ⟨v, H', os, bare, un, hok', r', q⟩ := h
        have q' : v = .bl true := q
        subst q'
        obtain rfl : u = Value.bool true := r'
        obtain ⟨mo, hT'⟩ := un.tbls Pt _ hT
        have eT : s'.heap.get? Pt = some { cls := .none, data := .fields (#[] ++ mo) } := hok' Pt _ hT'
        have keep : ∀ b o, b ≠ Pt → s₁.heap.get? b = some o → s'.heap.get? b = some o := fun b o nb e => by
          cases q : H b with
          | none => exact un.keep b o e q (by intro z; exact absurd (show b ∈ ([] : List Addr) from z) (by simp)) (by simp)
          | some u =>
            rcases hO b nb with z | ⟨ob, xs, z⟩
            · rw [q] at z; cases z
            · have z2 := un.frzs b ob _ z
              obtain ⟨e1, _⟩ := hok b _ z
              obtain ⟨e2, _⟩ := hok' b _ z2
              rw [e] at e1; cases e1
              exact e2
        refine ⟨rfl, ⟨fun b o e => ?_, fun b o e => ?_⟩, os, bare⟩
        · by_cases hb : b = Pt
          · subst hb
            rw [hP] at e; cases e
            refine .inr (.inl ⟨?_, rfl, #[], mo, rfl, eT⟩)
            obtain ⟨o, ws, _, _, _, _, _, _, _, c1, c2, c3, c4, _⟩ := hC
            exact ⟨c, o, ws, c1, c2, c3, c4⟩
          · exact .inl (keep b o hb e)
        · by_cases hb : b = Pt
          · subst hb; exact ⟨_, eT⟩
          · exact ⟨o, keep b o hb e⟩
  have okP : ∀ (H : Hp), ObjOk P w H s₁.heap Pt (.tbl #[]) := fun H => hP
  cases hk : K.lookup a with
  | some o =>
    have e := KX a o hk
    rw [ha] at e
    cases e
    refine core (upd (fun _ => none) Pt (.tbl #[])) upd_same (fun b nb => .inl (upd_ne nb)) (.inr ⟨_, vs.toArray, _, hk, rfl, rfl, rfl, by rw [List.size_toArray, lenV]; exact hl, by simpa using rv⟩) (fun b u z => ?_) (fun b z => ?_) fun z => absurd (upd_ne aP) z
    · by_cases hb : b = Pt
      · subst hb; rw [upd_same] at z; cases z; exact okP _
      · rw [upd_ne hb] at z; cases z
    · by_cases hb : b = Pt
      · exact .inr hb
      · exact absurd (upd_ne hb) z
  | none =>
    refine core (upd (upd (fun _ => none) a (.frz { cls := .type "list", data := .seq vs.toArray } (.lst (ns.map V.int)))) Pt (.tbl #[])) upd_same (fun b nb => ?_) (.inl (.inr ⟨{ cls := .type "list", data := .seq vs.toArray }, by rw [upd_ne aP, upd_same]⟩)) (fun b u z => ?_) (fun b z => ?_) fun _ => hk
    · rw [upd_ne nb]
      by_cases hb : b = a
      · subst hb; exact .inr ⟨_, _, upd_same⟩
      · exact .inl (upd_ne hb)
    · by_cases hb : b = Pt
      · subst hb; rw [upd_same] at z; cases z; exact okP _
      · rw [upd_ne hb] at z
        by_cases hb : b = a
        · subst hb
          rw [upd_same] at z
          cases z
          exact ⟨ha, by rw [List.length_map]; exact hl, vs, _, rv, ha⟩
        · rw [upd_ne hb] at z; cases z
    · by_cases hb : b = Pt
      · exact .inr hb
      · by_cases hc : b = a
        · exact .inl hc
        · exact absurd (by rw [upd_ne hb, upd_ne hc]) z
theorem Fun.okC {P : Program} {w : World} {K : PySem.W.Frag} {mg : Str → Option Value} {base : Heap} {x qual : Str} {st : Stmt} {f : Addr} {fd : FuncData} {N ps : List Str} {k : Nat} {sp : Sp} {cv : Value} (F : Fun K x qual st f fd) (hc : fd.code = cv) (S : FnScope N ps (defScope st)) (len : ∀ vs H Q E, sp vs H Q E → vs.length = ps.length)
    (hbody : ∀ (A : Around) (outer : List Env) (s : Shared) (H : Hp) (vs : List V) (Q : VK) (E : XK), Room k (A.deeper (envOfC qual (defScope st) s.heap.objs.size f cv)) → sp vs H Q E →
      ∃ t, PSs (cxOf CX0 P w K mg base N qual (defScope st) f cv A outer s H E).nox (defBody st) t ∧ t { nx := fun _ H' => Q .non H', rt := Q } (start N vs) H) : FnOk P w K mg base CX0 (k + 1) f fd ps sp := by
  obtain ⟨oc, od, kV, doc, pm, an, cdv, ct, osl, rfl, lk, hcd⟩ := F.ex
  have hc : cdv = cv := hc
  subst hc
  refine fn_of lk hcd S len fun A outer s H vs Q E hr hsp => ?_
  obtain ⟨t, h, q⟩ := hbody A outer s H vs Q E hr hsp
  exact ⟨t, h.nox, q⟩
theorem at_more {H : Hp} {l : List (Addr × Obj)} {b : Addr} {u : HO} (k : Unk H l) (e : H b = some u) : moreC H l b = some u := by rw [more_out (k.out e)]; exact e
theorem kn_more {H : Hp} {l : List (Addr × Obj)} : KnC (moreC H l) l := fun _ _ q => more_in q
noncomputable def cor (H : Hp) : Hp := fun b => match H b with
  | some (.lst xs) => some (.lst xs)
  | some (.tup xs) => some (.tup xs)
  | _ => none
theorem cor_lst {H : Hp} {b : Addr} {xs : List V} (e : H b = some (.lst xs)) : cor H b = some (.lst xs) := by unfold cor; rw [e]
theorem cor_tup {H : Hp} {b : Addr} {xs : List V} (e : H b = some (.tup xs)) : cor H b = some (.tup xs) := by unfold cor; rw [e]
theorem of_cor {H : Hp} {b : Addr} {u : HO} (e : cor H b = some u) : H b = some u ∧ ((∃ xs, u = .lst xs) ∨ ∃ xs, u = .tup xs) := by
  unfold cor at e
  split at e
  · rename_i xs q; cases e; exact ⟨q, .inl ⟨xs, rfl⟩⟩
  · rename_i xs q; cases e; exact ⟨q, .inr ⟨xs, rfl⟩⟩
  · cases e
mutual
theorem Rep.cor {H : Hp} : ∀ {v : V} {d : PyData}, Rep H v d → Rep (cor H) v d
  | _, _, .non => .non
  | _, _, .bl b => .bl b
  | _, _, .int i => .int i
  | _, _, .str x => .str x
  | _, _, .lst e rs => .lst (cor_lst e) rs.cor
  | _, _, .tup e rs => .tup (cor_tup e) rs.cor
theorem RepAll.cor {H : Hp} : ∀ {vs : List V} {ds : List PyData}, RepAll H vs ds → RepAll (cor H) vs ds
  | _, _, .nil => .nil
  | _, _, .cons q qs => .cons q.cor qs.cor
end
theorem cor_tbl {H H' : Hp} {Pt : Addr} {ps : Array Value} (t : H Pt = some (.tbl ps)) (s : ∀ b u, b ≠ Pt → H b = some u → H' b = some u) : Same (cor H) H' := fun b u e => by
  obtain ⟨e, w⟩ := of_cor e
  refine s b u (fun z => ?_) e
  rw [z, t] at e
  cases e
  rcases w with ⟨xs, z⟩ | ⟨xs, z⟩
  · cases z
  · cases z
theorem CTab.same {H H' : Hp} {Pt : Addr} {ps : Array Value} {pos : Pos} {qual : Str} (h : CTab H Pt ps pos qual) (s : Same H H') : CTab H' Pt ps pos qual :=
  ⟨h.tri, s _ _ h.at_, h.code.imp id fun ⟨c, oc, h1, h2, h3⟩ => ⟨c, oc, h1, s _ _ h2, h3⟩⟩
theorem CTab.made {H H' : Hp} {Pt c' : Addr} {ps ps' : Array Value} {pos : Pos} {qual : Str} {oc : Obj} (h1 : H' Pt = some (.tbl ps')) (h2 : TriplesOk ps'.toList) (h3 : codeAmong pos ps'.toList = some (.ref c')) (h4 : H' c' = some (knO oc)) (h5 : CodeN qual oc) : CTab H' Pt ps' pos qual :=
  ⟨h2, h1, .inr ⟨c', oc, h3, h4, h5⟩⟩
end L2
namespace L2
open PySem PySem.Spec PyProof.Rows
section
variable {X : Cx} {σ : St} {H : Hp}
noncomputable def KeyT (X : Cx) (σ : St) (H : Hp) (xs : List V) (kf : Nat → Int) (q : Addr) : Prop := ∀ (i : Nat) (x : V) (u : Value) (pl : List (Addr × Obj)) (s : Shared), xs[i]? = some x → RelV x u → Inv X pl σ H s →
  wpAny (model X.prog X.w) X.A.in1 (call (.ref q) [u]) (fun u' s' => ∃ t, u' = .int (kf i) t ∧ Inv X pl σ H s') (fun _ _ => False) s
theorem Inv.repin {pins : List (Addr × Obj)} {s : Shared} {S : Addr} {o : Obj} (I : Inv X pins σ H s) (f : FpOk X pins H S) (e : s.heap.get? S = some o) (d : ∀ v, o.data ≠ .cell v) : Inv X (pins ++ [(S, o)]) σ H s :=
  I.pins_of fun p hp => (List.mem_append.mp hp).elim (fun z => I.pin p (List.mem_append_right _ z)) fun z => by
    rw [List.mem_singleton.mp z]
    exact ⟨e, f.1, f.2.1, f.2.2.1, d⟩
theorem fp_more {pins : List (Addr × Obj)} {S b : Addr} {o : Obj} (f : FpOk X pins H b) (n : S ≠ b) : FpOk X (pins ++ [(S, o)]) H b := by
  obtain ⟨f0, f1, f2, f3, f4, f5⟩ := f
  refine ⟨f0, f1, f2, f3, f4, fun p hp => ?_⟩
  rcases List.mem_append.mp hp with hp | hp
  · exact f5 p (List.mem_append_left _ hp)
  · rcases List.mem_append.mp hp with hp | hp
    · exact f5 p (List.mem_append_right _ hp)
    · rw [List.mem_singleton.mp hp]; exact n
theorem max_loopT {pins : List (Addr × Obj)} {nm : Str} {tp : Pos} {J : It} {fp : List Addr} {it : Addr} {tn : Nat → Heap → Prop} (T : Turn X.prog X.w X.K (.Name nm tp) J fp it tn) (hc : X.calm = true) (xs : List V) (kf : Nat → Int) (q S : Addr) (key : KeyT X σ H xs kf q)
    (go : ∀ i, i < xs.length → J.go i H ∧ ∀ x H1, J.yld i H x H1 → H1 = H ∧ xs[i]? = some x) (stop : J.stop xs.length H) (hfp : ∀ b ∈ fp, FpOk X pins H b) (hS : FpOk X pins H S) (nS : ∀ b ∈ fp, S ≠ b) {R : Result → Shared → Prop}
    (hR : ∀ i x u s', xs[i]? = some x → RelV x u → (∀ j, j < xs.length → kf j ≤ kf i ∧ (j < i → kf j < kf i)) → Inv X pins σ H s' → R (.ok (.ret u)) s') :
    ∀ (r j i : Nat) (s : Shared) (xb : V) (vb : Value) (tb : Tok) (c : Nat), xs.length - (j + 1) = r → j + 1 ≤ xs.length → Inv X (pins ++ [(S, seqObj "list" #[vb, .int (kf i) tb] c)]) σ H s → tn (j + 1) s.heap → xs[i]? = some xb → RelV xb vb → i ≤ j → (∀ j', j' ≤ j → kf j' ≤ kf i ∧ (j' < i → kf j' < kf i)) →
      codeAny (model X.prog X.w) X.A (.builtin "max.loop" ⟨[.ref it, .ref q, .ref S], []⟩) R s := by
  have hname : (toString "max" ++ toString ".loop" : String) = "max.loop" := by decide
  intro r
  induction r with
  | zero =>
    intro j i s xb vb tb c hr hj I ht hxb rb hij hbest
    have hin : j + 1 = xs.length := by omega
    have gS : s.heap.get? S = some (seqObj "list" #[vb, .int (kf i) tb] c) := (I.pin _ (List.mem_append_right _ (List.mem_append_right _ (.head _)))).1
    refine codeAny_builtin PySem.F.entry_max_loop ?_
    rw [Around.under_plainId PySem.F.plain_max_loop _]
    show wpAny _ X.A.in1 (seqItems? (.ref S) >>= _) _ _ _
    refine wpAny_bind (wpAny_seqItems gS rfl ?_)
    show wpAny _ X.A.in1 (tryCatch (pyNext (.ref it)) _ >>= _) _ _ _
    refine wpAny_bind (wpAny_tryCatch (wpAny_mono (T.done { X with A := X.A.in1 } rfl rfl rfl hc (j + 1) _ s σ H _ (I.atA _ rfl rfl) (fun b hb => fp_more (hfp b hb) (nS b hb)) ht (by rw [hin]; exact stop)) (fun r s1 ⟨e, I1⟩ => ?_) fun _ _ z => z))
    subst e
    replace I1 := Inv.ofA I.ok I1
    have gS1 : s1.heap.get? S = some (seqObj "list" #[vb, .int (kf i) tb] c) := (I1.pin _ (List.mem_append_right _ (List.mem_append_right _ (.head _)))).1
    have sb := Heap.SameBut.update s1.heap S (Obj.mapSeq fun _ => (#[] : Array Value))
    show wpAny _ X.A.in1 (updateSeq S (fun _ => #[]) >>= _) _ _ _
    refine wpAny_bind ?_
    refine wpAny_updateSeq gS1 rfl (wpAny_bind (wpAny_letGo (wpAny_pure ?_)))
    obtain ⟨f0, f1, f2, f3, f4, f5⟩ := hS
    exact hR i xb vb _ hxb rb (fun j' hj' => hbest j' (by omega)) (I1.unpinned.turned (it := S) (fun b o nb e => (sb.2 b nb).trans e) f0 f1 f3 f4 f5)
  | succ r ih =>
    intro j i s xb vb tb c hr hj I ht hxb rb hij hbest
    have hlt : j + 1 < xs.length := by omega
    obtain ⟨hg, hy⟩ := go (j + 1) hlt
    have gS : s.heap.get? S = some (seqObj "list" #[vb, .int (kf i) tb] c) := (I.pin _ (List.mem_append_right _ (List.mem_append_right _ (.head _)))).1
    refine codeAny_builtin PySem.F.entry_max_loop ?_
    rw [Around.under_plainId PySem.F.plain_max_loop _]
    show wpAny _ X.A.in1 (seqItems? (.ref S) >>= _) _ _ _
    refine wpAny_bind (wpAny_seqItems gS rfl ?_)
    show wpAny _ X.A.in1 (tryCatch (pyNext (.ref it)) _ >>= _) _ _ _
    have hfp' : ∀ b ∈ fp, FpOk X (pins ++ [(S, seqObj "list" #[vb, .int (kf i) tb] c)]) H b := fun b hb => fp_more (hfp b hb) (nS b hb)
    refine wpAny_bind (wpAny_tryCatch (wpAny_mono (wpAny_flat (T.item { X with A := X.A.in1 } rfl rfl rfl hc (j + 1) _ s σ H _ (I.atA _ rfl rfl) hfp' ht hg)) (fun r s1 ⟨u, e, x, H1, I1, rx, yl, t1, fn⟩ => ?_) fun _ _ z => z))
    subst e
    replace I1 := Inv.ofA I.ok I1
    obtain ⟨e1, hx⟩ := hy x H1 yl
    subst e1
    have I1p := I1.pinned hfp' (T.obj _ _ t1)
    show wpAny _ X.A.in1 (tryCatch (holding [u] (call (.ref q) [u])) _ >>= _) _ _ _
    refine wpAny_bind (wpAny_tryCatch (wpAny_holding (wpAny_mono (key (j + 1) x u _ s1 hx rx I1p) (fun x' s2 he => ?_) fun _ _ hF => hF.elim)))
    obtain ⟨t2, rfl, I2p⟩ := he
    have I2 := I2p.unpinned
    have t2n : tn (j + 1 + 1) s2.heap := T.keep _ _ _ t1 fun b hb o eo => (I2p.pin (b, o) (List.mem_append_right _ (List.mem_append_right _ (mem_pinsAt hb eo)))).1
    have gS2 : s2.heap.get? S = some (seqObj "list" #[vb, .int (kf i) tb] c) := (I2.pin _ (List.mem_append_right _ (List.mem_append_right _ (.head _)))).1
    show wpAny _ X.A.in1 (tryCatch (holding [u, .int (kf (j + 1)) t2] (richCompare .Gt (.int (kf (j + 1)) t2) (.int (kf i) tb) >>= _)) _ >>= _) _ _ _
    refine wpAny_bind (wpAny_tryCatch (wpAny_holding (wpAny_bind (CmpOf.ints_gt (prog := X.prog) (w := X.w) (A := X.A.in1) (P := fun i v => ∃ t, v = .int (kf i) t) kf (fun i v h => h) (j + 1) i _ _ _ _ _ ⟨t2, rfl⟩ ⟨tb, rfl⟩ ?_))))
    refine wpAny_bind (wpAny_holding (wpAny_truthy_bool ?_))
    refine wpAny_bind (wpAny_letGo (wpAny_pure ?_))
    by_cases hb' : kf (j + 1) > kf i
    · have sb := Heap.SameBut.update s2.heap S (Obj.mapSeq fun _ => #[u, .int (kf (j + 1)) t2])
      obtain ⟨c2, hc2⟩ : ∃ c2, (s2.heap.update S (Obj.mapSeq fun _ => #[u, .int (kf (j + 1)) t2])).get? S = some (seqObj "list" #[u, .int (kf (j + 1)) t2] c2) := ⟨_, get?_update_seq gS2 fun _ => #[u, .int (kf (j + 1)) t2]⟩
      simp only [hb', decide_true, if_true]
      refine wpAny_bind ?_
      refine wpAny_updateSeq gS2 rfl (wpAny_bind (wpAny_letGo ?_))
      rw [hname]
      have hS' := hS
      obtain ⟨f0, f1, f2, f3, f4, f5⟩ := hS'
      have I3 := I2.unpinned.turned (it := S) (t' := s2.toks) (fun b o nb e => (sb.2 b nb).trans e) f0 f1 f3 f4 f5
      have t3 := T.keep _ _ _ t2n fun b hb o eo => (sb.2 b (Ne.symm (nS b hb))).trans eo
      refine wpAny_pure ⟨plainId_quiet PySem.F.plain_max_loop _, ih (j + 1) (j + 1) _ x u t2 c2 (by omega) hlt (I3.repin hS hc2 (by intro v z; cases z)) t3 hx rx (Nat.le_refl _) fun j' hj' => ?_⟩
      by_cases e : j' = j + 1
      · subst e
        exact ⟨Int.le_refl _, fun h => absurd h (Nat.lt_irrefl _)⟩
      · have hb1 := (hbest j' (by omega)).1
        exact ⟨by omega, fun _ => by omega⟩
    · simp only [hb', decide_false, Bool.false_eq_true, if_false]
      refine wpAny_bind (wpAny_letGo ?_)
      rw [hname]
      refine wpAny_pure ⟨plainId_quiet PySem.F.plain_max_loop _, ih (j + 1) i _ xb vb tb c (by omega) hlt I2 t2n hxb rb (by omega) fun j' hj' => ?_⟩
      by_cases e : j' = j + 1
      · subst e
        exact ⟨by omega, fun h => by omega⟩
      · exact hbest j' (by omega)
theorem max_run {pins : List (Addr × Obj)} {nm : Str} {tp : Pos} {J : It} {fp : List Addr} {it : Addr} {tn : Nat → Heap → Prop} (T : Turn X.prog X.w X.K (.Name nm tp) J fp it tn) (hc : X.calm = true) (xs : List V) (kf : Nat → Int) (q S : Addr) (key : KeyT X σ H xs kf q)
    (go : ∀ i, i < xs.length → J.go i H ∧ ∀ x H1, J.yld i H x H1 → H1 = H ∧ xs[i]? = some x) (stop : J.stop xs.length H) (hfp : ∀ b ∈ fp, FpOk X pins H b) (hS : FpOk X pins H S) (nS : ∀ b ∈ fp, S ≠ b) (hne : 0 < xs.length) {R : Result → Shared → Prop}
    (hR : ∀ i x u s', xs[i]? = some x → RelV x u → (∀ j, j < xs.length → kf j ≤ kf i ∧ (j < i → kf j < kf i)) → Inv X pins σ H s' → R (.ok (.ret u)) s')
    (s : Shared) (I : Inv X (pins ++ [(S, seqObj "list" #[] 0)]) σ H s) (ht : tn 0 s.heap) : codeAny (model X.prog X.w) X.A (.builtin "max.loop" ⟨[.ref it, .ref q, .ref S], []⟩) R s := by
  have hname : (toString "max" ++ toString ".loop" : String) = "max.loop" := by decide
  obtain ⟨hg, hy⟩ := go 0 hne
  have gS : s.heap.get? S = some (seqObj "list" #[] 0) := (I.pin _ (List.mem_append_right _ (List.mem_append_right _ (.head _)))).1
  refine codeAny_builtin PySem.F.entry_max_loop ?_
  rw [Around.under_plainId PySem.F.plain_max_loop _]
  show wpAny _ X.A.in1 (seqItems? (.ref S) >>= _) _ _ _
  refine wpAny_bind (wpAny_seqItems gS rfl ?_)
  show wpAny _ X.A.in1 (tryCatch (pyNext (.ref it)) _ >>= _) _ _ _
  have hfp' : ∀ b ∈ fp, FpOk X (pins ++ [(S, seqObj "list" #[] 0)]) H b := fun b hb => fp_more (hfp b hb) (nS b hb)
  refine wpAny_bind (wpAny_tryCatch (wpAny_mono (wpAny_flat (T.item { X with A := X.A.in1 } rfl rfl rfl hc 0 _ s σ H _ (I.atA _ rfl rfl) hfp' ht hg)) (fun r s1 ⟨u, e, x, H1, I1, rx, yl, t1, fn⟩ => ?_) fun _ _ z => z))
  subst e
  replace I1 := Inv.ofA I.ok I1
  obtain ⟨e1, hx⟩ := hy x H1 yl
  subst e1
  have I1p := I1.pinned hfp' (T.obj _ _ t1)
  show wpAny _ X.A.in1 (tryCatch (holding [u] (call (.ref q) [u])) _ >>= _) _ _ _
  refine wpAny_bind (wpAny_tryCatch (wpAny_holding (wpAny_mono (key 0 x u _ s1 hx rx I1p) (fun x' s2 he => ?_) fun _ _ hF => hF.elim)))
  obtain ⟨t2, rfl, I2p⟩ := he
  have I2 := I2p.unpinned
  have t2n : tn (0 + 1) s2.heap := T.keep _ _ _ t1 fun b hb o eo => (I2p.pin (b, o) (List.mem_append_right _ (List.mem_append_right _ (mem_pinsAt hb eo)))).1
  have gS2 : s2.heap.get? S = some (seqObj "list" #[] 0) := (I2.pin _ (List.mem_append_right _ (List.mem_append_right _ (.head _)))).1
  have sb := Heap.SameBut.update s2.heap S (Obj.mapSeq fun _ => #[u, .int (kf 0) t2])
  obtain ⟨c2, hc2⟩ : ∃ c2, (s2.heap.update S (Obj.mapSeq fun _ => #[u, .int (kf 0) t2])).get? S = some (seqObj "list" #[u, .int (kf 0) t2] c2) := ⟨_, get?_update_seq gS2 fun _ => #[u, .int (kf 0) t2]⟩
  show wpAny _ X.A.in1 (updateSeq S (fun _ => #[u, .int (kf 0) t2]) >>= _) _ _ _
  refine wpAny_bind ?_
  refine wpAny_updateSeq gS2 rfl ?_
  rw [hname]
  have hS' := hS
  obtain ⟨f0, f1, f2, f3, f4, f5⟩ := hS'
  have I3 := I2.unpinned.turned (it := S) (t' := s2.toks) (fun b o nb e => (sb.2 b nb).trans e) f0 f1 f3 f4 f5
  have t3 := T.keep _ _ _ t2n fun b hb o eo => (sb.2 b (Ne.symm (nS b hb))).trans eo
  refine wpAny_pure ⟨plainId_quiet PySem.F.plain_max_loop _, max_loopT T hc xs kf q S key go stop hfp hS nS hR _ 0 0 _ x u t2 c2 rfl hne (I3.repin hS hc2 (by intro v z; cases z)) t3 hx rx (Nat.le_refl _) fun j' hj' => ?_⟩
  have e : j' = 0 := by omega
  subst e
  exact ⟨Int.le_refl _, fun h => absurd h (Nat.lt_irrefl _)⟩
theorem call_maxK {pins : List (Addr × Obj)} {s : Shared} {a : Addr} {xs : List V} {kf : Nat → Int} {q : Addr} {Q : Value → Shared → Prop} {E : Value → Shared → Prop} (hc : X.calm = true) (I : Inv X pins σ H s) (hq : SqL X.K H a xs ∨ SqT X.K H a xs) (hne : 0 < xs.length) (key : KeyT X σ H xs kf q)
    (hQ : ∀ i x u s', xs[i]? = some x → RelV x u → (∀ j, j < xs.length → kf j ≤ kf i ∧ (j < i → kf j < kf i)) → Inv X pins σ H s' → Q u s') :
    wpAny (model X.prog X.w) X.A (call (.builtin "max") [.ref a] [(Str.ofString "key", .ref q)]) Q E s := by
  have hname : (toString "max" ++ toString ".loop" : String) = "max.loop" := by decide
  refine kmk_tree PySem.F.kind_max PySem.F.plain_max PySem.F.entry_max (kmk_max_key _ _) ?_
  show wpAny _ X.A.in1 (Builtin.Builtins.bindParams "max" ["key", "default"] 0 ⟨[], [(Str.ofString "key", .ref q)]⟩ >>= _) _ _ s
  refine wpAny_bind (wpAny_of_eq (show Builtin.Builtins.bindParams "max" ["key", "default"] 0 ⟨[], [(Str.ofString "key", .ref q)]⟩ = pure [some (.ref q), none] from rfl) ?_)
  refine wpAny_bind (wpAny_pure ?_)
  rcases hq with hq | hq
  · obtain ⟨its, rv, pl, hz⟩ := I.list hq
    refine wpAny_bind (wpAny_pyIter_list pl.isList ?_)
    refine wpAny_bind (wpAny_newList ?_ (Nat.zero_le _))
    rw [hname]
    refine wpAny_pure ⟨plainId_quiet PySem.F.plain_max_loop _, ?_⟩
    have hS : (s.heap.push { cls := .type "list_iterator", data := .fields #[.ref a, .int 0 0] }).objs.size = s.heap.objs.size + 1 := size_push' ..
    have J1 : Inv X pins σ H { s with heap := (s.heap.push { cls := .type "list_iterator", data := .fields #[.ref a, .int 0 0] }).push (seqObj "list" #[] 0) } := I.kept (t' := s.toks) fun b o e => Heap.get?_push_of_some _ (Heap.get?_push_of_some _ e)
    have fI : FpOk X pins H s.heap.objs.size := I.fpOk (Nat.le_refl _) (I.hok.fresh (Nat.le_refl _))
    have fS : FpOk X pins H (s.heap.push { cls := .type "list_iterator", data := .fields #[.ref a, .int 0 0] }).objs.size := I.fpOk (by rw [hS]; exact Nat.le_succ _) (I.hok.fresh (by rw [hS]; exact Nat.le_succ _))
    refine max_run (nm := "x") (tp := default) (turn_list a s.heap.objs.size) hc xs kf q (s.heap.push { cls := .type "list_iterator", data := .fields #[.ref a, .int 0 0] }).objs.size key (fun i hi => ⟨⟨xs, xs[i], hq, List.getElem?_eq_getElem hi⟩, fun x H1 y => ⟨y.1, y.2 xs hq⟩⟩) ⟨xs, hq, Nat.le_refl _⟩
      (fun b hb => by rw [List.mem_singleton.mp hb]; exact fI) fS (fun b hb => by rw [List.mem_singleton.mp hb, hS]; exact Nat.succ_ne_self _) hne (fun i x u s' h1 h2 h3 h4 => hQ i x u s' h1 h2 h3 h4) _ (J1.repin fS (Heap.get?_push_size _ rfl) (by intro v z; cases z)) ⟨_, Heap.get?_push_of_some _ (Heap.get?_push_size _ rfl), rfl, rfl⟩
  · obtain ⟨its, rv, pl, hz⟩ := I.tuple hq
    refine wpAny_bind (wpAny_pyIter_tuple (show s.heap.IsTuple a its.toArray from pl) ?_)
    refine wpAny_bind (wpAny_newList ?_ (Nat.zero_le _))
    rw [hname]
    refine wpAny_pure ⟨plainId_quiet PySem.F.plain_max_loop _, ?_⟩
    have hS : (s.heap.push { cls := .type "tuple_iterator", data := .fields #[.ref a, .int 0 0] }).objs.size = s.heap.objs.size + 1 := size_push' ..
    have J1 : Inv X pins σ H { s with heap := (s.heap.push { cls := .type "tuple_iterator", data := .fields #[.ref a, .int 0 0] }).push (seqObj "list" #[] 0) } := I.kept (t' := s.toks) fun b o e => Heap.get?_push_of_some _ (Heap.get?_push_of_some _ e)
    have fI : FpOk X pins H s.heap.objs.size := I.fpOk (Nat.le_refl _) (I.hok.fresh (Nat.le_refl _))
    have fS : FpOk X pins H (s.heap.push { cls := .type "tuple_iterator", data := .fields #[.ref a, .int 0 0] }).objs.size := I.fpOk (by rw [hS]; exact Nat.le_succ _) (I.hok.fresh (by rw [hS]; exact Nat.le_succ _))
    refine max_run (nm := "x") (tp := default) (turn_tuple a s.heap.objs.size) hc xs kf q (s.heap.push { cls := .type "tuple_iterator", data := .fields #[.ref a, .int 0 0] }).objs.size key (fun i hi => ⟨⟨xs, xs[i], hq, List.getElem?_eq_getElem hi⟩, fun x H1 y => ⟨y.1, y.2 xs hq⟩⟩) ⟨xs, hq, Nat.le_refl _⟩
      (fun b hb => by rw [List.mem_singleton.mp hb]; exact fI) fS (fun b hb => by rw [List.mem_singleton.mp hb, hS]; exact Nat.succ_ne_self _) hne (fun i x u s' h1 h2 h3 h4 => hQ i x u s' h1 h2 h3 h4) _ (J1.repin fS (Heap.get?_push_size _ rfl) (by intro v z; cases z)) ⟨_, Heap.get?_push_of_some _ (Heap.get?_push_size _ rfl), rfl, rfl⟩
end
end L2
namespace L2
open PySem PySem.Spec PyProof.Rows
noncomputable abbrev Sp1 := V → Hp → VK → XK → Prop
structure LamOk1 (P : Program) (w : World) (K : PySem.W.Frag) (mg : Str → Option Value) (base : Heap) (CX : CXT) (k : Nat) (g : Addr) (sp : Sp1) : Prop where
  run : ∀ (A : Around) (outer : List Env) (s : Shared) (H : Hp) (v : V) (u : Value) (Q : VK) (E : XK), Room k A → Env0 P w K mg base A outer s H → RelV v u → sp v H Q E →
    codeAny (model P w) A (.call (.ref g) ⟨[u], []⟩) (CR CX outer P w H s Q E) s
theorem inv_lam1 {CX : CXT} {P : Program} {w : World} {K : PySem.W.Frag} {mg : Str → Option Value} {base : Heap} {N : List Str} {qual : Str} {scope : Scope} {g : Addr} {cd : Value} {cl : List (Str × Addr)} {A : Around} {outer : List Env} {s s1 : Shared} {H : Hp} {E' : Value → Shared → Prop} {l : List (Addr × Obj)} {vs : List V} {m : Str → Option Value} {x : Str} {v : V} {u : Value}
    (S : LamScope scope) (C : Clos scope N cl l vs) (k : KnC H l) (hd : A.handled = none) (e0 : Env0 P w K mg base A outer s H)
    (hn : s1.heap.Ns s.heap.objs.size m) (hk : ∀ b o, s.heap.get? b = some o → s1.heap.get? b = some o) (ho : s1.os = s.os) (hg : s1.gens = s.gens) (hx : scope.names.lookup x = some .local) (hm : m x = some u) (r : RelV v u) :
    Inv (cxLam CX P w K mg base (x :: N) qual scope g cd cl A outer s (lessC H l) E') [] (some v :: vs.map some) (lessC H l) s1 := by
  have noA : ∀ b : Addr, b ∉ (cxLam CX P w K mg base (x :: N) qual scope g cd cl A outer s (lessC H l) E').ex := fun b z => absurd (show b ∈ ([] : List Addr) from z) (by simp)
  have less0 : ∀ b, H b = none → lessC H l b = none := fun b z => by rw [less_out (k.outN z)]; exact z
  have cell1 : ∀ c o, l.lookup c = some o → s1.heap.get? c = some o := fun c o z => hk c o (kn_at e0.hok (k c o z))
  refine ⟨⟨e0.mod, S.kind, rfl, rfl, Nat.le_refl _, C.inj, fun y hy => ?_, fun y c h => (by cases h), fun _ => hd, Around.frames_deeper e0.frames, .inr ⟨rfl, rfl⟩, fun b z => absurd z (noA b), fun b o e => ⟨(e0.bs b o e).1, less0 b (e0.bs b o e).2⟩, e0.bsz, fun b _ _ => noA b, fun b z => absurd z (noA b), e0.funs, fun b hb => less0 b (e0.frf b hb)⟩,
    ho, by rw [hg]; exact e0.bare, Un.kept hk, ⟨m, hn, fun i y v' h1 h2 h3 => ?_⟩, fun y c h => ?_, ?_, fun y c h => ?_, fun p hp => absurd (show p ∈ ([] : List (Addr × Obj)) from hp) (by simp), (e0.hok.lessC k).kept hk, ?_⟩
  · have hy : scope.names.lookup y = some .cell ∨ scope.names.lookup y = some .free := hy
    rcases hy with hy | hy
    · exact absurd rfl (S.nocell _ (PySem.mem_of_lookup hy))
    · exact C.has y hy
  · cases i with
    | zero =>
      have e1 : x = y := Option.some.inj h1
      have e2 : v = v' := Option.some.inj (Option.some.inj h2)
      subst e1 e2
      exact ⟨u, r, .inl ⟨hx, hm⟩⟩
    | succ i =>
      have h1 : N[i]? = some y := h1
      have h2 : (vs.map some)[i]? = some (some v') := h2
      have h2' : vs[i]? = some v' := by
        rw [List.getElem?_map] at h2
        cases e : vs[i]? with
        | none => rw [e] at h2; cases h2
        | some a => rw [e] at h2; cases h2; rfl
      obtain ⟨kf, c, o, u, hc, hl, hdt, r⟩ := C.val i y v' h1 h2'
      exact ⟨u, r, .inr ⟨.inr kf, c, hc, o, cell1 c o hl, hdt⟩⟩
  · obtain ⟨o, v, hl, hdt⟩ := C.cel y c h
    exact ⟨v, o, cell1 c o hl, hdt⟩
  · exact less0 _ (e0.hok.fresh (Nat.le_refl _))
  · obtain ⟨o, v, hl, _⟩ := C.cel y c h
    exact less_in hl
  · show (vs.map some).length + 1 = N.length + 1
    rw [List.length_map, C.len]
theorem lam_of1 {CX : CXT} {P : Program} {w : World} {K : PySem.W.Frag} {mg : Str → Option Value} {base : Heap} {k : Nat} {g c' : Addr} {name qual x : Str} {params : Arguments} {body : Expr} {scope : Scope} {cl : List (Str × Addr)} {pm ctv : Value} {oc : Obj} {N : List Str} {l : List (Addr × Obj)} {vs : List V} {sp : Sp1}
    (S : LamScope scope) (C : Clos scope N cl l vs) (hoc : ∃ ws t, oc.data = .fields ws ∧ ws[1]? = some (.str qual t)) (hx : scope.names.lookup x = some .local)
    (hb : ∀ u, bindArgs (PySem.W.kla_fn name qual params body scope cl pm (.ref c') ctv) ⟨[u], []⟩ = pure [(x, u)])
    (hH : ∀ v H Q E, sp v H Q E → H g = some (knO (PySem.W.kla_obj name qual params body scope cl pm c' ctv)) ∧ H c' = some (knO oc) ∧ KnC H l)
    (hx' : ∀ (A : Around) (outer : List Env) (s : Shared) (H : Hp) (E : XK) (e : Value) (s' : Shared), CX outer (lessC H l) s E e s' → CX outer H s E e s')
    (hbody : ∀ (A : Around) (outer : List Env) (s : Shared) (v : V) (H : Hp) (Q : VK) (E : XK), Room k (A.deeper (PySem.W.envX qual scope s.heap.objs.size g (.ref c') cl)) → sp v H Q E →
      ∃ t, PE (cxLam CX P w K mg base (x :: N) qual scope g (.ref c') cl A outer s (lessC H l) (fun e s' => wpAny (model P w) (A.deeper (PySem.W.envX qual scope s.heap.objs.size g (.ref c') cl)) (leaving (PySem.W.envX qual scope s.heap.objs.size g (.ref c') cl) e) (fun _ s'' => CX outer (lessC H l) s E e s'') (fun e' s'' => CX outer (lessC H l) s E e' s'') s')) body t ∧
        t (some v :: vs.map some) (lessC H l) fun v H' => Unk H' l → Q v (moreC H' l)) :
    LamOk1 P w K mg base CX (k + 1) g sp := by
  refine ⟨fun A outer s H v u Q E hr e0 ru hsp => ?_⟩
  obtain ⟨hg, hc, hl⟩ := hH v H Q E hsp
  have lim : s.heap.NoLimit := e0.mod.nolimit.keeps fun b o e => (e0.bs b o e).1
  obtain ⟨ws, t0, w1, w2⟩ := hoc
  refine PySem.W.kla_callFunE hr.depth (kn_at e0.hok hg) rfl S.co S.gen rfl ⟨c', oc, ws, t0, rfl, kn_at e0.hok hc, w1, w2⟩ ?_
  rw [hb u]
  refine wpAny_pure (wpAny_newFunctionEnv S.nocell (fun y z => by rw [List.mem_singleton.mp z]; exact hx) (fun h' ns sb => ?_) S.kind)
  have hk : ∀ b o, s.heap.get? b = some o → h'.get? b = some o := fun b o e => by
    rw [sb.2 b (Nat.ne_of_lt (Heap.lt_size e))]; exact Heap.get?_push_of_some _ e
  refine ⟨lim.keeps hk, PySem.W.kla_codeExpr ?_⟩
  obtain ⟨t, ht, hq⟩ := hbody A outer s v H Q E (hr.deeper _) hsp
  have hm : (fun y => ([(x, u)] : List (Str × Value)).reverse.lookup y) x = some u := by simp
  have I := inv_lam1 (CX := CX) (N := N) (qual := qual) (g := g) (cd := .ref c') (s1 := { s with heap := h', toks := s.toks + [(x, u)].length }) (E' := fun e s' => wpAny (model P w) (A.deeper (PySem.W.envX qual scope s.heap.objs.size g (.ref c') cl)) (leaving (PySem.W.envX qual scope s.heap.objs.size g (.ref c') cl) e) (fun _ s'' => CX outer (lessC H l) s E e s'') (fun e' s'' => CX outer (lessC H l) s E e' s'') s') S C hl hr.hd e0 ns hk rfl rfl hx hm ru
  refine wpAny_mono (ht [] _ _ _ _ I hq) (fun u s' hs => ?_) fun e s' hs => ?_
  · obtain ⟨v, H', J, rv, q⟩ := hs
    have un := J.base
    have unk : Unk H' l := fun b o z => un.free b o (kn_at e0.hok (hl b o z)) (less_in z) (fun q => absurd (show b ∈ ([] : List Addr) from q) (by simp))
    refine ⟨v, moreC H' l, J.os, J.bare, Un.lam un hl, ?_, rv, q unk⟩
    refine J.hok.moreC unk fun b o z => ?_
    refine un.keep b o (kn_at e0.hok (hl b o z)) (less_in z) (fun hb => ?_) (fun q => absurd (show b ∈ ([] : List Addr) from q) (by simp))
    have := e0.frf b hb
    rw [hl b o z] at this; cases this
  · refine wpAny_mono hs (fun _ s'' z => hx' A outer s H E e s'' z) fun e' s'' z => hx' A outer s H E e' s'' z
theorem keyT_of {X : Cx} {σ : St} {H : Hp} {k : Nat} {g : Addr} {xs : List V} {kf : Nat → Int} {sc : Scope} {N : List Str} {is : List Nat} {ws : List V} {sp : List (Addr × Obj) → Sp1} (hr : Room (k + 1) X.A)
    (hf : ∀ y ∈ sc.names, y.2 = NameKind.free → ∃ c, X.env.cells.lookup y.1 = some c) (hfn : ∀ y, X.fn y = true)
    (hN : ∀ (j : Nat) (y : Str), N[j]? = some y → sc.names.lookup y = some .free ∧ X.env.kindOf y = some .cell ∧ ∃ i, is[j]? = some i ∧ X.N[i]? = some y)
    (wl : ws.length = N.length) (wσ : ∀ (j i : Nat) (v : V), is[j]? = some i → ws[j]? = some v → σ[i]? = some (some v))
    (F : ∀ l, Clos sc N (clOf sc X.env) l ws → LamOk1 X.prog X.w X.K X.mg X.base CX0 k g (sp l))
    (hsp : ∀ l, Clos sc N (clOf sc X.env) l ws → Unk H l → ∀ i x, xs[i]? = some x → sp l x (moreC H l) (fun v H' => v = .int (kf i) ∧ H' = moreC H l) E0) : KeyT X σ H xs kf g := by
  intro i x u pl s hx rx I
  obtain ⟨_, cl1, cl2⟩ := clOf_ok hf
  have ge : ∀ b o, (cellsAt (clOf sc X.env) s.heap).lookup b = some o → s.heap.get? b = some o := fun b o z => (cellsAt_get z).1
  have cel : ∀ b o, (cellsAt (clOf sc X.env) s.heap).lookup b = some o → ∃ y, X.env.cells.lookup y = some b := fun b o z => let ⟨_, y, z2⟩ := cellsAt_get z; ⟨y, cl1 y b z2⟩
  have unk : Unk H (cellsAt (clOf sc X.env) s.heap) := fun b o z => let ⟨y, z2⟩ := cel b o z; I.freeC y b z2
  have big : ∀ b o, (cellsAt (clOf sc X.env) s.heap).lookup b = some o → X.s₀.heap.objs.size ≤ b := fun b o z => let ⟨y, z2⟩ := cel b o z; I.ok.cab y b (hfn y) z2
  have C : Clos sc N (clOf sc X.env) (cellsAt (clOf sc X.env) s.heap) ws := by
    refine ⟨wl, fun x y c h1 h2 => I.ok.inj x y c (cl1 x c h1) (cl1 y c h2), fun y hy => cl2 _ (PySem.mem_of_lookup hy) rfl, fun y c hc => ?_, fun j y v h1 h2 => ?_⟩
    · obtain ⟨v, o, ho, hd⟩ := I.cell y c (cl1 y c hc)
      exact ⟨o, v, cellsAt_in hc ho, hd⟩
    · obtain ⟨kf, kc, i, hi, hXi⟩ := hN j y h1
      obtain ⟨m, _, hl⟩ := I.loc
      obtain ⟨u, ru, l⟩ := hl i y v hXi (wσ j i v hi h2) (.inr (.inl kc))
      obtain ⟨c2, hc2⟩ := cl2 _ (PySem.mem_of_lookup kf) rfl
      rcases l with ⟨l1, _⟩ | ⟨_, c, hc, o, ho, hd⟩
      · rw [kc] at l1; cases l1
      · have z := cl1 _ _ hc2
        have z' : c = c2 := Option.some.inj (hc.symm.trans z)
        rw [z'] at ho
        exact ⟨kf, c2, o, u, hc2, cellsAt_in hc2 ho, hd, ru⟩
  have out : ∀ b, (∀ o, (cellsAt (clOf sc X.env) s.heap).lookup b ≠ some o) → H b = none → moreC H (cellsAt (clOf sc X.env) s.heap) b = none := fun b nb hb => by
    cases z : (cellsAt (clOf sc X.env) s.heap).lookup b with
    | some o => exact absurd z (nb o)
    | none => rw [more_out z]; exact hb
  have e0 := I.env0
  have e1 : Env0 X.prog X.w X.K X.mg X.base X.A X.stack s (moreC H (cellsAt (clOf sc X.env) s.heap)) := by
    refine ⟨e0.frames, e0.mod, fun b o eb => ⟨(e0.bs b o eb).1, out b (fun u z => ?_) (e0.bs b o eb).2⟩, e0.bsz, e0.funs, fun b hb => out b (fun u z => ?_) (e0.frf b hb), e0.hok.moreC unk ge, e0.bare⟩
    · exact absurd (Nat.lt_of_lt_of_le (Nat.lt_of_lt_of_le (Heap.lt_size eb) I.ok.bsz) (big b u z)) (Nat.lt_irrefl _)
    · rcases List.mem_cons.mp (I.stkSub b hb) with zz | zz
      · obtain ⟨y, z2⟩ := cel b u z
        exact I.cne y b z2 zz
      · obtain ⟨_, o, ho, _⟩ := I.ok.funs.mem zz
        exact absurd (Nat.lt_of_lt_of_le (Heap.lt_size ho) (big b u z)) (Nat.lt_irrefl _)
  refine wpAny_call (codeAny_mono ((F _ C).run X.A.in1 X.stack s _ x u _ E0 hr.in1 e1.in1 rx (hsp _ C unk i x hx)) fun r s' hq => ?_)
  cases r with
  | error e => exact hq
  | ok fl =>
    cases fl with
    | ret u' =>
      obtain ⟨v, H2, os, bare, un, hok, rv, rfl, rfl⟩ := hq
      have kn2 : KnC (moreC H (cellsAt (clOf sc X.env) s.heap)) (cellsAt (clOf sc X.env) s.heap) := fun b o z => more_in z
      obtain ⟨v2, H3, J, r2, e2, e3⟩ := I.after (Q := fun v H' => v = .int (kf i) ∧ H' = H) ⟨.int (kf i), _, os, bare, Un.call un unk ge hok, hok.lessC kn2, rv, rfl, less_more unk⟩
      subst e2 e3
      obtain ⟨t, rfl⟩ := r2
      exact ⟨t, rfl, J⟩
    | next => exact False.elim hq
    | brk => exact False.elim hq
    | cont => exact False.elim hq
theorem callWith_builtinK {M : Model} {A : Around} {E : Value → Shared → Prop} {s : Shared} {pos : Pos} {id : String} {first : List Value} {args : List (Bool × Sem Value)} {kws : List (Option Str × Sem Value)} {Q : Value → Shared → Prop} (hplain : (args.any (·.1) || kws.any (·.1.isNone)) = false)
    (h : wpAny M A (evalArgs (.builtin id) true args kws) (fun a s₁ => wpAny M A (call (.builtin id) (first ++ a.pos) a.kw) Q E s₁) E s) : wpAny M A (callWith pos (.builtin id) first args kws) Q E s := by
  unfold callWith
  refine wpAny_bind (wpAny_holding (wpAny_mono h (fun a s₁ h₁ => wpAny_bind (wpAny_standAt ?_)) fun _ _ x => x))
  simp only [hplain]
  refine wpAny_bind (wpAny_pure ?_)
  exact wpAny_bind (wpAny_mono h₁ (fun r s₂ hr => wpAny_bind (wpAny_holding (wpAny_point (wpAny_pure hr)))) fun _ _ x => x)
noncomputable def rMaxK (X : Cx) (k : Nat) (sc : Scope) (N : List Str) (is : List Nat) (σ : St) (Q : VK) (x f : V) (H2 : Hp) : Prop := ∃ (a g : Addr) (xs : List V) (kf : Nat → Int) (ws : List V) (sp : List (Addr × Obj) → Sp1), x = .ref a ∧ f = .ref g ∧ (SqL X.K H2 a xs ∨ SqT X.K H2 a xs) ∧ 0 < xs.length ∧ ws.length = N.length ∧ (∀ (j i : Nat) (v : V), is[j]? = some i → ws[j]? = some v → σ[i]? = some (some v)) ∧
  (∀ l, Clos sc N (clOf sc X.env) l ws → LamOk1 X.prog X.w X.K X.mg X.base CX0 k g (sp l)) ∧ (∀ l, Clos sc N (clOf sc X.env) l ws → Unk H2 l → ∀ i x, xs[i]? = some x → sp l x (moreC H2 l) (fun v H' => v = .int (kf i) ∧ H' = moreC H2 l) E0) ∧
  ∀ i x, xs[i]? = some x → (∀ j, j < xs.length → kf j ≤ kf i ∧ (j < i → kf j < kf i)) → Q x H2
noncomputable def tMaxK (X : Cx) (k : Nat) (sc : Scope) (N : List Str) (is : List Nat) (te tl : TE) : TE := fun σ H Q => te σ H fun x H1 => tl σ H1 fun f H2 => rMaxK X k sc N is σ Q x f H2
theorem pe_maxK {X : Cx} {k : Nat} {sc : Scope} {N : List Str} {is : List Nat} {e f : Expr} {te tl : TE} {p pos kpos : Pos} (hc : X.calm = true) (hr : Room (k + 1) X.A) (B : Blt X.mg)
    (hf : ∀ y ∈ sc.names, y.2 = NameKind.free → ∃ c, X.env.cells.lookup y.1 = some c) (hfn : ∀ y, X.fn y = true)
    (hN : ∀ (j : Nat) (y : Str), N[j]? = some y → sc.names.lookup y = some .free ∧ X.env.kindOf y = some .cell ∧ ∃ i, is[j]? = some i ∧ X.N[i]? = some y)
    (ha : PE X e te) (hl : PE X f tl) (hg : Gl X "max" := by rfl) (hall : (backToKw pos (keywordEach [⟨some "key", f, kpos⟩] X.env)).all (·.1.isSome) = true := by rfl)
    (hks : (backToKw pos (keywordEach [⟨some "key", f, kpos⟩] X.env)).filterMap (·.1) = [Str.ofString "key"] := by rfl) (he : starEach [e] X.env = (false, eval e X.env) :: starEach [] X.env := by rfl)
    (hpl : ((backTo pos (starEach [e] X.env)).any (·.1) || (backToKw pos (keywordEach [⟨some "key", f, kpos⟩] X.env)).any (·.1.isNone)) = false := by rfl) :
    PE X (.Call (.Name "max" p) [e] [⟨some "key", f, kpos⟩] pos) (tMaxK X k sc N is te tl) := by
  intro pins s σ H Q I h
  refine wpAny_Call_Name_kw (ld_blt I hg B.max (show bootBuiltins "max" = some (.builtin "max") by decide +kernel) ?_ (by decide) (by decide))
  have A1 : PA X [e] (tCons te tNil) := pa_cons ha pa_nil he
  have K1 : PK X [⟨some "key", f, kpos⟩] (tCons tl tNil) := pk_cons hl pk_nil
  refine callWith_builtinK hpl (evalArgs_kw2 hall (thn (A1 pos pins s σ H (fun vs H1 => match vs with | [x] => tl σ H1 (fun f H2 => rMaxK X k sc N is σ Q x f H2) | _ => False) I h) fun us s1 ⟨vs, H1, I1, r1, q1⟩ => ?_) he)
  rcases vs with _ | ⟨x, _ | ⟨y, r⟩⟩
  · exact q1.elim
  · refine thn (K1 pos pins s1 σ H1 (fun zs H2 => match zs with | [f] => rMaxK X k sc N is σ Q x f H2 | _ => False) I1 q1) fun ks s2 ⟨zs, H2, I2, rz, q2⟩ => ?_
    rcases zs with _ | ⟨f', _ | ⟨y, r⟩⟩
    · exact q2.elim
    · obtain ⟨a, g, xs, kf, ws, sp, rfl, rfl, hq, hne, wl, wσ, F, hsp, q⟩ := q2
      obtain ⟨u1, rfl, ru⟩ := vals1 r1
      obtain ⟨u2, rfl, ru2⟩ := vals1 rz
      cases ru
      cases ru2
      rw [hks]
      exact call_maxK hc I2 hq hne (keyT_of hr hf hfn hN wl wσ F hsp) fun i x u s' h1 h2 h3 J => ⟨x, H2, J, h2, q i x h1 h3⟩
    · exact q2.elim
  · exact q1.elim
end L2
namespace L2
open PySem PySem.Spec PyProof.Rows
section
variable {X : Cx} {σ : St} {H : Hp}
theorem maxd_loop {pins : List (Addr × Obj)} {nm : Str} {tp : Pos} {J : It} {fp : List Addr} {it : Addr} {tn : Nat → Heap → Prop} (T : Turn X.prog X.w X.K (.Name nm tp) J fp it tn) (hc : X.calm = true) (xs : List V) (kf : Nat → Int) (S : Addr) (dv : Value) (key : ∀ (i : Nat) (x : V), xs[i]? = some x → x = .int (kf i))
    (go : ∀ i, i < xs.length → J.go i H ∧ ∀ x H1, J.yld i H x H1 → H1 = H ∧ xs[i]? = some x) (stop : J.stop xs.length H) (hfp : ∀ b ∈ fp, FpOk X pins H b) (hS : FpOk X pins H S) (nS : ∀ b ∈ fp, S ≠ b) {R : Result → Shared → Prop}
    (hR : ∀ i x u s', xs[i]? = some x → RelV x u → (∀ j, j < xs.length → kf j ≤ kf i ∧ (j < i → kf j < kf i)) → Inv X pins σ H s' → R (.ok (.ret u)) s') :
    ∀ (r j i : Nat) (s : Shared) (xb : V) (vb : Value) (tb : Tok) (c : Nat), xs.length - (j + 1) = r → j + 1 ≤ xs.length → Inv X (pins ++ [(S, seqObj "list" #[vb, .int (kf i) tb] c)]) σ H s → tn (j + 1) s.heap → xs[i]? = some xb → RelV xb vb → i ≤ j → (∀ j', j' ≤ j → kf j' ≤ kf i ∧ (j' < i → kf j' < kf i)) →
      codeAny (model X.prog X.w) X.A (.builtin "max.loop" ⟨[.ref it, .none, .ref S], [(Str.ofString "default", dv)]⟩) R s := by
  have hname : (toString "max" ++ toString ".loop" : String) = "max.loop" := by decide
  intro r
  induction r with
  | zero =>
    intro j i s xb vb tb c hr hj I ht hxb rb hij hbest
    have hin : j + 1 = xs.length := by omega
    have gS : s.heap.get? S = some (seqObj "list" #[vb, .int (kf i) tb] c) := (I.pin _ (List.mem_append_right _ (List.mem_append_right _ (.head _)))).1
    refine codeAny_builtin PySem.F.entry_max_loop ?_
    rw [Around.under_plainId PySem.F.plain_max_loop _]
    show wpAny _ X.A.in1 (seqItems? (.ref S) >>= _) _ _ _
    refine wpAny_bind (wpAny_seqItems gS rfl ?_)
    show wpAny _ X.A.in1 (tryCatch (pyNext (.ref it)) _ >>= _) _ _ _
    refine wpAny_bind (wpAny_tryCatch (wpAny_mono (T.done { X with A := X.A.in1 } rfl rfl rfl hc (j + 1) _ s σ H _ (I.atA _ rfl rfl) (fun b hb => fp_more (hfp b hb) (nS b hb)) ht (by rw [hin]; exact stop)) (fun r s1 ⟨e, I1⟩ => ?_) fun _ _ z => z))
    subst e
    replace I1 := Inv.ofA I.ok I1
    have gS1 : s1.heap.get? S = some (seqObj "list" #[vb, .int (kf i) tb] c) := (I1.pin _ (List.mem_append_right _ (List.mem_append_right _ (.head _)))).1
    have sb := Heap.SameBut.update s1.heap S (Obj.mapSeq fun _ => (#[] : Array Value))
    show wpAny _ X.A.in1 (updateSeq S (fun _ => #[]) >>= _) _ _ _
    refine wpAny_bind ?_
    refine wpAny_updateSeq gS1 rfl (wpAny_bind (wpAny_letGo (wpAny_pure ?_)))
    obtain ⟨f0, f1, f2, f3, f4, f5⟩ := hS
    exact hR i xb vb _ hxb rb (fun j' hj' => hbest j' (by omega)) (I1.unpinned.turned (it := S) (fun b o nb e => (sb.2 b nb).trans e) f0 f1 f3 f4 f5)
  | succ r ih =>
    intro j i s xb vb tb c hr hj I ht hxb rb hij hbest
    have hlt : j + 1 < xs.length := by omega
    obtain ⟨hg, hy⟩ := go (j + 1) hlt
    have gS : s.heap.get? S = some (seqObj "list" #[vb, .int (kf i) tb] c) := (I.pin _ (List.mem_append_right _ (List.mem_append_right _ (.head _)))).1
    refine codeAny_builtin PySem.F.entry_max_loop ?_
    rw [Around.under_plainId PySem.F.plain_max_loop _]
    show wpAny _ X.A.in1 (seqItems? (.ref S) >>= _) _ _ _
    refine wpAny_bind (wpAny_seqItems gS rfl ?_)
    show wpAny _ X.A.in1 (tryCatch (pyNext (.ref it)) _ >>= _) _ _ _
    have hfp' : ∀ b ∈ fp, FpOk X (pins ++ [(S, seqObj "list" #[vb, .int (kf i) tb] c)]) H b := fun b hb => fp_more (hfp b hb) (nS b hb)
    refine wpAny_bind (wpAny_tryCatch (wpAny_mono (wpAny_flat (T.item { X with A := X.A.in1 } rfl rfl rfl hc (j + 1) _ s σ H _ (I.atA _ rfl rfl) hfp' ht hg)) (fun r s1 ⟨u, e, x, H1, I1, rx, yl, t1, fn⟩ => ?_) fun _ _ z => z))
    subst e
    replace I1 := Inv.ofA I.ok I1
    obtain ⟨e1, hx⟩ := hy x H1 yl
    subst e1
    obtain ⟨t2, rfl⟩ : ∃ t2, u = .int (kf (j + 1)) t2 := by
      have e := key (j + 1) x hx
      subst e
      exact rx
    refine wpAny_bind (wpAny_pure ?_)
    have gS2 : s1.heap.get? S = some (seqObj "list" #[vb, .int (kf i) tb] c) := (I1.pin _ (List.mem_append_right _ (List.mem_append_right _ (.head _)))).1
    show wpAny _ X.A.in1 (tryCatch (holding [.int (kf (j + 1)) t2, .int (kf (j + 1)) t2] (richCompare .Gt (.int (kf (j + 1)) t2) (.int (kf i) tb) >>= _)) _ >>= _) _ _ _
    refine wpAny_bind (wpAny_tryCatch (wpAny_holding (wpAny_bind (CmpOf.ints_gt (prog := X.prog) (w := X.w) (A := X.A.in1) (P := fun i v => ∃ t, v = .int (kf i) t) kf (fun i v h => h) (j + 1) i _ _ _ _ _ ⟨t2, rfl⟩ ⟨tb, rfl⟩ ?_))))
    refine wpAny_bind (wpAny_holding (wpAny_truthy_bool ?_))
    refine wpAny_bind (wpAny_letGo (wpAny_pure ?_))
    by_cases hb' : kf (j + 1) > kf i
    · have sb := Heap.SameBut.update s1.heap S (Obj.mapSeq fun _ => #[.int (kf (j + 1)) t2, .int (kf (j + 1)) t2])
      obtain ⟨c2, hc2⟩ : ∃ c2, (s1.heap.update S (Obj.mapSeq fun _ => #[.int (kf (j + 1)) t2, .int (kf (j + 1)) t2])).get? S = some (seqObj "list" #[.int (kf (j + 1)) t2, .int (kf (j + 1)) t2] c2) := ⟨_, get?_update_seq gS2 fun _ => #[.int (kf (j + 1)) t2, .int (kf (j + 1)) t2]⟩
      simp only [hb', decide_true, if_true]
      refine wpAny_bind ?_
      refine wpAny_updateSeq gS2 rfl (wpAny_bind (wpAny_letGo ?_))
      rw [hname]
      have hS' := hS
      obtain ⟨f0, f1, f2, f3, f4, f5⟩ := hS'
      have I3 := I1.unpinned.turned (it := S) (t' := s1.toks) (fun b o nb e => (sb.2 b nb).trans e) f0 f1 f3 f4 f5
      have t3 := T.keep _ _ _ t1 fun b hb o eo => (sb.2 b (Ne.symm (nS b hb))).trans eo
      refine wpAny_pure ⟨plainId_quiet PySem.F.plain_max_loop _, ih (j + 1) (j + 1) _ x _ t2 c2 (by omega) hlt (I3.repin hS hc2 (by intro v z; cases z)) t3 hx rx (Nat.le_refl _) fun j' hj' => ?_⟩
      by_cases e : j' = j + 1
      · subst e
        exact ⟨Int.le_refl _, fun h => absurd h (Nat.lt_irrefl _)⟩
      · have hb1 := (hbest j' (by omega)).1
        exact ⟨by omega, fun _ => by omega⟩
    · simp only [hb', decide_false, Bool.false_eq_true, if_false]
      refine wpAny_bind (wpAny_letGo ?_)
      rw [hname]
      refine wpAny_pure ⟨plainId_quiet PySem.F.plain_max_loop _, ih (j + 1) i _ xb vb tb c (by omega) hlt I1 t1 hxb rb (by omega) fun j' hj' => ?_⟩
      by_cases e : j' = j + 1
      · subst e
        exact ⟨by omega, fun h => by omega⟩
      · exact hbest j' (by omega)
theorem maxd_run {pins : List (Addr × Obj)} {nm : Str} {tp : Pos} {J : It} {fp : List Addr} {it : Addr} {tn : Nat → Heap → Prop} (T : Turn X.prog X.w X.K (.Name nm tp) J fp it tn) (hc : X.calm = true) (xs : List V) (kf : Nat → Int) (S : Addr) (dv : Value) (key : ∀ (i : Nat) (x : V), xs[i]? = some x → x = .int (kf i))
    (go : ∀ i, i < xs.length → J.go i H ∧ ∀ x H1, J.yld i H x H1 → H1 = H ∧ xs[i]? = some x) (stop : J.stop xs.length H) (hfp : ∀ b ∈ fp, FpOk X pins H b) (hS : FpOk X pins H S) (nS : ∀ b ∈ fp, S ≠ b) (hne : 0 < xs.length) {R : Result → Shared → Prop}
    (hR : ∀ i x u s', xs[i]? = some x → RelV x u → (∀ j, j < xs.length → kf j ≤ kf i ∧ (j < i → kf j < kf i)) → Inv X pins σ H s' → R (.ok (.ret u)) s')
    (s : Shared) (I : Inv X (pins ++ [(S, seqObj "list" #[] 0)]) σ H s) (ht : tn 0 s.heap) : codeAny (model X.prog X.w) X.A (.builtin "max.loop" ⟨[.ref it, .none, .ref S], [(Str.ofString "default", dv)]⟩) R s := by
  have hname : (toString "max" ++ toString ".loop" : String) = "max.loop" := by decide
  obtain ⟨hg, hy⟩ := go 0 hne
  have gS : s.heap.get? S = some (seqObj "list" #[] 0) := (I.pin _ (List.mem_append_right _ (List.mem_append_right _ (.head _)))).1
  refine codeAny_builtin PySem.F.entry_max_loop ?_
  rw [Around.under_plainId PySem.F.plain_max_loop _]
  show wpAny _ X.A.in1 (seqItems? (.ref S) >>= _) _ _ _
  refine wpAny_bind (wpAny_seqItems gS rfl ?_)
  show wpAny _ X.A.in1 (tryCatch (pyNext (.ref it)) _ >>= _) _ _ _
  have hfp' : ∀ b ∈ fp, FpOk X (pins ++ [(S, seqObj "list" #[] 0)]) H b := fun b hb => fp_more (hfp b hb) (nS b hb)
  refine wpAny_bind (wpAny_tryCatch (wpAny_mono (wpAny_flat (T.item { X with A := X.A.in1 } rfl rfl rfl hc 0 _ s σ H _ (I.atA _ rfl rfl) hfp' ht hg)) (fun r s1 ⟨u, e, x, H1, I1, rx, yl, t1, fn⟩ => ?_) fun _ _ z => z))
  subst e
  replace I1 := Inv.ofA I.ok I1
  obtain ⟨e1, hx⟩ := hy x H1 yl
  subst e1
  obtain ⟨t2, rfl⟩ : ∃ t2, u = .int (kf 0) t2 := by
    have e := key 0 x hx
    subst e
    exact rx
  refine wpAny_bind (wpAny_pure ?_)
  have gS2 : s1.heap.get? S = some (seqObj "list" #[] 0) := (I1.pin _ (List.mem_append_right _ (List.mem_append_right _ (.head _)))).1
  have sb := Heap.SameBut.update s1.heap S (Obj.mapSeq fun _ => #[.int (kf 0) t2, .int (kf 0) t2])
  obtain ⟨c2, hc2⟩ : ∃ c2, (s1.heap.update S (Obj.mapSeq fun _ => #[.int (kf 0) t2, .int (kf 0) t2])).get? S = some (seqObj "list" #[.int (kf 0) t2, .int (kf 0) t2] c2) := ⟨_, get?_update_seq gS2 fun _ => #[.int (kf 0) t2, .int (kf 0) t2]⟩
  show wpAny _ X.A.in1 (updateSeq S (fun _ => #[.int (kf 0) t2, .int (kf 0) t2]) >>= _) _ _ _
  refine wpAny_bind ?_
  refine wpAny_updateSeq gS2 rfl ?_
  rw [hname]
  have hS' := hS
  obtain ⟨f0, f1, f2, f3, f4, f5⟩ := hS'
  have I3 := I1.unpinned.turned (it := S) (t' := s1.toks) (fun b o nb e => (sb.2 b nb).trans e) f0 f1 f3 f4 f5
  have t3 := T.keep _ _ _ t1 fun b hb o eo => (sb.2 b (Ne.symm (nS b hb))).trans eo
  refine wpAny_pure ⟨plainId_quiet PySem.F.plain_max_loop _, maxd_loop T hc xs kf S dv key go stop hfp hS nS hR _ 0 0 _ x _ t2 c2 rfl hne (I3.repin hS hc2 (by intro v z; cases z)) t3 hx rx (Nat.le_refl _) fun j' hj' => ?_⟩
  have e : j' = 0 := by omega
  subst e
  exact ⟨Int.le_refl _, fun h => absurd h (Nat.lt_irrefl _)⟩
theorem maxd_key (a v : Value) : argsOk "max" ⟨[a], [(Str.ofString "default", v)]⟩ := by unfold argsOk; kernel_rfl
theorem maxd_none {pins : List (Addr × Obj)} {nm : Str} {tp : Pos} {J : It} {fp : List Addr} {it : Addr} {tn : Nat → Heap → Prop} (T : Turn X.prog X.w X.K (.Name nm tp) J fp it tn) (hc : X.calm = true) (S : Addr) (dv : Value) (stop : J.stop 0 H) (hfp : ∀ b ∈ fp, FpOk X pins H b) (nS : ∀ b ∈ fp, S ≠ b) {R : Result → Shared → Prop}
    (hR : ∀ s', Inv X pins σ H s' → R (.ok (.ret dv)) s') (s : Shared) (I : Inv X (pins ++ [(S, seqObj "list" #[] 0)]) σ H s) (ht : tn 0 s.heap) : codeAny (model X.prog X.w) X.A (.builtin "max.loop" ⟨[.ref it, .none, .ref S], [(Str.ofString "default", dv)]⟩) R s := by
  have gS : s.heap.get? S = some (seqObj "list" #[] 0) := (I.pin _ (List.mem_append_right _ (List.mem_append_right _ (.head _)))).1
  refine codeAny_builtin PySem.F.entry_max_loop ?_
  rw [Around.under_plainId PySem.F.plain_max_loop _]
  show wpAny _ X.A.in1 (seqItems? (.ref S) >>= _) _ _ _
  refine wpAny_bind (wpAny_seqItems gS rfl ?_)
  show wpAny _ X.A.in1 (tryCatch (pyNext (.ref it)) _ >>= _) _ _ _
  refine wpAny_bind (wpAny_tryCatch (wpAny_mono (T.done { X with A := X.A.in1 } rfl rfl rfl hc 0 _ s σ H _ (I.atA _ rfl rfl) (fun b hb => fp_more (hfp b hb) (nS b hb)) ht stop) (fun r s1 ⟨e, I1⟩ => ?_) fun _ _ z => z))
  subst e
  replace I1 := Inv.ofA I.ok I1
  exact wpAny_bind (wpAny_rule (wpAny_pure (hR s1 I1.unpinned)))
theorem call_maxD {pins : List (Addr × Obj)} {s : Shared} {a : Addr} {ns : List Int} {dv : Value} {Q : Value → Shared → Prop} {E : Value → Shared → Prop} (hc : X.calm = true) (I : Inv X pins σ H s) (hq : SqL X.K H a (List.map V.int ns))
    (h0 : ns = [] → ∀ s', Inv X pins σ H s' → Q dv s') (hQ : ∀ M u s', M ∈ ns → RelV (.int M) u → (∀ b ∈ ns, b ≤ M) → Inv X pins σ H s' → Q u s') :
    wpAny (model X.prog X.w) X.A (call (.builtin "max") [.ref a] [(Str.ofString "default", dv)]) Q E s := by
  have hname : (toString "max" ++ toString ".loop" : String) = "max.loop" := by decide
  refine kmk_tree PySem.F.kind_max PySem.F.plain_max PySem.F.entry_max (maxd_key _ _) ?_
  show wpAny _ X.A.in1 (Builtin.Builtins.bindParams "max" ["key", "default"] 0 ⟨[], [(Str.ofString "default", dv)]⟩ >>= _) _ _ s
  refine wpAny_bind (wpAny_of_eq (show Builtin.Builtins.bindParams "max" ["key", "default"] 0 ⟨[], [(Str.ofString "default", dv)]⟩ = pure [none, some dv] from rfl) ?_)
  refine wpAny_bind (wpAny_pure ?_)
  obtain ⟨its, rv, pl, hz⟩ := I.list hq
  refine wpAny_bind (wpAny_pyIter_list pl.isList ?_)
  refine wpAny_bind (wpAny_newList ?_ (Nat.zero_le _))
  rw [hname]
  refine wpAny_pure ⟨plainId_quiet PySem.F.plain_max_loop _, ?_⟩
  have hS : (s.heap.push { cls := .type "list_iterator", data := .fields #[.ref a, .int 0 0] }).objs.size = s.heap.objs.size + 1 := size_push' ..
  have J1 : Inv X pins σ H { s with heap := (s.heap.push { cls := .type "list_iterator", data := .fields #[.ref a, .int 0 0] }).push (seqObj "list" #[] 0) } := I.kept (t' := s.toks) fun b o e => Heap.get?_push_of_some _ (Heap.get?_push_of_some _ e)
  have fI : FpOk X pins H s.heap.objs.size := I.fpOk (Nat.le_refl _) (I.hok.fresh (Nat.le_refl _))
  have fS : FpOk X pins H (s.heap.push { cls := .type "list_iterator", data := .fields #[.ref a, .int 0 0] }).objs.size := I.fpOk (by rw [hS]; exact Nat.le_succ _) (I.hok.fresh (by rw [hS]; exact Nat.le_succ _))
  have J2 := J1.repin fS (Heap.get?_push_size _ rfl) (by intro v z; cases z)
  have hnS : ∀ b ∈ [s.heap.objs.size], (s.heap.push { cls := .type "list_iterator", data := .fields #[.ref a, .int 0 0] }).objs.size ≠ b := fun b hb => by rw [List.mem_singleton.mp hb, hS]; exact Nat.succ_ne_self _
  have hfp : ∀ b ∈ [s.heap.objs.size], FpOk X pins H b := fun b hb => by rw [List.mem_singleton.mp hb]; exact fI
  cases ns with
  | nil => exact maxd_none (nm := "x") (tp := default) (turn_list a s.heap.objs.size) hc _ dv ⟨_, hq, Nat.le_refl _⟩ hfp hnS (fun s' J => h0 rfl s' J) _ J2 ⟨_, Heap.get?_push_of_some _ (Heap.get?_push_size _ rfl), rfl, rfl⟩
  | cons n0 nr =>
    refine maxd_run (nm := "x") (tp := default) (turn_list a s.heap.objs.size) hc (List.map V.int (n0 :: nr)) (fun i => (n0 :: nr).getD i 0) _ dv (fun i x hx => ?_) (fun i hi => ⟨⟨_, _, hq, List.getElem?_eq_getElem hi⟩, fun x H1 y => ⟨y.1, y.2 _ hq⟩⟩) ⟨_, hq, Nat.le_refl _⟩
      hfp fS hnS (by simp) (fun i x u s' h1 h2 h3 h4 => ?_) _ J2 ⟨_, Heap.get?_push_of_some _ (Heap.get?_push_size _ rfl), rfl, rfl⟩
    · rw [List.getElem?_map] at hx
      cases e : (n0 :: nr)[i]? with
      | none => rw [e] at hx; cases hx
      | some m =>
        rw [e] at hx
        rw [List.getD_eq_getElem?_getD, e]
        exact (Option.some.inj hx).symm
    · rw [List.getElem?_map] at h1
      cases e : (n0 :: nr)[i]? with
      | none => rw [e] at h1; cases h1
      | some m =>
        rw [e] at h1
        have h1 : V.int m = x := Option.some.inj h1
        subst h1
        refine hQ m u s' (List.mem_of_getElem? e) h2 (fun b hb => ?_) h4
        obtain ⟨j, hj, ej⟩ := List.mem_iff_getElem.mp hb
        have := (h3 j (by rw [List.length_map]; exact hj)).1
        rw [List.getD_eq_getElem?_getD, List.getD_eq_getElem?_getD, e, List.getElem?_eq_getElem hj, ej] at this
        exact this
end
noncomputable def tMaxD (K : PySem.W.Frag) (te tl : TE) : TE := fun σ H Q => te σ H fun x H1 => tl σ H1 fun f H2 => ∃ (a : Addr) (ns : List Int) (d : Int), x = .ref a ∧ f = .int d ∧ SqL K H2 a (List.map V.int ns) ∧ (ns = [] → Q (.int d) H2) ∧ ∀ M, M ∈ ns → (∀ b, b ∈ ns → b ≤ M) → Q (.int M) H2
theorem pe_maxD (K : PySem.W.Frag) {X : Cx} {e f : Expr} {te tl : TE} {p pos kpos : Pos} (hc : X.calm = true) (B : Blt X.mg) (ha : PE X e te) (hl : PE X f tl) (hg : Gl X "max" := by rfl) (hall : (backToKw pos (keywordEach [⟨some "default", f, kpos⟩] X.env)).all (·.1.isSome) = true := by rfl)
    (hks : (backToKw pos (keywordEach [⟨some "default", f, kpos⟩] X.env)).filterMap (·.1) = [Str.ofString "default"] := by rfl) (he : starEach [e] X.env = (false, eval e X.env) :: starEach [] X.env := by rfl)
    (hpl : ((backTo pos (starEach [e] X.env)).any (·.1) || (backToKw pos (keywordEach [⟨some "default", f, kpos⟩] X.env)).any (·.1.isNone)) = false := by rfl) (hK : X.K = K := by rfl) :
    PE X (.Call (.Name "max" p) [e] [⟨some "default", f, kpos⟩] pos) (tMaxD K te tl) := by
  subst hK
  intro pins s σ H Q I h
  refine wpAny_Call_Name_kw (ld_blt I hg B.max (show bootBuiltins "max" = some (.builtin "max") by decide +kernel) ?_ (by decide) (by decide))
  have A1 : PA X [e] (tCons te tNil) := pa_cons ha pa_nil he
  have K1 : PK X [⟨some "default", f, kpos⟩] (tCons tl tNil) := pk_cons hl pk_nil
  refine callWith_builtinK hpl (evalArgs_kw2 hall (thn (A1 pos pins s σ H (fun vs H1 => match vs with | [x] => tl σ H1 (fun f H2 => ∃ (a : Addr) (ns : List Int) (d : Int), x = .ref a ∧ f = .int d ∧ SqL X.K H2 a (List.map V.int ns) ∧ (ns = [] → Q (.int d) H2) ∧ ∀ M, M ∈ ns → (∀ b, b ∈ ns → b ≤ M) → Q (.int M) H2) | _ => False) I h) fun us s1 ⟨vs, H1, I1, r1, q1⟩ => ?_) he)
  rcases vs with _ | ⟨x, _ | ⟨y, r⟩⟩
  · exact q1.elim
  · refine thn (K1 pos pins s1 σ H1 (fun zs H2 => match zs with | [f] => (∃ (a : Addr) (ns : List Int) (d : Int), x = .ref a ∧ f = .int d ∧ SqL X.K H2 a (List.map V.int ns) ∧ (ns = [] → Q (.int d) H2) ∧ ∀ M, M ∈ ns → (∀ b, b ∈ ns → b ≤ M) → Q (.int M) H2) | _ => False) I1 q1) fun ks s2 ⟨zs, H2, I2, rz, q2⟩ => ?_
    rcases zs with _ | ⟨f', _ | ⟨y, r⟩⟩
    · exact q2.elim
    · obtain ⟨a, ns, d, rfl, rfl, hq, q0, q⟩ := q2
      obtain ⟨u1, rfl, ru⟩ := vals1 r1
      obtain ⟨u2, rfl, ru2⟩ := vals1 rz
      cases ru
      rw [hks]
      exact call_maxD hc I2 hq (fun e s' J => ⟨.int d, H2, J, ru2, q0 e⟩) fun M u s' hM h2 h3 J => ⟨.int M, H2, J, h2, q M hM h3⟩
    · exact q2.elim
  · exact q1.elim
end L2
namespace L2
open PySem PySem.Spec PyProof.Rows
noncomputable def Itd (a : Addr) (kvs : List (Key × V)) (o : Obj) : It :=
  ⟨fun i H => H a = some (.frz o (.dK kvs)) ∧ i < kvs.length, fun i H x H' => H' = H ∧ ∃ kv, kvs[i]? = some kv ∧ x = kV kv.1, fun i H => H a = some (.frz o (.dK kvs)) ∧ kvs.length ≤ i⟩
theorem rel_key {P : Program} {w : World} {k : Key} {u : Value} (h : (mixKind P w).is k u = true) : RelV (kV k) u := by
  rcases keyIs_shape h with ⟨i, t, rfl, rfl⟩ | ⟨x, t, rfl, rfl⟩
  · exact ⟨t, rfl⟩
  · exact ⟨t, rfl⟩
theorem Paired.get {α β : Type} {F : α → β → Prop} : ∀ {l₁ : List α} {l₂ : List β}, Paired F l₁ l₂ → ∀ {i : Nat} {a : α}, l₁[i]? = some a → ∃ b, l₂[i]? = some b ∧ F a b
  | _, _, .nil, i, a, h => by simp at h
  | _, _, @Paired.cons _ _ _ x y _ _ f r, 0, a, h => by
    have e : x = a := by simpa using h
    subst e
    exact ⟨y, rfl, f⟩
  | _, _, .cons f r, i + 1, a, h => by
    obtain ⟨b, e, g⟩ := Paired.get r (i := i) (by simpa using h)
    exact ⟨b, by simpa using e, g⟩
theorem dic_at {X : Cx} {pins : List (Addr × Obj)} {σ : St} {H : Hp} {s : Shared} {a : Addr} {kvs : List (Key × V)} {o : Obj} (I : Inv X pins σ H s) (e : H a = some (.frz o (.dK kvs))) {es : Array DictEntry} {ep : Nat} (hd : o.data = .dict es ep) :
    ∃ vs, KV kvs vs ∧ s.heap.DictAt (mixKind X.prog X.w) a vs ep := by
  obtain ⟨ho, _, _, vs, kv, o', es', ep', h1, h2, h3, r⟩ := (show ObjOk X.prog X.w H s.heap a (.frz o (.dK kvs)) from I.hok a _ e)
  rw [ho] at h1
  cases h1
  rw [hd] at h3
  cases h3
  exact ⟨vs, kv, o, es, ho, h2, hd, r⟩
theorem turn_dic {P : Program} {w : World} {K : PySem.W.Frag} {tg : Expr} (a it : Addr) (kvs : List (Key × V)) (o : Obj) {es : Array DictEntry} {ep : Nat} (hd : o.data = .dict es ep) : Turn P w K tg (Itd a kvs o) [it] it (fun i h => h.IsKeyIter it a i kvs.length ep) where
  mem := by simp
  obj := fun i h st b hb => by
    have e : b = it := by simpa using hb
    subst e
    obtain ⟨o, e, c, d⟩ := st
    exact ⟨o, e, fun v z => by rw [d] at z; cases z⟩
  keep := fun i h h' st k => let ⟨o, e, r⟩ := st; ⟨o, k it (by simp) o e, r⟩
  item := by
    intro X hP hw hK hc i pins s σ H E I hf st hg
    subst hP hw hK
    obtain ⟨ha, hi⟩ := hg
    obtain ⟨vs, kv, da⟩ := dic_at I ha hd
    have hl := KV.length kv
    have st : s.heap.IsKeyIter it a i vs.length ep := by rw [← hl]; exact st
    obtain ⟨f0, f1, f2, f3, f4, f5⟩ := hf it (by simp)
    obtain ⟨q, hq, e1, _⟩ := Paired.get kv (i := i) (List.getElem?_eq_getElem hi)
    refine wpAny_pyNext_dict_item st da (k := q.1) (v := q.2) hq fun key h' hk st' sb => ?_
    have I1 : Inv X pins σ H { s with heap := h' } := I.turned (t' := s.toks) (fun b o hb e => (sb.2 b hb).trans e) f0 f1 f3 f4 f5
    obtain ⟨oi, e, c, d⟩ := id st'
    refine ⟨key, rfl, go_of (s := { s with heap := h' }) e c d (by decide) ⟨kV q.1, H, I1, rel_key hk, ⟨rfl, kvs[i], List.getElem?_eq_getElem hi, by rw [e1]⟩, ?_, fun b hb => (hf b hb).1⟩⟩
    show h'.IsKeyIter it a (i + 1) kvs.length ep
    rw [hl]; exact st'
  done := by
    intro X hP hw hK hc i pins s σ H E I hf st hg
    subst hP hw hK
    obtain ⟨ha, hi⟩ := hg
    obtain ⟨vs, kv, da⟩ := dic_at I ha hd
    have hl := KV.length kv
    have st : s.heap.IsKeyIter it a i vs.length ep := by rw [← hl]; exact st
    obtain ⟨f0, f1, f2, f3, f4, f5⟩ := hf it (by simp)
    exact wpAny_pyNext_dict_end (I.ok.hd hc) st da (by rw [List.getElem?_eq_none_iff]; omega) fun h' eb => ⟨rfl, I.turned (t' := s.toks) (fun b o hb e => eb b o hb e) f0 f1 f3 f4 f5⟩
  self := fun _ _ _ _ _ st h => wpAny_pyIter_keyiter st h
theorem Inv.freeze {X : Cx} {pins : List (Addr × Obj)} {σ : St} {H : Hp} {s : Shared} {a : Addr} {kvs : List (Key × V)} {o : Obj} (I : Inv X pins σ H s) (e : H a = some (.dK kvs)) (ho : s.heap.get? a = some o) : Inv X pins σ (upd H a (.frz o (.dK kvs))) s := by
  have ne : ∀ {b : Addr} {u : HO}, H b = some u → u ≠ .dK kvs → b ≠ a := fun h n z => by subst z; rw [e] at h; exact n (Option.some.inj h).symm
  refine I.un (t' := s.toks) (h' := s.heap) ⟨fun b o e _ _ _ => e, fun b o e _ _ _ => ⟨o.slots, e⟩, fun b o _ n _ => ?_, fun b o e _ => ⟨o, e⟩, fun b xs h => ?_, fun b o u h => ?_, fun b ps h => ⟨#[], ?_⟩⟩ (fun b u q => ?_)
  · rw [upd_ne (fun z => by subst z; rw [e] at n; cases n)]; exact n
  · rw [upd_ne (ne h (by intro z; cases z))]; exact h
  · rw [upd_ne (ne h (by intro z; cases z))]; exact h
  · rw [upd_ne (ne h (by intro z; cases z)), h]; simp
  · by_cases hb : b = a
    · subst hb
      rw [upd_same] at q
      cases q
      exact ⟨ho, (show ObjOk X.prog X.w H s.heap b (.dK kvs) from I.hok b _ e)⟩
    · rw [upd_ne hb] at q
      exact (I.hok b u q).stay (fun c v _ r => r) (fun c r => by rw [upd_ne (ne r (by intro z; cases z))]; exact r) fun c xs r => by rw [upd_ne (ne r (by intro z; cases z))]; exact r
section
variable {X : Cx} {tg : Expr}
noncomputable def iDic (tl : TE) : TI := fun σ H R => tl σ H fun x H1 => ∃ a kvs, x = .ref a ∧ Rd H1 a (.dK kvs) ∧ ∀ o H2, H2 a = some (.frz o (.dK kvs)) → (∀ b, b ≠ a → H2 b = H1 b) → R (Itd a kvs o) H2
theorem pi_dic {l : Expr} {tl : TE} (hl : PE X l tl) : PI X tg l (iDic tl) := by
  intro pins s σ H R I h
  refine thn (hl pins s σ H _ I h) fun v s1 ⟨x, H1, I1, r1, q1⟩ => ?_
  obtain ⟨a, kvs, e, hr, q⟩ := q1
  subst e
  cases r1
  obtain ⟨_, hs, vs, kv, o, es, ep, ho, hx, hdt, rest⟩ := hr.ok I1.hok
  have da : s1.heap.DictAt (mixKind X.prog X.w) a vs ep := ⟨o, es, ho, hx, hdt, rest⟩
  have hlen := KV.length kv
  obtain ⟨H2, I2, f2, n2⟩ : ∃ H2, Inv X pins σ H2 s1 ∧ H2 a = some (.frz o (.dK kvs)) ∧ ∀ b, b ≠ a → H2 b = H1 b := by
    rcases hr with hr | ⟨o', hr⟩
    · exact ⟨_, I1.freeze hr ho, upd_same, fun b hb => upd_ne hb⟩
    · obtain ⟨ho', _⟩ := (show ObjOk X.prog X.w H1 s1.heap a (.frz o' (.dK kvs)) from I1.hok a _ hr)
      rw [ho] at ho'
      cases ho'
      exact ⟨H1, I1, hr, fun b _ => rfl⟩
  refine wpAny_pyIter_dict hs da ?_
  refine ⟨s1.heap.objs.size, [s1.heap.objs.size], _, _, H2, rfl, I2.kept (t' := s1.toks) fun b o e => Heap.get?_push_of_some _ e, turn_dic a _ kvs o hdt, ⟨_, Heap.get?_push_size _ rfl, rfl, by rw [hlen]; rfl⟩, fun b hb => ?_, q o H2 f2 n2⟩
  have e : b = s1.heap.objs.size := by simpa using hb
  subst e
  exact I2.fpOk (Nat.le_refl _) (I2.hok.fresh (Nat.le_refl _))
end
section
variable {k : Nat} {fr : List Nat} {g : TG} {tc : TT} {te : TE} {σ : St} {H1 : Hp} {Q : VK}
theorem comp_dic {a : Addr} {o : Obj} (kvs : List (Key × V)) (Pv : Addr → Nat → List V → St → Hp → Prop)
    (h : ∀ D, H1 D = none → Pv D 0 [] (inSt k fr σ) (upd H1 D (.lst [])) ∧ (∀ i acc σ' H', i ≤ kvs.length → Pv D i acc σ' H' → H' D = some (.lst acc) → H' a = some (.frz o (.dK kvs))) ∧
      (∀ i acc σ' H' kv, kvs[i]? = some kv → Pv D i acc σ' H' → H' D = some (.lst acc) → g (kV kv.1) σ' H' fun σ2 H3 => tc σ2 H3 fun b H4 =>
        if b = true then te σ2 H4 fun y H5 => H5 D = some (.lst acc) ∧ acc.length < sizeLine ∧ Pv D (i + 1) (acc ++ [y]) σ2 (upd H5 D (.lst (acc ++ [y]))) else H4 D = some (.lst acc) ∧ Pv D (i + 1) acc σ2 H4) ∧
      ∀ acc σ' H', Pv D kvs.length acc σ' H' → H' D = some (.lst acc) → Q (.ref D) H') : tCompW k fr g tc te (Itd a kvs o) σ H1 Q := by
  have hl : (kvs.map fun kv => kV kv.1).length = kvs.length := List.length_map ..
  refine comp_items (kvs.map fun kv => kV kv.1) (fun H => H a = some (.frz o (.dK kvs))) (fun i H q hi => ⟨q, by rw [← hl]; exact hi⟩) (fun i H x H' q hi y => ⟨y.1, ?_⟩) (fun H q => ⟨q, by rw [hl]; exact Nat.le_refl _⟩) Pv fun D hD => ?_
  · obtain ⟨_, kv, e, rfl⟩ := y
    rw [List.getElem?_map, e]; rfl
  · obtain ⟨a0, b0, c0, d0⟩ := h D hD
    refine ⟨a0, fun i acc σ' H' hi => b0 i acc σ' H' (by rw [← hl]; exact hi), fun i acc σ' H' x hx p hacc => ?_, by rw [hl]; exact d0⟩
    rw [List.getElem?_map] at hx
    cases e : kvs[i]? with
    | none => rw [e] at hx; cases hx
    | some kv =>
      rw [e] at hx
      have hx : kV kv.1 = x := Option.some.inj hx
      rw [← hx]
      exact c0 i acc σ' H' kv e p hacc
end
end L2
namespace L2
open PySem PySem.Spec PyProof.Rows
section
variable {X : Cx} {p pos : Pos} {e : Expr} {t : TA}
noncomputable def rLstD : List V → Hp → VK → Prop := fun xs H Q => ∃ a kvs, xs = [V.ref a] ∧ Rd H a (.dK kvs) ∧ kvs.length ≤ 1000 ∧ ∀ l, H l = none → Q (.ref l) (upd H l (.lst (kvs.map fun kv => kV kv.1)))
theorem vals_keys {P : Program} {w : World} : ∀ {kvs : List (Key × V)} {vs : List (Key × Value)} {its : List Value}, KV kvs vs → its.length = vs.length → (∀ (i : Nat) (v : Value), its[i]? = some v → ∃ (k : Key) (x : Value), vs[i]? = some (k, x) ∧ (mixKind P w).is k v = true) → Vals (kvs.map fun kv => kV kv.1) its
  | _, _, its, .nil, hl, h => by
    have : its = [] := List.length_eq_zero_iff.mp (by simpa using hl)
    subst this
    exact .nil
  | _, _, [], .cons f r, hl, h => by simp at hl
  | _, _, u :: its, @Paired.cons _ _ _ a b _ _ f r, hl, h => by
    refine .cons ?_ (vals_keys (P := P) (w := w) r (by simpa using hl) fun i v e => ?_)
    · obtain ⟨k, x, e1, e2⟩ := h 0 u rfl
      have e1 : b = (k, x) := by simpa using e1
      have g : RelV (kV b.1) u := by rw [e1]; exact rel_key e2
      show RelV (kV a.1) u
      rw [show a.1 = b.1 from f.1]
      exact g
    · obtain ⟨k, x, e1, e2⟩ := h (i + 1) v (by simpa using e)
      exact ⟨k, x, by simpa using e1, e2⟩
theorem b_listD (hc : X.calm = true) (B : Blt X.mg) (ha : PA X [e] t) (hg : Gl X "list" := by rfl) (he : starEach [e] X.env = (false, eval e X.env) :: starEach [] X.env := by rfl) (hpl : (backTo pos (starEach [] X.env)).any (·.1) = false := by rfl) :
    PE X (.Call (.Name "list" p) [e] [] pos) (tCB rLstD t) := by
  refine pe_callTy (r := rLstD) (fun pins s σ H xs us Q I r h => ?_) hg B.list (show bootBuiltins "list" = some (.type "list") by decide +kernel) ha (by decide) (by decide) he hpl
  obtain ⟨a, kvs, rfl, hr, hn, q⟩ := h
  obtain ⟨u, rfl, ru⟩ := vals1 r
  cases ru
  obtain ⟨_, hs, vs, kv, o, es, ep, ho, hx, hdt, rest⟩ := hr.ok I.hok
  have da : s.heap.DictAt (mixKind X.prog X.w) a vs ep := ⟨o, es, ho, hx, hdt, rest⟩
  have hlen := KV.length kv
  refine PySem.W.kdl_call (PySem.W.kdl_dict hs) (I.ok.hd hc) da (by rw [sizeLine_eq]; omega) fun h' tk acc' c' hk hl hi => ?_
  have hv : Vals (kvs.map fun kv => kV kv.1) acc'.toList := vals_keys (P := X.prog) (w := X.w) kv (by simpa using hi.1) fun i v e => hi.2 i v (by simpa using e)
  refine ⟨.ref _, _, I.laid (o := .lst (kvs.map fun kv => kV kv.1)) hk (Nat.le_refl _) ⟨?_, acc'.toList, c', hv, by simpa using hl⟩, rfl, q _ (I.hok.fresh (Nat.le_refl _))⟩
  rw [List.length_map]
  exact Nat.le_of_lt (small1000 hn)
end
end L2
namespace L2
open PySem PySem.Spec PyProof.Rows
section
variable {prog : Program} {w : World} {A : Around} {E : Value → Shared → Prop} {s : Shared}
theorem zpt_item {z TI TO i1 i2 l1 l2 : Addr} {k1 k2 : Nat} {f0 : Value} {f1 : Bool} {xs ys : Array Value} {x y a b : Value} {Q : Value → Shared → Prop} (D : ZipApart z TI TO i1 i2 l1 l2) (hf : F0 f0)
    (hz : Zp s.heap z TI TO f0 f1) (hTI : IsPair s.heap TI (.ref i1) (.ref i2)) (hTO : IsPair s.heap TO a b)
    (h1 : s.heap.IsTupleIter i1 l1 k1) (h2 : s.heap.IsListIter i2 l2 k2) (hl1 : s.heap.IsTuple l1 xs) (hl2 : s.heap.IsList l2 ys) (hx : xs[k1]? = some x) (hy : ys[k2]? = some y)
    (hQ : ∀ h' f0' f1', F0 f0' → Zp h' z TI TO f0' f1' → (∃ a b, IsPair h' TO a b) → h'.IsTupleIter i1 l1 (k1 + 1) → h'.IsListIter i2 l2 (k2 + 1) → IsPair h' s.heap.objs.size x y →
      (∀ c o, c ≠ z → c ≠ TO → c ≠ i1 → c ≠ i2 → s.heap.get? c = some o → h'.get? c = some o) → Q (.ref s.heap.objs.size) { s with heap := h' }) :
    wpAny (model prog w) A (Builtin.«zip.__next__» ⟨[.ref z], []⟩) (fun fin s' => ∃ v, fin = .done (.ret v) ∧ Q v s') E s := by
  show wpAny _ _ (field (.ref z) 2 >>= _) _ _ _
  refine wpAny_bind (wpAny_field hz rfl (x := .bool false) rfl ?_)
  show wpAny _ _ (field (.ref z) 3 >>= _) _ _ _
  refine wpAny_bind (wpAny_field hz rfl (x := .ref TI) rfl (wpAny_bind (wpAny_seqItems hTI rfl ?_)))
  refine wpAny_bind (zp_free hf hz fun own f1' g0 hz0 sb0 => ?_)
  have sz0 : g0.objs.size = s.heap.objs.size := sb0.1
  cases own with
  | true =>
    simp only [if_true]
    refine wpAny_bind (wpAny_rule ?_)
    refine wpAny_bind (wpAny_field (s := { s with heap := g0 }) hz0 rfl (x := .ref TO) rfl ?_)
    refine wpAny_bind (wpAny_setField_rec (s := { s with heap := g0 }) hz0 (by simp) fun g1 hz1 sb1 => ?_)
    replace hz1 : Zp g1 z TI TO .ellipsis f1' := hz1
    refine wpAny_bind ?_
    simp only [List.zipIdx_cons, List.zipIdx_nil, List.forIn_cons, List.forIn_nil]
    refine wpAny_bind (wpAny_bind (wpAny_onRaise ?_))
    show wpAny _ _ (Builtin.SmallTypes.nextOf (.ref i1) >>= _) _ _ _
    have up1 : ∀ c o, c ≠ z → s.heap.get? c = some o → g1.get? c = some o := fun c o n e => sb1.extBut _ _ n (sb0.extBut _ _ n e)
    refine wpAny_bind (nextT_item (h1.at fun o e => up1 _ o D.i1z e) (hl1.at fun o e => up1 _ o D.l1z e) hx fun g2 j1 sb2 => wpAny_pure ?_)
    have hTO2 : IsPair g2 TO a b := sb2.extBut _ _ D.TOi1 (up1 _ _ D.TOz hTO)
    refine wpAny_bind (wpAny_seqItems hTO2 rfl (wpAny_bind (wpAny_updateSeq_pair hTO2 fun g3 hTO3 sb3 => ?_)))
    replace hTO3 : IsPair g3 TO x b := hTO3
    refine wpAny_bind (wpAny_letGo (wpAny_pure (wpAny_bind (wpAny_bind (wpAny_onRaise ?_)))))
    show wpAny _ _ (Builtin.SmallTypes.nextOf (.ref i2) >>= _) _ _ _
    have up3 : ∀ c o, c ≠ z → c ≠ i1 → c ≠ TO → s.heap.get? c = some o → g3.get? c = some o := fun c o n1 n2 n3 e => sb3.extBut _ _ n3 (sb2.extBut _ _ n2 (up1 _ _ n1 e))
    refine wpAny_bind (wpAny_nextOf_list_item (h2.at fun o e => up3 _ o D.i2z D.i12.symm D.TOi2.symm e) (hl2.at fun o e => up3 _ o D.l2z D.l2i1 D.l2TO e) hy fun g4 j2 sb4 => wpAny_pure ?_)
    have hTO4 : IsPair g4 TO x b := sb4.extBut _ _ D.TOi2 hTO3
    refine wpAny_bind (wpAny_seqItems hTO4 rfl (wpAny_bind (wpAny_updateSeq_pair hTO4 fun g5 hTO5 sb5 => ?_)))
    replace hTO5 : IsPair g5 TO x y := hTO5
    refine wpAny_bind (wpAny_letGo (wpAny_pure (wpAny_pure ?_)))
    refine wpAny_bind (wpAny_seqItems hTO5 rfl (wpAny_bind (wpAny_newTuple ?_)))
    have hsz : g5.objs.size = s.heap.objs.size := by rw [sb5.1, sb4.1, sb3.1, sb2.1, sb1.1, sz0]
    have hz5 : Zp g5 z TI TO .ellipsis f1' := sb5.extBut _ _ D.TOz.symm (sb4.extBut _ _ D.i2z.symm (sb3.extBut _ _ D.TOz.symm (sb2.extBut _ _ D.i1z.symm hz1)))
    have j15 : g5.IsTupleIter i1 l1 (k1 + 1) := j1.at fun o e => sb5.extBut _ _ D.TOi1.symm (sb4.extBut _ _ D.i12 (sb3.extBut _ _ D.TOi1.symm e))
    have j25 : g5.IsListIter i2 l2 (k2 + 1) := j2.at fun o e => sb5.extBut _ _ D.TOi2.symm e
    have hk5 : ∀ c o, c ≠ z → c ≠ TO → c ≠ i1 → c ≠ i2 → s.heap.get? c = some o → g5.get? c = some o := fun c o c1 c2 c3 c4 e => sb5.extBut _ _ c2 (sb4.extBut _ _ c4 (up3 _ _ c1 c3 c2 e))
    have hzlt : z < g5.objs.size := Heap.lt_size hz5
    show wpAny _ _ (Builtin.SmallTypes.ownedTupleHandOut (.ref z) (.ref g5.objs.size) >>= _) _ _ _
    refine wpAny_bind ?_
    unfold Builtin.SmallTypes.ownedTupleHandOut
    have hz6 : Zp (g5.push { cls := .type "tuple", data := .seq #[x, y] }) z TI TO .ellipsis f1' := Heap.get?_push_of_some _ hz5
    refine wpAny_bind (wpAny_setField_rec hz6 (by simp) fun g7 hz7 sb7 => ?_)
    replace hz7 : Zp g7 z TI TO (rawInt g5.objs.size) f1' := hz7
    refine wpAny_setField_rec hz7 (by simp) fun g8 hz8 sb8 => ?_
    replace hz8 : Zp g8 z TI TO (rawInt g5.objs.size) false := hz8
    have up : ∀ c o, c ≠ z → g5.get? c = some o → g8.get? c = some o := fun c o c1 e => sb8.extBut _ _ c1 (sb7.extBut _ _ c1 (Heap.get?_push_of_some _ e))
    have hT8 : IsPair g8 g5.objs.size x y := sb8.extBut _ _ (Nat.ne_of_gt hzlt) (sb7.extBut _ _ (Nat.ne_of_gt hzlt) (Heap.get?_push_size _ rfl))
    refine wpAny_pure ⟨_, rfl, ?_⟩
    show Q (.ref g5.objs.size) _
    rw [hsz] at hz8 hT8 ⊢
    exact hQ g8 _ _ (.inr ⟨_, rfl⟩) hz8 ⟨x, y, up _ _ D.TOz hTO5⟩ (j15.at fun o e => up _ o D.i1z e) (j25.at fun o e => up _ o D.i2z e) hT8 fun c o c1 c2 c3 c4 e => up c o c1 (hk5 c o c1 c2 c3 c4 e)
  | false =>
    simp only [Bool.false_eq_true, if_false]
    refine wpAny_bind ?_
    rw [← Array.forIn_toList]
    simp only [List.forIn_cons, List.forIn_nil]
    refine wpAny_bind (wpAny_bind (wpAny_holding ?_))
    show wpAny _ _ (Builtin.SmallTypes.nextOf (.ref i1) >>= _) _ _ _
    have up1 : ∀ c o, c ≠ z → s.heap.get? c = some o → g0.get? c = some o := fun c o n e => sb0.extBut _ _ n e
    refine wpAny_bind (nextT_item (s := { s with heap := g0 }) (h1.at fun o e => up1 _ o D.i1z e) (hl1.at fun o e => up1 _ o D.l1z e) hx fun g2 j1 sb2 => wpAny_pure ?_)
    replace sb2 : Heap.SameBut i1 g0 g2 := sb2
    refine wpAny_pure (wpAny_bind (wpAny_bind (wpAny_holding ?_)))
    show wpAny _ _ (Builtin.SmallTypes.nextOf (.ref i2) >>= _) _ _ _
    have up2 : ∀ c o, c ≠ z → c ≠ i1 → s.heap.get? c = some o → g2.get? c = some o := fun c o n1 n2 e => sb2.extBut _ _ n2 (up1 _ _ n1 e)
    refine wpAny_bind (wpAny_nextOf_list_item (h2.at fun o e => up2 _ o D.i2z D.i12.symm e) (hl2.at fun o e => up2 _ o D.l2z D.l2i1 e) hy fun g4 j2 sb4 => wpAny_pure ?_)
    replace sb4 : Heap.SameBut i2 g2 g4 := sb4
    refine wpAny_pure (wpAny_pure ?_)
    show wpAny _ _ (newTuple [x, y] >>= _) _ _ _
    refine wpAny_bind (wpAny_newTuple (wpAny_pure ⟨_, rfl, ?_⟩))
    have hsz : g4.objs.size = s.heap.objs.size := by rw [sb4.1, sb2.1, sz0]
    show Q (.ref g4.objs.size) _
    have pu : ∀ c o, g4.get? c = some o → (g4.push { cls := .type "tuple", data := .seq #[x, y] }).get? c = some o := fun c o e => Heap.get?_push_of_some _ e
    have hT8 : IsPair (g4.push { cls := .type "tuple", data := .seq #[x, y] }) g4.objs.size x y := Heap.get?_push_size _ rfl
    rw [hsz] at hT8 ⊢
    exact hQ _ _ _ hf (pu _ _ (sb4.extBut _ _ D.i2z.symm (sb2.extBut _ _ D.i1z.symm hz0))) ⟨a, b, pu _ _ (sb4.extBut _ _ D.TOi2 (up2 _ _ D.TOz D.TOi1 hTO))⟩ (j1.at fun o e => pu _ o (sb4.extBut _ _ D.i12 e)) (j2.at fun o e => pu _ o e) hT8 fun c o c1 c2 c3 c4 e => pu _ _ (sb4.extBut _ _ c4 (up2 _ _ c1 c3 e))
theorem zpt_end {z TI TO i1 i2 l1 l2 : Addr} {k1 k2 : Nat} {f0 : Value} {f1 : Bool} {xs ys : Array Value} {a b : Value} {Q : Fin → Shared → Prop} (hh : A.handled = none) (D : ZipApart z TI TO i1 i2 l1 l2) (hf : F0 f0)
    (hz : Zp s.heap z TI TO f0 f1) (hTI : IsPair s.heap TI (.ref i1) (.ref i2)) (hTO : IsPair s.heap TO a b)
    (h1 : s.heap.IsTupleIter i1 l1 k1) (h2 : s.heap.IsListIter i2 l2 k2) (hl1 : s.heap.IsTuple l1 xs) (hl2 : s.heap.IsList l2 ys) (hend : xs[k1]? = none ∨ ys[k2]? = none)
    (hE : ∀ h' e, (∀ c o, c ≠ z → c ≠ TO → c ≠ i1 → c ≠ i2 → s.heap.get? c = some o → h'.get? c = some o) → (∃ o, h'.get? e = some o ∧ o.cls = .type "StopIteration") → E (.ref e) { s with heap := h' }) :
    wpAny (model prog w) A (Builtin.«zip.__next__» ⟨[.ref z], []⟩) Q E s := by
  show wpAny _ _ (field (.ref z) 2 >>= _) _ _ _
  refine wpAny_bind (wpAny_field hz rfl (x := .bool false) rfl ?_)
  show wpAny _ _ (field (.ref z) 3 >>= _) _ _ _
  refine wpAny_bind (wpAny_field hz rfl (x := .ref TI) rfl (wpAny_bind (wpAny_seqItems hTI rfl ?_)))
  refine wpAny_bind (zp_free hf hz fun own f1' g0 hz0 sb0 => ?_)
  cases own with
  | true =>
    simp only [if_true]
    refine wpAny_bind (wpAny_rule ?_)
    refine wpAny_bind (wpAny_field (s := { s with heap := g0 }) hz0 rfl (x := .ref TO) rfl ?_)
    refine wpAny_bind (wpAny_setField_rec (s := { s with heap := g0 }) hz0 (by simp) fun g1 hz1 sb1 => ?_)
    replace hz1 : Zp g1 z TI TO .ellipsis f1' := hz1
    refine wpAny_bind ?_
    simp only [List.zipIdx_cons, List.zipIdx_nil, List.forIn_cons, List.forIn_nil]
    refine wpAny_bind (wpAny_bind (wpAny_onRaise ?_))
    show wpAny _ _ (Builtin.SmallTypes.nextOf (.ref i1) >>= _) _ _ _
    have up1 : ∀ c o, c ≠ z → s.heap.get? c = some o → g1.get? c = some o := fun c o n e => sb1.extBut _ _ n (sb0.extBut _ _ n e)
    cases hx : xs[k1]? with
    | none =>
      refine wpAny_bind (nextT_end hh (h1.at fun o e => up1 _ o D.i1z e) (hl1.at fun o e => up1 _ o D.l1z e) hx fun g2 e sb2 he => ?_)
      obtain ⟨oe, hoe, hce⟩ := he
      have hz2 : Zp g2 z TI TO .ellipsis f1' := sb2 _ _ D.i1z.symm hz1
      have hez : e ≠ z := fun q => by subst q; rw [hz2] at hoe; cases hoe; simp at hce
      exact wpAny_setField_rec hz2 (by simp) fun g3 _ sb3 => hE g3 e (fun c o c1 _ c3 _ q => sb3.extBut _ _ c1 (sb2 _ _ c3 (up1 _ _ c1 q))) ⟨oe, sb3.extBut _ _ hez hoe, hce⟩
    | some x =>
      have hy : ys[k2]? = none := by rcases hend with q | q; rw [hx] at q; cases q; exact q
      refine wpAny_bind (nextT_item (h1.at fun o e => up1 _ o D.i1z e) (hl1.at fun o e => up1 _ o D.l1z e) hx fun g2 j1 sb2 => wpAny_pure ?_)
      have hTO2 : IsPair g2 TO a b := sb2.extBut _ _ D.TOi1 (up1 _ _ D.TOz hTO)
      refine wpAny_bind (wpAny_seqItems hTO2 rfl (wpAny_bind (wpAny_updateSeq_pair hTO2 fun g3 hTO3 sb3 => ?_)))
      refine wpAny_bind (wpAny_letGo (wpAny_pure (wpAny_bind (wpAny_bind (wpAny_onRaise ?_)))))
      show wpAny _ _ (Builtin.SmallTypes.nextOf (.ref i2) >>= _) _ _ _
      have up3 : ∀ c o, c ≠ z → c ≠ i1 → c ≠ TO → s.heap.get? c = some o → g3.get? c = some o := fun c o n1 n2 n3 e => sb3.extBut _ _ n3 (sb2.extBut _ _ n2 (up1 _ _ n1 e))
      refine wpAny_bind (wpAny_nextOf_list_end hh (h2.at fun o e => up3 _ o D.i2z D.i12.symm D.TOi2.symm e) (hl2.at fun o e => up3 _ o D.l2z D.l2i1 D.l2TO e) hy fun g4 e sb4 he => ?_)
      obtain ⟨oe, hoe, hce⟩ := he
      have hz4 : Zp g4 z TI TO .ellipsis f1' := sb4 _ _ D.i2z.symm (sb3.extBut _ _ D.TOz.symm (sb2.extBut _ _ D.i1z.symm hz1))
      have hez : e ≠ z := fun q => by subst q; rw [hz4] at hoe; cases hoe; simp at hce
      exact wpAny_setField_rec hz4 (by simp) fun g5 _ sb5 => hE g5 e (fun c o c1 c2 c3 c4 q => sb5.extBut _ _ c1 (sb4 _ _ c4 (up3 _ _ c1 c3 c2 q))) ⟨oe, sb5.extBut _ _ hez hoe, hce⟩
  | false =>
    simp only [Bool.false_eq_true, if_false]
    refine wpAny_bind ?_
    rw [← Array.forIn_toList]
    simp only [List.forIn_cons, List.forIn_nil]
    refine wpAny_bind (wpAny_bind (wpAny_holding ?_))
    show wpAny _ _ (Builtin.SmallTypes.nextOf (.ref i1) >>= _) _ _ _
    have up1 : ∀ c o, c ≠ z → s.heap.get? c = some o → g0.get? c = some o := fun c o n e => sb0.extBut _ _ n e
    cases hx : xs[k1]? with
    | none =>
      refine wpAny_bind (nextT_end (s := { s with heap := g0 }) hh (h1.at fun o e => up1 _ o D.i1z e) (hl1.at fun o e => up1 _ o D.l1z e) hx fun g2 e sb2 he => ?_)
      exact hE g2 e (fun c o c1 _ c3 _ q => sb2 _ _ c3 (up1 _ _ c1 q)) he
    | some x =>
      have hy : ys[k2]? = none := by rcases hend with q | q; rw [hx] at q; cases q; exact q
      refine wpAny_bind (nextT_item (s := { s with heap := g0 }) (h1.at fun o e => up1 _ o D.i1z e) (hl1.at fun o e => up1 _ o D.l1z e) hx fun g2 j1 sb2 => wpAny_pure ?_)
      replace sb2 : Heap.SameBut i1 g0 g2 := sb2
      refine wpAny_pure (wpAny_bind (wpAny_bind (wpAny_holding ?_)))
      show wpAny _ _ (Builtin.SmallTypes.nextOf (.ref i2) >>= _) _ _ _
      have up2 : ∀ c o, c ≠ z → c ≠ i1 → s.heap.get? c = some o → g2.get? c = some o := fun c o n1 n2 e => sb2.extBut _ _ n2 (up1 _ _ n1 e)
      refine wpAny_bind (wpAny_nextOf_list_end hh (h2.at fun o e => up2 _ o D.i2z D.i12.symm e) (hl2.at fun o e => up2 _ o D.l2z D.l2i1 e) hy fun g4 e sb4 he => ?_)
      exact hE g4 e (fun c o c1 c2 c3 c4 q => sb4 _ _ c4 (up2 _ _ c1 c3 q)) he
noncomputable abbrev zq1 (h : Heap) (l : Addr) : Heap := h.push { cls := .type "tuple_iterator", data := .fields #[.ref l, .int 0 0] }
noncomputable abbrev zq2 (h : Heap) (l m : Addr) : Heap := (zq1 h l).push { cls := .type "list_iterator", data := .fields #[.ref m, .int 0 0] }
noncomputable abbrev zq3 (h : Heap) (l m : Addr) : Heap := (zq2 h l m).push { cls := .type "tuple", data := .seq #[.ref h.objs.size, .ref (zq1 h l).objs.size] }
noncomputable abbrev zq4 (h : Heap) (l m : Addr) : Heap := (zq3 h l m).push { cls := .type "tuple", data := .seq #[.none, .none] }
noncomputable abbrev zq5 (h : Heap) (l m : Addr) : Heap := (zq4 h l m).push { cls := .type "zip", data := .fields #[.none, .bool false, .bool false, .ref (zq2 h l m).objs.size, .ref (zq3 h l m).objs.size] }
theorem meets_zipT (l m : Addr) (xs ys : Array Value) : Meets (Builtin.«zip.__new__» ⟨[.type "zip", .ref l, .ref m], []⟩) (fun _ R s => s.heap.IsTuple l xs ∧ s.heap.IsList m ys ∧ R (.ok (.ret (.ref (zq4 s.heap l m).objs.size))) { s with heap := zq5 s.heap l m }) :=
  .of_wp fun prog w A R s h => by
    obtain ⟨h0, g0, d0, t0, os0⟩ := s
    obtain ⟨hl, hm, h⟩ := h
    have hsub := sub_zip
    have e1 : Heap.IsTuple (Shared.heap ⟨h0, g0, d0, t0, os0⟩) l xs := hl
    have e2 : Heap.IsList (Shared.heap ⟨zq1 h0 l, g0, d0, t0, os0⟩) m ys := Heap.IsList.push hm _
    wp_walk using wpAny_pyIter_tuple e1, wpAny_pyIter_list e2
    exact ⟨_, rfl, h⟩
theorem call_zipT {l m : Addr} {xs ys : Array Value} {Q : Value → Shared → Prop} (hl : s.heap.IsTuple l xs) (hm : s.heap.IsList m ys)
    (h : ∀ h', Zp h' (s.heap.objs.size + 4) (s.heap.objs.size + 2) (s.heap.objs.size + 3) .none false → IsPair h' (s.heap.objs.size + 2) (.ref s.heap.objs.size) (.ref (s.heap.objs.size + 1)) → IsPair h' (s.heap.objs.size + 3) .none .none →
      h'.IsTupleIter s.heap.objs.size l 0 → h'.IsListIter (s.heap.objs.size + 1) m 0 → (∀ c o, s.heap.get? c = some o → h'.get? c = some o) → Q (.ref (s.heap.objs.size + 4)) { s with heap := h' }) :
    wpAny (model prog w) A (call (.type "zip") [.ref l, .ref m]) Q E s := by
  have a1 : (zq1 s.heap l).objs.size = s.heap.objs.size + 1 := Heap.size_push ..
  have a2 : (zq2 s.heap l m).objs.size = s.heap.objs.size + 2 := (Heap.size_push ..).trans (by rw [a1])
  have a3 : (zq3 s.heap l m).objs.size = s.heap.objs.size + 3 := (Heap.size_push ..).trans (by rw [a2])
  have a4 : (zq4 s.heap l m).objs.size = s.heap.objs.size + 4 := (Heap.size_push ..).trans (by rw [a3])
  have k5 : ∀ {c : Addr} {o : Obj}, (zq4 s.heap l m).get? c = some o → (zq5 s.heap l m).get? c = some o := fun q => Heap.get?_push_of_some _ q
  have k4 : ∀ {c : Addr} {o : Obj}, (zq3 s.heap l m).get? c = some o → (zq5 s.heap l m).get? c = some o := fun q => k5 (Heap.get?_push_of_some _ q)
  have k3 : ∀ {c : Addr} {o : Obj}, (zq2 s.heap l m).get? c = some o → (zq5 s.heap l m).get? c = some o := fun q => k4 (Heap.get?_push_of_some _ q)
  have k2 : ∀ {c : Addr} {o : Obj}, (zq1 s.heap l).get? c = some o → (zq5 s.heap l m).get? c = some o := fun q => k3 (Heap.get?_push_of_some _ q)
  have b5 : (zq5 s.heap l m).get? (zq4 s.heap l m).objs.size = some { cls := .type "zip", data := .fields #[.none, .bool false, .bool false, .ref (zq2 s.heap l m).objs.size, .ref (zq3 s.heap l m).objs.size] } := Heap.get?_push_size _ rfl
  have b4 := k5 (Heap.get?_push_size (zq3 s.heap l m) (o := { cls := .type "tuple", data := .seq #[.none, .none] }) rfl)
  have b3 := k4 (Heap.get?_push_size (zq2 s.heap l m) (o := { cls := .type "tuple", data := .seq #[.ref s.heap.objs.size, .ref (zq1 s.heap l).objs.size] }) rfl)
  have b2 := k3 (Heap.get?_push_size (zq1 s.heap l) (o := { cls := .type "list_iterator", data := .fields #[.ref m, .int 0 0] }) rfl)
  have b1 := k2 (Heap.get?_push_size s.heap (o := { cls := .type "tuple_iterator", data := .fields #[.ref l, .int 0 0] }) rfl)
  rw [a2, a3, a4] at b5
  rw [a3] at b4
  rw [a1, a2] at b3
  rw [a1] at b2
  refine callType_new F.called_zip (by decide) (F.typeCall_zip_2 _ _) (F.newCall_zip_2 _ _) (fun ob => F.args_object_init_3 ob _ _) F.entry_zip_new (meets_zipT l m xs ys) ⟨hl, hm, ?_⟩
  show _ ∧ _
  rw [a4]
  exact ⟨⟨_, b5, rfl⟩, h _ b5 b3 b4 ⟨_, b1, rfl, rfl⟩ ⟨_, b2, rfl, rfl⟩ fun c o q => k2 (Heap.get?_push_of_some _ q)⟩
theorem zip_getattr_none : typeLookup (.type "zip") "__getattr__" = pure none := by rw [typeLookup_type, builtinLookup_eq_fast]; kernel_rfl
theorem entry_zip_getattribute : entryFor table "zip.__getattribute__" = some Builtin.«object.__getattribute__» :=
  entryFor_alias (id' := "object.__getattribute__") (by kernel_rfl) (by decide +kernel) (by decide +kernel) (by kernel_rfl)
theorem meets_miss_zip (a : Addr) (fs : Array Value) (sl : Array (Option Value)) (u : Tok) :
    Meets (Builtin.«object.__getattribute__» ⟨[.ref a, .str "keys" u], []⟩) (fun A R s => s.heap.get? a = some { cls := .type "zip", dict := none, data := .fields fs, slots := sl } ∧ raisesAttr (.ref a) "keys" A R s) :=
  Meets.of_wp fun prog w A R s hs => by
    obtain ⟨h0, g0, d0, t0, os0⟩ := s
    obtain ⟨hx, hs⟩ := hs
    have hT : (⟨h0, g0, d0, t0, os0⟩ : Shared).TypeIs (.ref a) "zip" := ⟨_, hx, rfl⟩
    have hmiss := keys_miss_zip
    have hname : (["__module__", "__name__", "__qualname__", "__doc__", "__annotations__"] : List Str).contains ("keys" : Str) = false := by decide +kernel
    unfold Builtin.«object.__getattribute__»
    repeat any_goals first | assumption | wp_step
    exact wpAny_raiseAttrError hs.1 hs.2 (attrMsg_fits (name := "keys") (by decide +kernel) (by size_fits))
theorem nokeys_zip {a : Addr} {o : Obj} {fs : Array Value} {Q : Option Value → Shared → Prop}
    (hx : s.heap.get? a = some o) (hc : o.cls = .type "zip") (hdat : o.data = .fields fs) (hd : o.dict = none) (hA : A.handled = none)
    (h : ∀ h' tk, (∀ b ob, s.heap.get? b = some ob → h'.get? b = some ob) → Q none { s with heap := h', toks := tk }) :
    wpAny (model prog w) A (getAttr? (.ref a) "keys") Q E s := by
  obtain ⟨c, dct, dat, sl⟩ := o
  simp only at hc hdat hd
  subst hc hdat hd
  obtain ⟨h0, g0, d0, t0, os0⟩ := s
  have hT : ∀ tk', (⟨h0, g0, d0, tk', os0⟩ : Shared).TypeIs (.ref a) "zip" := fun _ => ⟨_, hx, rfl⟩
  have f1 := sub_AttributeError
  have f3 := F.slot_zip_getattribute.lookup
  have f4 := F.slot_zip_getattribute.bind (.ref a)
  have f5 := zip_getattr_none
  unfold getAttr? getAttrBy? getAttrBy
  repeat (any_goals (first | assumption | exact hT _ | ((with_reducible show wpAny _ _ (call (Value.builtin "zip.__getattribute__") _ _) _ _ _); refine call_meets F.slot_zip_getattribute (hT _) entry_zip_getattribute (F.args_zip_getattribute_2 _ _) (meets_miss_zip a fs sl _) ⟨hx, hA, fun h' tk' e hx' => ?_⟩) | wp_step))
  obtain ⟨t', u', he⟩ := hx'.there
  show wpAny _ _ (getattributeRaised _ _ _ _ _ _ _) _ _ _
  unfold getattributeRaised
  repeat (any_goals (first | assumption | wp_step))
  exact h _ _ hx'.keeps
end
noncomputable def Itzt (K : PySem.W.Frag) (a b : Addr) : It :=
  ⟨fun i H => ∃ xs ys x y, SqT K H a xs ∧ SqL K H b ys ∧ xs[i]? = some x ∧ ys[i]? = some y,
   fun i H v H' => ∃ p x y, H p = none ∧ v = .ref p ∧ (∀ xs, SqT K H a xs → xs[i]? = some x) ∧ (∀ ys, SqL K H b ys → ys[i]? = some y) ∧ H' = upd H p (.tup [x, y]),
   fun i H => ∃ xs ys, SqT K H a xs ∧ SqL K H b ys ∧ (xs.length ≤ i ∨ ys.length ≤ i)⟩
theorem turn_zipT {P : Program} {w : World} {K : PySem.W.Frag} {nm : Str} {tp : Pos} (a b z TI TO i1 i2 : Addr) (D : ZipApart z TI TO i1 i2 a b) :
    Turn P w K (.Name nm tp) (Itzt K a b) [z, TI, TO, i1, i2] z (fun i h => (∃ f0 f1, F0 f0 ∧ Zp h z TI TO f0 f1) ∧ IsPair h TI (.ref i1) (.ref i2) ∧ (∃ c d, IsPair h TO c d) ∧ h.IsTupleIter i1 a i ∧ h.IsListIter i2 b i) where
  mem := by simp
  obj := fun i h st c hc => by
    obtain ⟨⟨f0, f1, _, hz⟩, hTI, ⟨u, v, hTO⟩, ⟨o1, e1, _, d1⟩, ⟨o2, e2, _, d2⟩⟩ := st
    have hc : c = z ∨ c = TI ∨ c = TO ∨ c = i1 ∨ c = i2 := by simpa using hc
    rcases hc with rfl | rfl | rfl | rfl | rfl
    · exact ⟨_, hz, fun v q => by cases q⟩
    · exact ⟨_, hTI, fun v q => by cases q⟩
    · exact ⟨_, hTO, fun v q => by cases q⟩
    · exact ⟨_, e1, fun v q => by rw [d1] at q; cases q⟩
    · exact ⟨_, e2, fun v q => by rw [d2] at q; cases q⟩
  keep := fun i h h' st k => by
    obtain ⟨⟨f0, f1, hf, hz⟩, hTI, ⟨u, v, hTO⟩, h1, h2⟩ := st
    exact ⟨⟨f0, f1, hf, k z (by simp) _ hz⟩, k TI (by simp) _ hTI, ⟨u, v, k TO (by simp) _ hTO⟩, h1.at fun o e => k i1 (by simp) o e, h2.at fun o e => k i2 (by simp) o e⟩
  item := by
    intro X hP hw hK hc i pins s σ H E I hf st hg
    subst hP hw hK
    obtain ⟨⟨f0, f1, hf0, hz⟩, hTI, ⟨ta, tb, hTO⟩, h1, h2⟩ := st
    obtain ⟨xs, ys, x, y, hqa, hqb, hx, hy⟩ := hg
    obtain ⟨its, rv, pa, _⟩ := I.tuple hqa
    obtain ⟨jts, rw', pb, _⟩ := I.list hqb
    obtain ⟨u, hu, ru⟩ := rv.get hx
    obtain ⟨v, hv, rv'⟩ := rw'.get hy
    refine zip_next_typed ⟨_, hz, rfl⟩ (zpt_item D hf0 hz hTI hTO h1 h2 (show s.heap.IsTuple a its.toArray from pa) pb.isList (x := u) (y := v) (by simpa using hu) (by simpa using hv) fun h' f0' f1' hf' hz' hTO' j1 j2 hpr k => ⟨_, rfl, ?_⟩)
    refine wpAny_pure (s := { s with heap := h' }) ?_
    have hp : H s.heap.objs.size = none := I.hok.fresh (Nat.le_refl _)
    have fr : ∀ c ∈ [z, TI, TO, i1, i2], H c = none := fun c hc => (hf c hc).1
    have nit : ∀ c o, H c = some o → c ≠ z ∧ c ≠ TO ∧ c ≠ i1 ∧ c ≠ i2 := fun c o q => by
      refine ⟨?_, ?_, ?_, ?_⟩ <;> (intro e; rw [e, fr _ (by simp)] at q; cases q)
    have up : ∀ c o, H c = some o → upd H s.heap.objs.size (.tup [x, y]) c = some o := fun c o q => by rw [upd_ne (ne_of_none q hp)]; exact q
    have kk : ∀ c o, c ∉ [z, TO, i1, i2] → s.heap.get? c = some o → h'.get? c = some o := fun c o n q => k c o (fun e => n (by simp [e])) (fun e => n (by simp [e])) (fun e => n (by simp [e])) (fun e => n (by simp [e])) q
    have mem5 : ∀ c ∈ [z, TO, i1, i2], c ∈ [z, TI, TO, i1, i2] := fun c hc => by simp at hc ⊢; rcases hc with e | e | e | e <;> simp [e]
    have hlt : ∀ c ∈ [z, TI, TO, i1, i2], c < s.heap.objs.size := fun c hc => by
      have hc : c = z ∨ c = TI ∨ c = TO ∨ c = i1 ∨ c = i2 := by simpa using hc
      rcases hc with rfl | rfl | rfl | rfl | rfl
      · exact Heap.lt_size hz
      · exact Heap.lt_size hTI
      · exact Heap.lt_size hTO
      · obtain ⟨o, e, _⟩ := h1; exact Heap.lt_size e
      · obtain ⟨o, e, _⟩ := h2; exact Heap.lt_size e
    have I1 : Inv X pins σ (upd H s.heap.objs.size (.tup [x, y])) { s with heap := h', gens := s.gens, drawn := s.drawn, toks := s.toks } := by
      refine I.step (g' := s.gens) (d' := s.drawn) (ch := [z, TO, i1, i2]) (fun c hc => ?_) (fun c o _ _ n q _ => kk c o n q) (fun c o _ _ n q _ => ⟨o.slots, kk c o n q⟩) (fun c o _ q n => ?_) (fun c o n q => ⟨o, kk c o n q⟩) (fun c ys q => up c _ q) (fun c o v q => up c _ q) (fun c ps q => ⟨#[], by rw [up c _ q]; simp⟩) (fun m hm => ?_) (fun c o q => ?_) I.bare
      · obtain ⟨_, g1, _, g3, g4, g5⟩ := hf c (mem5 c hc)
        exact ⟨g3, g1, g4, g5⟩
      · rw [upd_ne (Nat.ne_of_lt (Heap.lt_size q))]; exact n
      · obtain ⟨o, es, ep, ho, r⟩ := hm
        refine ⟨o, es, ep, kk _ o (fun n => ?_) ho, r⟩
        exact (hf _ (mem5 _ n)).2.1 rfl
      · by_cases hb : c = s.heap.objs.size
        · subst hb
          rw [upd_same] at q
          have q' : HO.tup [x, y] = o := Option.some.inj q
          subst q'
          exact ⟨by show 2 ≤ sizeLine; decide, [u, v], .cons ru (.cons rv' .nil), ⟨_, hpr, rfl, _, rfl, rfl⟩⟩
        · rw [upd_ne hb] at q
          refine (I.hok c o q).stay (fun d o' hd q' => ?_) (fun d q => up d _ q) fun d ys q => up d _ q
          rcases hd with e | e
          · rw [e] at q' ⊢; obtain ⟨n1, n2, n3, n4⟩ := nit c o q; exact k c o' n1 n2 n3 n4 q'
          · obtain ⟨n1, n2, n3, n4⟩ := nit d _ e; exact k d o' n1 n2 n3 n4 q'
    refine ⟨.ref s.heap.objs.size, upd H s.heap.objs.size (.tup [x, y]), I1, rfl, ⟨_, x, y, hp, rfl, fun zs hz => by rw [I.tuple_inj hz hqa]; exact hx, fun zs hz => by rw [I.list_inj hz hqb]; exact hy, rfl⟩, ⟨⟨f0', f1', hf', hz'⟩, ?_, hTO', j1, j2⟩, fun c hc => ?_⟩
    · exact k TI _ D.TIz D.TITO D.TIi1 D.TIi2 hTI
    · rw [upd_ne (Nat.ne_of_lt (hlt c hc))]; exact fr c hc
  done := by
    intro X hP hw hK hc i pins s σ H E I hf st hg
    subst hP hw hK
    obtain ⟨⟨f0, f1, hf0, hz⟩, hTI, ⟨ta, tb, hTO⟩, h1, h2⟩ := st
    obtain ⟨xs, ys, hqa, hqb, hxy⟩ := hg
    obtain ⟨its, rv, pa, _⟩ := I.tuple hqa
    obtain ⟨jts, rw', pb, _⟩ := I.list hqb
    have l1 := rv.length
    have l2 := rw'.length
    have hend : its.toArray[i]? = none ∨ jts.toArray[i]? = none := by
      rcases hxy with q | q
      · exact .inl (by simp; omega)
      · exact .inr (by simp; omega)
    refine zip_next_typed ⟨_, hz, rfl⟩ (zpt_end (A := X.A.in1) (show X.A.in1.handled = none from I.ok.hd hc) D hf0 hz hTI hTO h1 h2 (show s.heap.IsTuple a its.toArray from pa) pb.isList hend fun h' e k he => ⟨he, ⟨e, rfl⟩, rfl, ?_⟩)
    have fr : ∀ c ∈ [z, TI, TO, i1, i2], H c = none := fun c hc => (hf c hc).1
    have nit : ∀ c o, H c = some o → c ≠ z ∧ c ≠ TO ∧ c ≠ i1 ∧ c ≠ i2 := fun c o q => by
      refine ⟨?_, ?_, ?_, ?_⟩ <;> (intro e; rw [e, fr _ (by simp)] at q; cases q)
    have kk : ∀ c o, c ∉ [z, TO, i1, i2] → s.heap.get? c = some o → h'.get? c = some o := fun c o n q => k c o (fun e => n (by simp [e])) (fun e => n (by simp [e])) (fun e => n (by simp [e])) (fun e => n (by simp [e])) q
    have mem5 : ∀ c ∈ [z, TO, i1, i2], c ∈ [z, TI, TO, i1, i2] := fun c hc => by simp at hc ⊢; rcases hc with e | e | e | e <;> simp [e]
    refine I.step (h' := h') (g' := s.gens) (d' := s.drawn) (t' := s.toks) (ch := [z, TO, i1, i2]) (fun c hc => ?_) (fun c o _ _ n q _ => kk c o n q) (fun c o _ _ n q _ => ⟨o.slots, kk c o n q⟩) (fun c o _ q n => n) (fun c o n q => ⟨o, kk c o n q⟩) (fun c ys q => q) (fun c o v q => q) (fun c ps q => ⟨#[], by rw [q]; simp⟩) (fun m hm => ?_) (fun c o q => ?_) I.bare
    · obtain ⟨_, g1, _, g3, g4, g5⟩ := hf c (mem5 c hc)
      exact ⟨g3, g1, g4, g5⟩
    · obtain ⟨o, es, ep, ho, r⟩ := hm
      refine ⟨o, es, ep, kk _ o (fun n => ?_) ho, r⟩
      exact (hf _ (mem5 _ n)).2.1 rfl
    · refine (I.hok c o q).stay (fun d o' hd q' => ?_) (fun d q => q) fun d ys q => q
      rcases hd with e | e
      · rw [e] at q' ⊢; obtain ⟨n1, n2, n3, n4⟩ := nit c o q; exact k c o' n1 n2 n3 n4 q'
      · obtain ⟨n1, n2, n3, n4⟩ := nit d _ e; exact k d o' n1 n2 n3 n4 q'
  self := fun A i s Q E st h => by
    obtain ⟨⟨f0, f1, hf0, hz⟩, _⟩ := st
    have hT : s.TypeIs (.ref z) "zip" := ⟨_, hz, rfl⟩
    refine wpAny_pyIter_slot hT F.slot_zip_iter (wpAny_call_entry F.slot_zip_iter hT F.entry_zip_iter ?_ (F.args_zip_iter_1 _))
    show wpAny _ _ (ret (.ref z)) _ _ s
    exact wpAny_pure ⟨_, rfl, "zip", _, hT, F.slot_zip_next.lookup, h⟩
end L2
namespace L2
open PySem PySem.Spec PyProof.Rows
theorem Rd.same' {H H' : Hp} {a : Addr} {u : HO} (r : Rd H a u) (s : Same H H') : Rd H' a u := by
  rcases r with r | ⟨o, r⟩
  · exact .inl (s _ _ r)
  · exact .inr ⟨o, s _ _ r⟩
theorem SqT.same' {K : PySem.W.Frag} {H H' : Hp} {a : Addr} {xs : List V} (r : SqT K H a xs) (s : Same H H') : SqT K H' a xs := by
  rcases r with r | r
  · exact .inl (r.same' s)
  · exact .inr r
theorem SqL.same' {K : PySem.W.Frag} {H H' : Hp} {a : Addr} {xs : List V} (r : SqL K H a xs) (s : Same H H') : SqL K H' a xs := by
  rcases r with r | r
  · exact .inl (r.same' s)
  · exact .inr r
noncomputable def zipK (ks : List Str) (ys : List V) : List (Key × V) := (ks.map Sum.inr).zip ys
theorem call_dictZ {X : Cx} (hc : X.calm = true) (hu : X.A.units + 64 < cLine) {pins : List (Addr × Obj)} {s : Shared} {σ : St} {H : Hp} {a b z TI TO i1 i2 : Addr} {ks : List Str} {ys : List V} {Q : VK} (I : Inv X pins σ H s) (D : ZipApart z TI TO i1 i2 a b)
    (t0 : (∃ f0 f1, F0 f0 ∧ Zp s.heap z TI TO f0 f1) ∧ IsPair s.heap TI (.ref i1) (.ref i2) ∧ (∃ c d, IsPair s.heap TO c d) ∧ s.heap.IsTupleIter i1 a 0 ∧ s.heap.IsListIter i2 b 0) (hf : ∀ c ∈ [z, TI, TO, i1, i2], FpOk X pins H c)
    (hqa : SqT X.K H a (List.map V.str ks)) (hqb : SqL X.K H b ys) (hl : ks.length = ys.length) (hn : ks.length ≤ 1000) (q : ∀ l H2, H l = none → Same H H2 → H2 l = some (.dK (mkK (zipK ks ys))) → Q (.ref l) H2) :
    wpAny (model X.prog X.w) X.A (call (.type "dict") [.ref z]) (EP X pins σ Q) X.xe s := by
  have T := turn_zipT (P := X.prog) (w := X.w) (K := X.K) (nm := "x") (tp := default) a b z TI TO i1 i2 D
  have hlt : ∀ c ∈ [z, TI, TO, i1, i2], c < s.heap.objs.size := fun c hc => by
    obtain ⟨o, e, _⟩ := T.obj 0 s.heap t0 c hc
    exact Heap.lt_size e
  have zl : (zipK ks ys).length = ks.length := by unfold zipK; rw [List.length_zip, List.length_map]; omega
  refine callType_codes (Q₁ := fun ob s1 => ob = .ref s.heap.objs.size ∧ s1 = { s with heap := s.heap.push { cls := .type "dict", data := .dict #[] } }) F.kt_called_dict (F.kt_typeCall_dict_1 _) F.entry_dict_init (kt_code_dict_new _ ⟨rfl, rfl⟩) ?_
  rintro ob s1 ⟨rfl, rfl⟩
  have hfree : H s.heap.objs.size = none := I.hok.fresh (Nat.le_refl _)
  have I1 : Inv X pins σ (upd H s.heap.objs.size (.dK [])) { s with heap := s.heap.push { cls := .type "dict", data := .dict #[] } } :=
    I.laid (a := s.heap.objs.size) (o := .dK []) (t' := s.toks) (fun _ _ q => Heap.get?_push_of_some _ q) (Nat.le_refl _) (dk_empty s.heap I.big)
  have hnew : (⟨s.heap.push { cls := .type "dict", data := .dict #[] }, s.gens, s.drawn, s.toks, s.os⟩ : Shared).TypeIs (.ref s.heap.objs.size) "dict" := ⟨_, Heap.get?_push_size _ rfl, rfl⟩
  refine ⟨hnew, F.args_dict_init_2 _ _, ?_⟩
  unfold Builtin.«dict.__init__»
  refine wpAny_bind ?_
  unfold Builtin.Dict.selfAndRest
  refine wpAny_bind (wpAny_notOrdered_dict hnew ?_)
  show wpAny _ _ (pure (s.heap.objs.size, [Value.ref z])) _ _ _
  refine wpAny_pure ?_
  show wpAny _ _ (Builtin.Dict.updateFrom "dict.__init__" s.heap.objs.size (.ref z) [] .none) _ _ _
  unfold Builtin.Dict.updateFrom
  have hA : X.A.in1.in1.handled = none := I.ok.hd hc
  have t1 := T.keep 0 s.heap (s.heap.push { cls := .type "dict", data := .dict #[] }) t0 fun c _ o e => Heap.get?_push_of_some _ e
  obtain ⟨⟨f0, f1, hf0, hz⟩, _⟩ := id t1
  refine wpAny_bind (wpAny_typeOf (T := "zip") ⟨_, hz, rfl⟩ ?_)
  rw [if_pos (by decide)]
  refine wpAny_bind (nokeys_zip hz rfl rfl rfl hA fun h' tk kp => ?_)
  have I2 := I1.kept (h' := h') (t' := tk) kp
  have t2 := T.keep 0 _ h' t1 fun c _ o e => kp c o e
  refine wpAny_bind (wpAny_rule (wpAny_bind ?_))
  refine T.self X.A.in1.in1 0 { s with heap := h', toks := tk } _ _ t2 ?_
  refine wpAny_pure ⟨plainId_quiet DU.plain_loop _, ?_⟩
  refine dict_loop (nm := "x") (tp := default) T hc hu s.heap.objs.size ks.length (fun i H' => Same H H' ∧ H' s.heap.objs.size = some (.dK (mkK ((zipK ks ys).take i)))) (fun i H' hi e => ?_) (fun H' e => ?_) _ 0 0 _ _ rfl (Nat.zero_le _) I2 (fun c hc => ?_) t2 ?_ ?_
  · obtain ⟨sm, hd⟩ := e
    have hx : (List.map V.str ks)[i]? = some (V.str ks[i]) := by simp [hi]
    have hy : ys[i]? = some (ys[i]'(by omega)) := List.getElem?_eq_getElem (by omega)
    refine ⟨⟨_, _, _, _, hqa.same' sm, hqb.same' sm, hx, hy⟩, fun x H1 yl => ?_⟩
    obtain ⟨p, u, v, hp, rfl, hu1, hv1, rfl⟩ := yl
    have e1 : V.str ks[i] = u := Option.some.inj (hx.symm.trans (hu1 _ (hqa.same' sm)))
    have e2 : ys[i]'(by omega) = v := Option.some.inj (hy.symm.trans (hv1 _ (hqb.same' sm)))
    subst e1 e2
    have npl : s.heap.objs.size ≠ p := ne_of_none hd hp
    have hzk : (zipK ks ys)[i]? = some (.inr ks[i], ys[i]'(by omega)) := by
      unfold zipK
      rw [List.getElem?_zip_eq_some]
      exact ⟨by simp [hi], hy⟩
    have hkl : (mkK ((zipK ks ys).take i)).length < sizeLine := by
      have := mkK_le ((zipK ks ys).take i)
      rw [List.length_take] at this
      exact small1000 (by omega)
    refine ⟨p, V.str ks[i], _, _, rfl, .of upd_same, DPut.k (k := .inr ks[i]) (by rw [upd_ne npl]; exact hd) hkl, fun c o hc => ?_, ?_⟩
    · have h1 := sm c o hc
      rw [upd_ne (ne_of_none hc hfree), upd_ne (ne_of_none h1 hp)]
      exact h1
    · rw [upd_same, mkK_take _ i _ hzk]
  · obtain ⟨sm, hd⟩ := e
    exact ⟨_, _, hqa.same' sm, hqb.same' sm, .inl (by rw [List.length_map]; exact Nat.le_refl _)⟩
  · obtain ⟨g0, g1, g2, g3, g4, g5⟩ := hf c hc
    exact ⟨by rw [upd_ne (Nat.ne_of_lt (hlt c hc))]; exact g0, g1, g2, g3, g4, g5⟩
  · exact ⟨Same.new hfree, by rw [upd_same]; rfl⟩
  · intro H' s' I' e
    obtain ⟨sm, hd⟩ := e
    rw [← zl, List.take_of_length_le (Nat.le_refl _)] at hd
    exact ⟨rfl, .ref _, _, I', rfl, q _ _ hfree sm hd⟩
noncomputable def tDZip (K : PySem.W.Frag) (ta : TA) : TE := fun σ H Q => ta σ H fun vs H1 => ∃ a b ks ys, vs = [.ref a, .ref b] ∧ SqT K H1 a (List.map V.str ks) ∧ SqL K H1 b ys ∧ ks.length = ys.length ∧ ks.length ≤ 1000 ∧ ∀ l H2, H1 l = none → Same H1 H2 → H2 l = some (.dK (mkK (zipK ks ys))) → Q (.ref l) H2
theorem pe_dzip (K : PySem.W.Frag) {X : Cx} {a b : Expr} {ta : TA} {p p2 pos pos2 : Pos} (hc : X.calm = true) (hu : X.A.units + 64 < cLine) (B : Blt X.mg) (hm : X.mg "zip" = none) (ha : PA X [a, b] ta) (hgd : Gl X "dict" := by rfl) (hgz : Gl X "zip" := by rfl)
    (he : starEach [.Call (.Name "zip" p2) [a, b] [] pos2] X.env = (false, eval (.Call (.Name "zip" p2) [a, b] [] pos2) X.env) :: starEach [] X.env := by rfl) (hpl : (backTo pos (starEach [] X.env)).any (·.1) = false := by rfl)
    (hs : starEach [a, b] X.env = (false, eval a X.env) :: starEach [b] X.env := by rfl) (hp2 : (backTo pos2 (starEach [b] X.env)).any (·.1) = false := by rfl) (hK : X.K = K := by rfl) :
    PE X (.Call (.Name "dict" p) [.Call (.Name "zip" p2) [a, b] [] pos2] [] pos) (tDZip K ta) := by
  subst hK
  intro pins s σ H Q I h
  refine wpAny_Call_Name_kw (ld_blt I hgd B.dict (show bootBuiltins "dict" = some (.type "dict") by decide +kernel) ?_ (by decide) (by decide))
  refine PyProof.Rows.callWith_type1 ?_ he hpl
  rw [he]
  show wpAny _ _ (spliced ((false, eval (.Call (.Name "zip" p2) [a, b] [] pos2) X.env) :: backTo pos (starEach [] X.env))) _ _ s
  refine Calls.spliced_cons ?_
  refine Call_ (ld_blt I hgz hm (show bootBuiltins "zip" = some (.type "zip") by decide +kernel) (PyProof.Rows.callWith_type1 (thn (ha pos2 pins s σ H _ I h) fun us s1 ⟨vs, H1, I1, r1, q1⟩ => ?_) hs hp2))
  obtain ⟨l, m, ks, ys, rfl, hqa, hqb, hl, hn, q⟩ := q1
  obtain ⟨u1, u2, rfl, r1, r2⟩ := vals2 r1
  cases r1
  cases r2
  obtain ⟨its, rv, pa, _⟩ := I1.tuple hqa
  obtain ⟨jts, rw', pb, _⟩ := I1.list hqb
  have a1 : l < s1.heap.objs.size := by obtain ⟨_, e, _⟩ := pa; exact Heap.lt_size e
  have a2 : m < s1.heap.objs.size := by obtain ⟨_, e, _⟩ := pb.isList; exact Heap.lt_size e
  refine call_zipT (show s1.heap.IsTuple l its.toArray from pa) pb.isList fun h' hz hTI hTO hi1 hi2 hk => ?_
  refine Calls.spliced_nil ?_
  have I2 := I1.kept (t' := s1.toks) hk
  refine call_dictZ hc hu I2 (zipApart_new a1 a2) ⟨⟨_, _, .inl rfl, hz⟩, hTI, ⟨_, _, hTO⟩, hi1, hi2⟩ (fun c hc => ?_) hqa hqb hl hn q
  have hb : c = s1.heap.objs.size + 4 ∨ c = s1.heap.objs.size + 2 ∨ c = s1.heap.objs.size + 3 ∨ c = s1.heap.objs.size ∨ c = s1.heap.objs.size + 1 := by simpa using hc
  have hle : s1.heap.objs.size ≤ c := by rcases hb with e | e | e | e | e <;> rw [e] <;> first | exact Nat.le_refl _ | exact Nat.le_add_right _ _
  exact I1.fpOk hle (I1.hok.fresh hle)
end L2
namespace MG
noncomputable def Ris (es : List (Nat × Nat)) : Prop := ∃ r : Nat → Nat, ∀ e ∈ es, r e.1 < r e.2
theorem Ris.noring {es : List (Nat × Nat)} (h : Ris es) : ∀ e ∈ es, ¬ RingAt es e := by
  obtain ⟨r, hr⟩ := h
  have key : ∀ k x y, Walk (Arr (swp es)) k x y → r y ≤ r x := by
    intro k
    induction k with
    | zero => intro x y w; have e : y = x := by first | exact w | exact w.symm
              rw [e]; exact Nat.le_refl _
    | succ k ih =>
      intro x y w
      obtain ⟨z, w1, w2⟩ := w
      first
        | (have h1 := ih x z w1
           have h2 := hr (y, z) (mem_swp.mp w2)
           have h2 : r y < r z := h2
           omega)
        | (have h1 := ih z y w2
           have h2 := hr (z, x) (mem_swp.mp w1)
           have h2 : r z < r x := h2
           omega)
  intro e he ⟨k, d⟩
  have h1 := key k e.1 e.2 d.1
  have h2 := hr e he
  omega
structure IsL (es : List (Nat × Nat)) (n : Nat) (L : Nat → Nat) : Prop where
  up : ∀ e ∈ es, L e.1 + 1 ≤ L e.2
  eq : ∀ v, v < n → L v = 0 ∨ ∃ u, (u, v) ∈ es ∧ L v = L u + 1
theorem nodup_le {l : List Nat} {n : Nat} (nd : l.Nodup) (h : ∀ x ∈ l, x < n) : l.length ≤ n := by
  have key : ∀ (l ws : List Nat), l.Nodup → (∀ x ∈ l, x ∈ ws) → l.length ≤ ws.length := by
    intro l
    induction l with
    | nil => intro ws _ _; exact Nat.zero_le _
    | cons s r ih =>
      intro ws nd hm
      obtain ⟨h1, h2⟩ := List.nodup_cons.mp nd
      have p := (List.perm_cons_erase (hm s (by simp))).length_eq
      rw [List.length_cons] at p ⊢
      have := ih (ws.erase s) h2 fun x hx => (List.mem_erase_of_ne (fun z : x = s => h1 (z ▸ hx))).mpr (hm x (List.mem_cons_of_mem _ hx))
      omega
  have := key l (List.range n) nd fun x hx => List.mem_range.mpr (h x hx)
  rwa [List.length_range] at this
theorem IsL.lt {es : List (Nat × Nat)} {n : Nat} {L : Nat → Nat} (h : IsL es n L) (val : ∀ e ∈ es, e.1 < n ∧ e.2 < n) : ∀ v, v < n → L v < n := by
  have key : ∀ k v, v < n → L v = k → ∃ f : Nat → Nat, ∀ j, j ≤ k → f j < n ∧ L (f j) = j := by
    intro k
    induction k with
    | zero => intro v hv e; exact ⟨fun _ => v, fun j hj => ⟨hv, by rw [e]; omega⟩⟩
    | succ k ih =>
      intro v hv e
      rcases h.eq v hv with q | ⟨u, hu, q⟩
      · omega
      · obtain ⟨f, hf⟩ := ih u (val _ hu).1 (by omega)
        refine ⟨fun j => if j = k + 1 then v else f j, fun j hj => ?_⟩
        by_cases q : j = k + 1
        · simp only [if_pos q]; exact ⟨hv, by rw [e, q]⟩
        · simp only [if_neg q]; exact hf j (by omega)
  intro v hv
  obtain ⟨f, hf⟩ := key (L v) v hv rfl
  have nd : ((List.range (L v + 1)).map f).Nodup := by
    rw [List.Nodup, List.pairwise_map]
    refine List.Pairwise.imp_of_mem (fun {a b} ha hb hab z => hab ?_) (List.nodup_range (n := L v + 1))
    have h1 := (hf a (by have := List.mem_range.mp ha; omega)).2
    have h2 := (hf b (by have := List.mem_range.mp hb; omega)).2
    rw [← h1, ← h2, z]
  have := nodup_le nd fun x hx => by
    obtain ⟨j, hj, rfl⟩ := List.mem_map.mp hx
    exact (hf j (by have := List.mem_range.mp hj; omega)).1
  rw [List.length_map, List.length_range] at this
  omega
noncomputable def Grown (es : List (Nat × Nat)) (ks : List Nat) : Prop := ∀ i v, ks[i]? = some v → ∀ u, (u, v) ∈ es → u ∈ ks.take i
theorem Grown.nil {es : List (Nat × Nat)} : Grown es [] := fun i v h => by simp at h
theorem Grown.snoc {es : List (Nat × Nat)} {ks : List Nat} {v : Nat} (h : Grown es ks) (hv : ∀ u, (u, v) ∈ es → u ∈ ks) : Grown es (ks ++ [v]) := by
  intro i x hx u hu
  by_cases hi : i < ks.length
  · rw [List.getElem?_append_left hi] at hx
    rw [List.take_append_of_le_length (Nat.le_of_lt hi)]
    exact h i x hx u hu
  · have hl := (List.getElem?_eq_some_iff.mp hx).1
    rw [List.length_append] at hl
    have e : i = ks.length := by have : ks.length + 1 = ks.length + [v].length := rfl; omega
    subst e
    rw [List.getElem?_append_right (Nat.le_refl _), Nat.sub_self] at hx
    have e2 : v = x := Option.some.inj hx
    subst e2
    rw [List.take_append_of_le_length (Nat.le_refl _), List.take_of_length_le (Nat.le_refl _)]
    exact hv u hu
theorem due_ex {es : List (Nat × Nat)} {n : Nat} {ks : List Nat} (hf : Ris es) (val : ∀ e ∈ es, e.1 < n ∧ e.2 < n) (hl : ks.length < n) (hn : ks.Nodup) (hk : ∀ x ∈ ks, x < n) : ∃ v, v < n ∧ v ∉ ks ∧ ∀ u, (u, v) ∈ es → u ∈ ks := by
  obtain ⟨r, hr⟩ := hf
  have ex : ∃ v, v < n ∧ v ∉ ks := Classical.byContradiction fun z => by
    have all : ∀ v, v < n → v ∈ ks := fun v hv => Classical.byContradiction fun q => z ⟨v, hv, q⟩
    have key : ∀ (l ws : List Nat), l.Nodup → (∀ x ∈ l, x ∈ ws) → l.length ≤ ws.length := by
      intro l
      induction l with
      | nil => intro ws _ _; exact Nat.zero_le _
      | cons s r ih =>
        intro ws nd hm
        obtain ⟨h1, h2⟩ := List.nodup_cons.mp nd
        have p := (List.perm_cons_erase (hm s (by simp))).length_eq
        rw [List.length_cons] at p ⊢
        have := ih (ws.erase s) h2 fun x hx => (List.mem_erase_of_ne (fun z : x = s => h1 (z ▸ hx))).mpr (hm x (List.mem_cons_of_mem _ hx))
        omega
    have := key (List.range n) ks List.nodup_range fun x hx => all x (List.mem_range.mp hx)
    rw [List.length_range] at this
    omega
  have key : ∀ m v, r v ≤ m → v < n → v ∉ ks → ∃ v, v < n ∧ v ∉ ks ∧ ∀ u, (u, v) ∈ es → u ∈ ks := by
    intro m
    induction m with
    | zero =>
      intro v hm hv hk
      refine ⟨v, hv, hk, fun u hu => ?_⟩
      have := hr _ hu
      have : r u < r v := this
      omega
    | succ m ih =>
      intro v hm hv hk
      by_cases q : ∀ u, (u, v) ∈ es → u ∈ ks
      · exact ⟨v, hv, hk, q⟩
      · obtain ⟨u, hu⟩ := Classical.not_forall.mp q
        obtain ⟨h1, h2⟩ := Classical.not_imp.mp hu
        have h3 : r u < r v := hr _ h1
        exact ih u (by omega) (val _ h1).1 h2
  obtain ⟨v, hv, hk⟩ := ex
  exact key (r v) v (Nat.le_refl _) hv hk
noncomputable def relax (F : List Nat) (e : Nat × Nat) : List Nat := F.set e.2 (max (F.getD e.2 0) (F.getD e.1 0 + 1))
theorem relax_len (F : List Nat) (e : Nat × Nat) : (relax F e).length = F.length := List.length_set ..
theorem relax_get (F : List Nat) (e : Nat × Nat) (v : Nat) (hv : e.2 < F.length) : (relax F e).getD v 0 = if v = e.2 then max (F.getD e.2 0) (F.getD e.1 0 + 1) else F.getD v 0 := by
  unfold relax
  rw [List.getD_eq_getElem?_getD, List.getElem?_set]
  by_cases q : v = e.2
  · subst q
    rw [if_pos rfl, if_pos rfl, if_pos hv]; rfl
  · rw [if_neg (Ne.symm q), if_neg q, List.getD_eq_getElem?_getD]
structure Lay (es : List (Nat × Nat)) (n : Nat) (L : Nat → Nat) (r j : Nat) (F : List Nat) : Prop where
  len : F.length = n
  le : ∀ v, v < n → F.getD v 0 ≤ L v
  low : ∀ v, v < n → L v ≤ r → F.getD v 0 = L v
  mid : ∀ i e, i < j → es[i]? = some e → L e.1 = r → L e.2 = r + 1 → F.getD e.2 0 = L e.2
theorem Lay.start {es : List (Nat × Nat)} {n : Nat} {L : Nat → Nat} : Lay es n L 0 0 (List.replicate n 0) := by
  have g : ∀ v, (List.replicate n 0).getD v 0 = 0 := fun v => by
    rw [List.getD_eq_getElem?_getD, List.getElem?_replicate]
    by_cases q : v < n
    · rw [if_pos q]; rfl
    · rw [if_neg q]; rfl
  exact ⟨List.length_replicate, fun v _ => by rw [g]; omega, fun v _ h => by rw [g]; omega, fun i e h => by omega⟩
theorem Lay.step {es : List (Nat × Nat)} {n : Nat} {L : Nat → Nat} {r j : Nat} {F : List Nat} {e : Nat × Nat} (h : Lay es n L r j F) (hL : IsL es n L) (val : ∀ e ∈ es, e.1 < n ∧ e.2 < n) (he : es[j]? = some e) : Lay es n L r (j + 1) (relax F e) := by
  have hm := List.mem_of_getElem? he
  obtain ⟨v1, v2⟩ := val e hm
  have up := hL.up e hm
  have g := fun v => relax_get F e v (by rw [h.len]; exact v2)
  have l1 := h.le e.1 v1
  have l2 := h.le e.2 v2
  refine ⟨(relax_len F e).trans h.len, fun v hv => ?_, fun v hv hr => ?_, fun i f hi hf h1 h2 => ?_⟩
  · rw [g]
    by_cases q : v = e.2
    · subst q; rw [if_pos rfl]; omega
    · rw [if_neg q]; exact h.le v hv
  · rw [g]
    by_cases q : v = e.2
    · subst q
      have := h.low e.2 hv hr
      rw [if_pos rfl]; omega
    · rw [if_neg q]; exact h.low v hv hr
  · rw [g]
    by_cases q : f.2 = e.2
    · rw [if_pos q]
      by_cases hij : i < j
      · have := h.mid i f hij hf h1 h2
        rw [q] at this h2 ⊢
        omega
      · have hi : i = j := by omega
        subst hi
        have ef : f = e := Option.some.inj (hf.symm.trans he)
        subst ef
        have := h.low f.1 v1 (by omega)
        omega
    · rw [if_neg q]
      by_cases hij : i < j
      · exact h.mid i f hij hf h1 h2
      · have hi : i = j := by omega
        subst hi
        have ef : f = e := Option.some.inj (hf.symm.trans he)
        exact absurd (by rw [ef]) q
theorem Lay.round {es : List (Nat × Nat)} {n : Nat} {L : Nat → Nat} {r : Nat} {F : List Nat} (h : Lay es n L r es.length F) (hL : IsL es n L) : Lay es n L (r + 1) 0 F := by
  refine ⟨h.len, h.le, fun v hv hr => ?_, fun i e hi => by omega⟩
  by_cases q : L v ≤ r
  · exact h.low v hv q
  · have e : L v = r + 1 := by omega
    rcases hL.eq v hv with z | ⟨u, hu, z⟩
    · omega
    · obtain ⟨i, hi⟩ := List.getElem?_of_mem hu
      have hil := (List.getElem?_eq_some_iff.mp hi).1
      exact h.mid i (u, v) hil hi (show L u = r by omega) e
theorem Lay.all {es : List (Nat × Nat)} {n : Nat} {L : Nat → Nat} {F : List Nat} (h : Lay es n L n 0 F) (hL : IsL es n L) (val : ∀ e ∈ es, e.1 < n ∧ e.2 < n) : F = (List.range n).map L := by
  apply List.ext_getElem
  · rw [h.len, List.length_map, List.length_range]
  · intro i h1 h2
    rw [List.getElem_map, List.getElem_range]
    have hi : i < n := by rw [← h.len]; exact h1
    have := h.low i hi (Nat.le_of_lt (hL.lt val i hi))
    rw [List.getD_eq_getElem?_getD, List.getElem?_eq_getElem h1] at this
    exact this
end MG
namespace L2
open PySem PySem.Spec PyProof.Rows
section
variable {X : Cx} {p pos : Pos} {e : Expr} {t : TA}
noncomputable def rLenR : List V → Hp → VK → Prop := fun xs H Q => ∃ a kvs, xs = [V.ref a] ∧ Rd H a (.dK kvs) ∧ Q (.int kvs.length) H
theorem b_lenR (B : Blt X.mg) (ha : PA X [e] t) (hg : Gl X "len" := by rfl) (he : starEach [e] X.env = (false, eval e X.env) :: starEach [] X.env := by rfl) (hpl : (backTo pos (starEach [] X.env)).any (·.1) = false := by rfl) : PE X (.Call (.Name "len" p) [e] [] pos) (tCB rLenR t) := by
  refine pe_callB (r := rLenR) (fun pins s σ H xs us Q I r h => ?_) hg B.len PySem.boot_len ha (by decide) (by decide) he hpl
  obtain ⟨a, kvs, rfl, hr, q⟩ := h
  obtain ⟨u, rfl, ru⟩ := vals1 r
  cases ru
  exact d_len I hr fun t s' I' => ⟨.int kvs.length, H, I', ⟨t, rfl⟩, q⟩
end
noncomputable def TabK (H : Hp) (kvs : List (Key × V)) (ss : List Str) (f : Str → List Str) : Prop := kvs.map (·.1) = ss.map Sum.inr ∧ ∀ s ∈ ss, ∃ l, valV kvs (.inr s) = some (.ref l) ∧ H l = some (.lst (List.map V.str (f s)))
theorem TabK.keep {H H' : Hp} {kvs : List (Key × V)} {ss : List Str} {f : Str → List Str} (h : TabK H kvs ss f) (k : ∀ b xs, H b = some (.lst xs) → H' b = some (.lst xs)) : TabK H' kvs ss f :=
  ⟨h.1, fun s hs => let ⟨l, a, b⟩ := h.2 s hs; ⟨l, a, k _ _ b⟩⟩
theorem TabK.same {H H' : Hp} {kvs : List (Key × V)} {ss : List Str} {f : Str → List Str} (h : TabK H kvs ss f) (s : Same H H') : TabK H' kvs ss f := h.keep fun b xs e => s _ _ e
theorem TabK.len {H : Hp} {kvs : List (Key × V)} {ss : List Str} {f : Str → List Str} (h : TabK H kvs ss f) : kvs.length = ss.length := by
  have := congrArg List.length h.1
  rwa [List.length_map, List.length_map] at this
theorem TabK.at {H : Hp} {kvs : List (Key × V)} {ss : List Str} {f : Str → List Str} (h : TabK H kvs ss f) {i : Nat} {kv : Key × V} (e : kvs[i]? = some kv) : ∃ s, ss[i]? = some s ∧ kv.1 = .inr s := by
  have := congrArg (fun l => l[i]?) h.1
  simp only [List.getElem?_map, e, Option.map_some] at this
  cases q : ss[i]? with
  | none => rw [q] at this; cases this
  | some s => rw [q] at this; exact ⟨s, rfl, Option.some.inj this⟩
theorem putK_snoc {kvs : List (Key × V)} {k : Key} {v : V} (h : k ∉ kvs.map (·.1)) : putK kvs k v = kvs ++ [(k, v)] := by
  unfold putK
  rw [if_neg]
  intro z
  obtain ⟨kv, hm, e⟩ := List.any_eq_true.mp z
  exact h (List.mem_map.mpr ⟨kv, hm, of_decide_eq_true e⟩)
theorem valV_mem {kvs : List (Key × V)} {k : Key} : (valV kvs k).isSome = true ↔ k ∈ kvs.map (·.1) := by
  rw [← valV_any, List.any_eq_true, List.mem_map]
  exact ⟨fun ⟨kv, hm, e⟩ => ⟨kv, hm, of_decide_eq_true e⟩, fun ⟨kv, hm, e⟩ => ⟨kv, hm, decide_eq_true e⟩⟩
theorem mkK_zip : ∀ (ks : List Str) (ys : List V), ks.Nodup → mkK (zipK ks ys) = zipK ks ys := by
  have key : ∀ (ks : List Str) (ys : List V) (m : List (Key × V)), ks.Nodup → (∀ k ∈ ks, (Sum.inr k : Key) ∉ m.map (·.1)) → (zipK ks ys).foldl (fun m q => putK m q.1 q.2) m = m ++ zipK ks ys := by
    intro ks
    induction ks with
    | nil => intro ys m _ _; unfold zipK; simp
    | cons k ks ih =>
      intro ys m nd hm
      cases ys with
      | nil => unfold zipK; simp
      | cons y ys =>
        obtain ⟨h1, h2⟩ := List.nodup_cons.mp nd
        have e : zipK (k :: ks) (y :: ys) = (.inr k, y) :: zipK ks ys := rfl
        rw [e, List.foldl_cons]
        show List.foldl _ (putK m (.inr k) y) _ = _
        rw [putK_snoc (hm k (by simp)), ih ys _ h2 (fun x hx => ?_)]
        · simp
        · rw [List.map_append, List.mem_append]
          rintro (z | z)
          · exact hm x (List.mem_cons_of_mem _ hx) z
          · have : (Sum.inr x : Key) = Sum.inr k := by simpa using z
            exact h1 (Sum.inr.inj this ▸ hx)
  intro ks ys nd
  unfold mkK
  rw [key ks ys [] nd (fun k _ h => by cases h)]
  rfl
theorem valV_zip : ∀ {ks : List Str} {ys : List V} {i : Nat} {k : Str} {y : V}, ks.Nodup → ks[i]? = some k → ys[i]? = some y → valV (zipK ks ys) (.inr k) = some y
  | [], _, _, _, _, _, h, _ => by simp at h
  | k :: ks, [], _, _, _, _, _, h => by simp at h
  | k :: ks, y :: ys, 0, k', y', nd, h1, h2 => by
    have e1 : k = k' := by simpa using h1
    have e2 : y = y' := by simpa using h2
    subst e1 e2
    exact valV_pos (p := (Sum.inr k, y)) rfl
  | k :: ks, y :: ys, i + 1, k', y', nd, h1, h2 => by
    obtain ⟨n1, n2⟩ := List.nodup_cons.mp nd
    have h1 : ks[i]? = some k' := by simpa using h1
    have h2 : ys[i]? = some y' := by simpa using h2
    have ne : ¬ (Sum.inr k : Key) = Sum.inr k' := fun z => n1 (by rw [Sum.inr.inj z]; exact List.mem_of_getElem? h1)
    show valV ((Sum.inr k, y) :: zipK ks ys) _ = _
    rw [valV_neg ne]
    exact valV_zip n2 h1 h2
theorem once2 {G : Prop} {T C : Nat → Hp → Prop} (m : (∀ y HC, C y HC → T y HC) → G) (t : ∀ y HC, C y HC → T y HC) : G := m t
end L2
namespace MG
structure IsD (es : List (Nat × Nat)) (W D : Nat → Int) : Prop where
  ge : ∀ v, W v ≤ D v
  up : ∀ e ∈ es, D e.1 + W e.2 ≤ D e.2
  eq : ∀ v, D v = W v ∨ ∃ u, (u, v) ∈ es ∧ D v = D u + W v
noncomputable def mx : List Int → Int
  | [] => 0
  | x :: l => max x (mx l)
theorem mx_nn : ∀ l, 0 ≤ mx l
  | [] => Int.le_refl 0
  | x :: l => by have := mx_nn l; show 0 ≤ max x (mx l); omega
theorem mx_up : ∀ {l : List Int} {x : Int}, x ∈ l → x ≤ mx l
  | y :: l, x, h => by
    show x ≤ max y (mx l)
    rcases List.mem_cons.mp h with rfl | h
    · omega
    · have := mx_up h; omega
theorem mx_eq : ∀ l : List Int, mx l = 0 ∨ mx l ∈ l
  | [] => .inl rfl
  | y :: l => by
    show max y (mx l) = 0 ∨ max y (mx l) ∈ y :: l
    by_cases q : mx l ≤ y
    · rw [show max y (mx l) = y by omega]; exact .inr (by simp)
    · rw [show max y (mx l) = mx l by omega]
      rcases mx_eq l with h | h
      · exact .inl h
      · exact .inr (List.mem_cons_of_mem _ h)
noncomputable def dp (es : List (Nat × Nat)) (W : Nat → Int) : Nat → Nat → Int
  | 0, _ => 0
  | k + 1, v => W v + mx ((es.filter fun e => decide (e.2 = v)).map fun e => dp es W k e.1)
theorem dp_st {es : List (Nat × Nat)} {W : Nat → Int} {r : Nat → Nat} (hr : ∀ e ∈ es, r e.1 < r e.2) : ∀ k m v, r v < k → r v < m → dp es W k v = dp es W m v := by
  intro k
  induction k with
  | zero => intro m v h; omega
  | succ k ih =>
    intro m v h1 h2
    cases m with
    | zero => omega
    | succ m =>
      show W v + mx _ = W v + mx _
      congr 2
      refine List.map_congr_left fun e he => ?_
      obtain ⟨a, b⟩ := List.mem_filter.mp he
      have b : e.2 = v := of_decide_eq_true b
      have := hr e a
      rw [b] at this
      exact ih m e.1 (by omega) (by omega)
theorem depth_ex {es : List (Nat × Nat)} (h : Ris es) (W : Nat → Int) : ∃ D, IsD es W D := by
  obtain ⟨r, hr⟩ := h
  have e : ∀ v, dp es W (r v + 1) v = W v + mx ((es.filter fun e => decide (e.2 = v)).map fun e => dp es W (r e.1 + 1) e.1) := by
    intro v
    show W v + mx _ = W v + mx _
    congr 2
    refine List.map_congr_left fun e he => ?_
    obtain ⟨a, b⟩ := List.mem_filter.mp he
    have b : e.2 = v := of_decide_eq_true b
    have := hr e a
    rw [b] at this
    exact dp_st hr _ _ e.1 (by omega) (by omega)
  refine ⟨fun v => dp es W (r v + 1) v, fun v => ?_, fun a ha => ?_, fun v => ?_⟩
  · rw [e v]; have := mx_nn ((es.filter fun e => decide (e.2 = v)).map fun e => dp es W (r e.1 + 1) e.1); omega
  · rw [e a.2]
    have := mx_up (l := (es.filter fun e => decide (e.2 = a.2)).map fun e => dp es W (r e.1 + 1) e.1) (List.mem_map.mpr ⟨a, List.mem_filter.mpr ⟨ha, decide_eq_true rfl⟩, rfl⟩)
    omega
  · rcases mx_eq ((es.filter fun e => decide (e.2 = v)).map fun e => dp es W (r e.1 + 1) e.1) with q | q
    · exact .inl (by rw [e v, q]; omega)
    · obtain ⟨a, ha, q⟩ := List.mem_map.mp q
      obtain ⟨a1, a2⟩ := List.mem_filter.mp ha
      have a2 : a.2 = v := of_decide_eq_true a2
      refine .inr ⟨a.1, a2 ▸ a1, ?_⟩
      show dp es W (r v + 1) v = dp es W (r a.1 + 1) a.1 + W v
      have q : dp es W (r a.1 + 1) a.1 = _ := q
      rw [e v, ← q]
      omega
theorem IsD.top {es : List (Nat × Nat)} {W D : Nat → Int} (h : IsD es W D) {v : Nat} {M : Int} (h0 : 0 ≤ M) (hu : ∀ u, (u, v) ∈ es → D u ≤ M) (hm : M = 0 ∨ ∃ u, (u, v) ∈ es ∧ M = D u) : W v + M = D v := by
  have a1 : W v + M ≤ D v := by
    rcases hm with e | ⟨u, hh, e⟩
    · have := h.ge v; omega
    · have : D u + W v ≤ D v := h.up (u, v) hh
      omega
  have a2 : D v ≤ W v + M := by
    rcases h.eq v with e | ⟨u, hh, e⟩
    · omega
    · have := hu u hh; omega
  omega
theorem IsD.lay {es : List (Nat × Nat)} {n : Nat} {W D : Nat → Int} (h : IsD es W D) (val : ∀ e ∈ es, e.1 < n ∧ e.2 < n) (hW : ∀ v, v < n → W v = 1) : IsL es n fun v => (D v - 1).toNat := by
  have g : ∀ v, v < n → (1 : Int) ≤ D v := fun v hv => by have := h.ge v; rw [hW v hv] at this; exact this
  refine ⟨fun e he => ?_, fun v hv => ?_⟩
  · have h1 := h.up e he
    rw [hW _ (val e he).2] at h1
    have := g e.1 (val e he).1
    show (D e.1 - 1).toNat + 1 ≤ (D e.2 - 1).toNat
    omega
  · rcases h.eq v with e | ⟨u, hu, e⟩
    · rw [hW v hv] at e
      exact .inl (by show (D v - 1).toNat = 0; omega)
    · rw [hW v hv] at e
      have := g u (val _ hu).1
      exact .inr ⟨u, hu, by show (D v - 1).toNat = (D u - 1).toNat + 1; omega⟩
end MG
namespace L2
open PySem PySem.Spec PyProof.Rows
section
open PySem.W PySem.Calls Builtin Builtin.ObjectAttr Builtin.Getset_descriptor
variable {K : Frag} {x C : Addr} {h : Heap} {M : Model}
variable {prog : Program} {w : World} {A : Around} {E : Value → Shared → Prop} {s : Shared}
end
end L2
namespace L2
open PySem PySem.Spec PyProof.Rows
variable {K : PySem.W.Frag} {mg : Str → Option Value} {base : Heap}
end L2
open PySem
namespace PySem.SeqAt
end PySem.SeqAt
namespace HT
open PySem PySem.Spec PyProof.Rows
variable {prog : Program} {w : World} {A : Around} {E : Value → Shared → Prop} {s : Shared}
end HT
namespace MG
variable {α : Type}
end MG
namespace L2
open PySem
noncomputable abbrev Kn := List (Str × List Str)
section
variable {us : List Str} {ks : Kn}
noncomputable abbrev tp (a : List Str) : List Str := ("" : Str) :: a
end
end L2
namespace L2
open PySem
theorem canLay_pairsN : ∀ {ps : List (Str × Str)}, (∀ e ∈ ps, Nm e.1 ∧ Nm e.2) → PyData.canLayAll0 (ps.map pairD) = true
  | [], _ => rfl
  | e :: ps, h => by
    have := h e (by simp)
    show (PyData.canLay0 (pairD e) && PyData.canLayAll0 (ps.map pairD)) = true
    rw [canLay_pairsN fun x hx => h x (List.mem_cons_of_mem _ hx)]
    show ((PyData.canLay0 (.str e.1) && (PyData.canLay0 (.str e.2) && true)) && true) = true
    rw [canLay_nm this.1, canLay_nm this.2]; rfl
theorem canLay_pairN {e : Str × Str} (h : Nm e.1 ∧ Nm e.2) : PyData.canLay0 (pairD e) = true := by
  show (PyData.canLay0 (.str e.1) && (PyData.canLay0 (.str e.2) && true)) = true
  rw [canLay_nm h.1, canLay_nm h.2]; rfl
theorem flat_strs (xs : List Str) : (List.map V.str xs).all flatV = true := by
  rw [List.all_map, List.all_eq_true]
  intro x _; rfl
theorem in_strs (x : Str) (xs : List Str) : inV (V.str x) (List.map V.str xs) = decide (x ∈ xs) := by
  rw [Bool.eq_iff_iff, decide_eq_true_iff]
  unfold inV
  rw [List.any_map, List.any_eq_true]
  constructor
  · rintro ⟨y, hy, q⟩
    have q : (y == x) = true := q
    have q : y = x := by simpa using q
    exact q ▸ hy
  · intro h
    refine ⟨x, h, ?_⟩
    show (x == x) = true
    simp
end L2
namespace MG
variable {es : List (Nat × Nat)} {s n P t L : Nat} {me par : Nat → Nat} {rw : Nat → List Nat}
end MG
open PySem
namespace PySem.SeqAt
end PySem.SeqAt
namespace HT
open PySem PySem.Spec PyProof.Rows
variable {prog : Program} {w : World} {A : Around} {E : Value → Shared → Prop} {s : Shared}
end HT
namespace L2
open PySem
noncomputable def kdO (ks : Kn) (u : Str) : List Str := ((ks.find? fun k => decide (k.1 = u)).map (·.2)).getD []
section
variable {us : List Str} {ks : Kn}
noncomputable def rd (ks : Kn) : Nat → Str → List Str
  | 0, u => [u]
  | n + 1, u => u :: (kdO ks u).flatMap (rd ks n)
noncomputable def RD (ks : Kn) (u : Str) : List Str := rd ks 61 u
end
end L2
namespace K22
open PySem L2
noncomputable def top (i : Nat) : Stmt := PySem.Challenge.pw_orderkeep_k22_longest_ways.main.body.getD i (.Pass ⟨0, 0, 0, 0⟩)
noncomputable abbrev sIsWhole : Stmt := top 5
noncomputable abbrev sNexts : Stmt := top 7
noncomputable abbrev sPriors : Stmt := top 8
noncomputable abbrev sPlaces : Stmt := top 9
noncomputable abbrev sNextsAll : Stmt := top 13
noncomputable abbrev sPriorsAll : Stmt := top 14
noncomputable abbrev sSteps : Stmt := top 15
noncomputable abbrev sRingBy : Stmt := top 17
noncomputable abbrev sRingOf : Stmt := top 18
noncomputable abbrev sRefuse : Stmt := top 19
noncomputable abbrev sAnew : Stmt := top 21
noncomputable abbrev sIsDue : Stmt := top 22
noncomputable abbrev sDeepest : Stmt := top 24
noncomputable abbrev sWeigh : Stmt := top 25
noncomputable abbrev sWholes : Stmt := top 26
noncomputable abbrev sByPl : Stmt := top 27
noncomputable abbrev sDepBy : Stmt := top 28
noncomputable abbrev sDeepA : Stmt := top 29
noncomputable abbrev sWayB : Stmt := top 30
noncomputable abbrev sWorth : Stmt := top 31
noncomputable abbrev sLongest : Stmt := top 33
noncomputable abbrev sOnes : Stmt := top 34
noncomputable abbrev sTake : Stmt := top 36
noncomputable abbrev sNames : Stmt := top 37
noncomputable abbrev sTies : Stmt := top 38
noncomputable abbrev sBuilt : Stmt := top 39
noncomputable abbrev sWeb : Stmt := top 40
noncomputable abbrev sLLayers : Stmt := top 42
noncomputable abbrev sLaw : Stmt := top 43
section
variable {P : Program} {w : World} {K : PySem.W.Frag} {mg : Str → Option Value} {base : Heap}
noncomputable def spNames (K : PySem.W.Frag) : Sp := fun vs H Q _ => ∃ (p a : Addr) (m : Nat), vs = [.ref p, .int (m : Int)] ∧ Pen K H p a ∧ m ≤ 60 ∧
  ∀ l ss H', ss.length = m → ss.Nodup → (∀ s ∈ ss, Nm s) → H' l = some (.lst (List.map V.str ss)) → l ≠ p → PenV H' p a → But p H H' → Q (.ref l) H'
theorem scTake : FnScope ["_law_pen", "_law_many", "_law_digit", "_law_at", "_law_cell", "_law_one", "_law_two"] ["_law_pen", "_law_many"] (defScope sTake) := ⟨rfl, rfl, rfl, by decide +kernel, rfl, by decide +kernel, by decide +kernel⟩
theorem two_small (x : Int) : -(2 ^ 64) < x % 2147483587 ∧ x % 2147483587 < 2 ^ 64 := by
  have h1 := Int.emod_nonneg x (show (2147483587 : Int) ≠ 0 by decide)
  have h2 := Int.emod_lt_of_pos x (show (0 : Int) < 2147483587 by decide)
  omega
theorem cell_small (x : Int) : -(2 ^ 64) < x % 2147483629 + 1 ∧ x % 2147483629 + 1 < 2 ^ 64 := by
  have h1 := Int.emod_nonneg x (show (2147483629 : Int) ≠ 0 by decide)
  have h2 := Int.emod_lt_of_pos x (show (0 : Int) < 2147483629 by decide)
  omega
theorem ok_take {f : Addr} {fd : FuncData} (F : Fun K "_law_take" "_law_take" sTake f fd) (B : Blt mg) : FnOk P w K mg base CX0 1 f fd ["_law_pen", "_law_many"] (spDraw K) := by
  refine F.ok scTake (fun vs H Q E h => ?_) (fun cdv A outer s H vs Q E hr h => ?_)
  · obtain ⟨p, a, m, rfl, _⟩ := h
    rfl
  · obtain ⟨p, a, m, rfl, ⟨⟨ns, hS⟩, i, n, hp, hi, hn⟩, hm, hm2, k⟩ := h
    have ku : ∀ (H1 : Hp) (o : HO), (∀ b, b ≠ p → H1 b = H b) → ∀ b, b ≠ p → (upd H1 p o) b = H b := fun H1 o q b n => by rw [upd_ne n]; exact q b n
    have nd := scTake.nd
    refine ⟨_, (pss_cons (ps_if (pt_cmpR op_gt (pe_ix (ix_X K hr.units) (pv 0) pe_int (fun _ _ => rfl)) pe_int (nomark _)) (pss_cons (ps_set (i := 2) nd rfl (Or.inl rfl) (pe_op op_mod (pe_ix (ix_X K hr.units) (pv 0) pe_int (fun _ _ => rfl)) (pv 1)))
      (pss_cons (ps_asg (pe_op op_fdiv (pe_ix (ix_X K hr.units) (pv 0) pe_int (fun _ _ => rfl)) (pv 1)) (pg_sub (pv 0) pe_int (set_X hr.units)))
      (pss_one (ps_ret (pv 2))))) pss_nil)
      (pss_cons (ps_set (i := 3) nd rfl (Or.inl rfl) (pe_ix (ix_X K hr.units) (pv 0) pe_int (fun _ _ => rfl)))
      (pss_cons (ps_asg (pe_op op_addX (pv 3) pe_int) (pg_sub (pv 0) pe_int (set_X hr.units)))
      (pss_cons (ps_set (i := 4) nd rfl (Or.inl rfl) pe_int)
      (pss_cons (ps_if (pt_cmpR op_gt (b_len K B (pa_cons (pe_ix (ix_X K hr.units) (pv 0) pe_int (fun _ _ => rfl)) pa_nil)) pe_int (nomark _)) (pss_one (ps_set (i := 4) nd rfl (Or.inl rfl) (pe_ix (ix_X K hr.units) (pe_ix (ix_X K hr.units) (pv 0) pe_int (fun _ _ => rfl)) (pe_op op_mod (pv 3) (b_len K B (pa_cons (pe_ix (ix_X K hr.units) (pv 0) pe_int (fun _ _ => rfl)) pa_nil))) (fun _ _ => rfl)))) pss_nil)
      (pss_cons (ps_if (PW.pt (pw_and (pt_cmpR op_ltX (pv 3) (b_len K B (pa_cons (pe_ix (ix_X K hr.units) (pv 0) pe_int (fun _ _ => rfl)) pa_nil)) (nomark _)) (pw_and1 (pt_cmpR op_ge (b_abs B (pa_cons (pv 4) pa_nil)) (pe_op op_pow pe_int pe_int) (nomark _))))) (pss_cons (ps_asg (pe_op op_fdiv (b_abs B (pa_cons (pv 4) pa_nil)) (pv 1)) (pg_sub (pv 0) pe_int (set_X hr.units)))
      (pss_one (ps_ret (pe_op op_mod (b_abs B (pa_cons (pv 4) pa_nil)) (pv 1))))) pss_nil)
      (pss_cons (ps_set (i := 5) nd rfl (Or.inl rfl) (pe_op op_mod (pe_op op_mul (pe_op op_addX (pe_op op_mod (pv 4) pe_int) pe_int) (pe_op op_addX (pe_op op_mul pe_int (pv 3)) pe_int)) pe_int))
      (pss_cons (ps_set (i := 6) nd rfl (Or.inl rfl) (pe_op op_mod (pe_op op_addX (pe_op op_addX (pe_op op_mul (pv 5) (pv 5)) (pe_op op_mul pe_int (pv 3))) pe_int) pe_int))
      (pss_one (ps_ret (pe_op op_mod (pe_op op_fdiv (pe_op op_mod (pe_op op_mul (pv 6) (pe_op op_addX (pe_op op_mod (pv 6) pe_int) pe_int)) pe_int) pe_int) (pv 1)))))))))))), ?_⟩
    refine ⟨_, rfl, .lst (.of hp) rfl ⟨_, _, rfl, rfl, _, rfl, ?_⟩⟩
    refine ite2 (fun h => ?_) (fun h => ?_)
    · refine ⟨_, rfl, .lst (.of hp) rfl ⟨_, rfl, _, _, rfl, rfl, hm, ?_⟩⟩
      refine ⟨_, rfl, .lst (.of hp) rfl ⟨_, rfl, _, _, rfl, rfl, ⟨hm, hm2⟩, ?_⟩⟩
      refine ⟨_, rfl, .lst (j := 2) hp rfl ?_⟩
      refine ⟨_, rfl, ?_⟩
      exact k _ _ (Int.emod_nonneg _ (by omega)) (Int.emod_lt_of_pos _ hm) ⟨i, n / m, upd_same, hi, Int.ediv_nonneg hn (by omega)⟩ (ku H _ fun _ _ => rfl)
    · refine ⟨_, rfl, .lst (.of hp) rfl ?_⟩
      refine ⟨_, rfl, .int ?_⟩
      refine ⟨_, rfl, .lst (j := 1) hp rfl ?_⟩
      have hp1 : (upd H p (.lst ([V.ref a, V.int i, V.int n].set 1 (V.int (i + 1))))) p = some (.lst [.ref a, .int (i + 1), .int n]) := upd_same
      have hS1 : SqL K (upd H p (.lst ([V.ref a, V.int i, V.int n].set 1 (V.int (i + 1))))) a (ns.map V.int) := hS _ But.upd
      have b1 : ∀ b, b ≠ p → (upd H p (.lst ([V.ref a, V.int i, V.int n].set 1 (V.int (i + 1))))) b = H b := ku H _ fun _ _ => rfl
      generalize upd H p (.lst ([V.ref a, V.int i, V.int n].set 1 (V.int (i + 1)))) = H1 at hp1 hS1 b1 ⊢
      have fin : ∀ c : Int, 0 ≤ c → Q (.int (c % m)) H1 := fun c hc => k _ _ (Int.emod_nonneg _ (by omega)) (Int.emod_lt_of_pos _ hm) ⟨i + 1, n, hp1, by omega, hn⟩ b1
      refine ⟨_, rfl, .lst (.of hp1) rfl ⟨_, _, rfl, Or.inl ⟨_, hS1, rfl⟩, _, _, rfl, rfl, _, rfl, ?_⟩⟩
      refine ite2 (fun h => ?a) (fun h => ?b)
      case' a =>
        have hl : (0 : Int) < ((ns.map V.int).length : Nat) := of_decide_eq_true h
        obtain ⟨c, hc⟩ := at_int (ns := ns) (j := i % ((ns.map V.int).length : Nat)) (Int.emod_nonneg _ (by omega)) (Int.emod_lt_of_pos _ hl)
        refine ⟨_, rfl, .lst (.of hp1) rfl ⟨_, rfl, _, rfl, .lst (.of hp1) rfl ⟨_, _, rfl, Or.inl ⟨_, hS1, rfl⟩, _, _, rfl, rfl, hl, .lst hS1 hc ?_⟩⟩⟩
      all_goals
        refine ⟨_, rfl, _, rfl, .lst (.of hp1) rfl ⟨_, _, rfl, Or.inl ⟨_, hS1, rfl⟩, .int ⟨_, rfl, ?_⟩⟩⟩
        refine ite2 (fun h1 => ?_) (fun h1 => ?_)
        · refine ⟨_, rfl, _, rfl, _, _, rfl, rfl, ⟨by decide, by decide, by decide⟩, _, _, rfl, rfl, _, rfl, ?_⟩
          refine ite2 (fun h2 => ?_) (fun h2 => ?_)
          · refine ⟨_, rfl, _, rfl, _, rfl, _, _, rfl, rfl, ⟨hm, hm2⟩, ?_⟩
            refine ⟨_, rfl, .lst (j := 2) hp1 rfl ?_⟩
            refine ⟨_, rfl, _, rfl, _, rfl, _, _, rfl, rfl, hm, ?_⟩
            refine k _ _ (Int.emod_nonneg _ (by omega)) (Int.emod_lt_of_pos _ hm) ⟨i + 1, _, upd_same, by omega, Int.ediv_nonneg (by split <;> omega) (by omega)⟩ (ku H1 _ b1)
          · refine ⟨_, rfl, _, _, rfl, rfl, (by show (0 : Int) < _; decide), .int ⟨_, rfl, _, _, rfl, rfl, .inl ⟨by decide, by decide⟩, .int ⟨_, _, rfl, rfl, .inl (cell_small _), _, _, rfl, rfl, (by show (0 : Int) < _; decide), ?_⟩⟩⟩
            refine ⟨_, rfl, _, rfl, _, _, rfl, rfl, .inl (fst_small _), _, rfl, _, _, rfl, rfl, .inl ⟨by decide, by decide⟩, .int (.int ⟨_, _, rfl, rfl, (by show (0 : Int) < _; decide), ?_⟩)⟩
            refine ⟨_, rfl, _, rfl, _, _, rfl, rfl, (by show (0 : Int) < _; decide), .int ⟨_, _, rfl, rfl, .inl (two_small _), _, _, rfl, rfl, (by show (0 : Int) < _; decide), _, _, rfl, rfl, ⟨by decide, by decide⟩, _, rfl, _, _, rfl, rfl, hm, ?_⟩⟩
            exact fin _ (Int.ediv_nonneg (Int.emod_nonneg _ (by decide)) (by decide))
        · refine ⟨_, rfl, _, _, rfl, rfl, (by show (0 : Int) < _; decide), .int ⟨_, rfl, _, _, rfl, rfl, .inl ⟨by decide, by decide⟩, .int ⟨_, _, rfl, rfl, .inl (cell_small _), _, _, rfl, rfl, (by show (0 : Int) < _; decide), ?_⟩⟩⟩
          refine ⟨_, rfl, _, rfl, _, _, rfl, rfl, .inl (fst_small _), _, rfl, _, _, rfl, rfl, .inl ⟨by decide, by decide⟩, .int (.int ⟨_, _, rfl, rfl, (by show (0 : Int) < _; decide), ?_⟩)⟩
          refine ⟨_, rfl, _, rfl, _, _, rfl, rfl, (by show (0 : Int) < _; decide), .int ⟨_, _, rfl, rfl, .inl (two_small _), _, _, rfl, rfl, (by show (0 : Int) < _; decide), _, _, rfl, rfl, ⟨by decide, by decide⟩, _, rfl, _, _, rfl, rfl, hm, ?_⟩⟩
          exact fin _ (Int.ediv_nonneg (Int.emod_nonneg _ (by decide)) (by decide))
end
end K22
namespace K22
open PySem L2
section
variable {P : Program} {w : World} {K : PySem.W.Frag} {mg : Str → Option Value} {base : Heap}
theorem let_at {j : Int} (h0 : 0 ≤ j) (h1 : j < 26) : atI ("abcdefghijklmnopqrstuvwxyz" : Str).cps.toList j = some (97 + j.toNat) := by
  obtain ⟨k, rfl⟩ := Int.eq_ofNat_of_zero_le h0
  have hk : k < 26 := by omega
  exact (by decide +kernel : ∀ k : Nat, k < 26 → atI ("abcdefghijklmnopqrstuvwxyz" : Str).cps.toList (k : Int) = some (97 + (k : Int).toNat)) k hk
theorem one_nm {c : Nat} (h : 97 ≤ c) (h2 : c ≤ 122) : Nm ⟨#[c]⟩ := ⟨Nat.le_refl 1, by show 1 ≤ 8; decide, fun d hd => by
  have : d = c := by simpa using hd
  omega⟩
theorem two_nm {c d : Nat} {t : Str} (hc : 97 ≤ c ∧ c ≤ 122) (hd : 97 ≤ d ∧ d ≤ 122) (ht : t.length ≤ 6) (ha : ∀ x ∈ t.cps.toList, 97 ≤ x ∧ x ≤ 122) : Nm (⟨#[c]⟩ ++ ⟨#[d]⟩ ++ t) := by
  refine ⟨?_, ?_, fun x hx => ?_⟩
  · rw [len_app, len_app]; show 1 ≤ 1 + 1 + _; omega
  · rw [len_app, len_app]; show 1 + 1 + t.length ≤ 8; omega
  · have hx : x ∈ (#[c] ++ #[d] ++ t.cps).toList := hx
    simp only [Array.toList_append, List.mem_append] at hx
    rcases hx with (hx | hx) | hx
    · have : x = c := by simpa using hx
      omega
    · have : x = d := by simpa using hx
      omega
    · exact ha x hx
theorem two_inj {c d c' d' : Nat} {t t' : Str} (h : (⟨#[c]⟩ ++ ⟨#[d]⟩ ++ t : Str) = ⟨#[c']⟩ ++ ⟨#[d']⟩ ++ t') : c = c' ∧ d = d' := by
  have h : (#[c] ++ #[d] ++ t.cps).toList = (#[c'] ++ #[d'] ++ t'.cps).toList := congrArg (fun s : Str => s.cps.toList) h
  simp only [Array.toList_append, List.cons_append, List.nil_append, List.cons.injEq] at h
  exact ⟨h.1, h.2.1⟩
noncomputable def Low (t : Str) : Prop := ∀ x ∈ t.cps.toList, 97 ≤ x ∧ x ≤ 122
theorem Low.app {x y : Str} (hx : Low x) (hy : Low y) : Low (x ++ y) := fun c hc => by
  have hc : c ∈ (x.cps ++ y.cps).toList := hc
  rw [Array.toList_append] at hc
  rcases List.mem_append.mp hc with h | h
  · exact hx c h
  · exact hy c h
theorem Low.slice {x : Str} (h : Low x) (l u : Option Int) : Low (Txt.slice x l u) := by
  unfold Txt.slice
  split
  · exact h
  · intro c hc
    have hc : c ∈ (List.filterMap (x.cps[·]?) (Builtin.Str.strSliceIndices l u 1 x.length)).toArray.toList := hc
    rw [List.toList_toArray] at hc
    obtain ⟨i, _, e⟩ := List.mem_filterMap.mp hc
    exact h c (by simpa using Array.mem_of_getElem? e)
theorem Low.joinS {sep : Str} (hs : Low sep) : ∀ {ys : List Str}, (∀ y ∈ ys, Low y) → Low (Str.join sep ys)
  | [], _ => fun c hc => by
    have hc : c ∈ (#[] : Array Nat).toList := hc
    simp at hc
  | [y], h => h y (by simp)
  | y :: z :: r, h => by
    show Low (y ++ sep ++ Str.join sep (z :: r))
    exact ((h y (by simp)).app hs).app (Low.joinS hs fun x hx => h x (List.mem_cons_of_mem _ hx))
theorem Low.join {sep : Str} {ys : List Str} (hs : Low sep) (h : ∀ y ∈ ys, Low y) : Low (Txt.join sep ys) := by
  unfold Txt.join
  rw [StrLaws.glued_eq_join]
  exact Low.joinS hs h
theorem nodup_snoc {α : Type} {l : List α} {x : α} (h : l.Nodup) (hx : x ∉ l) : (l ++ [x]).Nodup := by
  rw [List.nodup_append]
  exact ⟨h, by simp, fun a ha b hb => by
    have : b = x := by simpa using hb
    subst this
    exact fun e => hx (e ▸ ha)⟩
theorem num_inj {r st : Int} {i j : Nat} (hst : st = 1 ∨ st = 675 ∨ st = 27 ∨ st = 211 ∨ st = 79) (hj : j < i) (hi : i < 60) : (r + st * (j : Int)) % 676 ≠ (r + st * (0 + (i : Nat) : Int)) % 676 := by
  rcases hst with rfl | rfl | rfl | rfl | rfl <;> omega
theorem scNames : FnScope ["_law_pen", "_law_many", "_law_letters", "_law_begin", "_law_step", "_law_tail", "_law_found", "_law_k", "_law_number", "_law_cut"] ["_law_pen", "_law_many"] (defScope sNames) := ⟨rfl, rfl, rfl, by decide +kernel, rfl, by decide +kernel, by decide +kernel⟩
theorem ok_names {f : Addr} {fd : FuncData} (F : Fun K "_law_names" "_law_names" sNames f fd) (B : Blt mg) (c_law_take : Cal P w K mg base 1 "_law_take" ["_law_pen", "_law_many"] (spDraw K)) : FnOk P w K mg base CX0 2 f fd ["_law_pen", "_law_many"] (spNames K) := by
  refine F.ok scNames (fun vs H Q E h => ?_) (fun cdv A outer s H vs Q E hr h => ?_)
  · obtain ⟨p, a, m, rfl, _⟩ := h
    rfl
  · obtain ⟨p, a, m, rfl, hP, hm, k⟩ := h
    have nd := scNames.nd
    refine ⟨_, (pss_cons (ps_set (i := 2) nd rfl (Or.inr rfl) pe_str)
      (pss_cons (ps_set (i := 3) nd rfl (Or.inr rfl) (pe_cal c_law_take (hr.mono (by decide)) rfl (pa_cons (pv 0) (pa_cons pe_int pa_nil))))
      (pss_cons (ps_if (PW.pt (pw_and (pt_cmpR op_ltX (pv 1) pe_int (nomark _)) (pw_and1 (pt_cmpR (op_eqX hr.units) (pe_cal c_law_take (hr.mono (by decide)) rfl (pa_cons (pv 0) (pa_cons pe_int pa_nil))) pe_int (nomark _))))) (pss_one (ps_ret (pe_comp (defScope sNames) ["_law_pen", "_law_many", "_law_letters", "_law_begin", "_law_step", "_law_tail", "_law_found", "_law_k", "_law_number", "_law_cut"] ["_law_k"] [2, 3] ["_law_k", "_law_letters", "_law_begin"] rfl (pi_range1 rfl B.range (pa_cons (pv 1) pa_nil)) (fun _ _ _ _ _ => (pg_name (i := 0) (show (["_law_k", "_law_letters", "_law_begin"] : List Str).Nodup by decide) rfl (Or.inl rfl))) (fun _ _ _ _ _ => pts_nil) (fun _ _ _ _ _ => (pe_ix (ix_X K hr.units) (pv 1) (pe_op op_mod (pe_op op_addX (pv 2) (pe_op op_mul pe_int (pv 0))) pe_int) (fun _ _ => rfl)))))) pss_nil)
      (pss_cons (ps_set (i := 4) nd rfl (Or.inl rfl) (pe_ix (ix_X K hr.units) (pe_lst (pa_cons pe_int (pa_cons pe_int (pa_cons pe_int (pa_cons pe_int (pa_cons pe_int pa_nil star_c) star_c) star_c) star_c) star_c)) (pe_cal c_law_take (hr.mono (by decide)) rfl (pa_cons (pv 0) (pa_cons pe_int pa_nil))) (fun _ _ => rfl)))
      (pss_cons (ps_set (i := 5) nd rfl (Or.inl rfl) (m_join K pe_str (pa_cons (pe_comp (defScope sNames) ["_law_pen", "_law_many", "_law_letters", "_law_begin", "_law_step", "_law_tail", "_law_found", "_law_k", "_law_number", "_law_cut"] ["_law_k"] [2, 0] ["_law_k", "_law_letters", "_law_pen"] rfl (pi_range1 rfl B.range (pa_cons (pe_cal c_law_take (hr.mono (by decide)) rfl (pa_cons (pv 0) (pa_cons pe_int pa_nil))) pa_nil)) (fun _ _ _ _ _ => (pg_name (i := 0) (show (["_law_k", "_law_letters", "_law_pen"] : List Str).Nodup by decide) rfl (Or.inl rfl))) (fun _ _ _ _ _ => pts_nil) (fun _ _ _ _ _ => (pe_ix (ix_X K hr.units) (pv 1) (pe_cal c_law_take (hr.mono (by decide)) rfl (pa_cons (pv 2) (pa_cons pe_int pa_nil))) (fun _ _ => rfl)))) pa_nil)))
      (pss_cons (ps_set (i := 6) nd rfl (Or.inl rfl) (pe_lst pa_nil))
      (pss_cons (ps_for PassesOwn.never rfl (pi_range1 rfl B.range (pa_cons (pv 1) pa_nil)) (pg_name (i := 7) nd rfl (Or.inl rfl)) (pss_cons (ps_set (i := 8) nd rfl (Or.inl rfl) (pe_op op_mod (pe_op op_addX (pv 3) (pe_op op_mul (pv 4) (pv 7))) pe_int))
      (pss_cons (ps_set (i := 9) nd rfl (Or.inl rfl) (pe_cal c_law_take (hr.mono (by decide)) rfl (pa_cons (pv 0) (pa_cons (pe_op op_addX (b_len K B (pa_cons (pv 5) pa_nil)) pe_int) pa_nil))))
      (pss_one (ps_expr (m_append K (pv 6) (pa_cons (pe_op op_addX (pe_op op_addX (pe_ix (ix_X K hr.units) (pv 2) (pe_op op_fdiv (pv 8) pe_int) (fun _ _ => rfl)) (pe_ix (ix_X K hr.units) (pv 2) (pe_op op_mod (pv 8) pe_int) (fun _ _ => rfl))) (pe_slice (sl_K K) (pv 5) po_none (po_some (pv 9)))) pa_nil)))))))
      (pss_one (ps_ret (pv 6)))))))))), ?_⟩
    refine ⟨_, rfl, p, a, 676, rfl, hP, by decide, by decide, fun r1 H1 h10 h11 v1 e1 => ?_⟩
    have b1 := But.of_eq e1
    refine ⟨_, rfl, .int ⟨_, rfl, ?_⟩⟩
    have lL : ("abcdefghijklmnopqrstuvwxyz" : Str).length ≤ sizeLine := by decide +kernel
    refine ite2 (fun h1 => ?a) (fun h1 => ?b)
    case' a =>
      refine ⟨_, rfl, p, a, 4, rfl, hP.but b1 v1, by decide, by decide, fun r2 H2 h20 h21 v2 e2 => .sc rfl ⟨_, rfl, ?_⟩⟩
      have b2 := b1.trans (But.of_eq e2)
      have h1 : (m : Int) < 27 := of_decide_eq_true h1
      refine ite2 (fun _ => ?c) (fun _ => ?d)
      case c =>
        refine ⟨_, rfl, _, rfl, by omega, by omega, ?_⟩
        refine comp_range (fun D i acc σ' H' => ∃ o ss, σ' = [o, some (.str "abcdefghijklmnopqrstuvwxyz"), some (.int r1)] ∧ acc = List.map V.str ss ∧ ss.length = i ∧ (∀ (j : Nat) (s : Str), ss[j]? = some s → ∃ c : Nat, s = ⟨#[c]⟩ ∧ (c : Int) = 97 + (r1 + 7 * (j : Int)) % 26) ∧ ss.Nodup ∧ PenV H' p a ∧ But p H H' ∧ H D = none ∧ p ≠ D) fun D hD => ⟨?_, ?_, ?_⟩
        · have hDp := v2.ne hD
          have hD0 := b2.free (Ne.symm hDp) hD
          exact ⟨none, [], rfl, rfl, rfl, (fun j s e => by simp at e), List.nodup_nil, v2.upd hDp, b2.at hD0, hD0, hDp⟩
        · rintro i acc σ' H' hi ⟨o, ss, rfl, rfl, hl, hj, hnd, v, b, hD0, hDp⟩ hacc
          refine gYes ?_
          refine ⟨_, rfl, _, rfl, _, rfl, _, _, rfl, rfl, .inl ⟨by decide, by decide⟩, .int ⟨_, _, rfl, rfl, (by show (0 : Int) < _; decide), ?_⟩⟩
          have g0 := Int.emod_nonneg (r1 + 7 * (0 + (i : Nat) : Int)) (show (26 : Int) ≠ 0 by decide)
          have g1 := Int.emod_lt_of_pos (r1 + 7 * (0 + (i : Nat) : Int)) (show (0 : Int) < 26 by decide)
          refine .str lL (let_at g0 g1) ⟨hacc, ?_, _, ss ++ [⟨#[97 + ((r1 + 7 * (0 + (i : Nat) : Int)) % 26).toNat]⟩], rfl, by simp, by simp [hl], ?_, ?_, v.upd hDp, b.at hD0, hD0, hDp⟩
          · rw [List.length_map, hl]; exact small1000 (by omega)
          · intro j s e
            by_cases q : j < ss.length
            · rw [List.getElem?_append_left q] at e
              exact hj j s e
            · rw [List.getElem?_append_right (by omega)] at e
              have : j = i := by
                have := (List.getElem?_eq_some_iff.mp e).1
                simp at this
                omega
              subst this
              rw [hl, Nat.sub_self] at e
              cases e
              exact ⟨_, rfl, by omega⟩
          · refine nodup_snoc hnd fun hm => ?_
            obtain ⟨j, hjl, e⟩ := List.mem_iff_getElem.mp hm
            obtain ⟨c, ec, hc⟩ := hj j _ (List.getElem?_eq_getElem hjl)
            rw [e] at ec
            have ec : [97 + ((r1 + 7 * (0 + (i : Nat) : Int)) % 26).toNat] = [c] := congrArg (fun s : Str => s.cps.toList) ec
            have ec : 97 + ((r1 + 7 * (0 + (i : Nat) : Int)) % 26).toNat = c := by simpa using ec
            omega
        · rintro acc σ' H' ⟨o, ss, rfl, rfl, hl, hj, hnd, v, b, hD0, hDp⟩ hacc
          refine k D ss H' (by simpa using hl) hnd (fun s hs => ?_) hacc (Ne.symm hDp) v b
          obtain ⟨j, hjl, e⟩ := List.mem_iff_getElem.mp hs
          obtain ⟨c, ec, hc⟩ := hj j _ (List.getElem?_eq_getElem hjl)
          rw [e] at ec
          subst ec
          exact one_nm (by omega) (by omega)
      have v1 := v2
      have b1 := b2
    all_goals
      refine ⟨(by show 5 ≤ sizeLine; decide), fun l hl => ?_⟩
      have hpl := v1.ne hl
      have b1 := b1.at (o := .lst [V.int 1, V.int 675, V.int 27, V.int 211, V.int 79]) (b1.free (Ne.symm hpl) hl)
      refine ⟨_, rfl, p, a, 5, rfl, hP.but b1 (v1.upd hpl), by decide, by decide, fun r3 H3 h30 h31 v3 e3 => ?_⟩
      have hl3 : H3 l = some (.lst [V.int 1, V.int 675, V.int 27, V.int 211, V.int 79]) := (e3 l (Ne.symm hpl)).trans upd_same
      have b3 := b1.trans (But.of_eq e3)
      obtain ⟨st, est, hst⟩ : ∃ st, atI [V.int 1, V.int 675, V.int 27, V.int 211, V.int 79] r3 = some (.int st) ∧ (st = 1 ∨ st = 675 ∨ st = 27 ∨ st = 211 ∨ st = 79) := by
        have hr3 : r3 = 0 ∨ r3 = 1 ∨ r3 = 2 ∨ r3 = 3 ∨ r3 = 4 := by omega
        rcases hr3 with rfl | rfl | rfl | rfl | rfl
        · exact ⟨_, rfl, by omega⟩
        · exact ⟨_, rfl, by omega⟩
        · exact ⟨_, rfl, by omega⟩
        · exact ⟨_, rfl, by omega⟩
        · exact ⟨_, rfl, by omega⟩
      refine .lst (.of hl3) est ?_
      clear hl3 e3
      refine ⟨rfl, ?_⟩
      refine ⟨_, rfl, p, a, 7, rfl, hP.but b3 v3, by decide, by decide, fun r4 H4 h40 h41 v4 e4 => ⟨r4, rfl, by omega, by omega, ?_⟩⟩
      have b4 := b3.trans (But.of_eq e4)
      refine comp_range (fun D i acc σ' H' => ∃ o ys, σ' = [o, some (.str "abcdefghijklmnopqrstuvwxyz"), some (.ref p)] ∧ acc = List.map V.str ys ∧ ys.length = i ∧ (∀ y ∈ ys, y.length = 1 ∧ Low y) ∧ PenV H' p a ∧ But p H H' ∧ H D = none ∧ p ≠ D) fun D hD => ⟨?_, ?_, ?_⟩
      · have hDp := v4.ne hD
        have hD0 := b4.free (Ne.symm hDp) hD
        exact ⟨none, [], rfl, rfl, rfl, (fun y hy => by cases hy), v4.upd hDp, b4.at hD0, hD0, hDp⟩
      · rintro i acc σ' H' hi ⟨o, ys, rfl, rfl, hl, hys, v, b, hD0, hDp⟩ hacc
        refine gYes ?_
        refine ⟨_, rfl, _, rfl, p, a, 26, rfl, hP.but b v, by decide, by decide, fun r5 H5 h50 h51 v5 e5 => ?_⟩
        refine .str lL (let_at h50 h51) ⟨(e5 D (Ne.symm hDp)).trans hacc, ?_, _, ys ++ [⟨#[97 + r5.toNat]⟩], rfl, by simp, by simp [hl], ?_, v5.upd hDp, (b.trans (But.of_eq e5)).at hD0, hD0, hDp⟩
        · rw [List.length_map, hl]; exact small1000 (by omega)
        · intro y hy
          rcases List.mem_append.mp hy with hy | hy
          · exact hys y hy
          · have : y = ⟨#[97 + r5.toNat]⟩ := by simpa using hy
            subst this
            exact ⟨rfl, (one_nm (by omega) (by omega)).2.2⟩
      · rintro acc σ' H5 ⟨o, ys, rfl, rfl, hl, hys, v5, b5, hD0, hDp⟩ hacc
        have hsum := sum_le (n := 1) fun y hy => Nat.le_of_eq (hys y hy).1
        have hlj := len_join "" ys
        have e0 : ("" : Str).length = 0 := by decide +kernel
        have hj : Low (Txt.join "" ys) := Low.join (fun c hc => by
          have hc : c ∈ ("" : Str).cps.toList := hc
          rw [show ("" : Str).cps.toList = [] by decide +kernel] at hc
          cases hc) fun y hy => (hys y hy).2
        rw [e0] at hlj
        refine ⟨_, D, ys, rfl, rfl, hacc, by rw [e0]; omega, ?_⟩
        have htl : (Txt.join "" ys).length ≤ 6 := by omega
        generalize Txt.join "" ys = z at hj htl ⊢
        have hz : z.length ≤ sizeLine := Nat.le_of_lt (small1000 (by omega))
        refine ⟨(by show 0 ≤ sizeLine; decide), fun fl hfl => ?_⟩
        have hpf := v5.ne hfl
        have hf0 := b5.free (Ne.symm hpf) hfl
        refine ⟨_, rfl, _, rfl, by omega, by omega, ?_⟩
        refine for_range (fun i σ H' => ∃ o7 o8 o9 ss, σ = [some (.ref p), some (.int (m : Int)), some (.str "abcdefghijklmnopqrstuvwxyz"), some (.int r1), some (.int st), some (.str z), some (.ref fl), o7, o8, o9] ∧ H' fl = some (.lst (List.map V.str ss)) ∧ ss.length = i ∧
            (∀ (j : Nat) (s : Str), ss[j]? = some s → ∃ (c d : Nat) (x : Str), s = ⟨#[c]⟩ ++ ⟨#[d]⟩ ++ x ∧ (c : Int) = 97 + (r1 + st * (j : Int)) % 676 / 26 ∧ (d : Int) = 97 + (r1 + st * (j : Int)) % 676 % 26) ∧ (∀ s ∈ ss, Nm s) ∧ ss.Nodup ∧ PenV H' p a ∧ But p H H')
          ⟨none, none, none, [], rfl, upd_same, rfl, (fun j s e => by simp at e), (fun s hs => by cases hs), List.nodup_nil, v5.upd hpf, b5.at hf0⟩ ?_ ?_
        · rintro i σ H6 hi ⟨o7, o8, o9, ss, rfl, hf, hl6, hj6, hnm, hnd6, v6, b6⟩
          refine ⟨_, rfl, _, rfl, _, rfl, _, _, rfl, rfl, .inl ⟨by omega, by omega⟩, .int ⟨_, _, rfl, rfl, (by show (0 : Int) < _; decide), ?_⟩⟩
          have n0 := Int.emod_nonneg (r1 + st * (0 + (i : Nat) : Int)) (show (676 : Int) ≠ 0 by decide)
          have n1 := Int.emod_lt_of_pos (r1 + st * (0 + (i : Nat) : Int)) (show (0 : Int) < 676 by decide)
          have hnew : ∀ j : Nat, j < i → (r1 + st * (j : Int)) % 676 ≠ (r1 + st * (0 + (i : Nat) : Int)) % 676 := fun j hj => num_inj hst hj (by omega)
          have hnum : (r1 + st * (0 + (i : Nat) : Int)) % 676 = (r1 + st * (i : Int)) % 676 := by rw [Int.zero_add]
          refine ⟨_, rfl, _, rfl, _, _, rfl, ⟨hz, rfl⟩, .int ⟨p, a, _, rfl, hP.but b6 v6, by omega, by omega, fun r7 H7 h70 h71 v7 e7 => ?_⟩⟩
          have hf7 : H7 fl = some (.lst (List.map V.str ss)) := (e7 fl (Ne.symm hpf)).trans hf
          have b7 := b6.trans (But.of_eq e7)
          have sl := Txt.slice_le z none (some r7)
          have q0 : 0 ≤ ((r1 + st * (0 + (i : Nat) : Int)) % 676) / 26 ∧ ((r1 + st * (0 + (i : Nat) : Int)) % 676) / 26 < 26 := by omega
          have q1 : 0 ≤ ((r1 + st * (0 + (i : Nat) : Int)) % 676) % 26 ∧ ((r1 + st * (0 + (i : Nat) : Int)) % 676) % 26 < 26 := by omega
          refine ⟨_, rfl, .inl ⟨rfl, _, .of hf7⟩, ?_⟩
          refine ⟨_, rfl, _, rfl, _, _, rfl, rfl, ⟨by decide, by decide⟩, .str lL (let_at q0.1 q0.2) ⟨_, rfl, _, rfl, _, _, rfl, rfl, (by show (0 : Int) < _; decide), .str lL (let_at q1.1 q1.2) (.str (by show 1 + 1 ≤ sizeLine; decide) ⟨_, rfl, _, rfl, _, rfl, .str hz (.str ?_ ⟨fl, _, _, rfl, rfl, hf7, ?_, ?_⟩)⟩)⟩⟩
          · rw [len_app]
            have := small1000 (n := 8) (by omega)
            show 1 + 1 + _ ≤ sizeLine
            omega
          · rw [List.length_map, hl6]; exact small1000 (by omega)
          · refine ⟨_, _, _, ss ++ [⟨#[97 + (((r1 + st * (0 + (i : Nat) : Int)) % 676) / 26).toNat]⟩ ++ ⟨#[97 + (((r1 + st * (0 + (i : Nat) : Int)) % 676) % 26).toNat]⟩ ++ Txt.slice z none (some r7)], rfl, ?_, by simp [hl6], ?_, ?_, ?_, v7.upd hpf, b7.at hf0⟩
            · rw [upd_same]; simp
            · intro j s e
              by_cases q : j < ss.length
              · rw [List.getElem?_append_left q] at e
                exact hj6 j s e
              · rw [List.getElem?_append_right (by omega)] at e
                have : j = i := by
                  have := (List.getElem?_eq_some_iff.mp e).1
                  simp at this
                  omega
                subst this
                rw [hl6, Nat.sub_self] at e
                cases e
                exact ⟨_, _, _, rfl, by omega, by omega⟩
            · intro s hs
              rcases List.mem_append.mp hs with hs | hs
              · exact hnm s hs
              · rw [List.mem_singleton.mp hs]
                exact two_nm (by omega) (by omega) (by omega) (hj.slice _ _)
            · refine nodup_snoc hnd6 fun hm => ?_
              obtain ⟨j, hjl, e⟩ := List.mem_iff_getElem.mp hm
              obtain ⟨c, d, x, ec, hc, hd⟩ := hj6 j _ (List.getElem?_eq_getElem hjl)
              rw [e] at ec
              obtain ⟨e1, e2⟩ := two_inj ec
              refine hnew j (by omega) ?_
              omega
        · rintro σ H6 ⟨o7, o8, o9, ss, rfl, hf, hl6, hj6, hnm, hnd6, v6, b6⟩
          exact ⟨_, rfl, k fl ss H6 (by simpa using hl6) hnd6 hnm hf (Ne.symm hpf) v6 b6⟩
end
end K22
namespace K22
open PySem L2
section
variable {P : Program} {w : World} {K : PySem.W.Frag} {mg : Str → Option Value} {base : Heap}
noncomputable def natV (xs : List Nat) : List V := xs.map fun x : Nat => V.int (x : Int)
theorem Rep.tieBut {H H' : Hp} {p : Addr} {ys : List V} (hp : H p = some (.lst ys)) (b : But p H H') {v : V} {e : Nat × Nat} (h : Rep H v (tieD e)) : Rep H' v (tieD e) := by
  obtain ⟨a, rfl, ha⟩ := tie_at h
  exact tie_rep (b a _ (ne_of ha hp (by intro z; cases z)) ha)
theorem RepAll.tieBut {H H' : Hp} {p : Addr} {ys : List V} (hp : H p = some (.lst ys)) (b : But p H H') : ∀ {es : List (Nat × Nat)} {xs : List V}, RepAll H xs (es.map tieD) → RepAll H' xs (es.map tieD)
  | [], xs, h => by rw [RepAll.nilI h]; exact .nil
  | e :: es, xs, h => by
    obtain ⟨y, ys', rfl, a, c⟩ := RepAll.consI h
    exact .cons (Rep.tieBut hp b a) (RepAll.tieBut hp b c)
theorem penAt {H : Hp} {p a : Addr} (v : PenV H p a) : ∃ ys, H p = some (.lst ys) := let ⟨_, _, e, _⟩ := v; ⟨_, e⟩
theorem nat_at {xs : List Nat} {i : Nat} (h : i < xs.length) : atI (natV xs) (i : Int) = some (.int ((xs[i] : Nat) : Int)) := atI_nat (by simp [natV, h])
end
end K22
namespace K22
open PySem L2
section
variable {P : Program} {w : World} {K : PySem.W.Frag} {mg : Str → Option Value} {base : Heap}
open Classical in
theorem pos_ex {xs : List Nat} (nd : xs.Nodup) : ∃ r : Nat → Nat, ∀ i v, xs[i]? = some v → r v = i := by
  refine ⟨fun v => if h : ∃ i, xs[i]? = some v then h.choose else 0, fun i v hv => ?_⟩
  have h : ∃ i, xs[i]? = some v := ⟨i, hv⟩
  simp only [dif_pos h]
  have h1 := h.choose_spec
  have hl := (List.getElem?_eq_some_iff.mp h1).1
  exact (List.getElem?_inj hl nd).mp (h1.trans hv.symm)
theorem perm_ins (xs : List Nat) (j i : Nat) : (xs.take j ++ i :: xs.drop j).Perm (i :: xs) := by
  have := (List.perm_middle (a := i) (l₁ := xs.take j) (l₂ := xs.drop j))
  rwa [List.take_append_drop] at this
noncomputable def spTies (K : PySem.W.Frag) : Sp := fun vs H Q _ => ∃ (p a : Addr) (n c : Nat), vs = [.ref p, .int (n : Int), .int (c : Int)] ∧ Pen K H p a ∧ n ≤ 60 ∧ c ≤ 400 ∧ (n = 0 → c = 0) ∧
  ∀ lt refs es H', H' lt = some (.lst refs) → RepAll H' refs (es.map tieD) → (∀ e ∈ es, e.1 < n ∧ e.2 < n) → MG.Ris es → es.length ≤ c → lt ≠ p → PenV H' p a → But p H H' → Q (.ref lt) H'
theorem scTies : FnScope ["_law_pen", "_law_size", "_law_count", "_law_order", "_law_k", "_law_found", "_law_one", "_law_other", "_law_pair"] ["_law_pen", "_law_size", "_law_count"] (defScope sTies) := ⟨rfl, rfl, rfl, by decide +kernel, rfl, by decide +kernel, by decide +kernel⟩
theorem ok_ties {f : Addr} {fd : FuncData} (F : Fun K "_law_ties" "_law_ties" sTies f fd) (B : Blt mg) (c_law_take : Cal P w K mg base 1 "_law_take" ["_law_pen", "_law_many"] (spDraw K)) : FnOk P w K mg base CX0 2 f fd ["_law_pen", "_law_size", "_law_count"] (spTies K) := by
  refine F.ok scTies (fun vs H Q E h => ?_) (fun cdv A outer s H vs Q E hr h => ?_)
  · obtain ⟨p, a, n, c, rfl, _⟩ := h
    rfl
  · obtain ⟨p, a, n, c, rfl, hP, hn, hc, hn0, k⟩ := h
    have nd := scTies.nd
    have v0 := hP.2
    refine ⟨_, (pss_cons (ps_set (i := 3) nd rfl (Or.inl rfl) (pe_lst pa_nil))
      (pss_cons (ps_for PassesOwn.never rfl (pi_range1 rfl B.range (pa_cons (pv 1) pa_nil)) (pg_name (i := 4) nd rfl (Or.inl rfl)) (pss_one (ps_expr (m_insert K (pv 3) (pa_cons (pe_cal c_law_take (hr.mono (by decide)) rfl (pa_cons (pv 0) (pa_cons (pe_op op_addX (pv 4) pe_int) pa_nil))) (pa_cons (pv 4) pa_nil))))))
      (pss_cons (ps_set (i := 5) nd rfl (Or.inl rfl) (pe_lst pa_nil))
      (pss_cons (ps_for PassesOwn.never rfl (pi_range1 rfl B.range (pa_cons (pv 2) pa_nil)) (pg_name (i := 4) nd rfl (Or.inl rfl)) (pss_cons (ps_set (i := 6) nd rfl (Or.inl rfl) (pe_cal c_law_take (hr.mono (by decide)) rfl (pa_cons (pv 0) (pa_cons (pv 1) pa_nil))))
      (pss_cons (ps_set (i := 7) nd rfl (Or.inl rfl) (pe_cal c_law_take (hr.mono (by decide)) rfl (pa_cons (pv 0) (pa_cons (pv 1) pa_nil))))
      (pss_cons (ps_if (pt_cmpR (op_eqX hr.units) (pe_cal c_law_take (hr.mono (by decide)) rfl (pa_cons (pv 0) (pa_cons pe_int pa_nil))) pe_int (nomark _)) (pss_one (ps_set (i := 7) nd rfl (Or.inl rfl) (pe_op op_mod (pe_op op_addX (pv 6) pe_int) (pv 1)))) pss_nil)
      (pss_cons (ps_set (i := 8) nd rfl (Or.inl rfl) (pe_tup (pa_cons (pe_ix (ix_X K hr.units) (pv 3) (b_min rfl B (pa_cons (pv 6) (pa_cons (pv 7) pa_nil))) (fun _ _ => rfl)) (pa_cons (pe_ix (ix_X K hr.units) (pv 3) (b_max rfl B (pa_cons (pv 6) (pa_cons (pv 7) pa_nil))) (fun _ _ => rfl)) pa_nil))))
      (pss_one (ps_if (PW.pt (pw_and (pt_cmpR (op_neX hr.units) (pv 6) (pv 7) (nomark _)) (pw_and1 (pt_cmpR (op_notInX K hr.units) (pv 8) (pv 5) (by with_unfolding_all rfl))))) (pss_one (ps_expr (m_append K (pv 5) (pa_cons (pv 8) pa_nil)))) pss_nil)))))))
      (pss_one (ps_ret (pv 5))))))), ?_⟩
    refine ⟨(by show 0 ≤ sizeLine; decide), fun lo hlo => ?_⟩
    have hpo := v0.ne hlo
    refine ⟨_, rfl, _, rfl, by omega, by omega, ?_⟩
    refine for_range (fun i σ H' => ∃ o4 xs, σ = [some (.ref p), some (.int (n : Int)), some (.int (c : Int)), some (.ref lo), o4, none, none, none, none] ∧ H' lo = some (.lst (natV xs)) ∧ xs.Perm (List.range i) ∧ PenV H' p a ∧ But p H H')
      ⟨none, [], rfl, upd_same, List.Perm.refl _, v0.upd hpo, (But.refl p H).at hlo⟩ ?_ ?_
    · rintro i σ H1 hi ⟨o4, xs, rfl, ho1, hpm, v1, b1⟩
      have hi : i < n := by simpa using hi
      have hl1 := hpm.length_eq
      rw [List.length_range] at hl1
      refine ⟨_, rfl, .inl ⟨rfl, _, .of ho1⟩, _, rfl, _, rfl, .int ⟨p, a, _, rfl, hP.but b1 v1, by omega, by omega, fun r H2 h0 h1 v2 e2 => ?_⟩⟩
      obtain ⟨j, rfl⟩ := Int.eq_ofNat_of_zero_le h0
      have ho2 : H2 lo = some (.lst (natV xs)) := (e2 lo (Ne.symm hpo)).trans ho1
      have hln : (natV xs).length = i := by simp [natV, hl1]
      refine ⟨_, rfl, lo, _, _, j, _, rfl, rfl, rfl, ho2, by omega, by rw [hln]; exact small1000 (by omega), ?_⟩
      refine ⟨_, xs.take j ++ i :: xs.drop j, rfl, ?_, ?_, v2.upd hpo, (b1.trans (But.of_eq e2)).at hlo⟩
      · rw [upd_same]
        simp [natV, List.map_take, List.map_drop]
      · rw [List.range_succ]
        exact (perm_ins xs j i).trans ((List.Perm.cons i hpm).trans (List.perm_append_singleton i (List.range i)).symm)
    · rintro σ H1 ⟨o4, xs, rfl, ho1, hpm, v1, b1⟩
      have hpm : xs.Perm (List.range n) := by simpa using hpm
      have hl1 := hpm.length_eq
      rw [List.length_range] at hl1
      have xnd : xs.Nodup := hpm.nodup_iff.mpr List.nodup_range
      have xlt : ∀ x ∈ xs, x < n := fun x hx => List.mem_range.mp (hpm.mem_iff.mp hx)
      obtain ⟨ρ, hρ⟩ := pos_ex xnd
      refine ⟨(by show 0 ≤ sizeLine; decide), fun lf hlf => ?_⟩
      have hpf := v1.ne hlf
      have hf0 := b1.free (Ne.symm hpf) hlf
      have hof : lo ≠ lf := ne_of_none ho1 hlf
      refine ⟨_, rfl, _, rfl, by omega, by omega, ?_⟩
      refine for_range (fun i σ H' => ∃ o4 o6 o7 o8 refs es, σ = [some (.ref p), some (.int (n : Int)), some (.int (c : Int)), some (.ref lo), o4, some (.ref lf), o6, o7, o8] ∧ H' lo = some (.lst (natV xs)) ∧ H' lf = some (.lst refs) ∧ RepAll H' refs (es.map tieD) ∧ (∀ e ∈ es, e.1 < n ∧ e.2 < n) ∧ (∀ e ∈ es, ρ e.1 < ρ e.2) ∧ es.length ≤ i ∧ PenV H' p a ∧ But p H H')
        ⟨_, none, none, none, [], [], rfl, by rw [upd_ne hof]; exact ho1, upd_same, .nil, (fun e he => by cases he), (fun e he => by cases he), Nat.le_refl _, v1.upd hpf, b1.at hf0⟩ ?_ ?_
      · rintro i σ H2 hi ⟨o4, o6, o7, o8, refs, es, rfl, ho2, hf2, rp2, he2, hr2, hl2, v2, b2⟩
        have hi : i < c := by simpa using hi
        have hnp : 0 < n := by
          by_cases q : n = 0
          · have := hn0 q; omega
          · omega
        refine ⟨_, rfl, _, rfl, p, a, _, rfl, hP.but b2 v2, by omega, by omega, fun r1 H3 h10 h11 v3 e3 => ?_⟩
        refine ⟨_, rfl, _, rfl, p, a, _, rfl, hP.but (b2.trans (But.of_eq e3)) v3, by omega, by omega, fun r2 H4 h20 h21 v4 e4 => ?_⟩
        obtain ⟨x, rfl⟩ := Int.eq_ofNat_of_zero_le h10
        obtain ⟨y0, rfl⟩ := Int.eq_ofNat_of_zero_le h20
        have hx : x < n := by omega
        have hy0 : y0 < n := by omega
        clear h10 h11 h20 h21
        have b4 := (b2.trans (But.of_eq e3)).trans (But.of_eq e4)
        refine ⟨_, rfl, p, a, 2, rfl, hP.but b4 v4, by decide, by decide, fun r5 H5 _ _ v5 e5 => .sc rfl ⟨_, rfl, ?_⟩⟩
        have b5 := b4.trans (But.of_eq e5)
        obtain ⟨_, hpv⟩ := penAt v2
        have bb := ((But.of_eq e3).trans (But.of_eq e4)).trans (But.of_eq e5)
        have ho5 := bb lo _ (Ne.symm hpo) ho2
        have hf5 := bb lf _ (Ne.symm hpf) hf2
        have rp5 := RepAll.tieBut hpv bb rp2
        refine ite2 (fun _ => ?_) (fun _ => ?_)
        · refine ⟨_, rfl, .int ⟨_, rfl, _, _, rfl, rfl, (by show (0 : Int) < (n : Int); omega), ?_⟩⟩
          have g0 := Int.emod_nonneg ((x : Int) + 1) (show (n : Int) ≠ 0 by omega)
          have g1 := Int.emod_lt_of_pos ((x : Int) + 1) (show (0 : Int) < (n : Int) by omega)
          obtain ⟨y, ey⟩ := Int.eq_ofNat_of_zero_le g0
          have hy : y < n := by omega
          dsimp only
          rw [ey]
          clear ey g0 g1
          have em : (if (y : Int) < (x : Int) then (y : Int) else (x : Int)) = ((min x y : Nat) : Int) := by split <;> omega
          have eM : (if (y : Int) > (x : Int) then (y : Int) else (x : Int)) = ((max x y : Nat) : Int) := by split <;> omega
          have hm : min x y < xs.length := by omega
          have hM : max x y < xs.length := by omega
          refine ⟨_, rfl, _, rfl, _, rfl, _, _, rfl, ?_⟩
          try dsimp only
          rw [em]
          refine .lst (.of ho5) (nat_at hm) ⟨_, rfl, _, rfl, _, rfl, _, _, rfl, ?_⟩
          try dsimp only
          rw [eM]
          refine .lst (.of ho5) (nat_at hM) ⟨(by show 2 ≤ sizeLine; decide), fun tq htq => ?_⟩
          have sq := Same.new (o := .tup [V.int ((xs[min x y] : Nat) : Int), V.int ((xs[max x y] : Nat) : Int)]) htq
          have hpq := v5.ne htq
          have htq6 : upd H5 tq (.tup [V.int ((xs[min x y] : Nat) : Int), V.int ((xs[max x y] : Nat) : Int)]) tq = some (.tup [V.int ((xs[min x y] : Nat) : Int), V.int ((xs[max x y] : Nat) : Int)]) := upd_same
          have ho6 := sq _ _ ho5
          have hf6 := sq _ _ hf5
          have rp6 := rp5.same sq
          have v6 : PenV _ p a := v5.upd (o := .tup [V.int ((xs[min x y] : Nat) : Int), V.int ((xs[max x y] : Nat) : Int)]) hpq
          have b6 := b5.at (o := .tup [V.int ((xs[min x y] : Nat) : Int), V.int ((xs[max x y] : Nat) : Int)]) (b5.free (Ne.symm hpq) htq)
          have hfq : lf ≠ tq := ne_of_none hf5 htq
          generalize upd H5 tq (.tup [V.int ((xs[min x y] : Nat) : Int), V.int ((xs[max x y] : Nat) : Int)]) = H6 at htq6 ho6 hf6 rp6 v6 b6 ⊢
          have no : ∃ (o4 o6 o7 o8 : Option V) (refs : List V) (es : List (Nat × Nat)), [some (V.ref p), some (V.int (n : Int)), some (V.int (c : Int)), some (V.ref lo), some (V.int (0 + (i : Nat) : Int)), some (V.ref lf), some (V.int (x : Int)), some (V.int (y : Int)), some (V.ref tq)] = [some (.ref p), some (.int (n : Int)), some (.int (c : Int)), some (.ref lo), o4, some (.ref lf), o6, o7, o8] ∧ H6 lo = some (.lst (natV xs)) ∧ H6 lf = some (.lst refs) ∧ RepAll H6 refs (es.map tieD) ∧ (∀ e ∈ es, e.1 < n ∧ e.2 < n) ∧ (∀ e ∈ es, ρ e.1 < ρ e.2) ∧ es.length ≤ i + 1 ∧ PenV H6 p a ∧ But p H H6 := ⟨_, _, _, _, refs, es, rfl, ho6, hf6, rp6, he2, hr2, by omega, v6, b6⟩
          refine ⟨_, rfl, _, rfl, .sc rfl ⟨_, rfl, ite2 (fun hne => ?_) (fun _ => iteF no)⟩⟩
          have hne : (!decide (V.int (x : Int) = V.int (y : Int))) = true := hne
          have hxy : x ≠ y := fun z => by rw [z] at hne; simp at hne
          refine ⟨_, rfl, _, rfl, .tr hf6 rp6 (tie_rep (i := xs[min x y]) (j := xs[max x y]) htq6) (canLay_ties es) rfl (by show 1 ≤ 16; decide) ⟨_, rfl, ite2 (fun _ => ?_) (fun _ => no)⟩⟩
          have rlen := rp6.len
          rw [List.length_map] at rlen
          refine ⟨_, rfl, .inl ⟨rfl, _, .of hf6⟩, _, rfl, lf, _, _, rfl, rfl, hf6, by rw [rlen]; exact small1000 (by omega), ?_⟩
          refine ⟨_, _, _, _, refs ++ [.ref tq], es ++ [(xs[min x y], xs[max x y])], rfl, ?_, upd_same, ?_, ?_, ?_, ?_, v6.upd hpf, b6.at hf0⟩
          · rw [upd_ne hof]; exact ho6
          · rw [List.map_append]
            refine RepAll.append (RepAll.tieBut (p := lf) hf6 But.upd rp6) (.cons (tie_rep ?_) .nil)
            rw [upd_ne (Ne.symm hfq)]; exact htq6
          · intro e he
            rcases List.mem_append.mp he with g | g
            · exact he2 e g
            · rw [List.mem_singleton.mp g]; exact ⟨xlt _ (List.getElem_mem hm), xlt _ (List.getElem_mem hM)⟩
          · intro e he
            rcases List.mem_append.mp he with g | g
            · exact hr2 e g
            · rw [List.mem_singleton.mp g]
              have r1 := hρ (min x y) _ (List.getElem?_eq_getElem hm)
              have r2 := hρ (max x y) _ (List.getElem?_eq_getElem hM)
              show ρ xs[min x y] < ρ xs[max x y]
              omega
          · rw [List.length_append]; show es.length + 1 ≤ i + 1; omega
        · obtain ⟨y, ey⟩ : ∃ y, y = y0 := ⟨_, rfl⟩
          have hy : y < n := by omega
          rw [← ey]
          clear ey
          have em : (if (y : Int) < (x : Int) then (y : Int) else (x : Int)) = ((min x y : Nat) : Int) := by split <;> omega
          have eM : (if (y : Int) > (x : Int) then (y : Int) else (x : Int)) = ((max x y : Nat) : Int) := by split <;> omega
          have hm : min x y < xs.length := by omega
          have hM : max x y < xs.length := by omega
          refine ⟨_, rfl, _, rfl, _, rfl, _, _, rfl, ?_⟩
          try dsimp only
          rw [em]
          refine .lst (.of ho5) (nat_at hm) ⟨_, rfl, _, rfl, _, rfl, _, _, rfl, ?_⟩
          try dsimp only
          rw [eM]
          refine .lst (.of ho5) (nat_at hM) ⟨(by show 2 ≤ sizeLine; decide), fun tq htq => ?_⟩
          have sq := Same.new (o := .tup [V.int ((xs[min x y] : Nat) : Int), V.int ((xs[max x y] : Nat) : Int)]) htq
          have hpq := v5.ne htq
          have htq6 : upd H5 tq (.tup [V.int ((xs[min x y] : Nat) : Int), V.int ((xs[max x y] : Nat) : Int)]) tq = some (.tup [V.int ((xs[min x y] : Nat) : Int), V.int ((xs[max x y] : Nat) : Int)]) := upd_same
          have ho6 := sq _ _ ho5
          have hf6 := sq _ _ hf5
          have rp6 := rp5.same sq
          have v6 : PenV _ p a := v5.upd (o := .tup [V.int ((xs[min x y] : Nat) : Int), V.int ((xs[max x y] : Nat) : Int)]) hpq
          have b6 := b5.at (o := .tup [V.int ((xs[min x y] : Nat) : Int), V.int ((xs[max x y] : Nat) : Int)]) (b5.free (Ne.symm hpq) htq)
          have hfq : lf ≠ tq := ne_of_none hf5 htq
          generalize upd H5 tq (.tup [V.int ((xs[min x y] : Nat) : Int), V.int ((xs[max x y] : Nat) : Int)]) = H6 at htq6 ho6 hf6 rp6 v6 b6 ⊢
          have no : ∃ (o4 o6 o7 o8 : Option V) (refs : List V) (es : List (Nat × Nat)), [some (V.ref p), some (V.int (n : Int)), some (V.int (c : Int)), some (V.ref lo), some (V.int (0 + (i : Nat) : Int)), some (V.ref lf), some (V.int (x : Int)), some (V.int (y : Int)), some (V.ref tq)] = [some (.ref p), some (.int (n : Int)), some (.int (c : Int)), some (.ref lo), o4, some (.ref lf), o6, o7, o8] ∧ H6 lo = some (.lst (natV xs)) ∧ H6 lf = some (.lst refs) ∧ RepAll H6 refs (es.map tieD) ∧ (∀ e ∈ es, e.1 < n ∧ e.2 < n) ∧ (∀ e ∈ es, ρ e.1 < ρ e.2) ∧ es.length ≤ i + 1 ∧ PenV H6 p a ∧ But p H H6 := ⟨_, _, _, _, refs, es, rfl, ho6, hf6, rp6, he2, hr2, by omega, v6, b6⟩
          refine ⟨_, rfl, _, rfl, .sc rfl ⟨_, rfl, ite2 (fun hne => ?_) (fun _ => iteF no)⟩⟩
          have hne : (!decide (V.int (x : Int) = V.int (y : Int))) = true := hne
          have hxy : x ≠ y := fun z => by rw [z] at hne; simp at hne
          refine ⟨_, rfl, _, rfl, .tr hf6 rp6 (tie_rep (i := xs[min x y]) (j := xs[max x y]) htq6) (canLay_ties es) rfl (by show 1 ≤ 16; decide) ⟨_, rfl, ite2 (fun _ => ?_) (fun _ => no)⟩⟩
          have rlen := rp6.len
          rw [List.length_map] at rlen
          refine ⟨_, rfl, .inl ⟨rfl, _, .of hf6⟩, _, rfl, lf, _, _, rfl, rfl, hf6, by rw [rlen]; exact small1000 (by omega), ?_⟩
          refine ⟨_, _, _, _, refs ++ [.ref tq], es ++ [(xs[min x y], xs[max x y])], rfl, ?_, upd_same, ?_, ?_, ?_, ?_, v6.upd hpf, b6.at hf0⟩
          · rw [upd_ne hof]; exact ho6
          · rw [List.map_append]
            refine RepAll.append (RepAll.tieBut (p := lf) hf6 But.upd rp6) (.cons (tie_rep ?_) .nil)
            rw [upd_ne (Ne.symm hfq)]; exact htq6
          · intro e he
            rcases List.mem_append.mp he with g | g
            · exact he2 e g
            · rw [List.mem_singleton.mp g]; exact ⟨xlt _ (List.getElem_mem hm), xlt _ (List.getElem_mem hM)⟩
          · intro e he
            rcases List.mem_append.mp he with g | g
            · exact hr2 e g
            · rw [List.mem_singleton.mp g]
              have r1 := hρ (min x y) _ (List.getElem?_eq_getElem hm)
              have r2 := hρ (max x y) _ (List.getElem?_eq_getElem hM)
              show ρ xs[min x y] < ρ xs[max x y]
              omega
          · rw [List.length_append]; show es.length + 1 ≤ i + 1; omega
      · rintro σ H2 ⟨o4, o6, o7, o8, refs, es, rfl, ho2, hf2, rp2, he2, hr2, hl2, v2, b2⟩
        have hl2 : es.length ≤ c := by simpa using hl2
        exact ⟨_, rfl, k lf refs es H2 hf2 rp2 he2 ⟨ρ, hr2⟩ hl2 (Ne.symm hpf) v2 b2⟩
end
end K22
namespace K22
open PySem L2
section
variable {P : Program} {w : World} {K : PySem.W.Frag} {mg : Str → Option Value} {base : Heap}
structure Built (H : Hp) (n t : Addr) (ss : List Str) (es : List (Nat × Nat)) : Prop where
  nm : H n = some (.lst (List.map V.str ss))
  nd : ss.Nodup
  ok : ∀ s ∈ ss, Nm s
  len : ss.length ≤ 60
  ti : ∃ refs, H t = some (.lst refs) ∧ RepAll H refs (es.map tieD)
  val : ∀ e ∈ es, e.1 < ss.length ∧ e.2 < ss.length
  few : es.length ≤ 401
theorem Built.same {H H' : Hp} {n t : Addr} {ss : List Str} {es : List (Nat × Nat)} (h : Built H n t ss es) (s : Same H H') : Built H' n t ss es :=
  ⟨s _ _ h.nm, h.nd, h.ok, h.len, let ⟨refs, a, b⟩ := h.ti; ⟨refs, s _ _ a, b.same s⟩, h.val, h.few⟩
noncomputable def spBuilt (K : PySem.W.Frag) : Sp := fun vs H Q _ => ∃ (p a : Addr), vs = [.ref p] ∧ Pen K H p a ∧
  ∀ q n t ss es H', H' q = some (.tup [.ref n, .ref t]) → Built H' n t ss es → MG.Ris es → n ≠ p → t ≠ p → PenV H' p a → But p H H' → Q (.ref q) H'
noncomputable def nmP (ss : List Str) (e : Nat × Nat) : Str × Str := (ss.getD e.1 "", ss.getD e.2 "")
theorem str_at {ss : List Str} {i : Nat} (h : i < ss.length) : atI (List.map V.str ss) (i : Int) = some (.str (ss.getD i "")) := atI_nat (by simp [h, List.getD_eq_getElem?_getD])
theorem Rep.pairBut {H H' : Hp} {p : Addr} {ys : List V} (hp : H p = some (.lst ys)) (b : But p H H') {v : V} {e : Str × Str} (h : Rep H v (pairD e)) : Rep H' v (pairD e) := by
  obtain ⟨a, rfl, ha⟩ := pair_at h
  exact pair_rep (b a _ (ne_of ha hp (by intro z; cases z)) ha)
theorem RepAll.pairBut {H H' : Hp} {p : Addr} {ys : List V} (hp : H p = some (.lst ys)) (b : But p H H') : ∀ {es : List (Str × Str)} {xs : List V}, RepAll H xs (es.map pairD) → RepAll H' xs (es.map pairD)
  | [], xs, h => by rw [RepAll.nilI h]; exact .nil
  | e :: es, xs, h => by
    obtain ⟨y, ys', rfl, a, c⟩ := RepAll.consI h
    exact .cons (Rep.pairBut hp b a) (RepAll.pairBut hp b c)
theorem gYes2 {x : V} {q : Addr} {u v : V} {σ : St} {H : Hp} {A B : St → Hp → Prop} (hx : x = .ref q) (hq : SqT K H q [u, v]) (h : A ((σ.set 0 (some u)).set 1 (some v)) H) :
    gTup K 2 (gCons (gName 0) (gCons (gName 1) gNil)) x σ H fun σ2 H3 => tYes σ2 H3 fun b H4 => if b = true then A σ2 H4 else B σ2 H4 := by
  subst hx
  refine ⟨q, _, rfl, hq, rfl, _, _, rfl, _, _, rfl, rfl, ?_⟩
  show (if true = true then A ((σ.set 0 (some u)).set 1 (some v)) H else B ((σ.set 0 (some u)).set 1 (some v)) H)
  rw [if_pos rfl]
  exact h
noncomputable def spWeb : Sp := fun vs H Q _ => ∃ n t ss es, vs = [.ref n, .ref t] ∧ Built H n t ss es ∧ ∀ q H', Same H H' → Rep H' (.ref q) (webD ss (es.map (nmP ss))) → Q (.ref q) H'
theorem scWeb : FnScope ["_law_names_here", "_law_ties_here"] ["_law_names_here", "_law_ties_here"] (defScope sWeb) := ⟨rfl, rfl, rfl, by decide +kernel, rfl, by decide +kernel, by decide +kernel⟩
theorem ok_web {f : Addr} {fd : FuncData} (F : Fun K "_law_web" "_law_web" sWeb f fd) (B : Blt mg) : FnOk P w K mg base CX0 1 f fd ["_law_names_here", "_law_ties_here"] spWeb := by
  refine F.ok scWeb (fun vs H Q E h => ?_) (fun cdv A outer s H vs Q E hr h => ?_)
  · obtain ⟨n, t, ss, es, rfl, _⟩ := h
    rfl
  · obtain ⟨n, t, ss, es, rfl, hB, k⟩ := h
    have nd := scWeb.nd
    refine ⟨_, (pss_one (ps_ret (pe_tup (pa_cons (b_tuple K B (pa_cons (pv 0) pa_nil)) (pa_cons (b_tuple K B (pa_cons (pe_comp (defScope sWeb) ["_law_names_here", "_law_ties_here"] ["_law_one", "_law_other"] [0] ["_law_one", "_law_other", "_law_names_here"] rfl (pi_listK K (pv 1)) (fun _ _ _ _ _ => (pg_tupK (n := 2) K rfl (pgs_cons (pg_name (i := 0) (show (["_law_one", "_law_other", "_law_names_here"] : List Str).Nodup by decide) rfl (Or.inl rfl)) (pgs_cons (pg_name (i := 1) (show (["_law_one", "_law_other", "_law_names_here"] : List Str).Nodup by decide) rfl (Or.inl rfl)) pgs_nil)))) (fun _ _ _ _ _ => pts_nil) (fun _ _ _ _ _ => (pe_tup (pa_cons (pe_ix (ix_X K hr.units) (pv 2) (pv 0) (fun _ _ => rfl)) (pa_cons (pe_ix (ix_X K hr.units) (pv 2) (pv 1) (fun _ _ => rfl)) pa_nil))))) pa_nil)) pa_nil))))), ?_⟩
    refine ⟨_, rfl, n, _, rfl, .of hB.nm, fun l1 h1 => ?_⟩
    have s1 := Same.new (o := .tup (List.map V.str ss)) h1
    have e1 : upd H l1 (.tup (List.map V.str ss)) l1 = some (.tup (List.map V.str ss)) := upd_same
    have hB1 := hB.same s1
    generalize upd H l1 (.tup (List.map V.str ss)) = H1 at s1 e1 hB1 ⊢
    obtain ⟨refs, ht, rp⟩ := hB1.ti
    have rlen := rp.len
    rw [List.length_map] at rlen
    refine ⟨_, rfl, t, rfl, ⟨_, .of ht⟩, ?_⟩
    refine comp_list refs (fun D i acc σ' H' => ∃ o1 o2, σ' = [o1, o2, some (.ref n)] ∧ RepAll H' acc (((es.take i).map (nmP ss)).map pairD) ∧ Same H1 H' ∧ H1 D = none) fun D hD => ⟨?_, ?_, ?_, ?_⟩
    · exact ⟨none, none, rfl, .nil, Same.new hD, hD⟩
    · rintro i acc σ' H' _ ⟨o1, o2, rfl, _, sm, _⟩ _
      exact .of (sm _ _ ht)
    · rintro i acc σ' H' x hx ⟨o1, o2, rfl, rpa, sm, hD0⟩ hacc
      obtain ⟨d, hd, rd⟩ := (rp.same sm).get hx
      rw [List.getElem?_map] at hd
      obtain ⟨e, he, rfl⟩ : ∃ e, es[i]? = some e ∧ tieD e = d := by
        cases q : es[i]? with
        | none => rw [q] at hd; cases hd
        | some e => rw [q] at hd; exact ⟨e, rfl, Option.some.inj hd⟩
      obtain ⟨ta, eta, hta⟩ := tie_at rd
      have hev := hB1.val e (List.mem_of_getElem? he)
      have hn' := sm _ _ hB1.nm
      have alen := rpa.len
      simp only [List.length_map, List.length_take] at alen
      have hil := (List.getElem?_eq_some_iff.mp he).1
      refine gYes2 eta (.of hta) ?_
      refine ⟨_, rfl, _, rfl, .lst (.of hn') (str_at hev.1) ⟨_, rfl, _, rfl, .lst (.of hn') (str_at hev.2) ⟨(by show 2 ≤ sizeLine; decide), fun q hq => ?_⟩⟩⟩
      have sq := Same.new (o := .tup [V.str (ss.getD e.1 ""), V.str (ss.getD e.2 "")]) hq
      have hDq : D ≠ q := ne_of_none hacc hq
      refine ⟨sq _ _ hacc, small1000 (by have := hB1.few; omega), _, _, rfl, ?_, ?_, hD0⟩
      · rw [List.take_add_one, he, List.map_append, List.map_append]
        refine RepAll.append (RepAll.pairBut (p := D) (sq _ _ hacc) But.upd (rpa.same sq)) (.cons ?_ .nil)
        refine pair_rep ?_
        rw [upd_ne (Ne.symm hDq)]; exact upd_same
      · intro b o hb
        rw [upd_ne (ne_of_none hb hD0)]
        exact sq _ _ (sm _ _ hb)
    · rintro acc σ' H' ⟨o1, o2, rfl, rpa, sm, hD0⟩ hacc
      rw [rlen, List.take_of_length_le (Nat.le_refl _)] at rpa
      refine ⟨D, _, rfl, .of hacc, fun l2 h2 => ⟨(by show 2 ≤ sizeLine; decide), fun q hq => ?_⟩⟩
      have s2 := Same.new (o := .tup acc) h2
      have s3 := Same.new (o := .tup [V.ref l1, V.ref l2]) hq
      refine k q _ ((s1.trans sm).trans (s2.trans s3)) (.tup upd_same (.cons (.tup ((sm.trans (s2.trans s3)) _ _ e1) (RepAll.of_strs ss)) (.cons (.tup (s3 _ _ upd_same) (rpa.same (s2.trans s3))) .nil)))
end
end K22
namespace K22
open PySem L2
section
variable {P : Program} {w : World} {K : PySem.W.Frag} {mg : Str → Option Value} {base : Heap}
theorem scPlaces : FnScope ["things", "places", "place", "thing"] ["things"] (defScope sPlaces) := ⟨rfl, rfl, rfl, by decide +kernel, rfl, by decide +kernel, by decide +kernel⟩
theorem pair_get {H : Hp} {refs : List V} {ps : List (Str × Str)} (rp : RepAll H refs (ps.map pairD)) {j : Nat} {x : V} (hx : refs[j]? = some x) : ∃ e ta, ps[j]? = some e ∧ x = .ref ta ∧ H ta = some (.tup [.str e.1, .str e.2]) := by
  obtain ⟨d, hd, rd⟩ := rp.get hx
  rw [List.getElem?_map] at hd
  cases q : ps[j]? with
  | none => rw [q] at hd; cases hd
  | some e =>
    rw [q] at hd
    have hd : pairD e = d := Option.some.inj hd
    rw [← hd] at rd
    obtain ⟨ta, h1, h2⟩ := pair_at rd
    exact ⟨e, ta, rfl, h1, h2⟩
theorem str_get {ss : List Str} {i : Nat} {x : V} (h : (List.map V.str ss)[i]? = some x) : ∃ s, ss[i]? = some s ∧ V.str s = x := by
  rw [List.getElem?_map] at h
  cases q : ss[i]? with
  | none => rw [q] at h; cases h
  | some e => rw [q] at h; exact ⟨e, rfl, Option.some.inj h⟩
structure PlN (H H' : Hp) (d : Addr) (xs : List Str) (i : Nat) (kvs : List (Key × V)) : Prop where
  sm : Same H H'
  at_ : H' d = some (.dK kvs)
  len : kvs.length ≤ i
  inn : ∀ s, (valV kvs (.inr s)).isSome = true ↔ s ∈ xs.take i
  ix : ∀ s v, valV kvs (.inr s) = some v → ∃ j : Nat, v = .int j ∧ xs[j]? = some s
  nd : (kvs.map (·.1)).Nodup
  ks : ∀ k ∈ kvs.map (·.1), ∃ s ∈ xs, k = Sum.inr s
theorem map_putK {kvs : List (Key × V)} {k : Key} {v : V} (h : (valV kvs k).isSome = true) : (putK kvs k v).map (·.1) = kvs.map (·.1) := by
  unfold putK
  rw [if_pos (by rw [valV_any]; exact h), List.map_map]
  refine List.map_congr_left fun p _ => ?_
  show (if p.1 = k then (p.1, v) else p).1 = p.1
  split <;> rfl
theorem PlN.step {H H' : Hp} {d p : Addr} {xs : List Str} {i : Nat} {kvs : List (Key × V)} {t : Str} {o : HO} (h : PlN H H' d xs i kvs) (hd : H d = none) (hp : H' p = none) (ht : xs[i]? = some t) :
    PlN H (upd (upd H' p o) d (.dK (putK kvs (.inr t) (.int (i : Nat))))) d xs (i + 1) (putK kvs (.inr t) (.int (i : Nat))) := by
  refine ⟨?_, upd_same, ?_, ?_, ?_, ?_, ?_⟩
  · intro b o hb
    rw [upd_ne (ne_of_none hb hd)]
    exact Same.new hp _ _ (h.sm _ _ hb)
  · have := length_putK kvs (.inr t) (V.int (i : Nat))
    have := h.len
    omega
  · intro s
    rw [valV_put, List.take_add_one, ht, List.mem_append]
    by_cases q : s = t
    · subst q
      simp
    · rw [if_neg (fun z => q (Sum.inr.inj z)), h.inn s]
      simp [q]
  · intro s v e
    rw [valV_put] at e
    by_cases q : s = t
    · subst q
      rw [if_pos rfl] at e
      exact ⟨i, (Option.some.inj e).symm, ht⟩
    · rw [if_neg (fun z => q (Sum.inr.inj z))] at e
      exact h.ix s v e
  · cases q : valV kvs (.inr t) with
    | none => exact nd_putK _ h.nd q
    | some v => rw [map_putK (by rw [q]; rfl)]; exact h.nd
  · intro k hk
    cases q : valV kvs (.inr t) with
    | none =>
      rw [putK_new _ q, List.map_append] at hk
      rcases List.mem_append.mp hk with hk | hk
      · exact h.ks k hk
      · have : k = Sum.inr t := by simpa using hk
        exact ⟨t, List.mem_of_getElem? ht, this⟩
    | some v => rw [map_putK (by rw [q]; rfl)] at hk; exact h.ks k hk
theorem ok_placesX {f : Addr} {fd : FuncData} (F : Fun K "places_of" "places_of" sPlaces f fd) (B : Blt mg) : FnOk P w K mg base CX0 1 f fd ["things"] spPlacesX := by
  refine F.ok scPlaces (fun vs H Q E h => ?_) (fun cdv A outer s H vs Q E hr h => ?_)
  · obtain ⟨x, rfl, _⟩ := h
    rfl
  · obtain ⟨x, rfl, h⟩ := h
    have nd := scPlaces.nd
    cases h with
    | @nm a xs _ ha hl k =>
      refine ⟨_, (pss_cons (ps_set (i := 1) nd rfl (Or.inl rfl) pe_dnewK)
      (pss_cons (ps_for PassesOwn.never rfl (pi_enumX K rfl B.enumerate (pa_cons (pv 0) pa_nil)) (pg_tupK (n := 2) K rfl (pgs_cons (pg_name (i := 2) nd rfl (Or.inl rfl)) (pgs_cons (pg_name (i := 3) nd rfl (Or.inl rfl)) pgs_nil))) (pss_one (ps_asg (pv 2) (pg_sub (pv 1) (pv 3) (set_X hr.units)))))
      (pss_one (ps_ret (pv 1))))), ?_⟩
      intro d hd
      have s0 := Same.new (o := .dK []) hd
      have start : PlN H (upd H d (.dK [])) d xs 0 [] := ⟨s0, upd_same, Nat.le_refl _, (fun s => by simp [valV_nil]), (fun s v e => by cases e), List.nodup_nil, (fun k hk => by cases hk)⟩
      rcases ha with ha | ha
      · refine ⟨_, rfl, _, rfl, .lst (.of (s0 _ _ ha)) ?_⟩
        refine for_enum (xs := List.map V.str xs) (fun i σ H' => ∃ o1 o2 kvs, σ = [some (.ref a), some (.ref d), o1, o2] ∧ PlN H H' d xs i kvs) ?_ ?_ ?_ ?_
        · exact ⟨none, none, [], rfl, start⟩
        · rintro i σ H' hi ⟨o1, o2, kvs, rfl, pl⟩
          exact .of (pl.sm _ _ ha)
        · rintro i x σ H' p hx ⟨o1, o2, kvs, rfl, pl⟩ hp
          obtain ⟨t, ht, rfl⟩ := str_get hx
          have hil := (List.getElem?_eq_some_iff.mp ht).1
          have hdp : d ≠ p := ne_of_none pl.at_ hp
          have := pl.len
          refine ⟨p, _, rfl, .of upd_same, rfl, _, _, rfl, _, _, rfl, rfl, ?_⟩
          exact ⟨_, rfl, _, rfl, _, rfl, .dic (DPut.k (k := .inr t) (by rw [upd_ne hdp]; exact pl.at_) (small1000 (by omega))) ⟨_, _, _, rfl, pl.step hd hp ht⟩⟩
        · rintro σ H' ⟨o1, o2, kvs, rfl, pl⟩
          have hin := pl.inn
          rw [List.length_map, List.take_of_length_le (Nat.le_refl _)] at hin
          exact ⟨_, rfl, k d kvs H' pl.sm hd pl.at_ hin pl.ix pl.nd pl.ks⟩
      · refine ⟨_, rfl, _, rfl, .tup (.of (s0 _ _ ha)) ?_⟩
        refine for_enumT (xs := List.map V.str xs) (fun i σ H' => ∃ o1 o2 kvs, σ = [some (.ref a), some (.ref d), o1, o2] ∧ PlN H H' d xs i kvs) ?_ ?_ ?_ ?_
        · exact ⟨none, none, [], rfl, start⟩
        · rintro i σ H' hi ⟨o1, o2, kvs, rfl, pl⟩
          exact .of (pl.sm _ _ ha)
        · rintro i x σ H' p hx ⟨o1, o2, kvs, rfl, pl⟩ hp
          obtain ⟨t, ht, rfl⟩ := str_get hx
          have hil := (List.getElem?_eq_some_iff.mp ht).1
          have hdp : d ≠ p := ne_of_none pl.at_ hp
          have := pl.len
          refine ⟨p, _, rfl, .of upd_same, rfl, _, _, rfl, _, _, rfl, rfl, ?_⟩
          exact ⟨_, rfl, _, rfl, _, rfl, .dic (DPut.k (k := .inr t) (by rw [upd_ne hdp]; exact pl.at_) (small1000 (by omega))) ⟨_, _, _, rfl, pl.step hd hp ht⟩⟩
        · rintro σ H' ⟨o1, o2, kvs, rfl, pl⟩
          have hin := pl.inn
          rw [List.length_map, List.take_of_length_le (Nat.le_refl _)] at hin
          exact ⟨_, rfl, k d kvs H' pl.sm hd pl.at_ hin pl.ix pl.nd pl.ks⟩
    | @pr a refs ps _ ha rp hl k =>
      refine ⟨_, (pss_cons (ps_set (i := 1) nd rfl (Or.inl rfl) pe_dnewT)
      (pss_cons (ps_for PassesOwn.never rfl (pi_enumX K rfl B.enumerate (pa_cons (pv 0) pa_nil)) (pg_tupK (n := 2) K rfl (pgs_cons (pg_name (i := 2) nd rfl (Or.inl rfl)) (pgs_cons (pg_name (i := 3) nd rfl (Or.inl rfl)) pgs_nil))) (pss_one (ps_asg (pv 2) (pg_sub (pv 1) (pv 3) (set_X hr.units)))))
      (pss_one (ps_ret (pv 1))))), ?_⟩
      have rlen := rp.len
      rw [List.length_map] at rlen
      intro d hd
      have s0 := Same.new (o := .dT []) hd
      have turn : ∀ (i : Nat) (e : Str × Str) (ta p : Addr) (H' : Hp) (kvs : List (List Key × V)), Same H H' → H' d = some (.dT kvs) → kvs.length ≤ i → i < ps.length → (∀ f : Str × Str, (valV kvs (pK f)).isSome = true ↔ f ∈ ps.take i) → ps[i]? = some e → H' p = none →
          Same H (upd (upd H' p (.tup [.int (i : Nat), .ref ta])) d (.dT (putK kvs (pK e) (.int (i : Nat))))) ∧ (putK kvs (pK e) (V.int (i : Nat))).length ≤ i + 1 ∧ ∀ f : Str × Str, (valV (putK kvs (pK e) (V.int (i : Nat))) (pK f)).isSome = true ↔ f ∈ ps.take (i + 1) := by
        intro i e ta p H' kvs sm hk hkl hi hin he hp
        refine ⟨?_, ?_, fun f => ?_⟩
        · intro b o hb
          rw [upd_ne (ne_of_none hb hd)]
          exact Same.new hp _ _ (sm _ _ hb)
        · have := length_putK kvs (pK e) (V.int (i : Nat))
          omega
        · rw [valV_put, List.take_add_one, he, List.mem_append]
          by_cases q : f = e
          · subst q; simp
          · rw [if_neg (fun z => q (pK_inj z)), hin f]
            simp [q]
      rcases ha with ha | ha
      · refine ⟨_, rfl, _, rfl, .lst (.of (s0 _ _ ha)) ?_⟩
        refine for_enum (xs := refs) (fun i σ H' => ∃ o1 o2 kvs, σ = [some (.ref a), some (.ref d), o1, o2] ∧ Same H H' ∧ H' d = some (.dT kvs) ∧ kvs.length ≤ i ∧ ∀ f : Str × Str, (valV kvs (pK f)).isSome = true ↔ f ∈ ps.take i) ?_ ?_ ?_ ?_
        · exact ⟨none, none, [], rfl, s0, upd_same, Nat.le_refl _, fun s => by simp [valV_nil]⟩
        · rintro i σ H' hi ⟨o1, o2, kvs, rfl, sm, _⟩
          exact .of (sm _ _ ha)
        · rintro i x σ H' p hx ⟨o1, o2, kvs, rfl, sm, hk, hkl, hin⟩ hp
          obtain ⟨e, ta, he, rfl, hta⟩ := pair_get (rp.same sm) hx
          have hil := (List.getElem?_eq_some_iff.mp he).1
          have hdp : d ≠ p := ne_of_none hk hp
          obtain ⟨g1, g2, g3⟩ := turn i e ta p H' kvs sm hk hkl hil hin he hp
          refine ⟨p, _, rfl, .of upd_same, rfl, _, _, rfl, _, _, rfl, rfl, ?_⟩
          exact ⟨_, rfl, _, rfl, _, rfl, .dic (DPut.t (k := pK e) (by rw [upd_ne hdp]; exact hk) (Same.new hp _ _ hta) (small1000 (by omega))) ⟨_, _, _, rfl, g1, upd_same, g2, g3⟩⟩
        · rintro σ H' ⟨o1, o2, kvs, rfl, sm, hk, hkl, hin⟩
          rw [rlen, List.take_of_length_le (Nat.le_refl _)] at hin
          exact ⟨_, rfl, k d kvs H' sm hd hk hin⟩
      · refine ⟨_, rfl, _, rfl, .tup (.of (s0 _ _ ha)) ?_⟩
        refine for_enumT (xs := refs) (fun i σ H' => ∃ o1 o2 kvs, σ = [some (.ref a), some (.ref d), o1, o2] ∧ Same H H' ∧ H' d = some (.dT kvs) ∧ kvs.length ≤ i ∧ ∀ f : Str × Str, (valV kvs (pK f)).isSome = true ↔ f ∈ ps.take i) ?_ ?_ ?_ ?_
        · exact ⟨none, none, [], rfl, s0, upd_same, Nat.le_refl _, fun s => by simp [valV_nil]⟩
        · rintro i σ H' hi ⟨o1, o2, kvs, rfl, sm, _⟩
          exact .of (sm _ _ ha)
        · rintro i x σ H' p hx ⟨o1, o2, kvs, rfl, sm, hk, hkl, hin⟩ hp
          obtain ⟨e, ta, he, rfl, hta⟩ := pair_get (rp.same sm) hx
          have hil := (List.getElem?_eq_some_iff.mp he).1
          have hdp : d ≠ p := ne_of_none hk hp
          obtain ⟨g1, g2, g3⟩ := turn i e ta p H' kvs sm hk hkl hil hin he hp
          refine ⟨p, _, rfl, .of upd_same, rfl, _, _, rfl, _, _, rfl, rfl, ?_⟩
          exact ⟨_, rfl, _, rfl, _, rfl, .dic (DPut.t (k := pK e) (by rw [upd_ne hdp]; exact hk) (Same.new hp _ _ hta) (small1000 (by omega))) ⟨_, _, _, rfl, g1, upd_same, g2, g3⟩⟩
        · rintro σ H' ⟨o1, o2, kvs, rfl, sm, hk, hkl, hin⟩
          rw [rlen, List.take_of_length_le (Nat.le_refl _)] at hin
          exact ⟨_, rfl, k d kvs H' sm hd hk hin⟩
theorem placesX_of (vs : List V) (H : Hp) (Q : VK) (E : XK) (h : spPlaces vs H Q E) : spPlacesX vs H Q E := by
  obtain ⟨a, xs, rfl, ha, hl, k⟩ := h
  exact ⟨_, rfl, .nm (.inl ha) hl fun d kvs H' s h0 h1 h2 h3 _ _ => k d kvs H' s h0 h1 h2 h3⟩
end
end K22
namespace K22
open PySem L2
section
variable {P : Program} {w : World} {K : PySem.W.Frag} {mg : Str → Option Value} {base : Heap}
theorem mem_endsfalse {ts : List (Str × Str)} {s t : Str} : t ∈ (ts.filter fun e => decide (e.1 = s)).map (fun e => e.2) ↔ (s, t) ∈ (if false then flipE ts else ts) := by
  rw [List.mem_map]
  constructor
  · rintro ⟨⟨x, y⟩, h, rfl⟩
    have h := List.mem_filter.mp h
    have h2 := of_decide_eq_true h.2
    subst h2
    first
      | exact h.1
      | exact mem_flip.mpr h.1
  · intro h
    first
      | exact ⟨(s, t), List.mem_filter.mpr ⟨h, decide_eq_true rfl⟩, rfl⟩
      | exact ⟨(t, s), List.mem_filter.mpr ⟨mem_flip.mp h, decide_eq_true rfl⟩, rfl⟩
theorem scNexts : FnScope ["web", "one", "found"] ["web", "one"] (defScope sNexts) := ⟨rfl, rfl, rfl, by decide +kernel, rfl, by decide +kernel, by decide +kernel⟩
theorem ok_nexts {f : Addr} {fd : FuncData} (F : Fun K "nexts" "nexts" sNexts f fd) (B : Blt mg) (cplaces_of : Cal P w K mg base 1 "places_of" ["things"] spPlaces) : FnOk P w K mg base CX0 2 f fd ["web", "one"] (spNexts false) := by
  refine F.ok scNexts (fun vs H Q E h => ?_) (fun cdv A outer s H vs Q E hr h => ?_)
  · obtain ⟨q, ss, ts, s, rfl, _⟩ := h
    rfl
  · obtain ⟨q, ss, ts, s, rfl, W, k⟩ := h
    have nd := scNexts.nd
    refine ⟨_, (pss_cons (ps_set (i := 2) nd rfl (Or.inr rfl) (pe_cal cplaces_of (hr.mono (by decide)) rfl (pa_cons (pe_comp (defScope sNexts) ["web", "one", "found"] ["tie"] [1] ["tie", "one"] rfl (pi_tupK K (pe_ix (ix_X K hr.units) (pv 0) pe_int (fun _ _ => rfl))) (fun _ _ _ _ _ => (pg_name (i := 0) (show (["tie", "one"] : List Str).Nodup by decide) rfl (Or.inl rfl))) (fun _ _ _ _ _ => (pts_one (pt_cmpR (op_eqX hr.units) (pe_ix (ix_X K hr.units) (pv 0) pe_int (fun _ _ => rfl)) (pv 1) (nomark _)))) (fun _ _ _ _ _ => (pe_ix (ix_X K hr.units) (pv 0) pe_int (fun _ _ => rfl)))) pa_nil)))
      (pss_one (ps_ret (pe_comp (defScope sNexts) ["web", "one", "found"] ["thing"] [2] ["thing", "found"] rfl (pi_tupK K (pe_ix (ix_X K hr.units) (pv 0) pe_int (fun _ _ => rfl))) (fun _ _ _ _ _ => (pg_name (i := 0) (show (["thing", "found"] : List Str).Nodup by decide) rfl (Or.inl rfl))) (fun _ _ _ _ _ => (pts_one (pt_cmpR (op_inX K hr.units) (pv 0) (pv 1) (by with_unfolding_all rfl)))) (fun _ _ _ _ _ => (pv 0)))))), ?_⟩
    obtain ⟨q, a, b, xs, rfl, hq, ha, hb, rp⟩ := web_at W.rep
    have rlen := rp.len
    rw [List.length_map] at rlen
    refine ⟨_, rfl, .tup (.of hq) rfl ⟨_, rfl, ⟨_, .of hb⟩, ?_⟩⟩
    refine comp_tup xs (fun D i acc σ' H' => ∃ o, σ' = [o, some (.str s)] ∧ acc = ((ts.take i).filter fun e => decide (e.1 = s)).map (fun e => V.str e.2) ∧ Same H H' ∧ H D = none) fun D hD => ⟨?_, ?_, ?_, ?_⟩
    · exact ⟨none, rfl, rfl, Same.new hD, hD⟩
    · rintro i acc σ' H' _ ⟨o, rfl, _, sm, _⟩ _
      exact .of (sm _ _ hb)
    · rintro i acc σ' H' x hx ⟨o, rfl, hacc0, sm, hD0⟩ hacc
      obtain ⟨d, hd, rd⟩ := (rp.same sm).get hx
      rw [List.getElem?_map] at hd
      obtain ⟨e, he, rfl⟩ : ∃ e, ts[i]? = some e ∧ pairD e = d := by
        cases q : ts[i]? with
        | none => rw [q] at hd; cases hd
        | some e => rw [q] at hd; exact ⟨e, rfl, Option.some.inj hd⟩
      obtain ⟨ta, rfl, hta⟩ := pair_at rd
      have hil := (List.getElem?_eq_some_iff.mp he).1
      refine ⟨_, rfl, .tup (.of hta) rfl ⟨_, rfl, .sc rfl ⟨_, rfl, ?_⟩⟩⟩
      refine ite2 (fun h1 => ?_) (fun h1 => ?_)
      · have h1 : e.1 = s := V.str.inj (of_decide_eq_true h1)
        refine ⟨_, rfl, .tup (.of hta) rfl ⟨hacc, ?_, _, rfl, ?_, ?_, hD0⟩⟩
        · rw [hacc0, List.length_map]
          have h2 := List.length_filter_le (fun e : Str × Str => decide (e.1 = s)) (ts.take i)
          rw [List.length_take] at h2
          have := W.few
          exact small1000 (by omega)
        · rw [List.take_add_one, he, hacc0, List.filter_append, List.map_append]
          simp [h1]
        · intro c o hc
          rw [upd_ne (ne_of_none hc hD0)]
          exact sm _ _ hc
      · have h1 : ¬ e.1 = s := fun z => h1 (decide_eq_true (congrArg V.str z))
        refine ⟨hacc, _, rfl, ?_, sm, hD0⟩
        rw [List.take_add_one, he, hacc0, List.filter_append, List.map_append]
        simp [h1]
    · rintro acc σ' H1 ⟨o, rfl, hacc0, s1, hD0⟩ hacc
      rw [rlen, List.take_of_length_le (Nat.le_refl _)] at hacc0
      have ea : acc = List.map V.str ((ts.filter fun e => decide (e.1 = s)).map (fun e => e.2)) := by rw [hacc0, List.map_map]; rfl
      refine ⟨D, _, rfl, by rw [← ea]; exact hacc, ?_, ?_⟩
      · rw [List.length_map]
        have h2 := List.length_filter_le (fun e : Str × Str => decide (e.1 = s)) ts
        have := W.few
        omega
      · intro d kvs H2 s2 hd2 hk hin hat
        have s12 := s1.trans s2
        refine ⟨_, rfl, .tup (.of (s12 _ _ hq)) rfl ⟨_, rfl, ⟨_, .of (s12 _ _ ha)⟩, ?_⟩⟩
        refine comp_tup (List.map V.str ss) (fun D i acc σ' H' => ∃ o, σ' = [o, some (.ref d)] ∧ acc = List.map V.str ((ss.take i).filter fun t => (valV kvs (.inr t)).isSome) ∧ Same H2 H' ∧ H2 D = none) fun D' hD' => ⟨?_, ?_, ?_, ?_⟩
        · exact ⟨none, rfl, rfl, Same.new hD', hD'⟩
        · rintro i acc σ' H' _ ⟨o, rfl, _, sm, _⟩ _
          exact .of (sm _ _ (s12 _ _ ha))
        · rintro i acc σ' H' x hx ⟨o, rfl, hacc0, sm, hD0⟩ hacc
          rw [List.getElem?_map] at hx
          obtain ⟨t, ht, rfl⟩ : ∃ t, ss[i]? = some t ∧ V.str t = x := by
            cases q : ss[i]? with
            | none => rw [q] at hx; cases hx
            | some e => rw [q] at hx; exact ⟨e, rfl, Option.some.inj hx⟩
          have hil := (List.getElem?_eq_some_iff.mp ht).1
          refine ⟨_, rfl, _, rfl, .dic (DGet.k (k := .inr t) (sm _ _ hk)) ⟨_, rfl, ?_⟩⟩
          refine ite2 (fun h1 => ?_) (fun h1 => ?_)
          · refine ⟨_, rfl, hacc, ?_, _, rfl, ?_, ?_, hD0⟩
            · rw [hacc0, List.length_map]
              have h2 := List.length_filter_le (fun t : Str => (valV kvs (.inr t)).isSome) (ss.take i)
              rw [List.length_take] at h2
              have := W.len
              exact small1000 (by omega)
            · have h1 : (valV kvs (.inr t)).isSome = true := h1
              rw [List.take_add_one, ht, hacc0, List.filter_append, List.map_append]
              simp [h1]
            · intro c o hc
              rw [upd_ne (ne_of_none hc hD0)]
              exact sm _ _ hc
          · have h1 : ¬ (valV kvs (.inr t)).isSome = true := h1
            refine ⟨hacc, _, rfl, ?_, sm, hD0⟩
            rw [List.take_add_one, ht, hacc0, List.filter_append, List.map_append]
            simp [h1]
        · rintro acc σ' H' ⟨o, rfl, hacc0, sm, hD0⟩ hacc
          rw [List.length_map, List.take_of_length_le (Nat.le_refl _)] at hacc0
          refine k _ _ (s12.trans sm) ?_ ?_
          · cases e : H D' with
            | none => rfl
            | some o => rw [s12 _ _ e] at hD0; cases hD0
          · rw [hacc, hacc0]
            have : (ss.filter fun t => (valV kvs (.inr t)).isSome) = nxtL ss (if false then flipE ts else ts) s := by
              unfold nxtL
              refine List.filter_congr fun t _ => ?_
              rw [Bool.eq_iff_iff, hin t, mem_endsfalse, decide_eq_true_iff]
            rw [this]
theorem mem_endstrue {ts : List (Str × Str)} {s t : Str} : t ∈ (ts.filter fun e => decide (e.2 = s)).map (fun e => e.1) ↔ (s, t) ∈ (if true then flipE ts else ts) := by
  rw [List.mem_map]
  constructor
  · rintro ⟨⟨x, y⟩, h, rfl⟩
    have h := List.mem_filter.mp h
    have h2 := of_decide_eq_true h.2
    subst h2
    first
      | exact h.1
      | exact mem_flip.mpr h.1
  · intro h
    first
      | exact ⟨(s, t), List.mem_filter.mpr ⟨h, decide_eq_true rfl⟩, rfl⟩
      | exact ⟨(t, s), List.mem_filter.mpr ⟨mem_flip.mp h, decide_eq_true rfl⟩, rfl⟩
theorem scPriors : FnScope ["web", "one", "found"] ["web", "one"] (defScope sPriors) := ⟨rfl, rfl, rfl, by decide +kernel, rfl, by decide +kernel, by decide +kernel⟩
theorem ok_priors {f : Addr} {fd : FuncData} (F : Fun K "priors" "priors" sPriors f fd) (B : Blt mg) (cplaces_of : Cal P w K mg base 1 "places_of" ["things"] spPlaces) : FnOk P w K mg base CX0 2 f fd ["web", "one"] (spNexts true) := by
  refine F.ok scPriors (fun vs H Q E h => ?_) (fun cdv A outer s H vs Q E hr h => ?_)
  · obtain ⟨q, ss, ts, s, rfl, _⟩ := h
    rfl
  · obtain ⟨q, ss, ts, s, rfl, W, k⟩ := h
    have nd := scPriors.nd
    refine ⟨_, (pss_cons (ps_set (i := 2) nd rfl (Or.inr rfl) (pe_cal cplaces_of (hr.mono (by decide)) rfl (pa_cons (pe_comp (defScope sPriors) ["web", "one", "found"] ["tie"] [1] ["tie", "one"] rfl (pi_tupK K (pe_ix (ix_X K hr.units) (pv 0) pe_int (fun _ _ => rfl))) (fun _ _ _ _ _ => (pg_name (i := 0) (show (["tie", "one"] : List Str).Nodup by decide) rfl (Or.inl rfl))) (fun _ _ _ _ _ => (pts_one (pt_cmpR (op_eqX hr.units) (pe_ix (ix_X K hr.units) (pv 0) pe_int (fun _ _ => rfl)) (pv 1) (nomark _)))) (fun _ _ _ _ _ => (pe_ix (ix_X K hr.units) (pv 0) pe_int (fun _ _ => rfl)))) pa_nil)))
      (pss_one (ps_ret (pe_comp (defScope sPriors) ["web", "one", "found"] ["thing"] [2] ["thing", "found"] rfl (pi_tupK K (pe_ix (ix_X K hr.units) (pv 0) pe_int (fun _ _ => rfl))) (fun _ _ _ _ _ => (pg_name (i := 0) (show (["thing", "found"] : List Str).Nodup by decide) rfl (Or.inl rfl))) (fun _ _ _ _ _ => (pts_one (pt_cmpR (op_inX K hr.units) (pv 0) (pv 1) (by with_unfolding_all rfl)))) (fun _ _ _ _ _ => (pv 0)))))), ?_⟩
    obtain ⟨q, a, b, xs, rfl, hq, ha, hb, rp⟩ := web_at W.rep
    have rlen := rp.len
    rw [List.length_map] at rlen
    refine ⟨_, rfl, .tup (.of hq) rfl ⟨_, rfl, ⟨_, .of hb⟩, ?_⟩⟩
    refine comp_tup xs (fun D i acc σ' H' => ∃ o, σ' = [o, some (.str s)] ∧ acc = ((ts.take i).filter fun e => decide (e.2 = s)).map (fun e => V.str e.1) ∧ Same H H' ∧ H D = none) fun D hD => ⟨?_, ?_, ?_, ?_⟩
    · exact ⟨none, rfl, rfl, Same.new hD, hD⟩
    · rintro i acc σ' H' _ ⟨o, rfl, _, sm, _⟩ _
      exact .of (sm _ _ hb)
    · rintro i acc σ' H' x hx ⟨o, rfl, hacc0, sm, hD0⟩ hacc
      obtain ⟨d, hd, rd⟩ := (rp.same sm).get hx
      rw [List.getElem?_map] at hd
      obtain ⟨e, he, rfl⟩ : ∃ e, ts[i]? = some e ∧ pairD e = d := by
        cases q : ts[i]? with
        | none => rw [q] at hd; cases hd
        | some e => rw [q] at hd; exact ⟨e, rfl, Option.some.inj hd⟩
      obtain ⟨ta, rfl, hta⟩ := pair_at rd
      have hil := (List.getElem?_eq_some_iff.mp he).1
      refine ⟨_, rfl, .tup (.of hta) rfl ⟨_, rfl, .sc rfl ⟨_, rfl, ?_⟩⟩⟩
      refine ite2 (fun h1 => ?_) (fun h1 => ?_)
      · have h1 : e.2 = s := V.str.inj (of_decide_eq_true h1)
        refine ⟨_, rfl, .tup (.of hta) rfl ⟨hacc, ?_, _, rfl, ?_, ?_, hD0⟩⟩
        · rw [hacc0, List.length_map]
          have h2 := List.length_filter_le (fun e : Str × Str => decide (e.2 = s)) (ts.take i)
          rw [List.length_take] at h2
          have := W.few
          exact small1000 (by omega)
        · rw [List.take_add_one, he, hacc0, List.filter_append, List.map_append]
          simp [h1]
        · intro c o hc
          rw [upd_ne (ne_of_none hc hD0)]
          exact sm _ _ hc
      · have h1 : ¬ e.2 = s := fun z => h1 (decide_eq_true (congrArg V.str z))
        refine ⟨hacc, _, rfl, ?_, sm, hD0⟩
        rw [List.take_add_one, he, hacc0, List.filter_append, List.map_append]
        simp [h1]
    · rintro acc σ' H1 ⟨o, rfl, hacc0, s1, hD0⟩ hacc
      rw [rlen, List.take_of_length_le (Nat.le_refl _)] at hacc0
      have ea : acc = List.map V.str ((ts.filter fun e => decide (e.2 = s)).map (fun e => e.1)) := by rw [hacc0, List.map_map]; rfl
      refine ⟨D, _, rfl, by rw [← ea]; exact hacc, ?_, ?_⟩
      · rw [List.length_map]
        have h2 := List.length_filter_le (fun e : Str × Str => decide (e.2 = s)) ts
        have := W.few
        omega
      · intro d kvs H2 s2 hd2 hk hin hat
        have s12 := s1.trans s2
        refine ⟨_, rfl, .tup (.of (s12 _ _ hq)) rfl ⟨_, rfl, ⟨_, .of (s12 _ _ ha)⟩, ?_⟩⟩
        refine comp_tup (List.map V.str ss) (fun D i acc σ' H' => ∃ o, σ' = [o, some (.ref d)] ∧ acc = List.map V.str ((ss.take i).filter fun t => (valV kvs (.inr t)).isSome) ∧ Same H2 H' ∧ H2 D = none) fun D' hD' => ⟨?_, ?_, ?_, ?_⟩
        · exact ⟨none, rfl, rfl, Same.new hD', hD'⟩
        · rintro i acc σ' H' _ ⟨o, rfl, _, sm, _⟩ _
          exact .of (sm _ _ (s12 _ _ ha))
        · rintro i acc σ' H' x hx ⟨o, rfl, hacc0, sm, hD0⟩ hacc
          rw [List.getElem?_map] at hx
          obtain ⟨t, ht, rfl⟩ : ∃ t, ss[i]? = some t ∧ V.str t = x := by
            cases q : ss[i]? with
            | none => rw [q] at hx; cases hx
            | some e => rw [q] at hx; exact ⟨e, rfl, Option.some.inj hx⟩
          have hil := (List.getElem?_eq_some_iff.mp ht).1
          refine ⟨_, rfl, _, rfl, .dic (DGet.k (k := .inr t) (sm _ _ hk)) ⟨_, rfl, ?_⟩⟩
          refine ite2 (fun h1 => ?_) (fun h1 => ?_)
          · refine ⟨_, rfl, hacc, ?_, _, rfl, ?_, ?_, hD0⟩
            · rw [hacc0, List.length_map]
              have h2 := List.length_filter_le (fun t : Str => (valV kvs (.inr t)).isSome) (ss.take i)
              rw [List.length_take] at h2
              have := W.len
              exact small1000 (by omega)
            · have h1 : (valV kvs (.inr t)).isSome = true := h1
              rw [List.take_add_one, ht, hacc0, List.filter_append, List.map_append]
              simp [h1]
            · intro c o hc
              rw [upd_ne (ne_of_none hc hD0)]
              exact sm _ _ hc
          · have h1 : ¬ (valV kvs (.inr t)).isSome = true := h1
            refine ⟨hacc, _, rfl, ?_, sm, hD0⟩
            rw [List.take_add_one, ht, hacc0, List.filter_append, List.map_append]
            simp [h1]
        · rintro acc σ' H' ⟨o, rfl, hacc0, sm, hD0⟩ hacc
          rw [List.length_map, List.take_of_length_le (Nat.le_refl _)] at hacc0
          refine k _ _ (s12.trans sm) ?_ ?_
          · cases e : H D' with
            | none => rfl
            | some o => rw [s12 _ _ e] at hD0; cases hD0
          · rw [hacc, hacc0]
            have : (ss.filter fun t => (valV kvs (.inr t)).isSome) = nxtL ss (if true then flipE ts else ts) s := by
              unfold nxtL
              refine List.filter_congr fun t _ => ?_
              rw [Bool.eq_iff_iff, hin t, mem_endstrue, decide_eq_true_iff]
            rw [this]
end
end K22
namespace K22
open PySem L2
section
variable {P : Program} {w : World} {K : PySem.W.Frag} {mg : Str → Option Value} {base : Heap}
theorem scNextsAll : FnScope ["web", "table", "thing"] ["web"] (defScope sNextsAll) := ⟨rfl, rfl, rfl, by decide +kernel, rfl, by decide +kernel, by decide +kernel⟩
theorem ok_nexts_of_all {f : Addr} {fd : FuncData} (F : Fun K "nexts_of_all" "nexts_of_all" sNextsAll f fd) (B : Blt mg) (cnexts : Cal P w K mg base 2 "nexts" ["web", "one"] (spNexts false)) : FnOk P w K mg base CX0 3 f fd ["web"] (spNextsAll false) := by
  refine F.ok scNextsAll (fun vs H Q E h => ?_) (fun cdv A outer s H vs Q E hr h => ?_)
  · obtain ⟨q, ss, ts, rfl, _⟩ := h
    rfl
  · obtain ⟨q, ss, ts, rfl, W, k⟩ := h
    have nd := scNextsAll.nd
    refine ⟨_, (pss_cons (ps_set (i := 1) nd rfl (Or.inl rfl) pe_dnewK)
      (pss_cons (ps_for PassesOwn.never rfl (pi_tupK K (pe_ix (ix_X K hr.units) (pv 0) pe_int (fun _ _ => rfl))) (pg_name (i := 2) nd rfl (Or.inl rfl)) (pss_one (ps_asg (pe_cal cnexts (hr.mono (by decide)) rfl (pa_cons (pv 0) (pa_cons (pv 2) pa_nil))) (pg_sub (pv 1) (pv 2) (set_X hr.units)))))
      (pss_one (ps_ret (pv 1))))), ?_⟩
    intro d hd
    have W1 := W.same (Same.new (o := .dK []) hd)
    obtain ⟨q, a, b, xs, rfl, hq, ha, hb, rp⟩ := web_at W.rep
    have s0 := Same.new (o := .dK []) hd
    refine ⟨_, rfl, .tup (.of (s0 _ _ hq)) rfl ⟨_, rfl, ⟨_, .of (s0 _ _ ha)⟩, ?_⟩⟩
    refine for_tup (xs := List.map V.str ss) (fun i σ H' => ∃ o1 kvs, σ = [some (.ref q), some (.ref d), o1] ∧ Same H H' ∧ H' d = some (.dK kvs) ∧ kvs.length ≤ i ∧ ∀ s ∈ ss.take i, ∃ l, valV kvs (.inr s) = some (.ref l) ∧ H' l = some (.lst (List.map V.str (nxtL ss (if false then flipE ts else ts) s)))) ?_ ?_ ?_ ?_
    · exact ⟨none, [], rfl, s0, upd_same, Nat.le_refl _, fun s hs => by simp at hs⟩
    · rintro i σ H' hi ⟨o1, kvs, rfl, sm, _⟩
      exact .of (sm _ _ ha)
    · rintro i x σ H' hx ⟨o1, kvs, rfl, sm, hk, hkl, hall⟩
      rw [List.getElem?_map] at hx
      obtain ⟨t, ht, rfl⟩ : ∃ t, ss[i]? = some t ∧ V.str t = x := by
        cases q : ss[i]? with
        | none => rw [q] at hx; cases hx
        | some e => rw [q] at hx; exact ⟨e, rfl, Option.some.inj hx⟩
      have hil := (List.getElem?_eq_some_iff.mp ht).1
      refine ⟨_, rfl, _, rfl, .ref q, ss, ts, t, rfl, W.same sm, fun l H2 s2 hl hl2 => ?_⟩
      have hk2 := s2 _ _ hk
      have := W.len
      refine ⟨_, rfl, _, rfl, .dic (DPut.k (k := .inr t) hk2 (small1000 (by omega))) ⟨_, _, rfl, ?_, upd_same, ?_, ?_⟩⟩
      · intro c o hc
        rw [upd_ne (ne_of_none hc hd)]
        exact s2 _ _ (sm _ _ hc)
      · have := length_putK kvs (.inr t) (V.ref l)
        omega
      · intro s hs
        rw [List.take_add_one, ht, List.mem_append] at hs
        by_cases q : s = t
        · subst q
          refine ⟨l, by rw [valV_put, if_pos rfl], ?_⟩
          rw [upd_ne (ne_of hl2 hk2 (by intro z; cases z))]
          exact hl2
        · rcases hs with hs | hs
          · obtain ⟨l', e1, e2⟩ := hall s hs
            refine ⟨l', by rw [valV_put, if_neg (fun z => q (Sum.inr.inj z))]; exact e1, ?_⟩
            rw [upd_ne (ne_of (s2 _ _ e2) hk2 (by intro z; cases z))]
            exact s2 _ _ e2
          · exact absurd (by simpa using hs) q
    · rintro σ H' ⟨o1, kvs, rfl, sm, hk, _, hall⟩
      rw [List.length_map, List.take_of_length_le (Nat.le_refl _)] at hall
      exact ⟨_, rfl, k d H' sm hd ⟨kvs, hk, hall⟩⟩
theorem scPriorsAll : FnScope ["web", "table", "thing"] ["web"] (defScope sPriorsAll) := ⟨rfl, rfl, rfl, by decide +kernel, rfl, by decide +kernel, by decide +kernel⟩
end
end K22
namespace K22
open PySem L2
section
variable {P : Program} {w : World} {K : PySem.W.Frag} {mg : Str → Option Value} {base : Heap}
structure Stp (H H' : Hp) (ss : List Str) (e : Addr) (look : Str → Option Nat) (kvs : List (Key × V)) : Prop where
  sm : Same H H'
  at_ : H' e = some (.dK kvs)
  lk : ∀ t, valV kvs (.inr t) = (look t).map fun k : Nat => V.int (k : Int)
  nd : (kvs.map (·.1)).Nodup
  ks : ∀ k ∈ kvs.map (·.1), ∃ t ∈ ss, k = Sum.inr t
theorem Stp.len {H H' : Hp} {ss : List Str} {e : Addr} {look : Str → Option Nat} {kvs : List (Key × V)} (h : Stp H H' ss e look kvs) : kvs.length ≤ ss.length := by
  have := h.nd.length_le_of_subset (l₂ := ss.map (Sum.inr : Str → Key)) fun k hk => by
    obtain ⟨t, ht, rfl⟩ := h.ks k hk
    exact List.mem_map.mpr ⟨t, ht, rfl⟩
  simpa using this
theorem Stp.oth {H H' : Hp} {ss : List Str} {e b : Addr} {look : Str → Option Nat} {kvs : List (Key × V)} {o : HO} (h : Stp H H' ss e look kvs) (hb : H b = none) (n : e ≠ b) : Stp H (upd H' b o) ss e look kvs :=
  ⟨fun c o' hc => by rw [upd_ne (ne_of_none hc hb)]; exact h.sm _ _ hc, by rw [upd_ne n]; exact h.at_, h.lk, h.nd, h.ks⟩
theorem Stp.put {H H' : Hp} {ss : List Str} {e : Addr} {look : Str → Option Nat} {kvs : List (Key × V)} (h : Stp H H' ss e look kvs) (he : H e = none) {t : Str} (ht : t ∈ ss) (hn : look t = none) (k : Nat) :
    Stp H (upd H' e (.dK (putK kvs (.inr t) (.int (k : Int))))) ss e (fun a => if a = t then some k else look a) (putK kvs (.inr t) (.int (k : Int))) := by
  have hv : valV kvs (.inr t) = none := by rw [h.lk, hn]; rfl
  refine ⟨fun c o' hc => by rw [upd_ne (ne_of_none hc he)]; exact h.sm _ _ hc, upd_same, fun u => ?_, nd_putK _ h.nd hv, fun q hq => ?_⟩
  · rw [valV_put]
    by_cases q : u = t
    · subst q; rw [if_pos rfl]; simp
    · rw [if_neg (fun z => q (Sum.inr.inj z)), h.lk u]; simp [q]
  · rw [putK_new _ hv, List.map_append] at hq
    rcases List.mem_append.mp hq with hq | hq
    · exact h.ks q hq
    · have : q = Sum.inr t := by simpa using hq
      exact ⟨t, ht, this⟩
noncomputable def spStepsL : Sp := fun vs H Q _ => ∃ d st s ss f, vs = [.ref d, .ref st] ∧ H st = some (.lst [V.str s]) ∧ Tab H d ss f ∧ s ∈ ss ∧ ss.length ≤ 60 ∧ (∀ t ∈ ss, ∀ u ∈ f t, u ∈ ss) ∧
  ∀ e kvs H', Same H H' → H e = none → H' e = some (.dK kvs) → (∀ t v, valV kvs (.inr t) = some v ↔ ∃ k : Nat, v = .int k ∧ MG.Dst (Ner ss f) s k t) → Q (.ref e) H'
theorem scSteps : FnScope ["table", "starts", "steps", "start", "edge", "further", "thing", "near"] ["table", "starts"] (defScope sSteps) := ⟨rfl, rfl, rfl, by decide +kernel, rfl, by decide +kernel, by decide +kernel⟩
theorem ok_steps {f : Addr} {fd : FuncData} (F : Fun K "steps_from" "steps_from" sSteps f fd) (B : Blt mg) : FnOk P w K mg base CX0 1 f fd ["table", "starts"] spStepsL := by
  refine F.ok scSteps (fun vs H Q E h => ?_) (fun cdv A outer s H vs Q E hr h => ?_)
  · obtain ⟨d, st, s, ss, f, rfl, _⟩ := h
    rfl
  · obtain ⟨d, st, s, ss, fn, rfl, hst, T, hs, hlen, hcl, k⟩ := h
    have nd := scSteps.nd
    refine ⟨_, (pss_cons (ps_set (i := 2) nd rfl (Or.inl rfl) pe_dnewK)
      (pss_cons (ps_for PassesOwn.never rfl (pi_listK K (pv 1)) (pg_name (i := 3) nd rfl (Or.inl rfl)) (pss_one (ps_asg pe_int (pg_sub (pv 2) (pv 3) (set_X hr.units)))))
      (pss_cons (ps_set (i := 4) nd rfl (Or.inl rfl) (b_list K rfl B (pa_cons (pv 1) pa_nil)))
      (pss_cons (ps_while PassesOwn.never (pt_cmpR op_gt (b_len K B (pa_cons (pv 4) pa_nil)) pe_int (nomark _)) (pss_cons (ps_set (i := 5) nd rfl (Or.inl rfl) (pe_lst pa_nil))
      (pss_cons (ps_for PassesOwn.never rfl (pi_listK K (pv 4)) (pg_name (i := 6) nd rfl (Or.inl rfl)) (pss_one (ps_for PassesOwn.never rfl (pi_listK K (pe_ix (ix_X K hr.units) (pv 0) (pv 6) (fun _ _ => rfl))) (pg_name (i := 7) nd rfl (Or.inl rfl)) (pss_one (ps_if (pt_cmpR (op_notInX K hr.units) (pv 7) (pv 2) (by with_unfolding_all rfl)) (pss_cons (ps_asg (pe_op op_addX (pe_ix (ix_X K hr.units) (pv 2) (pv 6) (fun _ _ => rfl)) pe_int) (pg_sub (pv 2) (pv 7) (set_X hr.units)))
      (pss_one (ps_expr (m_append K (pv 5) (pa_cons (pv 7) pa_nil))))) pss_nil)))))
      (pss_one (ps_set (i := 4) nd rfl (Or.inl rfl) (pv 5))))))
      (pss_one (ps_ret (pv 2))))))), ?_⟩
    have hin : ∀ y, MG.Rch (Ner ss fn) s y → y ∈ ss := fun y r => MG.Rch.closed (S := fun y => y ∈ ss) hs (fun a b ha r => hcl a ha b r.2) r
    intro e he
    have hste : st ≠ e := ne_of_none hst he
    refine ⟨_, rfl, st, rfl, ⟨_, .of (by rw [upd_ne hste]; exact hst)⟩, ?_⟩
    refine for_list (xs := [V.str s]) (fun i σ H' => ∃ o3 o4 o5 o6 o7, σ = [some (.ref d), some (.ref st), some (.ref e), o3, o4, o5, o6, o7] ∧ H' st = some (.lst [V.str s]) ∧ (i = 0 → H' = upd H e (.dK [])) ∧ (i ≠ 0 → ∃ kvs, Stp H H' ss e (fun a => if a = s then some 0 else none) kvs)) ?_ ?_ ?_ ?_
    · exact ⟨none, none, none, none, none, rfl, by rw [upd_ne hste]; exact hst, fun _ => rfl, fun z => absurd rfl z⟩
    · rintro i σ H' hi ⟨o3, o4, o5, o6, o7, rfl, h1, _⟩
      exact .of h1
    · rintro i x σ H' hx ⟨o3, o4, o5, o6, o7, rfl, h1, h2, _⟩
      have hi : i < 1 := (List.getElem?_eq_some_iff.mp hx).1
      have hi : i = 0 := by omega
      subst hi
      have hx : V.str s = x := Option.some.inj hx
      subst hx
      have h2 := h2 rfl
      subst h2
      have h0 : Stp H (upd (upd H e (.dK [])) e (.dK (putK [] (.inr s) (.int ((0 : Nat) : Int))))) ss e (fun a => if a = s then some 0 else none) (putK [] (.inr s) (.int ((0 : Nat) : Int))) :=
        Stp.put (kvs := []) (look := fun _ => none) ⟨Same.new he, upd_same, fun t => rfl, List.nodup_nil, fun k hk => by cases hk⟩ he hs rfl 0
      refine ⟨_, rfl, _, rfl, .dic (DPut.k (k := .inr s) upd_same (by show 0 < sizeLine; decide)) ⟨_, _, _, _, _, rfl, by rw [upd_ne hste]; exact h1, fun z => absurd z (by omega), fun _ => ⟨_, h0⟩⟩⟩
    rintro σ H1 ⟨o3, o4, o5, o6, o7, rfl, hst1, _, hS⟩
    obtain ⟨kv0, h0⟩ := hS (by show 1 ≠ 0; omega)
    refine ⟨_, rfl, _, rfl, .seq (.inl (.of hst1)) fun l0 hl0 => ?_⟩
    have hl00 : H l0 = none := by
      cases q : H l0 with
      | none => rfl
      | some o => rw [h0.sm _ _ q] at hl0; cases hl0
    have h1 := h0.oth (o := .lst [V.str s]) hl00 (ne_of_none h0.at_ hl0)
    refine ⟨fun m σ H' => ∃ L le edge kvs look o3 o4 o5 o6, m + L = ss.length ∧ σ = [some (.ref d), some (.ref st), some (.ref e), o3, some (.ref le), o4, o5, o6] ∧ Stp H H' ss e look kvs ∧ H le = none ∧ H' le = some (.lst (List.map V.str edge)) ∧ edge.length ≤ 60 ∧ MG.Lev (Ner ss fn) s L look edge,
      ⟨ss.length, 0, l0, [s], _, _, o3, o5, o6, o7, by omega, rfl, h1, hl00, upd_same, by show 1 ≤ 60; decide, MG.Lev.start fun y => rfl⟩, ?_⟩
    rintro m σ H2 ⟨L, le, edge, kvs, look, o3, o4, o5, o6, hm, rfl, S, hle0, hle, hel, lev⟩
    refine ⟨_, rfl, _, _, rfl, Or.inl ⟨_, .of hle, rfl⟩, _, _, rfl, rfl, _, rfl, ?_⟩
    refine ite2 (fun hc => ?_) (fun hc => ?_)
    · have hc : (0 : Int) < ((List.map V.str edge).length : Nat) := of_decide_eq_true hc
      rw [List.length_map] at hc
      have hL : L < ss.length := by
        cases edge with
        | nil => simp at hc
        | cons y r => exact MG.Dst.lt hin ((lev.edg y).mp (by simp))
      refine ⟨fun σ' H' => ∃ le edge kvs look o3 o4 o5 o6, σ' = [some (.ref d), some (.ref st), some (.ref e), o3, some (.ref le), o4, o5, o6] ∧ Stp H H' ss e look kvs ∧ H le = none ∧ H' le = some (.lst (List.map V.str edge)) ∧ edge.length ≤ 60 ∧ MG.Lev (Ner ss fn) s (L + 1) look edge,
        fun σ' H' ⟨le, edge, kvs, look, o3, o4, o5, o6, p⟩ => ⟨m - 1, by omega, L + 1, le, edge, kvs, look, o3, o4, o5, o6, by omega, p⟩, ?_⟩
      refine ⟨(by show 0 ≤ sizeLine; decide), fun lf hlf => ?_⟩
      have hlf0 : H lf = none := by
        cases q : H lf with
        | none => rfl
        | some o => rw [S.sm _ _ q] at hlf; cases hlf
      have nlf : le ≠ lf := ne_of_none hle hlf
      have S1 := S.oth (o := .lst []) hlf0 (ne_of_none S.at_ hlf)
      refine ⟨_, rfl, le, rfl, ⟨_, .of (by rw [upd_ne nlf]; exact hle)⟩, ?_⟩
      refine for_list (xs := List.map V.str edge) (fun i σ H' => ∃ kvs look fur o5 o6, σ = [some (.ref d), some (.ref st), some (.ref e), o3, some (.ref le), some (.ref lf), o5, o6] ∧ Stp H H' ss e look kvs ∧ H' le = some (.lst (List.map V.str edge)) ∧ H' lf = some (.lst (List.map V.str fur)) ∧ fur.Nodup ∧ (∀ t ∈ fur, t ∈ ss) ∧ MG.Mid (Ner ss fn) s L look fur (fun z y => z ∈ edge.take i ∧ Ner ss fn z y)) ?_ ?_ ?_ ?_
      · exact ⟨kvs, look, [], o5, o6, rfl, S1, by rw [upd_ne nlf]; exact hle, upd_same, List.nodup_nil, (fun t ht => by cases ht), lev.mid.wk fun a b h => by simp at h⟩
      · rintro i σ H' hi ⟨kvs, look, fur, o5, o6, rfl, S, hle, _⟩
        exact .of hle
      · rintro i x σ H' hx ⟨kvs, look, fur, o5, o6, rfl, S, hle, hlf, hfn, hfs, mid⟩
        rw [List.getElem?_map] at hx
        obtain ⟨z, hz, rfl⟩ : ∃ z, edge[i]? = some z ∧ V.str z = x := by
          cases q : edge[i]? with
          | none => rw [q] at hx; cases hx
          | some e => rw [q] at hx; exact ⟨e, rfl, Option.some.inj hx⟩
        have dz := (lev.edg z).mp (List.mem_of_getElem? hz)
        have hzs := hin z dz.rch
        obtain ⟨tkv, hd, ht⟩ := T
        obtain ⟨l, el, hl⟩ := ht z hzs
        have hl' := S.sm _ _ hl
        refine ⟨_, rfl, _, rfl, .dic (.inl ⟨tkv, .inr z, .inl (S.sm _ _ hd), rfl, el.symm⟩) ⟨l, rfl, ⟨_, .of hl'⟩, ?_⟩⟩
        refine for_list (xs := List.map V.str (fn z)) (fun j σ H' => ∃ kvs look fur o6, σ = [some (.ref d), some (.ref st), some (.ref e), o3, some (.ref le), some (.ref lf), some (.str z), o6] ∧ Stp H H' ss e look kvs ∧ H' le = some (.lst (List.map V.str edge)) ∧ H' lf = some (.lst (List.map V.str fur)) ∧ fur.Nodup ∧ (∀ t ∈ fur, t ∈ ss) ∧ MG.Mid (Ner ss fn) s L look fur (fun a y => (a ∈ edge.take i ∧ Ner ss fn a y) ∨ (a = z ∧ y ∈ (fn z).take j))) ?_ ?_ ?_ ?_
        · exact ⟨kvs, look, fur, o6, rfl, S, hle, hlf, hfn, hfs, mid.wk fun a b h => by simpa using h⟩
        · rintro j σ H' hj ⟨kvs, look, fur, o6, rfl, S, _⟩
          exact .of (S.sm _ _ hl)
        · rintro j x σ H' hx ⟨kvs, look, fur, o6, rfl, S, hle, hlf, hfn, hfs, mid⟩
          rw [List.getElem?_map] at hx
          obtain ⟨y, hy, rfl⟩ : ∃ y, (fn z)[j]? = some y ∧ V.str y = x := by
            cases q : (fn z)[j]? with
            | none => rw [q] at hx; cases hx
            | some e => rw [q] at hx; exact ⟨e, rfl, Option.some.inj hx⟩
          have hyf := List.mem_of_getElem? hy
          have hys := hcl z hzs y hyf
          have hdone : ∀ a b, ((a ∈ edge.take i ∧ Ner ss fn a b) ∨ (a = z ∧ b ∈ (fn z).take (j + 1))) → ((a ∈ edge.take i ∧ Ner ss fn a b) ∨ (a = z ∧ b ∈ (fn z).take j)) ∨ (a = z ∧ b = y) := by
            intro a b h
            rcases h with h | ⟨h1, h2⟩
            · exact .inl (.inl h)
            · rw [List.take_add_one, hy, List.mem_append] at h2
              rcases h2 with h2 | h2
              · exact .inl (.inr ⟨h1, h2⟩)
              · exact .inr ⟨h1, by simpa using h2⟩
          refine ⟨_, rfl, _, rfl, .dic (DGet.k (k := .inr y) S.at_) ⟨_, rfl, ?_⟩⟩
          rw [S.lk y]
          refine ite2 (fun hc => ?_) (fun hc => ?_)
          · have hc : ¬ (look y).isSome = true := by simpa using hc
            have hn : look y = none := by simpa using hc
            have hzl : valV kvs (.inr z) = some (V.int (L : Int)) := by rw [S.lk, mid.cmp z L (Nat.le_refl _) dz]; rfl
            refine ⟨_, rfl, _, rfl, .dic (.inl ⟨kvs, .inr z, .inl S.at_, rfl, hzl.symm⟩) (.int ?_)⟩
            have hkl := S.len
            refine ⟨_, rfl, _, rfl, .dic (DPut.k (k := .inr y) S.at_ (small1000 (by omega))) ?_⟩
            have S' := S.put he hys hn (L + 1)
            have nle : le ≠ e := ne_of hle S.at_ (by intro z; cases z)
            have nlf' : lf ≠ e := ne_of hlf S.at_ (by intro z; cases z)
            refine ⟨_, rfl, .inl ⟨rfl, _, .of (by rw [upd_ne nlf']; exact hlf)⟩, ?_⟩
            have hfl : fur.length ≤ ss.length := hfn.length_le_of_subset hfs
            refine ⟨_, rfl, lf, _, _, rfl, rfl, by rw [upd_ne nlf']; exact hlf, by rw [List.length_map]; exact small1000 (by omega), ?_⟩
            refine ⟨_, _, fur ++ [y], _, rfl, S'.oth hlf0 (Ne.symm nlf'), ?_, ?_, ?_, ?_, (mid.add (z := z) (y := y) dz ⟨hzs, hyf⟩ hn fun a => rfl).wk hdone⟩
            · rw [upd_ne nlf, upd_ne nle]; exact hle
            · rw [upd_same, List.map_append]; rfl
            · rw [List.nodup_append]
              refine ⟨hfn, by simp, fun a ha b hb => ?_⟩
              have : b = y := by simpa using hb
              subst this
              rintro rfl
              rw [(mid.fur a ha).2] at hn
              cases hn
            · intro t ht
              rcases List.mem_append.mp ht with ht | ht
              · exact hfs t ht
              · have : t = y := by simpa using ht
                rw [this]; exact hys
          · have hc : (look y).isSome = true := by
              cases q : look y with
              | none => rw [q] at hc; exact absurd rfl hc
              | some v => rfl
            exact ⟨kvs, look, fur, _, rfl, S, hle, hlf, hfn, hfs, (mid.skip (z := z) hc).wk hdone⟩
        · rintro σ H' ⟨kvs, look, fur, o6, rfl, S, hle, hlf, hfn, hfs, mid⟩
          rw [List.length_map, List.take_of_length_le (Nat.le_refl _)] at mid
          refine ⟨kvs, look, fur, _, _, rfl, S, hle, hlf, hfn, hfs, mid.wk fun a b h => ?_⟩
          obtain ⟨h1, h2⟩ := h
          rw [List.take_add_one, hz, List.mem_append] at h1
          rcases h1 with h1 | h1
          · exact .inl ⟨h1, h2⟩
          · have : a = z := by simpa using h1
            subst this
            exact .inr ⟨rfl, h2.2⟩
      · rintro σ H' ⟨kvs, look, fur, o5, o6, rfl, S, hle, hlf, hfn, hfs, mid⟩
        rw [List.length_map, List.take_of_length_le (Nat.le_refl _)] at mid
        have hfl : fur.length ≤ ss.length := hfn.length_le_of_subset hfs
        exact ⟨_, rfl, lf, fur, kvs, look, _, _, _, _, rfl, S, hlf0, hlf, by omega, mid.next lev.edg fun z y hz r => ⟨hz, r⟩⟩
    · have he0 : edge = [] := by
        cases edge with
        | nil => rfl
        | cons y r => exact absurd (decide_eq_true (by simp)) hc
      subst he0
      have fin := lev.done
      refine ⟨_, rfl, k e kvs H2 S.sm he S.at_ fun t v => ?_⟩
      rw [S.lk t]
      constructor
      · intro q
        cases q2 : look t with
        | none => rw [q2] at q; cases q
        | some n =>
          rw [q2] at q
          exact ⟨n, (Option.some.inj q).symm, (fin t n).mp q2⟩
      · rintro ⟨n, rfl, dn⟩
        rw [(fin t n).mpr dn]; rfl
end
end K22
namespace K22
open PySem L2
section
variable {P : Program} {w : World} {K : PySem.W.Frag} {mg : Str → Option Value} {base : Heap}
theorem canLay_pairs : ∀ ts : List (Str × Str), (∀ e ∈ ts, Nm e.1 ∧ Nm e.2) → PyData.canLayAll0 (ts.map pairD) = true
  | [], _ => rfl
  | e :: ts, h => by
    show (PyData.canLay0 (pairD e) && PyData.canLayAll0 (ts.map pairD)) = true
    rw [canLay_pairs ts fun x hx => h x (List.mem_cons_of_mem _ hx)]
    have := h e (by simp)
    show ((PyData.canLay0 (.str e.1) && (PyData.canLay0 (.str e.2) && true)) && true) = true
    rw [canLay_nm this.1, canLay_nm this.2]; rfl
theorem depth_pairs : ∀ ts : List (Str × Str), PyData.depthAll (ts.map pairD) ≤ 1
  | [] => by decide
  | e :: es => by
    show max (PyData.depth (pairD e)) (PyData.depthAll (es.map pairD)) ≤ 1
    have h1 : PyData.depth (pairD e) = 1 := rfl
    have h2 := depth_pairs es
    omega
theorem shp_web {ss : List Str} {ts : List (Str × Str)} (h : ∀ s ∈ ss, Nm s) (g : ∀ e ∈ ts, Nm e.1 ∧ Nm e.2) : shp (webD ss ts) := by
  show ((PyData.canLayAll0 (ss.map PyData.str) && (PyData.canLayAll0 (ts.map pairD) && true)) && decide (max (PyData.depthAll (ss.map PyData.str) + 1) (max (PyData.depthAll (ts.map pairD) + 1) 0) + 1 ≤ 64)) = true
  have := depth_pairs ts
  rw [canLay_strs ss h, canLay_pairs ts g, depth_strs, decide_eq_true (by omega)]
  rfl
theorem web_shp {H : Hp} {v : V} {ss : List Str} {ts : List (Str × Str)} (W : Web H v ss ts) : shp (webD ss ts) := shp_web W.nm fun e he => ⟨W.nm _ (W.inn e he).1, W.nm _ (W.inn e he).2⟩
theorem mem_getD {ss : List Str} {i : Nat} (h : i < ss.length) : ss.getD i "" ∈ ss := by
  rw [List.getD_eq_getElem?_getD, List.getElem?_eq_getElem h]
  exact List.getElem_mem h
theorem web_of {H H' : Hp} {n t : Addr} {ss : List Str} {es : List (Nat × Nat)} {v : V} (B : Built H n t ss es) (r : Rep H' v (webD ss (es.map (nmP ss)))) : Web H' v ss (es.map (nmP ss)) :=
  ⟨r, B.nd, B.ok, B.len, by rw [List.length_map]; exact B.few, fun e he => by
    obtain ⟨f, hf, rfl⟩ := List.mem_map.mp he
    have := B.val f hf
    exact ⟨mem_getD this.1, mem_getD this.2⟩⟩
theorem getD_inj {ss : List Str} (nd : ss.Nodup) (nm : ∀ s ∈ ss, Nm s) {a b : Nat} (ha : a < ss.length) (h : ss.getD a "" = ss.getD b "") : a = b := by
  by_cases hb : b < ss.length
  · rw [List.getD_eq_getElem?_getD, List.getD_eq_getElem?_getD, List.getElem?_eq_getElem ha, List.getElem?_eq_getElem hb] at h
    exact (List.getElem_inj nd).mp h
  · have e : ss.getD b "" = "" := by rw [List.getD_eq_getElem?_getD, List.getElem?_eq_none (by omega)]; rfl
    have h2 := (nm _ (mem_getD ha)).1
    rw [h, e] at h2
    exact absurd h2 (by decide)
end
end K22
namespace K22
open PySem L2
section
variable {P : Program} {w : World} {K : PySem.W.Frag} {mg : Str → Option Value} {base : Heap}
noncomputable def nmA (ss : List Str) (i : Nat) : Str := ss.getD i ""
theorem ss_eq (ss : List Str) : ss = (List.range ss.length).map (nmA ss) := by
  apply List.ext_getElem?
  intro i
  rw [List.getElem?_map]
  by_cases hi : i < ss.length
  · rw [List.getElem?_eq_getElem hi, List.getElem?_range hi]
    simp [nmA, hi]
  · rw [List.getElem?_eq_none (by omega), List.getElem?_eq_none (by simpa using hi)]
    rfl
theorem mem_nmP {ss : List Str} {es : List (Nat × Nat)} (nd : ss.Nodup) (nm : ∀ s ∈ ss, Nm s) (val : ∀ e ∈ es, e.1 < ss.length ∧ e.2 < ss.length) {a b : Nat} : (nmA ss a, nmA ss b) ∈ es.map (nmP ss) ↔ (a, b) ∈ es := by
  rw [List.mem_map]
  constructor
  · rintro ⟨e, he, q⟩
    have q1 := getD_inj nd nm (val e he).1 (Prod.mk.inj q).1
    have q2 := getD_inj nd nm (val e he).2 (Prod.mk.inj q).2
    rw [← q1, ← q2]; exact he
  · intro h; exact ⟨(a, b), h, rfl⟩
noncomputable def nxn (n : Nat) (es : List (Nat × Nat)) (a : Nat) : List Nat := (List.range n).filter fun b => decide ((a, b) ∈ es)
theorem nxt_num {ss : List Str} {es : List (Nat × Nat)} (nd : ss.Nodup) (nm : ∀ s ∈ ss, Nm s) (val : ∀ e ∈ es, e.1 < ss.length ∧ e.2 < ss.length) (a : Nat) : nxtL ss (es.map (nmP ss)) (nmA ss a) = (nxn ss.length es a).map (nmA ss) := by
  unfold nxtL nxn
  have e2 : ∀ g : Str → Bool, ss.filter g = ((List.range ss.length).map (nmA ss)).filter g := fun g => by rw [← ss_eq ss]
  rw [e2, List.filter_map]
  congr 1
  refine List.filter_congr fun i hi => ?_
  show decide ((nmA ss a, nmA ss i) ∈ es.map (nmP ss)) = decide ((a, i) ∈ es)
  rw [Bool.eq_iff_iff, decide_eq_true_iff, decide_eq_true_iff, mem_nmP nd nm val]
theorem walk_names {ss : List Str} {es : List (Nat × Nat)} (nd : ss.Nodup) (nm : ∀ s ∈ ss, Nm s) (val : ∀ e ∈ es, e.1 < ss.length ∧ e.2 < ss.length) {one i k : Nat} (hi : i < ss.length) :
    MG.Walk (Tie (es.map (nmP ss))) k (nmA ss one) (nmA ss i) ↔ MG.Walk (MG.Arr es) k one i := by
  constructor
  · intro r
    obtain ⟨y, ey, ry⟩ := MG.Walk.back (R := MG.Arr es) (x := one) (nmA ss) (fun a c h => by
      obtain ⟨e, he, q⟩ := List.mem_map.mp h
      have q1 : ss.getD e.1 "" = ss.getD a "" := (Prod.mk.inj q).1
      have q2 : ss.getD e.2 "" = c := (Prod.mk.inj q).2
      have := getD_inj nd nm (val e he).1 q1
      exact ⟨e.2, q2.symm, by unfold MG.Arr; rw [← this]; exact he⟩) r
    have := getD_inj nd nm hi ey
    rw [this]; exact ry
  · intro r
    exact MG.Walk.map (nmA ss) (fun a b h => List.mem_map.mpr ⟨(a, b), h, rfl⟩) r
noncomputable def ValE (ss : List Str) (es : List (Nat × Nat)) : Prop := ∀ e ∈ es, e.1 < ss.length ∧ e.2 < ss.length
end
end K22
namespace K22
open PySem L2
section
variable {P : Program} {w : World} {K : PySem.W.Frag} {mg : Str → Option Value} {base : Heap}
theorem ner_fwd {H : Hp} {q : V} {ss : List Str} {ts : List (Str × Str)} (W : Web H q ss ts) : Ner ss (nxtL ss (if false then flipE ts else ts)) = Tie ts := by
  funext a b
  refine propext ⟨fun h => ?_, fun h => ?_⟩
  · have h3 := of_decide_eq_true (List.mem_filter.mp h.2).2
    exact h3
  · have g := W.inn _ h
    exact ⟨g.1, List.mem_filter.mpr ⟨g.2, decide_eq_true h⟩⟩
structure RD (H : Hp) (ss : List Str) (ts : List (Str × Str)) (dr : Addr) (s : Str) (d : Addr) : Prop where
  ne : d ≠ dr
  at_ : ∃ kv, H d = some (.dK kv) ∧ ∀ t v, valV kv (.inr t) = some v ↔ ∃ k : Nat, v = .int (k : Int) ∧ MG.Dst (Tie ts) s k t
noncomputable def spNo : Sp := fun _ _ _ _ => False
theorem ok_no {f : Addr} {fd : FuncData} {k : Nat} {ps : List Str} : FnOk P w K mg base CX0 k f fd ps spNo := ⟨fun _ _ _ _ h => h.elim, fun _ _ _ _ _ _ _ _ _ _ _ _ _ h => h.elim⟩
noncomputable def spRingOf : Sp := fun vs H Q _ => ∃ (q : V) (ss : List Str) (es : List (Nat × Nat)), vs = [q] ∧ Web H q ss (es.map (nmP ss)) ∧ ValE ss es ∧ (∀ e ∈ es, ¬ MG.RingAt es e) ∧ ∀ H', Same H H' → Q .non H'
theorem scRingOf : FnScope ["web", "table", "reached", "thing", "tie"] ["web"] (defScope sRingOf) := ⟨rfl, rfl, rfl, by decide +kernel, rfl, by decide +kernel, by decide +kernel⟩
theorem ok_ring_of {f : Addr} {fd : FuncData} (F : Fun K "ring_of" "ring_of" sRingOf f fd) (B : Blt mg) (csteps_from : Cal P w K mg base 1 "steps_from" ["table", "starts"] spStepsL) (cnexts_of_all : Cal P w K mg base 3 "nexts_of_all" ["web"] (spNextsAll false)) (cring_by : Cal P w K mg base 5 "ring_by" ["web", "one", "other"] spNo) : FnOk P w K mg base CX0 6 f fd ["web"] spRingOf := by
  refine F.ok scRingOf (fun vs H Q E h => ?_) (fun cdv A outer s H vs Q E hr h => ?_)
  · obtain ⟨q, ss, es, rfl, _⟩ := h
    rfl
  · obtain ⟨q, ss, es, rfl, W, val, nor, k0⟩ := h
    have nd := scRingOf.nd
    refine ⟨_, (pss_cons (ps_set (i := 1) nd rfl (Or.inl rfl) (pe_cal cnexts_of_all (hr.mono (by decide)) rfl (pa_cons (pv 0) pa_nil)))
      (pss_cons (ps_set (i := 2) nd rfl (Or.inl rfl) pe_dnewK)
      (pss_cons (ps_for PassesOwn.never rfl (pi_tupK K (pe_ix (ix_X K hr.units) (pv 0) pe_int (fun _ _ => rfl))) (pg_name (i := 3) nd rfl (Or.inl rfl)) (pss_one (ps_asg (pe_cal csteps_from (hr.mono (by decide)) rfl (pa_cons (pv 1) (pa_cons (pe_lst (pa_cons (pv 3) pa_nil)) pa_nil))) (pg_sub (pv 2) (pv 3) (set_X hr.units)))))
      (pss_cons (ps_for PassesOwn.never rfl (pi_tupK K (pe_ix (ix_X K hr.units) (pv 0) pe_int (fun _ _ => rfl))) (pg_name (i := 4) nd rfl (Or.inl rfl)) (pss_one (ps_if (pt_cmpR (op_inX K hr.units) (pe_ix (ix_X K hr.units) (pv 4) pe_int (fun _ _ => rfl)) (pe_ix (ix_X K hr.units) (pv 2) (pe_ix (ix_X K hr.units) (pv 4) pe_int (fun _ _ => rfl)) (fun _ _ => rfl)) (by with_unfolding_all rfl)) (pss_one (ps_ret (pe_cal cring_by (hr.mono (by decide)) rfl (pa_cons (pv 0) (pa_cons (pe_ix (ix_X K hr.units) (pv 4) pe_int (fun _ _ => rfl)) (pa_cons (pe_ix (ix_X K hr.units) (pv 4) pe_int (fun _ _ => rfl)) pa_nil)))))) pss_nil)))
      (pss_one (ps_ret pe_non)))))), ?_⟩
    have h60 := W.len
    obtain ⟨q, a, b, xs, rfl, hq, ha, hb, rp⟩ := web_at W.rep
    have rlen := rp.len
    rw [List.length_map] at rlen
    refine ⟨_, rfl, .ref q, ss, _, rfl, W, fun dt H1 s1 hdt T => ?_⟩
    intro dr hdr
    have hdr0 := same_free s1 hdr
    have s2 := s1.trans (Same.new (o := .dK []) hdr)
    have T2 := T.same (Same.new (o := .dK []) hdr)
    have e2 : upd H1 dr (.dK []) dr = some (.dK []) := upd_same
    have sb : Same H1 (upd H1 dr (.dK [])) := Same.new hdr
    generalize upd H1 dr (.dK []) = H2 at s2 T2 e2 sb ⊢
    refine ⟨_, rfl, .tup (.of (s2 _ _ hq)) rfl ⟨_, rfl, ⟨_, .of (s2 _ _ ha)⟩, ?_⟩⟩
    refine for_tup (xs := List.map V.str ss) (fun i σ H' => ∃ o3 kvs, σ = [some (.ref q), some (.ref dt), some (.ref dr), o3, none] ∧ Same H1 H' ∧ H' dr = some (.dK kvs) ∧ kvs.length ≤ i ∧ ∀ s ∈ ss.take i, ∃ d, valV kvs (.inr s) = some (.ref d) ∧ RD H' ss (es.map (nmP ss)) dr s d) ?_ ?_ ?_ ?_
    · exact ⟨none, [], rfl, sb, e2, Nat.le_refl _, fun s hs => by simp at hs⟩
    · rintro i σ H' hi ⟨o3, kvs, rfl, sm, _⟩
      exact .of (sm _ _ (s1 _ _ ha))
    · rintro i x σ H3 hx ⟨o3, kvs, rfl, s3, hk, hkl, hall⟩
      rw [List.getElem?_map] at hx
      obtain ⟨t, ht, rfl⟩ : ∃ t, ss[i]? = some t ∧ V.str t = x := by
        cases q : ss[i]? with
        | none => rw [q] at hx; cases hx
        | some e => rw [q] at hx; exact ⟨e, rfl, Option.some.inj hx⟩
      have hil := (List.getElem?_eq_some_iff.mp ht).1
      refine ⟨_, rfl, _, rfl, (by show 1 ≤ sizeLine; decide), fun ls hls => ⟨dt, ls, t, ss, _, rfl, upd_same, (T.same s3).same (Same.new hls), List.mem_of_getElem? ht, W.len, fun t _ u hu => (List.mem_filter.mp hu).1, fun d kv H4 s4' hd4' hkd hst => ?_⟩⟩
      have s4 := (Same.new (o := .lst [V.str t]) hls).trans s4'
      have hd4 := same_free (Same.new (o := .lst [V.str t]) hls) hd4'
      rw [ner_fwd W] at hst
      have hk4 := s4 _ _ hk
      have hne : d ≠ dr := Ne.symm (ne_of_none hk hd4)
      refine ⟨_, rfl, _, rfl, .dic (DPut.k (k := .inr t) hk4 (small1000 (by omega))) ⟨_, _, rfl, same_at (s3.trans s4) hdr, upd_same, ?_, ?_⟩⟩
      · have := length_putK kvs (.inr t) (V.ref d)
        omega
      · intro s hs
        rw [List.take_add_one, ht, List.mem_append] at hs
        by_cases q : s = t
        · subst q
          refine ⟨d, by rw [valV_put, if_pos rfl], hne, kv, ?_, hst⟩
          rw [upd_ne hne]; exact hkd
        · rcases hs with hs | hs
          · obtain ⟨d', e1, n1, kv', e2, h2⟩ := hall s hs
            refine ⟨d', by rw [valV_put, if_neg (fun z => q (Sum.inr.inj z))]; exact e1, n1, kv', ?_, h2⟩
            rw [upd_ne n1]; exact s4 _ _ e2
          · exact absurd (by simpa using hs) q
    · rintro σ H3 ⟨o3, kvs, rfl, s3, hk, _, hall⟩
      rw [List.length_map, List.take_of_length_le (Nat.le_refl _)] at hall
      have s13 := s1.trans s3
      refine ⟨_, rfl, .tup (.of (s13 _ _ hq)) rfl ⟨_, rfl, ⟨_, .of (s13 _ _ hb)⟩, ?_⟩⟩
      refine for_tup (xs := xs) (fun i σ H' => ∃ o3 o4, σ = [some (.ref q), some (.ref dt), some (.ref dr), o3, o4] ∧ H' = H3 ∧ ∀ j, j < i → ∀ f, es[j]? = some f → ¬ MG.RingAt es f) ?_ ?_ ?_ ?_
      · exact ⟨_, _, rfl, rfl, fun j hj => by omega⟩
      · rintro i σ H' hi ⟨o3, o4, rfl, rfl, _⟩
        exact .of (s13 _ _ hb)
      · rintro i x σ H' hx ⟨o3, o4, rfl, rfl, hno⟩
        obtain ⟨d, hd, rd⟩ := (rp.same s13).get hx
        rw [List.getElem?_map, List.getElem?_map] at hd
        obtain ⟨e, he, rfl⟩ : ∃ e, es[i]? = some e ∧ pairD (nmP ss e) = d := by
          cases q : es[i]? with
          | none => rw [q] at hd; cases hd
          | some e => rw [q] at hd; exact ⟨e, rfl, Option.some.inj hd⟩
        obtain ⟨ta, rfl, hta⟩ := pair_at rd
        have hval := val e (List.mem_of_getElem? he)
        obtain ⟨d2, hd2, hne2, kv2, hkv2, hst2⟩ := hall (nmA ss e.2) (mem_getD hval.2)
        have hring : (valV kv2 (.inr (nmA ss e.1))).isSome = true ↔ MG.RingAt es e := by
          have h1 : ∀ k, MG.Walk (Tie (es.map (nmP ss))) k (nmA ss e.2) (nmA ss e.1) ↔ MG.Walk (MG.Arr es) k e.2 e.1 := fun k => walk_names W.nd W.nm val hval.1
          constructor
          · intro h
            obtain ⟨v, hv⟩ := Option.isSome_iff_exists.mp h
            obtain ⟨m, _, dm⟩ := (hst2 _ v).mp hv
            exact MG.rch_to.mp ⟨m, (h1 m).mp dm.1⟩
          · intro h
            obtain ⟨m, wm⟩ := MG.rch_to.mpr h
            obtain ⟨m', dm⟩ := MG.Rch.dst (R := Tie (es.map (nmP ss))) ⟨m, (h1 m).mpr wm⟩
            rw [(hst2 _ (.int (m' : Int))).mpr ⟨m', rfl, dm⟩]; rfl
        refine ⟨_, rfl, .tup (.of hta) rfl ⟨_, rfl, _, rfl, .tup (.of hta) rfl (.dic (.inl ⟨kvs, .inr (nmA ss e.2), .inl hk, rfl, hd2.symm⟩) (.dic (DGet.k (k := .inr (nmA ss e.1)) hkv2) ⟨_, rfl, ?_⟩))⟩⟩
        refine ite2 (fun h1 => ?_) (fun h1 => ?_)
        · have hR : MG.RingAt es e := hring.mp h1
          exact absurd hR (nor e (List.mem_of_getElem? he))
        · have hR : ¬ MG.RingAt es e := fun z => h1 (hring.mpr z)
          refine ⟨_, _, rfl, rfl, fun j hj f hf => ?_⟩
          by_cases q : j < i
          · exact hno j q f hf
          · have : j = i := by omega
            subst this
            rw [he] at hf
            cases hf
            exact hR
      · rintro σ H' ⟨o3, o4, rfl, rfl, hno⟩
        rw [rlen] at hno
        exact k0 _ s13
end
end K22
namespace K22
open PySem L2
section
variable {P : Program} {w : World} {K : PySem.W.Frag} {mg : Str → Option Value} {base : Heap}
noncomputable def spPriK : Sp := fun vs H Q _ => ∃ q ss ts, vs = [q] ∧ Web H q ss ts ∧ ∀ d kvs H', Same H H' → H d = none → H' d = some (.dK kvs) → TabK H' kvs ss (nxtL ss (if true then flipE ts else ts)) → Q (.ref d) H'
theorem ok_priK {f : Addr} {fd : FuncData} (F : Fun K "priors_of_all" "priors_of_all" sPriorsAll f fd) (B : Blt mg) (cpriors : Cal P w K mg base 2 "priors" ["web", "one"] (spNexts true)) : FnOk P w K mg base CX0 3 f fd ["web"] spPriK := by
  refine F.ok scPriorsAll (fun vs H Q E h => ?_) (fun cdv A outer s H vs Q E hr h => ?_)
  · obtain ⟨q, ss, ts, rfl, _⟩ := h
    rfl
  · obtain ⟨q, ss, ts, rfl, W, k⟩ := h
    have nd := scPriorsAll.nd
    refine ⟨_, (pss_cons (ps_set (i := 1) nd rfl (Or.inl rfl) pe_dnewK)
      (pss_cons (ps_for PassesOwn.never rfl (pi_tupK K (pe_ix (ix_X K hr.units) (pv 0) pe_int (fun _ _ => rfl))) (pg_name (i := 2) nd rfl (Or.inl rfl)) (pss_one (ps_asg (pe_cal cpriors (hr.mono (by decide)) rfl (pa_cons (pv 0) (pa_cons (pv 2) pa_nil))) (pg_sub (pv 1) (pv 2) (set_X hr.units)))))
      (pss_one (ps_ret (pv 1))))), ?_⟩
    intro d hd
    have W1 := W.same (Same.new (o := .dK []) hd)
    obtain ⟨q, a, b, xs, rfl, hq, ha, hb, rp⟩ := web_at W.rep
    have s0 := Same.new (o := .dK []) hd
    refine ⟨_, rfl, .tup (.of (s0 _ _ hq)) rfl ⟨_, rfl, ⟨_, .of (s0 _ _ ha)⟩, ?_⟩⟩
    refine for_tup (xs := List.map V.str ss) (fun i σ H' => ∃ o1 kvs, σ = [some (.ref q), some (.ref d), o1] ∧ Same H H' ∧ H' d = some (.dK kvs) ∧ kvs.map (·.1) = (ss.take i).map Sum.inr ∧ ∀ s ∈ ss.take i, ∃ l, valV kvs (.inr s) = some (.ref l) ∧ H' l = some (.lst (List.map V.str (nxtL ss (if true then flipE ts else ts) s)))) ?_ ?_ ?_ ?_
    · exact ⟨none, [], rfl, s0, upd_same, rfl, fun s hs => by simp at hs⟩
    · rintro i σ H' hi ⟨o1, kvs, rfl, sm, _⟩
      exact .of (sm _ _ ha)
    · rintro i x σ H' hx ⟨o1, kvs, rfl, sm, hk, hkl, hall⟩
      rw [List.getElem?_map] at hx
      obtain ⟨t, ht, rfl⟩ : ∃ t, ss[i]? = some t ∧ V.str t = x := by
        cases q : ss[i]? with
        | none => rw [q] at hx; cases hx
        | some e => rw [q] at hx; exact ⟨e, rfl, Option.some.inj hx⟩
      have hil := (List.getElem?_eq_some_iff.mp ht).1
      refine ⟨_, rfl, _, rfl, .ref q, ss, ts, t, rfl, W.same sm, fun l H2 s2 hl hl2 => ?_⟩
      have hk2 := s2 _ _ hk
      have := W.len
      have hkn : kvs.length ≤ 60 := by
        have h := congrArg List.length hkl
        rw [List.length_map, List.length_map, List.length_take] at h
        omega
      refine ⟨_, rfl, _, rfl, .dic (DPut.k (k := .inr t) hk2 (small1000 (by omega))) ⟨_, _, rfl, ?_, upd_same, ?_, ?_⟩⟩
      · intro c o hc
        rw [upd_ne (ne_of_none hc hd)]
        exact s2 _ _ (sm _ _ hc)
      · have hnt : (Sum.inr t : Key) ∉ kvs.map (·.1) := by
          rw [hkl]
          intro z
          obtain ⟨u, hu, e⟩ := List.mem_map.mp z
          have e : u = t := Sum.inr.inj e
          subst e
          obtain ⟨j, hj⟩ := List.getElem?_of_mem hu
          have hjl := (List.getElem?_eq_some_iff.mp hj).1
          rw [List.length_take] at hjl
          rw [List.getElem?_take_of_lt (by omega)] at hj
          have := (List.getElem?_inj (i := j) (j := i) (by omega) W.nd).mp (hj.trans ht.symm)
          omega
        rw [putK_snoc hnt, List.map_append, hkl, List.take_add_one, ht, List.map_append]
        rfl
      · intro s hs
        rw [List.take_add_one, ht, List.mem_append] at hs
        by_cases q : s = t
        · subst q
          refine ⟨l, by rw [valV_put, if_pos rfl], ?_⟩
          rw [upd_ne (ne_of hl2 hk2 (by intro z; cases z))]
          exact hl2
        · rcases hs with hs | hs
          · obtain ⟨l', e1, e2⟩ := hall s hs
            refine ⟨l', by rw [valV_put, if_neg (fun z => q (Sum.inr.inj z))]; exact e1, ?_⟩
            rw [upd_ne (ne_of (s2 _ _ e2) hk2 (by intro z; cases z))]
            exact s2 _ _ e2
          · exact absurd (by simpa using hs) q
    · rintro σ H' ⟨o1, kvs, rfl, sm, hk, hkK, hall⟩
      rw [List.length_map, List.take_of_length_le (Nat.le_refl _)] at hall hkK
      exact ⟨_, rfl, k d kvs H' sm hd hk ⟨hkK, hall⟩⟩
end
end K22
namespace K22
open PySem L2
section
variable {P : Program} {w : World} {K : PySem.W.Frag} {mg : Str → Option Value} {base : Heap}
noncomputable def spRefuse : Sp := fun vs H Q _ => ∃ (q : V) (ss : List Str) (es : List (Nat × Nat)), vs = [q] ∧ Web H q ss (es.map (nmP ss)) ∧ ValE ss es ∧ MG.Ris es ∧ ∀ H', Same H H' → Q .non H'
theorem scRefuse : FnScope ["web", "ring"] ["web"] (defScope sRefuse) := ⟨rfl, rfl, rfl, by decide +kernel, rfl, by decide +kernel, by decide +kernel⟩
theorem ok_refuse {f : Addr} {fd : FuncData} (F : Fun K "refuse_ring" "refuse_ring" sRefuse f fd) (B : Blt mg) (cring_of : Cal P w K mg base 6 "ring_of" ["web"] spRingOf) : FnOk P w K mg base CX0 7 f fd ["web"] spRefuse := by
  refine F.ok scRefuse (fun vs H Q E h => ?_) (fun cdv A outer s H vs Q E hr h => ?_)
  · obtain ⟨q, ss, es, rfl, _⟩ := h
    rfl
  · obtain ⟨q, ss, es, rfl, W, val, hf, k⟩ := h
    have nd := scRefuse.nd
    refine ⟨_, (pss_cons (ps_set (i := 1) nd rfl (Or.inl rfl) (pe_cal cring_of (hr.mono (by decide)) rfl (pa_cons (pv 0) pa_nil)))
      (pss_one (ps_if (pt_cmpR op_isNotX (pv 1) pe_non (nomark _)) (pss_one ps_never) pss_nil))), ?_⟩
    refine ⟨_, rfl, q, ss, es, rfl, W, val, hf.noring, fun H1 s1 => ?_⟩
    refine ⟨_, rfl, .non ⟨_, rfl, ite2 (fun h => absurd h (by decide)) (fun _ => ?_)⟩⟩
    exact k H1 s1
noncomputable def dinB (kvs : List (Key × V)) (s : Str) : Bool := (valV kvs (.inr s)).isSome
noncomputable def spIsDue : Sp := fun vs H Q _ => ∃ (s : Str) (tb td l : Addr) (tkv dkv : List (Key × V)) (ps : List Str), vs = [.str s, .ref tb, .ref td] ∧ Rd H tb (.dK tkv) ∧ valV tkv (.inr s) = some (.ref l) ∧ H l = some (.lst (List.map V.str ps)) ∧ H td = some (.dK dkv) ∧ ps.length ≤ 1000 ∧ ∀ H', Same H H' → Q (.bl (!dinB dkv s && ps.all (dinB dkv))) H'
theorem scIsDue : FnScope ["thing", "table", "told"] ["thing", "table", "told"] (defScope sIsDue) := ⟨rfl, rfl, rfl, by decide +kernel, rfl, by decide +kernel, by decide +kernel⟩
theorem ok_isdue {f : Addr} {fd : FuncData} (F : Fun K "is_due" "is_due" sIsDue f fd) (B : Blt mg) : FnOk P w K mg base CX0 1 f fd ["thing", "table", "told"] spIsDue := by
  refine F.ok scIsDue (fun vs H Q E h => ?_) (fun cdv A outer s H vs Q E hr h => ?_)
  · obtain ⟨s, tb, td, l, tkv, dkv, ps, rfl, _⟩ := h
    rfl
  · obtain ⟨z, tb, td, l, tkv, dkv, ps, rfl, hr1, hv, hl, htd, hps, k⟩ := h
    have nd := scIsDue.nd
    refine ⟨_, (pss_one (ps_ret (pe_and (pe_cmpR (op_notInX K hr.units) (pv 0) (pv 2) (by with_unfolding_all rfl)) (pe_one (b_all rfl B (pa_cons (pe_comp (defScope sIsDue) ["thing", "table", "told"] ["prior"] [2] ["prior", "told"] rfl (pi_listK K (pe_ix (ix_X K hr.units) (pv 1) (pv 0) (fun _ _ => rfl))) (fun _ _ _ _ _ => (pg_name (i := 0) (show (["prior", "told"] : List Str).Nodup by decide) rfl (Or.inl rfl))) (fun _ _ _ _ _ => pts_nil) (fun _ _ _ _ _ => (pe_cmpR (op_inX K hr.units) (pv 0) (pv 1) (by with_unfolding_all rfl)))) pa_nil)))))), ?_⟩
    refine ⟨_, rfl, _, rfl, .dic (DGet.k (k := .inr z) htd) ⟨_, rfl, ite2 (fun h => ?_) (fun h => ?_)⟩⟩
    · have h : (!dinB dkv z) = true := h
      refine ⟨_, rfl, _, rfl, .dic (.inl ⟨tkv, .inr z, hr1, rfl, hv.symm⟩) ⟨l, rfl, ⟨_, .of hl⟩, ?_⟩⟩
      refine comp_list (List.map V.str ps) (fun D i acc σ' H' => ∃ o, σ' = [o, some (.ref td)] ∧ acc = (ps.take i).map (fun p => V.bl (dinB dkv p)) ∧ Same H H' ∧ H D = none) fun D hD => ⟨?_, ?_, ?_, ?_⟩
      · exact ⟨none, rfl, rfl, Same.new hD, hD⟩
      · rintro i acc σ' H' _ ⟨o, rfl, _, sm, _⟩ _
        exact .of (sm _ _ hl)
      · rintro i acc σ' H' x hx ⟨o, rfl, rfl, sm, hD0⟩ hacc
        rw [List.getElem?_map] at hx
        obtain ⟨t, ht, rfl⟩ : ∃ t, ps[i]? = some t ∧ V.str t = x := by
          cases q : ps[i]? with
          | none => rw [q] at hx; cases hx
          | some e => rw [q] at hx; exact ⟨e, rfl, Option.some.inj hx⟩
        have hil := (List.getElem?_eq_some_iff.mp ht).1
        refine gYes ?_
        refine ⟨_, rfl, _, rfl, .dic (DGet.k (k := .inr t) (sm _ _ htd)) ⟨hacc, ?_, _, rfl, ?_, same_at sm hD0, hD0⟩⟩
        · rw [List.length_map, List.length_take]; exact small1000 (by omega)
        · rw [List.take_add_one, ht, List.map_append]; rfl
      · rintro acc σ' H2 ⟨o, rfl, rfl, s2, hD0⟩ hacc
        rw [List.length_map, List.take_of_length_le (Nat.le_refl _)] at hacc
        refine ⟨D, ps.map (dinB dkv), rfl, by rw [List.map_map]; exact hacc, ?_⟩
        have q := k H2 s2
        rw [h, Bool.true_and] at q
        rw [List.all_map]
        exact q
    · have h : ¬ (!dinB dkv z) = true := h
      have e : (!dinB dkv z) = false := by simpa using h
      have q := k H (Same.refl H)
      rw [e, Bool.false_and] at q
      exact q
end
end K22
namespace K22
open PySem L2
section
variable {P : Program} {w : World} {K : PySem.W.Frag} {mg : Str → Option Value} {base : Heap}
noncomputable def spAnew : Sp := fun vs H Q _ => ∃ (q : V) (ss : List Str) (es : List (Nat × Nat)), vs = [q] ∧ Web H q ss (es.map (nmP ss)) ∧ ValE ss es ∧ MG.Ris es ∧
  ∀ l ks H', Same H H' → H l = none → H' l = some (.lst (List.map V.str (ks.map (nmA ss)))) → ks.Nodup → (∀ x ∈ ks, x < ss.length) → ks.length = ss.length → MG.Grown es ks → Q (.ref l) H'
theorem scAnew : FnScope ["web", "table", "told", "free"] ["web"] (defScope sAnew) := ⟨rfl, rfl, rfl, by decide +kernel, rfl, by decide +kernel, by decide +kernel⟩
noncomputable def toldK (ss : List Str) (ks : List Nat) : List (Key × V) := ks.map fun v => (Sum.inr (nmA ss v), V.bl true)
theorem toldK_keys (ss : List Str) (ks : List Nat) : (toldK ss ks).map (·.1) = (ks.map (nmA ss)).map Sum.inr := by unfold toldK; rw [List.map_map, List.map_map]; rfl
theorem nmA_inj {ss : List Str} (nd : ss.Nodup) {a b : Nat} (ha : a < ss.length) (hb : b < ss.length) (e : nmA ss a = nmA ss b) : a = b := by
  unfold nmA at e
  rw [List.getD_eq_getElem?_getD, List.getD_eq_getElem?_getD, List.getElem?_eq_getElem ha, List.getElem?_eq_getElem hb] at e
  exact (List.getElem_inj nd).mp e
theorem din_told {ss : List Str} (nd : ss.Nodup) {ks : List Nat} (hk : ∀ x ∈ ks, x < ss.length) {v : Nat} (hv : v < ss.length) : dinB (toldK ss ks) (nmA ss v) = decide (v ∈ ks) := by
  unfold dinB
  rw [Bool.eq_iff_iff, valV_mem, toldK_keys, decide_eq_true_iff]
  constructor
  · intro h
    obtain ⟨t, ht, e⟩ := List.mem_map.mp h
    obtain ⟨u, hu, rfl⟩ := List.mem_map.mp ht
    have := nmA_inj nd (hk u hu) hv (Sum.inr.inj e)
    exact this ▸ hu
  · intro h
    exact List.mem_map.mpr ⟨_, List.mem_map.mpr ⟨v, h, rfl⟩, rfl⟩
end
end K22
namespace K22
open PySem L2
section
variable {P : Program} {w : World} {K : PySem.W.Frag} {mg : Str → Option Value} {base : Heap}
theorem mem_prior {ss : List Str} {es : List (Nat × Nat)} (nd : ss.Nodup) (nm : ∀ s ∈ ss, Nm s) (val : ∀ e ∈ es, e.1 < ss.length ∧ e.2 < ss.length) {v : Nat} {p : Str} : p ∈ nxtL ss (flipE (es.map (nmP ss))) (nmA ss v) ↔ ∃ u, u < ss.length ∧ p = nmA ss u ∧ (u, v) ∈ es := by
  unfold nxtL
  rw [List.mem_filter, decide_eq_true_iff, mem_flip]
  constructor
  · rintro ⟨h1, h2⟩
    obtain ⟨u, hu⟩ := List.getElem?_of_mem h1
    have hul := (List.getElem?_eq_some_iff.mp hu).1
    have e : p = nmA ss u := by unfold nmA; rw [List.getD_eq_getElem?_getD, hu]; rfl
    subst e
    exact ⟨u, hul, rfl, (mem_nmP nd nm val).mp h2⟩
  · rintro ⟨u, hu, rfl, he⟩
    exact ⟨mem_getD hu, (mem_nmP nd nm val).mpr he⟩
theorem due_iff {ss : List Str} {es : List (Nat × Nat)} (nd : ss.Nodup) (nm : ∀ s ∈ ss, Nm s) (val : ∀ e ∈ es, e.1 < ss.length ∧ e.2 < ss.length) {ks : List Nat} (klt : ∀ x ∈ ks, x < ss.length) {v : Nat} (hv : v < ss.length) :
    (!dinB (toldK ss ks) (nmA ss v) && (nxtL ss (flipE (es.map (nmP ss))) (nmA ss v)).all (dinB (toldK ss ks))) = true ↔ v ∉ ks ∧ ∀ u, (u, v) ∈ es → u ∈ ks := by
  rw [Bool.and_eq_true, din_told nd klt hv, List.all_eq_true]
  constructor
  · rintro ⟨h1, h2⟩
    refine ⟨(fun z => by rw [decide_eq_true z] at h1; cases h1), fun u hu => ?_⟩
    have := h2 _ ((mem_prior nd nm val).mpr ⟨u, (val _ hu).1, rfl, hu⟩)
    rw [din_told nd klt (val _ hu).1] at this
    exact of_decide_eq_true this
  · rintro ⟨h1, h2⟩
    refine ⟨by rw [decide_eq_false h1]; rfl, fun p hp => ?_⟩
    obtain ⟨u, hu, rfl, he⟩ := (mem_prior nd nm val).mp hp
    rw [din_told nd klt hu]
    exact decide_eq_true (h2 u he)
theorem ok_anew {f : Addr} {fd : FuncData} (F : Fun K "order_anew" "order_anew" sAnew f fd) (B : Blt mg) (crefuse_ring : Cal P w K mg base 7 "refuse_ring" ["web"] spRefuse) (cpriors_of_all : Cal P w K mg base 3 "priors_of_all" ["web"] spPriK) (cis_due : Cal P w K mg base 1 "is_due" ["thing", "table", "told"] spIsDue) : FnOk P w K mg base CX0 8 f fd ["web"] spAnew := by
  refine F.ok scAnew (fun vs H Q E h => ?_) (fun cdv A outer s H vs Q E hr h => ?_)
  · obtain ⟨q, ss, es, rfl, _⟩ := h
    rfl
  · obtain ⟨q, ss, es, rfl, W, val, hf, k⟩ := h
    have nd := scAnew.nd
    have h60 := W.len
    refine ⟨_, (pss_cons (ps_expr (pe_cal crefuse_ring (hr.mono (by decide)) rfl (pa_cons (pv 0) pa_nil)))
      (pss_cons (ps_set (i := 1) nd rfl (Or.inr rfl) (pe_cal cpriors_of_all (hr.mono (by decide)) rfl (pa_cons (pv 0) pa_nil)))
      (pss_cons (ps_set (i := 2) nd rfl (Or.inr rfl) pe_dnewK)
      (pss_cons (ps_while PassesOwn.never (pt_cmpR op_ltX (b_lenR B (pa_cons (pv 2) pa_nil)) (b_lenR B (pa_cons (pv 1) pa_nil)) (nomark _)) (pss_cons (ps_setC (i := 3) nd rfl rfl (by rfl) (defScope sAnew) ["web", "table", "told", "free"] ["thing"] [1, 2] ["thing", "table", "told"] rfl (pi_dic (pv 1)) (fun _ _ _ _ _ => (pg_name (i := 0) (show (["thing", "table", "told"] : List Str).Nodup by decide) rfl (Or.inl rfl))) (fun _ _ _ _ _ => (pts_one (pt_val (pe_cal cis_due (hr.mono (by decide)) rfl (pa_cons (pv 0) (pa_cons (pv 1) (pa_cons (pv 2) pa_nil))))))) (fun _ _ _ _ _ => (pv 0)))
      (pss_one (ps_asg pe_bl (pg_sub (pv 2) (pe_ix (ix_X K hr.units) (pv 3) pe_int (fun _ _ => rfl)) (set_X hr.units))))))
      (pss_one (ps_ret (b_listD rfl B (pa_cons (pv 2) pa_nil)))))))), ?_⟩
    refine ⟨_, rfl, q, ss, es, rfl, W, val, hf, fun H1 s1 => ?_⟩
    refine ⟨_, rfl, q, ss, _, rfl, W.same s1, fun d tkv H2 s2 hd0 hd T => ?_⟩
    intro dt hdt
    have hdn : d ≠ dt := ne_of_none hd hdt
    have s12 := s1.trans s2
    have T3 := T.same (Same.new (o := .dK []) hdt)
    have hdH : H d = none := same_free s1 hd0
    have hdtH : H dt = none := same_free s12 hdt
    refine ⟨fun m σ H' => ∃ (ks : List Nat) (o3 : Option V), m = ss.length - ks.length ∧ σ = [some q, some (.ref d), some (.ref dt), o3] ∧ H' dt = some (.dK (toldK ss ks)) ∧ Rd H' d (.dK tkv) ∧ TabK H' tkv ss (nxtL ss (flipE (es.map (nmP ss)))) ∧ Same H H' ∧ ks.Nodup ∧ (∀ x ∈ ks, x < ss.length) ∧ MG.Grown es ks,
      ⟨_, [], none, rfl, rfl, upd_same, .inl (by rw [upd_ne hdn]; exact hd), T3, s12.trans (Same.new hdt), List.nodup_nil, (fun x hx => by cases hx), MG.Grown.nil⟩, ?_⟩
    rintro m σ H4 ⟨ks, o3, hm, rfl, h4, hR, T4, s4, knd, klt, kg⟩
    have kle : ks.length ≤ ss.length := MG.nodup_le knd klt
    have tl : (toldK ss ks).length = ks.length := List.length_map ..
    refine ⟨_, rfl, dt, _, rfl, .inl h4, _, rfl, d, tkv, rfl, hR, .int ⟨_, rfl, ?_⟩⟩
    rw [tl, T4.len]
    refine ite2 (fun hlt => ?_) (fun hge => ?_)
    · have hlt : ((ks.length : Nat) : Int) < ((ss.length : Nat) : Int) := of_decide_eq_true hlt
      have hltn : ks.length < ss.length := by omega
      refine ⟨fun σ' H' => ∃ (m' : Nat) (ks : List Nat) (o3 : Option V), m' < m ∧ m' = ss.length - ks.length ∧ σ' = [some q, some (.ref d), some (.ref dt), o3] ∧ H' dt = some (.dK (toldK ss ks)) ∧ Rd H' d (.dK tkv) ∧ TabK H' tkv ss (nxtL ss (flipE (es.map (nmP ss)))) ∧ Same H H' ∧ ks.Nodup ∧ (∀ x ∈ ks, x < ss.length) ∧ MG.Grown es ks,
        fun σ' H' ⟨m', ks, o3, hlt, g⟩ => ⟨m', hlt, ks, o3, g⟩, ?_⟩
      refine ⟨_, rfl, d, tkv, rfl, hR, fun ob H5 hfz hne => ?_⟩
      have k5 : ∀ b xs, H4 b = some (.lst xs) → H5 b = some (.lst xs) := fun b xs e => by
        rw [hne b (fun z => by subst z; rcases hR with r | ⟨o', r⟩ <;> (rw [r] at e; cases e))]
        exact e
      have T5 := T4.keep k5
      have h5 : H5 dt = some (.dK (toldK ss ks)) := by rw [hne dt (Ne.symm hdn)]; exact h4
      have s5 : Same H H5 := fun b o e => by rw [hne b (ne_of_none e hdH)]; exact s4 _ _ e
      obtain ⟨due, hdue⟩ : ∃ due : Str → Bool, due = fun z => !dinB (toldK ss ks) z && (nxtL ss (flipE (es.map (nmP ss))) z).all (dinB (toldK ss ks)) := ⟨_, rfl⟩
      refine comp_dic tkv (fun D i acc σ' H' => ∃ o, σ' = [o, some (.ref d), some (.ref dt)] ∧ acc = List.map V.str ((ss.take i).filter due) ∧ Same H5 H' ∧ H5 D = none) fun D hD => ⟨?_, ?_, ?_, ?_⟩
      · exact ⟨none, rfl, rfl, Same.new hD, hD⟩
      · rintro i acc σ' H' _ ⟨o, rfl, _, sm, _⟩ _
        exact sm _ _ hfz
      · rintro i acc σ' H' kv hkv ⟨o, rfl, rfl, sm, hD0⟩ hacc
        obtain ⟨z, hz, ez⟩ := T5.at hkv
        rw [ez]
        have hil := (List.getElem?_eq_some_iff.mp hz).1
        obtain ⟨l, hv, hl⟩ := T5.2 z (List.mem_of_getElem? hz)
        have hpl : (nxtL ss (flipE (es.map (nmP ss))) z).length ≤ 1000 := by
          have := List.length_filter_le (fun t => decide ((z, t) ∈ flipE (es.map (nmP ss)))) ss
          unfold nxtL
          omega
        have hfl := List.length_filter_le due (ss.take i)
        rw [List.length_take] at hfl
        have step : (ss.take (i + 1)).filter due = (ss.take i).filter due ++ (if due z = true then [z] else []) := by
          rw [List.take_add_one, hz, List.filter_append]
          by_cases q : due z = true
          · simp [q]
          · simp [q]
        refine ⟨_, rfl, _, rfl, _, rfl, z, d, dt, l, tkv, toldK ss ks, _, rfl, .inr ⟨ob, sm _ _ hfz⟩, hv, sm _ _ hl, sm _ _ h5, hpl, fun H7 s7 => ⟨_, rfl, ite2 (fun h => ?_) (fun h => ?_)⟩⟩
        · have h : due z = true := by rw [hdue]; exact h
          refine ⟨_, rfl, s7 _ _ hacc, by rw [List.length_map]; exact small1000 (by omega), _, rfl, by rw [step, if_pos h, List.map_append]; rfl, same_at (sm.trans s7) hD0, hD0⟩
        · have h : ¬ due z = true := by rw [hdue]; exact h
          exact ⟨s7 _ _ hacc, _, rfl, by rw [step, if_neg h, List.append_nil], sm.trans s7, hD0⟩
      rintro acc σ' H6 ⟨o, rfl, rfl, s6, hD0⟩ hacc
      rw [T4.len, List.take_of_length_le (Nat.le_refl _)] at hacc
      obtain ⟨v0, hv0, hn0, hp0⟩ := MG.due_ex hf val hltn knd klt
      have hmem : nmA ss v0 ∈ ss.filter due := List.mem_filter.mpr ⟨mem_getD hv0, by rw [hdue]; exact (due_iff W.nd W.nm val klt hv0).mpr ⟨hn0, hp0⟩⟩
      obtain ⟨w0, rest, hfree⟩ : ∃ w0 rest, ss.filter due = w0 :: rest := by
        cases e : ss.filter due with
        | nil => rw [e] at hmem; cases hmem
        | cons w0 rest => exact ⟨w0, rest, rfl⟩
      have hw0 : w0 ∈ ss.filter due := by rw [hfree]; simp
      obtain ⟨hws, hwd⟩ := List.mem_filter.mp hw0
      obtain ⟨v, hv⟩ := List.getElem?_of_mem hws
      have hvl := (List.getElem?_eq_some_iff.mp hv).1
      have ew : w0 = nmA ss v := by unfold nmA; rw [List.getD_eq_getElem?_getD, hv]; rfl
      subst ew
      rw [hdue] at hwd
      obtain ⟨hvn, hvp⟩ := (due_iff W.nd W.nm val klt hvl).mp hwd
      rw [hfree] at hacc
      have h6 := s6 _ _ h5
      have hnew : (Sum.inr (nmA ss v) : Key) ∉ (toldK ss ks).map (·.1) := by
        rw [toldK_keys]
        intro z
        obtain ⟨t, ht, e⟩ := List.mem_map.mp z
        obtain ⟨u, hu, rfl⟩ := List.mem_map.mp ht
        exact hvn (nmA_inj W.nd (klt u hu) hvl (Sum.inr.inj e) ▸ hu)
      have hlt2 : ∀ b xs, H6 b = some (.lst xs) → upd H6 dt (.dK (toldK ss (ks ++ [v]))) b = some (.lst xs) := fun b xs e => by
        rw [upd_ne (fun z => by subst z; rw [h6] at e; cases e)]; exact e
      refine ⟨_, rfl, _, rfl, .lst (.of hacc) (atI_nat (j := 0) rfl) (.dic (DPut.k (k := .inr (nmA ss v)) h6 (by rw [tl]; exact small1000 (by omega))) ?_)⟩
      rw [putK_snoc hnew]
      have ek : toldK ss ks ++ [(Sum.inr (nmA ss v), V.bl true)] = toldK ss (ks ++ [v]) := by unfold toldK; rw [List.map_append]; rfl
      rw [ek]
      refine ⟨ss.length - (ks ++ [v]).length, ks ++ [v], _, by rw [List.length_append]; show ss.length - (ks.length + 1) < m; omega, rfl, rfl, upd_same, .inr ⟨ob, by rw [upd_ne hdn]; exact s6 _ _ hfz⟩, (T5.same s6).keep hlt2, ?_, ?_, ?_, kg.snoc hvp⟩
      · intro b o' e
        rw [upd_ne (ne_of_none e hdtH)]
        exact s6 _ _ (s5 _ _ e)
      · exact (List.perm_append_singleton v ks).nodup_iff.mpr (List.nodup_cons.mpr ⟨hvn, knd⟩)
      · intro x hx
        rcases List.mem_append.mp hx with g | g
        · exact klt x g
        · rw [List.mem_singleton.mp g]; exact hvl
    · have hge : ¬ ((ks.length : Nat) : Int) < ((ss.length : Nat) : Int) := fun z => hge (decide_eq_true z)
      refine ⟨_, rfl, dt, _, rfl, .inl h4, by rw [tl]; omega, fun l hl => ?_⟩
      refine k l ks _ (s4.trans (Same.new hl)) (same_free s4 hl) ?_ knd klt (by omega) kg
      rw [upd_same]
      unfold toldK
      rw [List.map_map, List.map_map]
      rfl
end
end K22
namespace K22
open PySem L2
section
variable {P : Program} {w : World} {K : PySem.W.Frag} {mg : Str → Option Value} {base : Heap}
noncomputable def intV (zs : List Int) : List V := zs.map V.int
theorem int_get {zs : List Int} {i : Nat} {x : V} (h : (intV zs)[i]? = some x) : ∃ z, zs[i]? = some z ∧ V.int z = x := by
  unfold intV at h
  rw [List.getElem?_map] at h
  cases q : zs[i]? with
  | none => rw [q] at h; cases h
  | some e => rw [q] at h; exact ⟨e, rfl, Option.some.inj h⟩
theorem Web.at {H : Hp} {v : V} {ss : List Str} {ts : List (Str × Str)} (W : Web H v ss ts) : ∃ q a b, v = .ref q ∧ H q = some (.tup [.ref a, .ref b]) ∧ H a = some (.tup (List.map V.str ss)) := by
  obtain ⟨q, a, b, xs, rfl, hq, ha, hb, rp⟩ := web_at W.rep
  exact ⟨q, a, b, rfl, hq, ha⟩
noncomputable def spWhole : Sp := fun vs H Q _ => ∃ z, vs = [V.int z] ∧ Q (.bl true) H
theorem scWhole : FnScope ["thing"] ["thing"] (defScope sIsWhole) := ⟨rfl, rfl, rfl, by decide +kernel, rfl, by decide +kernel, by decide +kernel⟩
theorem ok_whole {f : Addr} {fd : FuncData} (F : Fun K "is_whole" "is_whole" sIsWhole f fd) (B : Blt mg) : FnOk P w K mg base CX0 1 f fd ["thing"] spWhole := by
  refine F.ok scWhole (fun vs H Q E h => ?_) (fun cdv A outer s H vs Q E hr h => ?_)
  · obtain ⟨x, rfl, _⟩ := h
    rfl
  · obtain ⟨x, rfl, k⟩ := h
    have nd := scWhole.nd
    obtain ⟨t, ty, _, t2, t3, _⟩ := ty_thg (K := K) (H := H) (x := .int x) (.int x)
    refine ⟨_, (pss_one (ps_ret (pe_and (b_isi K "int" B (pa_cons (pv 0) (pa_cons (g_int B) pa_nil))) (pe_one (pe_not (b_isi K "bool" B (pa_cons (pv 0) (pa_cons (g_bool B) pa_nil)))))))), ?_⟩
    refine ⟨_, rfl, _, t, _, rfl, ty, t2, _, rfl, ?_⟩
    refine ite2 (fun h => ?_) (fun h => absurd rfl h)
    exact ⟨_, rfl, _, t, _, rfl, ty, t3, _, rfl, k⟩
end
end K22
namespace K22
open PySem L2
section
variable {P : Program} {w : World} {K : PySem.W.Frag} {mg : Str → Option Value} {base : Heap}
noncomputable def spWholes : Sp := fun vs H Q _ => ∃ (q : V) (a : Addr) (ss : List Str) (ts : List (Str × Str)) (zs : List Int), vs = [q, .ref a] ∧ Web H q ss ts ∧ H a = some (.lst (intV zs)) ∧ zs.length = ss.length ∧ ∀ H', Same H H' → Q (.bl true) H'
theorem scWholes : FnScope ["web", "numbers"] ["web", "numbers"] (defScope sWholes) := ⟨rfl, rfl, rfl, by decide +kernel, rfl, by decide +kernel, by decide +kernel⟩
theorem ok_wholes {f : Addr} {fd : FuncData} (F : Fun K "are_wholes" "are_wholes" sWholes f fd) (B : Blt mg) (cis_whole : Cal P w K mg base 1 "is_whole" ["thing"] spWhole) : FnOk P w K mg base CX0 2 f fd ["web", "numbers"] spWholes := by
  refine F.ok scWholes (fun vs H Q E h => ?_) (fun cdv A outer s H vs Q E hr h => ?_)
  · obtain ⟨q, a, ss, ts, zs, rfl, _⟩ := h
    rfl
  · obtain ⟨q, n, ss, ts, zs, rfl, W, hn, hl, k⟩ := h
    have nd := scWholes.nd
    have h60 := W.len
    obtain ⟨q, a, b, rfl, hq, ha⟩ := Web.at W
    have il : (intV zs).length = zs.length := List.length_map ..
    refine ⟨_, (pss_one (ps_ret (pe_and (pe_cmpR (op_eqX hr.units) (b_len K B (pa_cons (pv 1) pa_nil)) (b_len K B (pa_cons (pe_ix (ix_X K hr.units) (pv 0) pe_int (fun _ _ => rfl)) pa_nil)) (nomark _)) (pe_one (b_all rfl B (pa_cons (pe_comp (defScope sWholes) ["web", "numbers"] ["number"] [] ["number"] rfl (pi_listK K (pv 1)) (fun _ _ _ _ _ => (pg_name (i := 0) (show (["number"] : List Str).Nodup by decide) rfl (Or.inl rfl))) (fun _ _ _ _ _ => pts_nil) (fun _ _ _ _ _ => (pe_cal cis_whole (hr.mono (by decide)) rfl (pa_cons (pv 0) pa_nil)))) pa_nil)))))), ?_⟩
    refine ⟨_, rfl, _, _, rfl, (SqA.len (K := K) (H := H) (a := n) (.inl hn)), _, rfl, .tup (.of hq) rfl ⟨_, _, rfl, (SqA.len (K := K) (H := H) (a := a) (.inr ha)), .sc rfl ⟨_, rfl, ite2 (fun _ => ?_) (fun h => absurd (by rw [il, List.length_map, hl]; exact decide_eq_true rfl) h)⟩⟩⟩
    refine ⟨_, rfl, n, rfl, ⟨_, .of hn⟩, ?_⟩
    refine comp_list (intV zs) (fun D i acc σ' H' => ∃ o, σ' = [o] ∧ acc = List.map V.bl (List.replicate i true) ∧ Same H H' ∧ H D = none) fun D hD => ⟨?_, ?_, ?_, ?_⟩
    · exact ⟨none, rfl, rfl, Same.new hD, hD⟩
    · rintro i acc σ' H' _ ⟨o, rfl, _, sm, _⟩ _
      exact .of (sm _ _ hn)
    · rintro i acc σ' H' x hx ⟨o, rfl, rfl, sm, hD0⟩ hacc
      have hil := (List.getElem?_eq_some_iff.mp hx).1
      rw [il] at hil
      obtain ⟨z, hz, rfl⟩ := int_get hx
      refine gYes ?_
      exact ⟨_, rfl, z, rfl, hacc, by rw [List.length_map, List.length_replicate]; exact small1000 (by omega), _, rfl, by rw [List.replicate_succ', List.map_append]; rfl, same_at sm hD0, hD0⟩
    · rintro acc σ' H2 ⟨o, rfl, rfl, s2, hD0⟩ hacc
      refine ⟨D, _, rfl, hacc, ?_⟩
      have e : (List.replicate (intV zs).length true).all id = true := by rw [List.all_eq_true]; intro x hx; exact (List.mem_replicate.mp hx).2
      rw [e]
      exact k H2 s2
noncomputable def spWeigh : Sp := fun vs H Q _ => ∃ (q : V) (a : Addr) (ss : List Str) (es : List (Nat × Nat)) (zs : List Int), vs = [q, .ref a] ∧ Web H q ss (es.map (nmP ss)) ∧ ValE ss es ∧ MG.Ris es ∧ H a = some (.lst (intV zs)) ∧ zs.length = ss.length ∧ ∀ l H', Same H H' → H l = none → H' l = some (.dK (zipK ss (intV zs))) → Q (.ref l) H'
theorem scWeigh : FnScope ["web", "weights"] ["web", "weights"] (defScope sWeigh) := ⟨rfl, rfl, rfl, by decide +kernel, rfl, by decide +kernel, by decide +kernel⟩
theorem ok_weigh {f : Addr} {fd : FuncData} (F : Fun K "weights_by_thing" "weights_by_thing" sWeigh f fd) (B : Blt mg) (Zz : mg "zip" = none) (crefuse_ring : Cal P w K mg base 7 "refuse_ring" ["web"] spRefuse) (care_wholes : Cal P w K mg base 2 "are_wholes" ["web", "numbers"] spWholes) : FnOk P w K mg base CX0 8 f fd ["web", "weights"] spWeigh := by
  refine F.ok scWeigh (fun vs H Q E h => ?_) (fun cdv A outer s H vs Q E hr h => ?_)
  · obtain ⟨q, a, ss, es, zs, rfl, _⟩ := h
    rfl
  · obtain ⟨q, n, ss, es, zs, rfl, W, val, hf, hn, hl, k⟩ := h
    have nd := scWeigh.nd
    have h60 := W.len
    refine ⟨_, (pss_cons (ps_expr (pe_cal crefuse_ring (hr.mono (by decide)) rfl (pa_cons (pv 0) pa_nil)))
      (pss_cons (ps_if (PW.pt (pw_or (pt_not (pt_val (b_isi2 K "list" "tuple" B (pa_cons (pv 1) (pa_cons (pe_tup (pa_cons (g_list B) (pa_cons (g_tuple B) pa_nil))) pa_nil))))) (pw_or1 (pt_not (pt_val (pe_cal care_wholes (hr.mono (by decide)) rfl (pa_cons (pv 0) (pa_cons (pv 1) pa_nil)))))))) (pss_one ps_never) pss_nil)
      (pss_one (ps_ret (pe_dzip K rfl hr.units B Zz (pa_cons (pe_ix (ix_X K hr.units) (pv 0) pe_int (fun _ _ => rfl)) (pa_cons (pv 1) pa_nil))))))), ?_⟩
    refine ⟨_, rfl, q, ss, es, rfl, W, val, hf, fun H1 s1 => ?_⟩
    refine ⟨_, rfl, (by show 2 ≤ sizeLine; decide), fun tp htp => ?_⟩
    have s0 := Same.new (o := .tup [V.ty "list", V.ty "tuple"]) htp
    have A0 : SqA (upd H1 tp (.tup [V.ty "list", V.ty "tuple"])) n (intV zs) := SqA.same (.inl (s1 _ _ hn)) s0
    obtain ⟨t, ty, _, _, _, t4, t5⟩ := ty_thg (K := K) A0.thg
    have kl := kit_lt t4 t5
    rw [A0.lt] at kl
    refine ⟨_, tp, t, _, rfl, upd_same, ty, kl, _, rfl, ?_⟩
    refine ite2 (fun h => absurd h (by decide)) (fun _ => ?_)
    have s01 := s1.trans s0
    generalize upd H1 tp (.tup [V.ty "list", V.ty "tuple"]) = H2 at s01 ⊢
    refine ⟨_, rfl, _, rfl, q, n, ss, _, zs, rfl, W.same s01, s01 _ _ hn, hl, fun H3 s3 => ⟨_, rfl, ite2 (fun h => absurd h (by decide)) (fun _ => ?_)⟩⟩
    have s13 := s01.trans s3
    obtain ⟨q, a, b, rfl, hq, ha⟩ := Web.at (W.same s13)
    refine ⟨_, rfl, .tup (.of hq) rfl ⟨_, rfl, a, n, ss, intV zs, rfl, .of ha, .of (s13 _ _ hn), by unfold intV; rw [List.length_map, hl], by omega, fun l H4 hl4 s4 h4 => ?_⟩⟩
    rw [mkK_zip ss _ W.nd] at h4
    exact k l H4 (s13.trans s4) (same_free s13 hl4) h4
end
end K22
namespace K22
open PySem L2
section
variable {P : Program} {w : World} {K : PySem.W.Frag} {mg : Str → Option Value} {base : Heap}
noncomputable def tabI (ss : List Str) (D : Nat → Int) (ks : List Nat) : List (Key × V) := ks.map fun v => (Sum.inr (nmA ss v), V.int (D v))
theorem tabI_keys (ss : List Str) (D : Nat → Int) (ks : List Nat) : (tabI ss D ks).map (·.1) = (ks.map (nmA ss)).map Sum.inr := by unfold tabI; rw [List.map_map, List.map_map]; rfl
theorem tabI_at {ss : List Str} (nd : ss.Nodup) (D : Nat → Int) : ∀ {ks : List Nat}, (∀ x ∈ ks, x < ss.length) → ∀ {v : Nat}, v ∈ ks → valV (tabI ss D ks) (.inr (nmA ss v)) = some (.int (D v))
  | [], _, v, h => by cases h
  | u :: ks, hk, v, h => by
    by_cases q : u = v
    · subst q; exact valV_pos (p := (Sum.inr (nmA ss u), V.int (D u))) rfl
    · have hv : v ∈ ks := by rcases List.mem_cons.mp h with z | z; exact absurd z.symm q; exact z
      have ne : ¬ (Sum.inr (nmA ss u) : Key) = Sum.inr (nmA ss v) := fun z => q (nmA_inj nd (hk u (by simp)) (hk v h) (Sum.inr.inj z))
      show valV ((Sum.inr (nmA ss u), V.int (D u)) :: tabI ss D ks) _ = _
      rw [valV_neg ne]
      exact tabI_at nd D (fun x hx => hk x (List.mem_cons_of_mem _ hx)) hv
noncomputable def spByPl : Sp := fun vs H Q _ => ∃ (q : V) (d : Addr) (ss : List Str) (ts : List (Str × Str)) (D : Nat → Int) (ks : List Nat), vs = [q, .ref d] ∧ Web H q ss ts ∧ H d = some (.dK (tabI ss D ks)) ∧ (∀ x ∈ ks, x < ss.length) ∧ (∀ x, x < ss.length → x ∈ ks) ∧ ∀ l H', Same H H' → H l = none → H' l = some (.lst (intV ((List.range ss.length).map D))) → Q (.ref l) H'
theorem scByPl : FnScope ["web", "found"] ["web", "found"] (defScope sByPl) := ⟨rfl, rfl, rfl, by decide +kernel, rfl, by decide +kernel, by decide +kernel⟩
theorem ok_bypl {f : Addr} {fd : FuncData} (F : Fun K "by_places" "by_places" sByPl f fd) (B : Blt mg) : FnOk P w K mg base CX0 1 f fd ["web", "found"] spByPl := by
  refine F.ok scByPl (fun vs H Q E h => ?_) (fun cdv A outer s H vs Q E hr h => ?_)
  · obtain ⟨q, d, ss, ts, D, ks, rfl, _⟩ := h
    rfl
  · obtain ⟨q, d, ss, ts, Dd, ks, rfl, W, hd, klt, kal, k⟩ := h
    have nd := scByPl.nd
    have h60 := W.len
    have wnd := W.nd
    obtain ⟨q, a, b, rfl, hq, ha⟩ := Web.at W
    refine ⟨_, (pss_one (ps_ret (pe_comp (defScope sByPl) ["web", "found"] ["thing"] [1] ["thing", "found"] rfl (pi_tupK K (pe_ix (ix_X K hr.units) (pv 0) pe_int (fun _ _ => rfl))) (fun _ _ _ _ _ => (pg_name (i := 0) (show (["thing", "found"] : List Str).Nodup by decide) rfl (Or.inl rfl))) (fun _ _ _ _ _ => pts_nil) (fun _ _ _ _ _ => (pe_ix (ix_X K hr.units) (pv 1) (pv 0) (fun _ _ => rfl)))))), ?_⟩
    refine ⟨_, rfl, .tup (.of hq) rfl ⟨_, rfl, ⟨_, .of ha⟩, ?_⟩⟩
    refine comp_tup (List.map V.str ss) (fun D i acc σ' H' => ∃ o, σ' = [o, some (.ref d)] ∧ acc = intV ((List.range i).map Dd) ∧ Same H H' ∧ H D = none) fun D hD => ⟨?_, ?_, ?_, ?_⟩
    · exact ⟨none, rfl, rfl, Same.new hD, hD⟩
    · rintro i acc σ' H' _ ⟨o, rfl, _, sm, _⟩ _
      exact .of (sm _ _ ha)
    · rintro i acc σ' H' x hx ⟨o, rfl, rfl, sm, hD0⟩ hacc
      have hil := (List.getElem?_eq_some_iff.mp hx).1
      rw [List.length_map] at hil
      have ex : x = V.str (nmA ss i) := by
        rw [List.getElem?_map, List.getElem?_eq_getElem hil] at hx
        have : V.str ss[i] = x := Option.some.inj hx
        rw [← this]
        unfold nmA
        rw [List.getD_eq_getElem?_getD, List.getElem?_eq_getElem hil]; rfl
      subst ex
      refine gYes ?_
      refine ⟨_, rfl, _, rfl, .dic (.inl ⟨_, .inr (nmA ss i), .inl (sm _ _ hd), rfl, (tabI_at wnd Dd klt (kal i hil)).symm⟩) ?_⟩
      exact ⟨hacc, by unfold intV; rw [List.length_map, List.length_map, List.length_range]; exact small1000 (by omega), _, rfl, by rw [List.range_succ, List.map_append]; unfold intV; rw [List.map_append]; rfl, same_at sm hD0, hD0⟩
    · rintro acc σ' H2 ⟨o, rfl, rfl, s2, hD0⟩ hacc
      rw [List.length_map] at hacc
      exact k D H2 s2 hD0 hacc
end
end K22
namespace K22
open PySem L2
section
variable {P : Program} {w : World} {K : PySem.W.Frag} {mg : Str → Option Value} {base : Heap}
theorem priors_num {ss : List Str} {es : List (Nat × Nat)} (nd : ss.Nodup) (nm : ∀ s ∈ ss, Nm s) (val : ∀ e ∈ es, e.1 < ss.length ∧ e.2 < ss.length) (v : Nat) : ∃ us : List Nat, nxtL ss (flipE (es.map (nmP ss))) (nmA ss v) = us.map (nmA ss) ∧ us.length ≤ ss.length ∧ ∀ u, u ∈ us ↔ (u, v) ∈ es := by
  have e : flipE (es.map (nmP ss)) = (MG.swp es).map (nmP ss) := by
    unfold flipE MG.swp
    rw [List.map_map, List.map_map]
    rfl
  refine ⟨nxn ss.length (MG.swp es) v, ?_, ?_, fun u => ?_⟩
  · rw [e]
    exact nxt_num nd nm (fun a ha => by obtain ⟨b, hb, rfl⟩ := List.mem_map.mp ha; exact (val b hb).symm) v
  · unfold nxn
    have := List.length_filter_le (fun b => decide ((v, b) ∈ MG.swp es)) (List.range ss.length)
    rwa [List.length_range] at this
  · unfold nxn
    rw [List.mem_filter, decide_eq_true_iff, MG.mem_swp, List.mem_range]
    exact ⟨fun h => h.2, fun h => ⟨(val _ h).1, h⟩⟩
theorem nmA_get {ss : List Str} {v : Nat} (h : v < ss.length) : ss[v]? = some (nmA ss v) := by
  unfold nmA
  rw [List.getD_eq_getElem?_getD, List.getElem?_eq_getElem h]; rfl
noncomputable def wOf (zs : List Int) (v : Nat) : Int := zs.getD v 0
theorem wOf_get {zs : List Int} {v : Nat} (h : v < zs.length) : (intV zs)[v]? = some (.int (wOf zs v)) := by
  unfold intV wOf
  rw [List.getElem?_map, List.getD_eq_getElem?_getD, List.getElem?_eq_getElem h]; rfl
noncomputable def spDepBy : Sp := fun vs H Q _ => ∃ (q : V) (d : Addr) (ss : List Str) (es : List (Nat × Nat)) (zs : List Int) (D : Nat → Int), vs = [q, .ref d] ∧ Web H q ss (es.map (nmP ss)) ∧ ValE ss es ∧ MG.Ris es ∧ H d = some (.dK (zipK ss (intV zs))) ∧ zs.length = ss.length ∧ MG.IsD es (wOf zs) D ∧
  ∀ l ks H', Same H H' → H l = none → H' l = some (.dK (tabI ss D ks)) → ks.Nodup → (∀ x ∈ ks, x < ss.length) → (∀ x, x < ss.length → x ∈ ks) → Q (.ref l) H'
theorem scDepBy : FnScope ["web", "weighed", "table", "found", "thing"] ["web", "weighed"] (defScope sDepBy) := ⟨rfl, rfl, rfl, by decide +kernel, rfl, by decide +kernel, by decide +kernel⟩
theorem all_in {ks : List Nat} {n : Nat} (nd : ks.Nodup) (h : ∀ x ∈ ks, x < n) (hl : ks.length = n) : ∀ x, x < n → x ∈ ks := by
  intro x hx
  refine Classical.byContradiction fun z => ?_
  have := MG.nodup_le (n := n) (l := x :: ks) (List.nodup_cons.mpr ⟨z, nd⟩) (fun y hy => by rcases List.mem_cons.mp hy with rfl | g; exact hx; exact h y g)
  rw [List.length_cons] at this
  omega
theorem ok_depby {f : Addr} {fd : FuncData} (F : Fun K "depths_by_thing" "depths_by_thing" sDepBy f fd) (B : Blt mg) (cpriors_of_all : Cal P w K mg base 3 "priors_of_all" ["web"] spPriK) (corder_anew : Cal P w K mg base 8 "order_anew" ["web"] spAnew) : FnOk P w K mg base CX0 9 f fd ["web", "weighed"] spDepBy := by
  refine F.ok scDepBy (fun vs H Q E h => ?_) (fun cdv A outer s H vs Q E hr h => ?_)
  · obtain ⟨q, d, ss, es, zs, D, rfl, _⟩ := h
    rfl
  · obtain ⟨q, wd, ss, es, zs, D, rfl, W, val, hf, hwd, hzl, hD, k⟩ := h
    have nd := scDepBy.nd
    have h60 := W.len
    have wnd := W.nd
    refine ⟨_, (pss_cons (ps_set (i := 2) nd rfl (Or.inl rfl) (pe_cal cpriors_of_all (hr.mono (by decide)) rfl (pa_cons (pv 0) pa_nil)))
      (pss_cons (ps_set (i := 3) nd rfl (Or.inr rfl) pe_dnewK)
      (pss_cons (ps_for PassesOwn.never rfl (pi_listK K (pe_cal corder_anew (hr.mono (by decide)) rfl (pa_cons (pv 0) pa_nil))) (pg_name (i := 4) nd rfl (Or.inl rfl)) (pss_one (ps_asg (pe_op op_addX (pe_ix (ix_X K hr.units) (pv 1) (pv 4) (fun _ _ => rfl)) (b_maxL K rfl B (pa_cons (pe_op op_addX (pe_lst (pa_cons pe_int pa_nil)) (pe_comp (defScope sDepBy) ["web", "weighed", "table", "found", "thing"] ["prior"] [3] ["prior", "found"] rfl (pi_listK K (pe_ix (ix_X K hr.units) (pv 2) (pv 4) (fun _ _ => rfl))) (fun _ _ _ _ _ => (pg_name (i := 0) (show (["prior", "found"] : List Str).Nodup by decide) rfl (Or.inl rfl))) (fun _ _ _ _ _ => pts_nil) (fun _ _ _ _ _ => (pe_ix (ix_X K hr.units) (pv 1) (pv 0) (fun _ _ => rfl))))) pa_nil))) (pg_sub (pv 3) (pv 4) (set_X hr.units)))))
      (pss_one (ps_ret (pv 3)))))), ?_⟩
    refine ⟨_, rfl, q, ss, _, rfl, W, fun tb tkv H1 s1 htb0 htb T => ?_⟩
    intro d hd
    have hdH : H d = none := same_free s1 hd
    have s2 := s1.trans (Same.new (o := .dK []) hd)
    refine ⟨_, rfl, q, ss, es, rfl, W.same s2, val, hf, fun lo ks H3 s3 hlo0 hlo knd klt kln kg => ?_⟩
    have kal := all_in knd klt kln
    have hd3 : H3 d = some (.dK []) := s3 _ _ upd_same
    have T3 : TabK H3 tkv ss (nxtL ss (flipE (es.map (nmP ss)))) := (T.same (Same.new (o := .dK []) hd)).same s3
    have htb3 : H3 tb = some (.dK tkv) := s3 _ _ (Same.new (o := .dK []) hd _ _ htb)
    have hwd3 : H3 wd = some (.dK (zipK ss (intV zs))) := s3 _ _ (s2 _ _ hwd)
    have ntb : tb ≠ d := ne_of_none htb hd
    have nwd : wd ≠ d := ne_of_none hwd hdH
    have nlo : lo ≠ d := ne_of hlo hd3 (by intro z; cases z)
    have s23 := s2.trans s3
    refine ⟨_, rfl, ⟨_, .of hlo⟩, ?_⟩
    refine for_list (xs := List.map V.str (ks.map (nmA ss))) (fun i σ H' => ∃ o4, σ = [some q, some (.ref wd), some (.ref tb), some (.ref d), o4] ∧ H' d = some (.dK (tabI ss D (ks.take i))) ∧ But d H3 H') ?_ ?_ ?_ ?_
    · exact ⟨none, rfl, hd3, But.refl d H3⟩
    · rintro i σ H' hi ⟨o4, rfl, _, b⟩
      exact .of (b _ _ nlo hlo)
    · rintro i x σ H4 hx ⟨o4, rfl, h4, b⟩
      obtain ⟨v, hv, rfl⟩ : ∃ v, ks[i]? = some v ∧ V.str (nmA ss v) = x := by
        rw [List.getElem?_map, List.getElem?_map] at hx
        cases e : ks[i]? with
        | none => rw [e] at hx; cases hx
        | some v => rw [e] at hx; exact ⟨v, rfl, Option.some.inj hx⟩
      have hil := (List.getElem?_eq_some_iff.mp hv).1
      have hvl := klt v (List.mem_of_getElem? hv)
      obtain ⟨us, hus, hul, hum⟩ := priors_num wnd W.nm val v
      obtain ⟨lp, hlp, hlpl⟩ := T3.2 (nmA ss v) (mem_getD hvl)
      rw [hus] at hlpl
      have nlp : lp ≠ d := ne_of hlpl hd3 (by intro z; cases z)
      have htk : ∀ x ∈ ks.take i, x < ss.length := fun x hx => klt x (List.mem_of_mem_take hx)
      have utk : ∀ u ∈ us, u ∈ ks.take i := fun u hu => kg i v hv u ((hum u).mp hu)
      refine ⟨_, rfl, _, rfl, .dic (.inl ⟨_, .inr (nmA ss v), .inl (b _ _ nwd hwd3), rfl, (valV_zip wnd (nmA_get hvl) (wOf_get (by omega))).symm⟩) ?_⟩
      refine ⟨(by show 1 ≤ sizeLine; decide), fun l0 hl0 => ?_⟩
      have s5 := Same.new (o := .lst [V.int 0]) hl0
      have hl05 : upd H4 l0 (.lst [V.int 0]) l0 = some (.lst [V.int 0]) := upd_same
      generalize upd H4 l0 (.lst [V.int 0]) = H5 at s5 hl05 ⊢
      have hp5 : H5 lp = some (.lst (List.map V.str (us.map (nmA ss)))) := s5 _ _ (b _ _ nlp hlpl)
      have h5 := s5 _ _ h4
      refine ⟨_, rfl, _, rfl, .dic (.inl ⟨tkv, .inr (nmA ss v), .inl (s5 _ _ (b _ _ ntb htb3)), rfl, hlp.symm⟩) ⟨lp, rfl, ⟨_, .of hp5⟩, ?_⟩⟩
      refine comp_list (List.map V.str (us.map (nmA ss))) (fun C j acc σ' H' => ∃ o, σ' = [o, some (.ref d)] ∧ acc = intV ((us.take j).map D) ∧ Same H5 H' ∧ H5 C = none) fun C hC => ⟨?_, ?_, ?_, ?_⟩
      · exact ⟨none, rfl, rfl, Same.new hC, hC⟩
      · rintro j acc σ' H' _ ⟨o, rfl, _, sm, _⟩ _
        exact .of (sm _ _ hp5)
      · rintro j acc σ' H' x hx ⟨o, rfl, rfl, sm, hC0⟩ hacc
        obtain ⟨u, hu, rfl⟩ : ∃ u, us[j]? = some u ∧ V.str (nmA ss u) = x := by
          rw [List.getElem?_map, List.getElem?_map] at hx
          cases e : us[j]? with
          | none => rw [e] at hx; cases hx
          | some v => rw [e] at hx; exact ⟨v, rfl, Option.some.inj hx⟩
        have hjl := (List.getElem?_eq_some_iff.mp hu).1
        refine gYes ?_
        refine ⟨_, rfl, _, rfl, .dic (.inl ⟨_, .inr (nmA ss u), .inl (sm _ _ h5), rfl, (tabI_at wnd D htk (utk u (List.mem_of_getElem? hu))).symm⟩) ?_⟩
        exact ⟨hacc, by unfold intV; rw [List.length_map, List.length_map, List.length_take]; exact small1000 (by omega), _, rfl, by rw [List.take_add_one, hu, List.map_append]; unfold intV; rw [List.map_append]; rfl, same_at sm hC0, hC0⟩
      · rintro acc σ' H6 ⟨o, rfl, rfl, s6, hC0⟩ hacc
        rw [List.length_map, List.length_map, List.take_of_length_le (Nat.le_refl _)] at hacc
        have iL : (intV (us.map D)).length = us.length := by unfold intV; rw [List.length_map, List.length_map]
        refine .lst (s6 _ _ hl05) hacc (by rw [iL]; show 1 + us.length ≤ sizeLine; exact Nat.le_of_lt (small1000 (by omega))) fun lm hlm => ?_
        have s7 := Same.new (o := .lst ([V.int 0] ++ intV (us.map D))) hlm
        have h7 : upd H6 lm (.lst ([V.int 0] ++ intV (us.map D))) lm = some (.lst (List.map V.int (0 :: us.map D))) := upd_same
        generalize upd H6 lm (.lst ([V.int 0] ++ intV (us.map D))) = H7 at s7 h7 ⊢
        refine ⟨lm, _, rfl, .of h7, (by show 0 < (us.map D).length + 1; omega), fun M hM hMx => .int ?_⟩
        have e : wOf zs v + M = D v := by
          refine hD.top (hMx 0 (by simp)) (fun u hu => hMx _ (List.mem_cons_of_mem _ (List.mem_map.mpr ⟨u, (hum u).mpr hu, rfl⟩))) ?_
          rcases List.mem_cons.mp hM with z | z
          · exact .inl z
          · obtain ⟨u, hu, z⟩ := List.mem_map.mp z
            exact .inr ⟨u, (hum u).mp hu, z.symm⟩
        rw [e]
        have s57 := (s5.trans s6).trans s7
        have hd7 := s57 _ _ h4
        have tl : (tabI ss D (ks.take i)).length ≤ 60 := by unfold tabI; rw [List.length_map, List.length_take]; omega
        refine ⟨_, rfl, _, rfl, .dic (DPut.k (k := .inr (nmA ss v)) hd7 (small1000 (by omega))) ⟨_, rfl, ?_, ?_⟩⟩
        · rw [upd_same, putK_snoc, List.take_add_one, hv]
          · unfold tabI; rw [List.map_append]; rfl
          · rw [tabI_keys]
            intro z
            obtain ⟨t, ht, e⟩ := List.mem_map.mp z
            obtain ⟨u, hu, rfl⟩ := List.mem_map.mp ht
            have := nmA_inj wnd (htk u hu) hvl (Sum.inr.inj e)
            subst this
            obtain ⟨j, hj⟩ := List.getElem?_of_mem hu
            have hjl := (List.getElem?_eq_some_iff.mp hj).1
            rw [List.length_take] at hjl
            rw [List.getElem?_take_of_lt (by omega)] at hj
            have := (List.getElem?_inj (i := j) (j := i) (by omega) knd).mp (hj.trans hv.symm)
            omega
        · intro c o hc hh
          rw [upd_ne hc]
          exact s57 _ _ (b _ _ hc hh)
    · rintro σ H4 ⟨o4, rfl, h4, b⟩
      rw [List.length_map, List.length_map, List.take_of_length_le (Nat.le_refl _)] at h4
      refine ⟨_, rfl, k d ks H4 (fun c o hc => ?_) hdH h4 knd klt kal⟩
      exact b c o (ne_of_none hc hdH) (s23 _ _ hc)
end
end K22
namespace K22
open PySem L2
section
variable {P : Program} {w : World} {K : PySem.W.Frag} {mg : Str → Option Value} {base : Heap}
noncomputable def spOnes : Sp := fun vs H Q _ => ∃ (q : V) (ss : List Str) (ts : List (Str × Str)), vs = [q] ∧ Web H q ss ts ∧ ∀ l H', Same H H' → H l = none → H' l = some (.lst (intV (List.replicate ss.length 1))) → Q (.ref l) H'
theorem scOnes : FnScope ["web"] ["web"] (defScope sOnes) := ⟨rfl, rfl, rfl, by decide +kernel, rfl, by decide +kernel, by decide +kernel⟩
theorem ok_ones {f : Addr} {fd : FuncData} (F : Fun K "ones" "ones" sOnes f fd) (B : Blt mg) : FnOk P w K mg base CX0 1 f fd ["web"] spOnes := by
  refine F.ok scOnes (fun vs H Q E h => ?_) (fun cdv A outer s H vs Q E hr h => ?_)
  · obtain ⟨q, ss, ts, rfl, _⟩ := h
    rfl
  · obtain ⟨q, ss, ts, rfl, W, k⟩ := h
    have nd := scOnes.nd
    have h60 := W.len
    obtain ⟨q, a, b, rfl, hq, ha⟩ := Web.at W
    refine ⟨_, (pss_one (ps_ret (pe_comp (defScope sOnes) ["web"] ["thing"] [] ["thing"] rfl (pi_tupK K (pe_ix (ix_X K hr.units) (pv 0) pe_int (fun _ _ => rfl))) (fun _ _ _ _ _ => (pg_name (i := 0) (show (["thing"] : List Str).Nodup by decide) rfl (Or.inl rfl))) (fun _ _ _ _ _ => pts_nil) (fun _ _ _ _ _ => pe_int)))), ?_⟩
    refine ⟨_, rfl, .tup (.of hq) rfl ⟨_, rfl, ⟨_, .of ha⟩, ?_⟩⟩
    refine comp_tup (List.map V.str ss) (fun D i acc σ' H' => ∃ o, σ' = [o] ∧ acc = List.replicate i (V.int 1) ∧ Same H H' ∧ H D = none) fun D hD => ⟨?_, ?_, ?_, ?_⟩
    · exact ⟨none, rfl, rfl, Same.new hD, hD⟩
    · rintro i acc σ' H' _ ⟨o, rfl, _, sm, _⟩ _
      exact .of (sm _ _ ha)
    · rintro i acc σ' H' x hx ⟨o, rfl, rfl, sm, hD0⟩ hacc
      have hil := (List.getElem?_eq_some_iff.mp hx).1
      rw [List.length_map] at hil
      refine gYes ?_
      exact ⟨hacc, by rw [List.length_replicate]; exact small1000 (by omega), _, rfl, by rw [List.replicate_succ'], same_at sm hD0, hD0⟩
    · rintro acc σ' H2 ⟨o, rfl, rfl, s2, hD0⟩ hacc
      rw [List.length_map] at hacc
      exact k D H2 s2 hD0 (by unfold intV; rw [List.map_replicate]; exact hacc)
theorem wOf_ones {n v : Nat} (h : v < n) : wOf (List.replicate n 1) v = 1 := by
  unfold wOf
  rw [List.getD_eq_getElem?_getD, List.getElem?_replicate, if_pos h]; rfl
end
end K22
namespace K22
open PySem L2
section
variable {P : Program} {w : World} {K : PySem.W.Frag} {mg : Str → Option Value} {base : Heap}
noncomputable def spLLay : Sp := fun vs H Q _ => ∃ (n : Nat) (t : Addr) (refs : List V) (es : List (Nat × Nat)) (L : Nat → Nat), vs = [.int (n : Int), .ref t] ∧ H t = some (.lst refs) ∧ RepAll H refs (es.map tieD) ∧ (∀ e ∈ es, e.1 < n ∧ e.2 < n) ∧ n ≤ 60 ∧ MG.IsL es n L ∧
  ∀ l H', Same H H' → H l = none → H' l = some (.lst (natV ((List.range n).map L))) → Q (.ref l) H'
theorem scLLay : FnScope ["_law_size", "_law_ties_here", "_law_found", "_law_turn", "_law_one", "_law_other"] ["_law_size", "_law_ties_here"] (defScope sLLayers) := ⟨rfl, rfl, rfl, by decide +kernel, rfl, by decide +kernel, by decide +kernel⟩
theorem ixN_at {n j : Nat} (h : j < n) : ixN n (j : Int) = some j := by
  unfold ixN
  rw [if_pos (by omega), if_pos (by omega), Int.toNat_natCast]
theorem nat_rep0 (n : Nat) : List.replicate n (V.int 0) = natV (List.replicate n 0) := by unfold natV; rw [List.map_replicate]; rfl
theorem natD_at {F : List Nat} {i : Nat} (h : i < F.length) : atI (natV F) (i : Int) = some (.int ((F.getD i 0 : Nat) : Int)) := atI_nat (by simp [natV, h, List.getD_eq_getElem?_getD])
theorem natV_set (F : List Nat) (i x : Nat) : (natV F).set i (V.int (x : Int)) = natV (F.set i x) := by unfold natV; rw [List.map_set]
theorem ok_llay {f : Addr} {fd : FuncData} (F : Fun K "_law_layers" "_law_layers" sLLayers f fd) (B : Blt mg) : FnOk P w K mg base CX0 1 f fd ["_law_size", "_law_ties_here"] spLLay := by
  refine F.ok scLLay (fun vs H Q E h => ?_) (fun cdv A outer s H vs Q E hr h => ?_)
  · obtain ⟨n, t, refs, es, L, rfl, _⟩ := h
    rfl
  · obtain ⟨n, t, refs, es, L, rfl, ht, rp, hev, hn, hL, k⟩ := h
    have nd := scLLay.nd
    refine ⟨_, (pss_cons (ps_set (i := 2) nd rfl (Or.inl rfl) (pe_op op_rep (pe_lst (pa_cons pe_int pa_nil)) (pv 0)))
      (pss_cons (ps_for PassesOwn.never rfl (pi_range1 rfl B.range (pa_cons (pv 0) pa_nil)) (pg_name (i := 3) nd rfl (Or.inl rfl)) (pss_one (ps_for PassesOwn.never rfl (pi_listK K (pv 1)) (pg_tupK (n := 2) K rfl (pgs_cons (pg_name (i := 4) nd rfl (Or.inl rfl)) (pgs_cons (pg_name (i := 5) nd rfl (Or.inl rfl)) pgs_nil))) (pss_one (ps_asg (b_max rfl B (pa_cons (pe_ix (ix_X K hr.units) (pv 2) (pv 5) (fun _ _ => rfl)) (pa_cons (pe_op op_addX (pe_ix (ix_X K hr.units) (pv 2) (pv 4) (fun _ _ => rfl)) pe_int) pa_nil))) (pg_sub (pv 2) (pv 5) (set_X hr.units)))))))
      (pss_one (ps_ret (pv 2))))), ?_⟩
    have rlen := rp.len
    rw [List.length_map] at rlen
    refine ⟨(by show 1 ≤ sizeLine; decide), fun l0 hl0 => ⟨_, rfl, l0, _, _, rfl, rfl, upd_same, by omega, by omega, ?_, fun l hl => ?_⟩⟩
    · show 1 * (n : Int).toNat ≤ sizeLine
      rw [Int.toNat_natCast]
      have := small1000 (n := n) (by omega)
      omega
    · have e0 : (List.replicate (n : Int).toNat [V.int 0]).flatten = natV (List.replicate n 0) := by
        rw [Int.toNat_natCast, ← nat_rep0]
        clear hn hev hL k
        induction n with
        | zero => rfl
        | succ n ih => rw [List.replicate_succ, List.flatten_cons, List.replicate_succ, ← ih]; rfl
      rw [e0]
      have hl1 : H l = none := same_free (Same.new hl0) hl
      have s1 : Same H (upd (upd H l0 (.lst [V.int 0])) l (.lst (natV (List.replicate n 0)))) := (Same.new hl0).trans (Same.new hl)
      have e1 : upd (upd H l0 (.lst [V.int 0])) l (.lst (natV (List.replicate n 0))) l = some (.lst (natV (List.replicate n 0))) := upd_same
      generalize upd (upd H l0 (.lst [V.int 0])) l (.lst (natV (List.replicate n 0))) = H2 at s1 e1 ⊢
      refine ⟨_, rfl, _, rfl, by omega, by omega, ?_⟩
      refine for_range (fun r σ H' => ∃ o3 o4 o5 F, σ = [some (.int (n : Int)), some (.ref t), some (.ref l), o3, o4, o5] ∧ Same H H' ∧ H' l = some (.lst (natV F)) ∧ MG.Lay es n L r 0 F)
        ⟨none, none, none, _, rfl, s1, e1, MG.Lay.start⟩ ?_ ?_
      · rintro r σ H3 hr ⟨o3, o4, o5, F, rfl, s3, e3, lay⟩
        refine ⟨_, rfl, t, rfl, ⟨_, .of (s3 _ _ ht)⟩, ?_⟩
        refine for_list (xs := refs) (fun j σ H' => ∃ o4 o5 F, σ = [some (.int (n : Int)), some (.ref t), some (.ref l), some (.int (0 + (r : Nat))), o4, o5] ∧ Same H H' ∧ H' l = some (.lst (natV F)) ∧ MG.Lay es n L r j F) ?_ ?_ ?_ ?_
        · exact ⟨o4, o5, F, rfl, s3, e3, lay⟩
        · rintro j σ H' hj ⟨o4, o5, F, rfl, sm, _⟩
          exact .of (sm _ _ ht)
        · rintro j x σ H4 hx ⟨o4, o5, F, rfl, s4, e4, lay⟩
          obtain ⟨d, hd, rd⟩ := (rp.same s4).get hx
          rw [List.getElem?_map] at hd
          obtain ⟨e, he, rfl⟩ : ∃ e, es[j]? = some e ∧ tieD e = d := by
            cases q : es[j]? with
            | none => rw [q] at hd; cases hd
            | some e => rw [q] at hd; exact ⟨e, rfl, Option.some.inj hd⟩
          obtain ⟨ta, rfl, hta⟩ := tie_at rd
          have hval := hev e (List.mem_of_getElem? he)
          have l1 : e.1 < F.length := by rw [lay.len]; exact hval.1
          have l2 : e.2 < F.length := by rw [lay.len]; exact hval.2
          have lay' := lay.step hL hev he
          refine ⟨ta, _, rfl, .of hta, rfl, _, _, rfl, _, _, rfl, rfl, ?_⟩
          refine ⟨_, rfl, _, rfl, .lst (.of e4) (natD_at l2) ⟨_, rfl, _, rfl, .lst (.of e4) (natD_at l1) (.int ⟨_, _, rfl, ?_⟩)⟩⟩
          have em : (if ((F.getD e.1 0 : Nat) : Int) + 1 > ((F.getD e.2 0 : Nat) : Int) then ((F.getD e.1 0 : Nat) : Int) + 1 else ((F.getD e.2 0 : Nat) : Int)) = ((max (F.getD e.2 0) (F.getD e.1 0 + 1) : Nat) : Int) := by split <;> omega
          try dsimp only
          rw [em]
          refine ⟨_, rfl, _, rfl, .lst (j := e.2) e4 (by unfold natV; rw [List.length_map]; exact ixN_at l2) ?_⟩
          rw [natV_set]
          exact ⟨_, _, _, rfl, same_at s4 hl1, upd_same, lay'⟩
        · rintro σ H4 ⟨o4, o5, F, rfl, s4, e4, lay⟩
          rw [rlen] at lay
          exact ⟨_, _, _, F, rfl, s4, e4, lay.round hL⟩
      · rintro σ H4 ⟨o3, o4, o5, F, rfl, s4, e4, lay⟩
        rw [Int.toNat_natCast] at lay
        rw [lay.all hL hev] at e4
        exact ⟨_, rfl, k l H4 s4 hl1 e4⟩
end
end K22
namespace K22
open PySem L2
section
variable {P : Program} {w : World} {K : PySem.W.Frag} {mg : Str → Option Value} {base : Heap}
theorem scBuilt : FnScope ["_law_pen", "_law_menu", "_law_size", "_law_names_here", "_law_count"] ["_law_pen"] (defScope sBuilt) := ⟨rfl, rfl, rfl, by decide +kernel, rfl, by decide +kernel, by decide +kernel⟩
theorem ok_built {f : Addr} {fd : FuncData} (F : Fun K "_law_built" "_law_built" sBuilt f fd) (B : Blt mg) (c_law_take : Cal P w K mg base 1 "_law_take" ["_law_pen", "_law_many"] (spDraw K)) (c_law_names : Cal P w K mg base 2 "_law_names" ["_law_pen", "_law_many"] (spNames K))
    (c_law_ties : Cal P w K mg base 2 "_law_ties" ["_law_pen", "_law_size", "_law_count"] (spTies K)) : FnOk P w K mg base CX0 3 f fd ["_law_pen"] (spBuilt K) := by
  refine F.ok scBuilt (fun vs H Q E h => ?_) (fun cdv A outer s H vs Q E hr h => ?_)
  · obtain ⟨p, a, rfl, _⟩ := h
    rfl
  · obtain ⟨p, a, rfl, hP, k⟩ := h
    have nd := scBuilt.nd
    refine ⟨_, (pss_cons (ps_set (i := 1) nd rfl (Or.inl rfl) (pe_cal c_law_take (hr.mono (by decide)) rfl (pa_cons (pv 0) (pa_cons pe_int pa_nil))))
      (pss_cons (ps_set (i := 2) nd rfl (Or.inl rfl) (pe_op op_addX pe_int (pe_cal c_law_take (hr.mono (by decide)) rfl (pa_cons (pv 0) (pa_cons pe_int pa_nil)))))
      (pss_cons (ps_if (pt_cmpR (op_eqX hr.units) (pv 1) pe_int (nomark _)) (pss_one (ps_set (i := 2) nd rfl (Or.inl rfl) (pe_op op_sub pe_int (pe_cal c_law_take (hr.mono (by decide)) rfl (pa_cons (pv 0) (pa_cons pe_int pa_nil)))))) pss_nil)
      (pss_cons (ps_if (pt_cmpR (op_eqX hr.units) (pv 1) pe_int (nomark _)) (pss_one (ps_set (i := 2) nd rfl (Or.inl rfl) (pe_cal c_law_take (hr.mono (by decide)) rfl (pa_cons (pv 0) (pa_cons pe_int pa_nil))))) pss_nil)
      (pss_cons (ps_set (i := 3) nd rfl (Or.inl rfl) (pe_cal c_law_names (hr.mono (by decide)) rfl (pa_cons (pv 0) (pa_cons (pv 2) pa_nil))))
      (pss_cons (ps_set (i := 4) nd rfl (Or.inl rfl) (pe_cal c_law_take (hr.mono (by decide)) rfl (pa_cons (pv 0) (pa_cons (pe_op op_addX (pe_op op_mul pe_int (pv 2)) pe_int) pa_nil))))
      (pss_cons (ps_if (pt_cmpR op_gt (pv 2) pe_int (nomark _)) (pss_one (ps_set (i := 4) nd rfl (Or.inl rfl) (pe_cal c_law_take (hr.mono (by decide)) rfl (pa_cons (pv 0) (pa_cons pe_int pa_nil))))) pss_nil)
      (pss_one (ps_ret (pe_tup (pa_cons (pv 3) (pa_cons (pe_cal c_law_ties (hr.mono (by decide)) rfl (pa_cons (pv 0) (pa_cons (pv 2) (pa_cons (pv 4) pa_nil)))) pa_nil)))))))))))), ?_⟩
    refine ⟨_, rfl, p, a, 8, rfl, hP, by decide, by decide, fun r1 H1 h10 h11 v1 e1 => ?_⟩
    have b1 := But.of_eq e1
    refine ⟨_, rfl, p, a, 9, rfl, hP.but b1 v1, by decide, by decide, fun r2 H2 h20 h21 v2 e2 => .int ?_⟩
    have b2 := b1.trans (But.of_eq e2)
    obtain ⟨m0, em0⟩ := Int.eq_ofNat_of_zero_le (show 0 ≤ 4 + r2 by omega)
    have hm : m0 ≤ 60 := by omega
    rw [em0]
    refine ⟨_, rfl, .sc rfl ⟨_, rfl, ?_⟩⟩
    refine ite2 (fun _ => ?a) (fun _ => ?b)
    case' a =>
      refine ⟨_, rfl, p, a, 21, rfl, hP.but b2 v2, by decide, by decide, fun r3 H3 h30 h31 v3 e3 => ⟨_, _, rfl, rfl, ?_⟩⟩
      have b2 := b2.trans (But.of_eq e3)
      have v2 := v3
      obtain ⟨m, em⟩ := Int.eq_ofNat_of_zero_le (show 0 ≤ 60 - r3 by omega)
      have hm : m ≤ 60 := by omega
      dsimp only
      rw [em]
    case' b =>
      obtain ⟨m, rfl⟩ : ∃ m, m = m0 := ⟨_, rfl⟩
    all_goals
      refine ⟨_, rfl, .sc rfl ⟨_, rfl, ?_⟩⟩
      refine ite2 (fun _ => ?_) (fun _ => ?_)
      all_goals first
        | (refine ⟨_, rfl, p, a, 4, rfl, hP.but b2 v2, by decide, by decide, fun r4 H4 h40 h41 v4 e4 => ?_⟩
           have b2 := b2.trans (But.of_eq e4)
           have v2 := v4
           obtain ⟨m, rfl⟩ := Int.eq_ofNat_of_zero_le h40
           have hm : m ≤ 60 := by omega)
        | skip
      all_goals
        refine ⟨_, rfl, _, rfl, p, a, m, rfl, hP.but b2 v2, hm, fun ln ss H5 hl5 hnd5 hnm5 hln5 hnp5 v5 b5 => ?_⟩
        have b6 := b2.trans b5
        refine ⟨_, rfl, _, rfl, _, _, rfl, rfl, .inl ⟨by decide, by decide⟩, .int ⟨p, a, _, rfl, hP.but b6 v5, by omega, by omega, fun r7 H7 h70 h71 v7 e7 => ?_⟩⟩
        have hln7 := (e7 ln hnp5).trans hln5
        have b7 := b6.trans (But.of_eq e7)
        obtain ⟨c0, rfl⟩ := Int.eq_ofNat_of_zero_le h70
        refine ⟨_, rfl, _, _, rfl, rfl, _, rfl, ?_⟩
        refine ite2 (fun hb => ?_) (fun _ => ?_)
        all_goals first
          | (refine ⟨_, rfl, p, a, 401, rfl, hP.but b7 v7, by decide, by decide, fun r8 H8 h80 h81 v8 e8 => ?_⟩
             have hln7 := (e8 ln hnp5).trans hln7
             have b7 := b7.trans (But.of_eq e8)
             have v7 := v8
             obtain ⟨c, rfl⟩ := Int.eq_ofNat_of_zero_le h80
             have hb : (12 : Int) < (m : Int) := of_decide_eq_true hb
             have hc : c ≤ 400 ∧ (m = 0 → c = 0) := by omega)
          | (have hc : c0 ≤ 400 ∧ (m = 0 → c0 = 0) := by omega
             obtain ⟨c, rfl⟩ : ∃ c, c = c0 := ⟨_, rfl⟩)
        all_goals
          refine ⟨_, rfl, _, rfl, _, rfl, _, rfl, p, a, m, c, rfl, hP.but b7 v7, hm, hc.1, hc.2, fun lt refs es H9 hlt rp hval hris hlen hltp v9 b9 => ⟨(by show 2 ≤ sizeLine; decide), fun q hq => ?_⟩⟩
          have hln9 := b9 ln _ hnp5 hln7
          have b9 := b7.trans b9
          have s2 := Same.new (o := .tup [V.ref ln, V.ref lt]) hq
          have hpq := v9.ne hq
          exact k q ln lt ss es _ upd_same ⟨s2 _ _ hln9, hnd5, hnm5, by omega, ⟨refs, s2 _ _ hlt, rp.same s2⟩, (fun e he => by rw [hl5]; exact hval e he), by omega⟩ hris hnp5 hltp (v9.upd hpq) (b9.at (b9.free (Ne.symm hpq) hq))
end
end K22
namespace K22
open PySem L2
section
variable {P : Program} {w : World} {K : PySem.W.Frag} {mg : Str → Option Value} {base : Heap}
noncomputable def lamS : Expr → Scope
  | .Lambda _ _ sc _ => sc
  | _ => { kind := .module, names := [], isGenerator := false, isCoroutine := false }
noncomputable def lamP : Expr → Pos
  | .Lambda _ _ _ p => p
  | _ => ⟨0, 0, 0, 0⟩
noncomputable def lamK : Stmt → Expr
  | .Return (some (.Call _ _ (⟨_, e, _⟩ :: _) _)) _ => e
  | _ => .Name "x" ⟨0, 0, 0, 0⟩
noncomputable def lamD : Expr := lamK ((defBody sDeepA).getD 0 (.Pass ⟨0, 0, 0, 0⟩))
noncomputable def nD : List Str := ["found"]
noncomputable def qlD : Str := (Str.ofString "deepest_among" ++ Str.ofString ".<locals>.") ++ Str.ofString "<lambda>"
theorem hfD : ∀ y ∈ (lamS lamD).names, y.2 = NameKind.free → (defScope sDeepA).names.lookup y.1 = some .cell := by decide +kernel
theorem hnD : ∀ (j : Nat) (y : Str), nD[j]? = some y → (lamS lamD).names.lookup y = some .free ∧ (defScope sDeepA).names.lookup y = some .cell ∧ ∃ i, ([1] : List Nat)[j]? = some i ∧ (["things", "found"] : List Str)[i]? = some y
  | 0, y, h => by cases h; exact ⟨by decide +kernel, by decide +kernel, 1, rfl, rfl⟩
  | j + 1, y, h => by cases h
theorem lsD : LamScope (lamS lamD) := ⟨rfl, rfl, rfl, by decide +kernel⟩
theorem one_at {σ : St} {i : Nat} {x : V} (h1 : σ[i]? = some (some x)) : ∀ (n k : Nat) (v : V), ([i] : List Nat)[n]? = some k → ([x] : List V)[n]? = some v → σ[k]? = some (some v)
  | 0, k, v, a, b => by cases a; cases b; exact h1
  | n + 1, k, v, a, b => by cases a
noncomputable def SameK (Pt : Addr) (H H' : Hp) : Prop := ∀ b u, b ≠ Pt → H b = some u → H' b = some u
theorem SameK.trans {Pt : Addr} {H H1 H2 : Hp} (a : SameK Pt H H1) (b : SameK Pt H1 H2) : SameK Pt H H2 := fun c u n e => b c u n (a c u n e)
theorem SameK.of {Pt : Addr} {H H' : Hp} (s : Same H H') : SameK Pt H H' := fun b u _ e => s b u e
noncomputable def TbK (Pt : Addr) (H : Hp) : Prop := ∃ ps, CTab H Pt ps (lamP lamD) qlD
theorem TbK.same {Pt : Addr} {H H' : Hp} (h : TbK Pt H) (s : Same H H') : TbK Pt H' := let ⟨ps, c⟩ := h; ⟨ps, c.same s⟩
theorem TbK.ne {Pt b : Addr} {H : Hp} (h : TbK Pt H) {u : HO} (e : H b = some u) (n : ∀ ps, u ≠ .tbl ps) : b ≠ Pt := fun z => by
  obtain ⟨ps, c⟩ := h
  rw [z, c.at_] at e
  exact n ps (Option.some.inj e).symm
theorem SameK.at {Pt b : Addr} {H H' : Hp} {u : HO} (s : SameK Pt H H') (h : TbK Pt H) (e : H b = some u) (n : ∀ ps, u ≠ .tbl ps := by intro ps z; cases z) : H' b = some u := s b u (h.ne e n) e
theorem SameK.free {Pt b : Addr} {H H' : Hp} (s : SameK Pt H H') (h : TbK Pt H) (h' : TbK Pt H') (e : H' b = none) : H b = none := by
  cases q : H b with
  | none => rfl
  | some u =>
    by_cases z : b = Pt
    · obtain ⟨ps, c⟩ := h'
      rw [z, c.at_] at e; cases e
    · rw [s b u z q] at e; cases e
theorem SameK.cor {Pt : Addr} {H H' : Hp} (s : SameK Pt H H') (h : TbK Pt H) : Same (cor H) H' := let ⟨_, c⟩ := h; cor_tbl c.at_ s
theorem Web.cor {H : Hp} {v : V} {ss : List Str} {ts : List (Str × Str)} (W : Web H v ss ts) : Web (L2.cor H) v ss ts := ⟨W.rep.cor, W.nd, W.nm, W.len, W.few, W.inn⟩
theorem webK {Pt : Addr} {H H' : Hp} {v : V} {ss : List Str} {ts : List (Str × Str)} (W : Web H v ss ts) (s : SameK Pt H H') (h : TbK Pt H) : Web H' v ss ts := Web.same (Web.cor W) (s.cor h)
theorem TbK.upd {Pt l : Addr} {H : Hp} {ys zs : List V} (h : TbK Pt H) (e : H l = some (.lst ys)) : TbK Pt (L2.upd H l (.lst zs)) := by
  obtain ⟨ps, c⟩ := h
  refine ⟨ps, c.tri, by rw [upd_ne (ne_of c.at_ e (by intro z; cases z))]; exact c.at_, c.code.imp id fun ⟨c', oc, g1, g2, g3⟩ => ⟨c', oc, g1, by rw [upd_ne (ne_of g2 e (by intro z; cases z))]; exact g2, g3⟩⟩
noncomputable def spDeepA (Pt : Addr) : Sp := fun vs H Q _ => ∃ (a d : Addr) (ss : List Str) (D : Nat → Int) (ks us : List Nat), vs = [.ref a, .ref d] ∧ (H a = some (.lst (List.map V.str (us.map (nmA ss)))) ∨ H a = some (.tup (List.map V.str (us.map (nmA ss))))) ∧ H d = some (.dK (tabI ss D ks)) ∧ ss.Nodup ∧ (∀ x ∈ ks, x < ss.length) ∧ (∀ u ∈ us, u ∈ ks) ∧ us ≠ [] ∧ TbK Pt H ∧
  ∀ v H', v ∈ us → (∀ u ∈ us, D u ≤ D v) → SameK Pt H H' → TbK Pt H' → Q (.str (nmA ss v)) H'
theorem scDeepA : FnScope ["things", "found"] ["things", "found"] (defScope sDeepA) := ⟨rfl, rfl, rfl, by decide +kernel, rfl, by decide +kernel, by decide +kernel⟩
theorem ok_deepA {f c Pt : Addr} {fd : FuncData} (F : Fun K "deepest_among" "deepest_among" sDeepA f fd) (hC : fd.code = .ref c) (hCd : ∀ h : Heap, K.In h → PySem.W.CodeHd h c Pt) (hBm : base.BuiltinsAt mg Pt) (B : Blt mg) : FnOk P w K mg base CX0 3 f fd ["things", "found"] (spDeepA Pt) := by
  refine F.okC hC scDeepA (fun vs H Q E h => ?_) (fun A outer s H vs Q E hr h => ?_)
  · obtain ⟨a, d, ss, D, ks, us, rfl, _⟩ := h
    rfl
  · obtain ⟨a, d, ss, D, ks, us, rfl, ha, hd, snd, klt, uk, une, ⟨ps, C1⟩, k⟩ := h
    have nd := scDeepA.nd
    have HFD := fun y hy hf => cell_has (n := s.heap.objs.size + 1) (hfD y hy hf)
    refine ⟨_, (pss_one (ps_ret (pe_maxK (k := 1) (sc := lamS lamD) (N := nD) (is := [1]) rfl (hr.mono (by decide)) B HFD (fun _ => rfl) hnD (pv 0) (pe_lam (qual := qlD) rfl (clOf_ok HFD).1 rfl rfl hCd hBm)))), ?_⟩
    refine ⟨_, rfl, ps, C1, fun HA g c' oc ctv ps' hg0 hgA hcA hoc hPA htr hcode hoth hsm => ?_⟩
    have tb : TbK Pt H := ⟨ps, C1⟩
    have hdA := SameK.at hsm tb hd
    have get : ∀ {i : Nat} {x : V}, (List.map V.str (us.map (nmA ss)))[i]? = some x → ∃ u, us[i]? = some u ∧ x = .str (nmA ss u) := fun {i x} hx => by
      rw [List.getElem?_map, List.getElem?_map] at hx
      cases q : us[i]? with
      | none => rw [q] at hx; cases hx
      | some u => rw [q] at hx; exact ⟨u, rfl, (Option.some.inj hx).symm⟩
    refine ⟨a, g, List.map V.str (us.map (nmA ss)), fun i => D (us.getD i 0), [.ref d], fun l v Hx Qx _ => Hx g = HA g ∧ Hx c' = HA c' ∧ KnC Hx l ∧ Hx d = some (.dK (tabI ss D ks)) ∧ ∃ u, u ∈ ks ∧ v = .str (nmA ss u) ∧ Qx (.int (D u)) Hx, rfl, rfl, ?_, ?_, rfl, one_at rfl, fun l C => ?_, fun l C U i x hx => ?_, fun i x hx best => ?_⟩
    · rcases ha with ha | ha
      · exact .inl (.of (SameK.at hsm tb ha))
      · exact .inr (.of (SameK.at hsm tb ha))
    · rw [List.length_map, List.length_map]; exact List.length_pos_iff.mpr une
    · refine lam_of1 (x := "thing") lsD C hoc (by decide +kernel) (fun u => rfl) (fun v H Q E h => ⟨h.1.trans hgA, h.2.1.trans hcA, h.2.2.1⟩) (fun _ _ _ _ _ _ _ z => z.elim) (fun A outer s v Hx Qx Ex hr hx => ?_)
      obtain ⟨h1, h2, h3, h4, u, hu, rfl, h5⟩ := hx
      have hd' : lessC Hx l d = some (.dK (tabI ss D ks)) := by rw [less_out (h3.out h4 (by intro o z; cases z))]; exact h4
      refine ⟨_, pe_ix (ix_X K hr.units) (pv 1) (pv 0) (fun _ _ => rfl), ?_⟩
      exact ⟨_, rfl, _, rfl, .dic (.inl ⟨tabI ss D ks, .inr (nmA ss u), .inl hd', rfl, (tabI_at snd D klt hu).symm⟩) fun _ => by rw [more_less h3]; exact h5⟩
    · obtain ⟨u, hu, rfl⟩ := get hx
      refine ⟨(at_more U hgA).trans hgA.symm, (at_more U hcA).trans hcA.symm, kn_more, at_more U hdA, u, uk u (List.mem_of_getElem? hu), rfl, ?_, rfl⟩
      show V.int (D u) = V.int (D (us.getD i 0))
      rw [List.getD_eq_getElem?_getD, hu]; rfl
    · obtain ⟨v, hv, rfl⟩ := get hx
      refine k v HA (List.mem_of_getElem? hv) (fun u hu => ?_) hsm ⟨ps', CTab.made (ps := ps) (H := H) hPA htr hcode hcA hoc⟩
      obtain ⟨j, hj, ej⟩ := List.mem_iff_getElem.mp hu
      have this : D (us.getD j 0) ≤ D (us.getD i 0) := (best j (by rw [List.length_map, List.length_map]; exact hj)).1
      rw [List.getD_eq_getElem?_getD, List.getD_eq_getElem?_getD, hv, List.getElem?_eq_getElem hj, ej] at this
      exact this
end
end K22
namespace K22
open PySem L2
section
variable {P : Program} {w : World} {K : PySem.W.Frag} {mg : Str → Option Value} {base : Heap}
noncomputable def DepO (n : Nat) (es : List (Nat × Nat)) (D : Nat → Int) : Prop := ∀ v, v < n → 1 ≤ D v ∧ D v ≤ n ∧ ((∀ u, (u, v) ∉ es) → D v = 1) ∧ ∀ w, (w, v) ∈ es → (∀ u, (u, v) ∈ es → D u ≤ D w) → D v = D w + 1
theorem DepO.of {n : Nat} {es : List (Nat × Nat)} {W D : Nat → Int} (h : MG.IsD es W D) (hW : ∀ v, v < n → W v = 1) (val : ∀ e ∈ es, e.1 < n ∧ e.2 < n) : DepO n es D := fun v hv => by
  have g : ∀ x, x < n → 1 ≤ D x := fun x hx => by have := h.ge x; rw [hW x hx] at this; exact this
  refine ⟨g v hv, ?_, fun hn => ?_, fun w hw hu => ?_⟩
  · have := (h.lay val hW).lt val v hv
    have := g v hv
    omega
  · have := h.top (v := v) (M := 0) (Int.le_refl _) (fun u hu => absurd hu (hn u)) (.inl rfl)
    rw [hW v hv] at this
    omega
  · have := h.top (v := v) (M := D w) (by have := g w (val _ hw).1; omega) hu (.inr ⟨w, hw, rfl⟩)
    rw [hW v hv] at this
    omega
noncomputable def spWorth : Sp := fun vs H Q _ => ∃ (q : V) (d : Addr) (ss : List Str) (es : List (Nat × Nat)) (D : Nat → Int) (ks : List Nat) (v : Nat), vs = [q, .ref d, .str (nmA ss v)] ∧ Web H q ss (es.map (nmP ss)) ∧ ValE ss es ∧ H d = some (.dK (tabI ss D ks)) ∧ (∀ x ∈ ks, x < ss.length) ∧ (∀ x, x < ss.length → x ∈ ks) ∧ DepO ss.length es D ∧
  ∀ (l : Addr) (us : List Nat) (H' : Hp), Same H H' → H l = none → H' l = some (.lst (List.map V.str (us.map (nmA ss)))) → us.length ≤ ss.length → (∀ u, u ∈ us ↔ (u, v) ∈ es) → Q (.ref l) H'
theorem scWorth : FnScope ["web", "found", "thing"] ["web", "found", "thing"] (defScope sWorth) := ⟨rfl, rfl, rfl, by decide +kernel, rfl, by decide +kernel, by decide +kernel⟩
theorem ok_worth {f : Addr} {fd : FuncData} (F : Fun K "worth_taking" "worth_taking" sWorth f fd) (B : Blt mg) (cpriors : Cal P w K mg base 2 "priors" ["web", "one"] (spNexts true)) : FnOk P w K mg base CX0 3 f fd ["web", "found", "thing"] spWorth := by
  refine F.ok scWorth (fun vs H Q E h => ?_) (fun cdv A outer s H vs Q E hr h => ?_)
  · obtain ⟨q, d, ss, es, D, ks, v, rfl, _⟩ := h
    rfl
  · obtain ⟨q, d, ss, es, D, ks, v, rfl, W, val, hd, klt, kall, dep, k⟩ := h
    have nd := scWorth.nd
    refine ⟨_, (pss_one (ps_ret (pe_comp (defScope sWorth) ["web", "found", "thing"] ["prior"] [1] ["prior", "found"] rfl (pi_listK K (pe_cal cpriors (hr.mono (by decide)) rfl (pa_cons (pv 0) (pa_cons (pv 2) pa_nil)))) (fun _ _ _ _ _ => (pg_name (i := 0) (show (["prior", "found"] : List Str).Nodup by decide) rfl (Or.inl rfl))) (fun _ _ _ _ _ => (pts_one (pt_cmpR op_gt (pe_ix (ix_X K hr.units) (pv 1) (pv 0) (fun _ _ => rfl)) pe_int (nomark _)))) (fun _ _ _ _ _ => (pv 0))))), ?_⟩
    obtain ⟨us, eus, ul, um⟩ := priors_num W.nd W.nm val v
    have h60 := W.len
    refine ⟨_, rfl, _, rfl, q, ss, _, _, rfl, W, fun l1 H1 s1 hl1 hc1 => ⟨l1, rfl, ⟨_, .of hc1⟩, ?_⟩⟩
    have hc1 : H1 l1 = some (.lst (List.map V.str (us.map (nmA ss)))) := by rw [← eus]; exact hc1
    have ex : List.map V.str (nxtL ss (if true then flipE (es.map (nmP ss)) else es.map (nmP ss)) (nmA ss v)) = List.map V.str (us.map (nmA ss)) := by rw [← eus]; rfl
    refine comp_list (List.map V.str (us.map (nmA ss))) (fun D i acc σ' H' => ∃ o, σ' = [o, some (.ref d)] ∧ acc = List.map V.str ((us.take i).map (nmA ss)) ∧ Same H1 H' ∧ H1 D = none) fun D' hD => ⟨?_, ?_, ?_, ?_⟩
    · exact ⟨none, rfl, rfl, Same.new hD, hD⟩
    · rintro i acc σ' H' _ ⟨o, rfl, _, sm, _⟩ _
      exact .of (sm _ _ hc1)
    · rintro i acc σ' H' x hx ⟨o, rfl, rfl, sm, hD0⟩ hacc
      rw [List.getElem?_map, List.getElem?_map] at hx
      obtain ⟨u, hu, rfl⟩ : ∃ u, us[i]? = some u ∧ V.str (nmA ss u) = x := by
        cases q : us[i]? with
        | none => rw [q] at hx; cases hx
        | some e => rw [q] at hx; exact ⟨e, rfl, Option.some.inj hx⟩
      have hil := (List.getElem?_eq_some_iff.mp hu).1
      have hun := (val _ ((um u).mp (List.mem_of_getElem? hu))).1
      have hd' := sm _ _ (s1 _ _ hd)
      refine ⟨_, rfl, _, rfl, .dic (.inl ⟨tabI ss D ks, .inr (nmA ss u), .inl hd', rfl, (tabI_at W.nd D klt (kall u hun)).symm⟩) ⟨_, _, rfl, rfl, _, rfl, ?_⟩⟩
      refine ite2 (fun _ => ?_) (fun h1 => ?_)
      · refine ⟨_, rfl, hacc, ?_, _, rfl, ?_, same_at sm hD0, hD0⟩
        · rw [List.length_map, List.length_map, List.length_take]; exact small1000 (by omega)
        · rw [List.take_add_one, hu, List.map_append, List.map_append]; rfl
      · exact absurd (decide_eq_true (by have := (dep u hun).1; omega)) h1
    · rintro acc σ' H2 ⟨o, rfl, rfl, s2, hD0⟩ hacc
      rw [List.length_map, List.length_map, List.take_of_length_le (Nat.le_refl _)] at hacc
      exact k D' us H2 (s1.trans s2) (same_free s1 hD0) hacc ul um
theorem nm_last (ss : List Str) (us : List Nat) (a : Nat) : atI (List.map V.str ((us ++ [a]).map (nmA ss))) (-1) = some (.str (nmA ss a)) := by
  rw [List.map_append, List.map_append]
  exact atI_last _ _
noncomputable def spWayB (Pt : Addr) : Sp := fun vs H Q _ => ∃ (q : V) (d : Addr) (ss : List Str) (es : List (Nat × Nat)) (D : Nat → Int) (ks : List Nat) (v : Nat), vs = [q, .ref d, .str (nmA ss v)] ∧ Web H q ss (es.map (nmP ss)) ∧ ValE ss es ∧ H d = some (.dK (tabI ss D ks)) ∧ (∀ x ∈ ks, x < ss.length) ∧ (∀ x, x < ss.length → x ∈ ks) ∧ DepO ss.length es D ∧ v < ss.length ∧ TbK Pt H ∧
  ∀ (l : Addr) (xs : List Nat) (H' : Hp), SameK Pt H H' → H l = none → H' l = some (.lst (List.map V.str (xs.map (nmA ss)))) → (xs.length : Int) = D v → (∀ i a b, xs[i]? = some a → xs[i + 1]? = some b → (a, b) ∈ es) → (∀ x ∈ xs, x < ss.length) → TbK Pt H' → Q (.ref l) H'
theorem scWayB : FnScope ["web", "found", "last", "told", "worth"] ["web", "found", "last"] (defScope sWayB) := ⟨rfl, rfl, rfl, by decide +kernel, rfl, by decide +kernel, by decide +kernel⟩
theorem ok_wayB {f Pt : Addr} {fd : FuncData} (F : Fun K "way_back" "way_back" sWayB f fd) (B : Blt mg) (cdeepest_among : Cal P w K mg base 3 "deepest_among" ["things", "found"] (spDeepA Pt)) (cworth_taking : Cal P w K mg base 3 "worth_taking" ["web", "found", "thing"] spWorth) : FnOk P w K mg base CX0 4 f fd ["web", "found", "last"] (spWayB Pt) := by
  refine F.ok scWayB (fun vs H Q E h => ?_) (fun cdv A outer s H vs Q E hr h => ?_)
  · obtain ⟨q, d, ss, es, D, ks, v, rfl, _⟩ := h
    rfl
  · obtain ⟨q, d, ss, es, D, ks, v, rfl, W, val, hd, klt, kall, dep, hv, tb, k⟩ := h
    have nd := scWayB.nd
    refine ⟨_, (pss_cons (ps_set (i := 3) nd rfl (Or.inl rfl) (pe_lst (pa_cons (pv 2) pa_nil)))
      (pss_cons (ps_set (i := 4) nd rfl (Or.inl rfl) (pe_cal cworth_taking (hr.mono (by decide)) rfl (pa_cons (pv 0) (pa_cons (pv 1) (pa_cons (pv 2) pa_nil)))))
      (pss_cons (ps_while PassesOwn.never (pt_cmpR op_gt (b_len K B (pa_cons (pv 4) pa_nil)) pe_int (nomark _)) (pss_cons (ps_expr (m_append K (pv 3) (pa_cons (pe_cal cdeepest_among (hr.mono (by decide)) rfl (pa_cons (pv 4) (pa_cons (pv 1) pa_nil))) pa_nil)))
      (pss_one (ps_set (i := 4) nd rfl (Or.inl rfl) (pe_cal cworth_taking (hr.mono (by decide)) rfl (pa_cons (pv 0) (pa_cons (pv 1) (pa_cons (pe_ix (ix_X K hr.units) (pv 3) (pe_un un_neg pe_int) (fun _ _ => rfl)) pa_nil))))))))
      (pss_cons (ps_expr (m_reverse K (pv 3)))
      (pss_one (ps_ret (pv 3))))))), ?_⟩
    have h60 := W.len
    refine ⟨_, rfl, (by show 1 ≤ sizeLine; decide), fun l hl => ?_⟩
    have s1 := Same.new (o := .lst [V.str (nmA ss v)]) hl
    have e1 : upd H l (.lst [V.str (nmA ss v)]) l = some (.lst [V.str (nmA ss v)]) := upd_same
    generalize upd H l (.lst [V.str (nmA ss v)]) = H1 at s1 e1 ⊢
    refine ⟨_, rfl, _, rfl, _, rfl, q, d, ss, es, D, ks, v, rfl, W.same s1, val, s1 _ _ hd, klt, kall, dep, fun le us H2 s2 hle0 hle ul um => ?_⟩
    refine ⟨fun m σ H' => ∃ (ys us : List Nat) (u : Nat) (le : Addr), σ = [some q, some (.ref d), some (.str (nmA ss v)), some (.ref l), some (.ref le)] ∧ SameK Pt H H' ∧ TbK Pt H' ∧ H' l = some (.lst (List.map V.str ((ys ++ [u]).map (nmA ss)))) ∧ H' le = some (.lst (List.map V.str (us.map (nmA ss)))) ∧ us.length ≤ ss.length ∧ (∀ w, w ∈ us ↔ (w, u) ∈ es) ∧ u < ss.length ∧ (ys.length : Int) + D u = D v ∧ (∀ i a b, (ys ++ [u])[i]? = some a → (ys ++ [u])[i + 1]? = some b → (b, a) ∈ es) ∧ (∀ x ∈ ys ++ [u], x < ss.length) ∧ (m : Int) = D u,
      ⟨(D v).toNat, [], us, v, le, rfl, SameK.of (s1.trans s2), (tb.same s1).same s2, s2 _ _ e1, hle, ul, um, hv, by simp, ?_, fun x hx => ?_, ?_⟩, ?_⟩
    · intro i a b ha hb
      have := (List.getElem?_eq_some_iff.mp hb).1
      simp at this
    · have : x = v := by simpa using hx
      rw [this]; exact hv
    · have := (dep v hv).1
      omega
    clear s2 hle0 hle ul um s1 e1 us le
    rintro m σ H3 ⟨ys, us, u, le, rfl, s3, t3, hl3, hle3, ul, um, hu, hlen, chn, hin, hm⟩
    obtain ⟨d1, d2, d3, d4⟩ := dep u hu
    have dv := (dep v hv).2.1
    refine ⟨_, rfl, _, _, rfl, Or.inl ⟨_, .of hle3, rfl⟩, _, _, rfl, rfl, _, rfl, ?_⟩
    refine ite2 (fun hc => ?_) (fun hc => ?_)
    · have hc : (0 : Int) < ((List.map V.str (us.map (nmA ss))).length : Nat) := of_decide_eq_true hc
      rw [List.length_map, List.length_map] at hc
      have une : us ≠ [] := fun z => by rw [z] at hc; simp at hc
      refine ⟨fun σ H' => ∃ (ys us : List Nat) (u : Nat) (le : Addr), σ = [some q, some (.ref d), some (.str (nmA ss v)), some (.ref l), some (.ref le)] ∧ SameK Pt H H' ∧ TbK Pt H' ∧ H' l = some (.lst (List.map V.str ((ys ++ [u]).map (nmA ss)))) ∧ H' le = some (.lst (List.map V.str (us.map (nmA ss)))) ∧ us.length ≤ ss.length ∧ (∀ w, w ∈ us ↔ (w, u) ∈ es) ∧ u < ss.length ∧ (ys.length : Int) + D u = D v ∧ (∀ i a b, (ys ++ [u])[i]? = some a → (ys ++ [u])[i + 1]? = some b → (b, a) ∈ es) ∧ (∀ x ∈ ys ++ [u], x < ss.length) ∧ ((m - 1 : Nat) : Int) = D u, fun σ' H' p => ⟨m - 1, by omega, p⟩, ?_⟩
      have hd3 := s3.at tb hd
      refine ⟨_, rfl, .inl ⟨rfl, _, .of hl3⟩, ?_⟩
      refine ⟨_, rfl, _, rfl, le, d, ss, D, ks, us, rfl, .inl hle3, hd3, W.nd, klt, fun x hx => kall x (val _ ((um x).mp hx)).1, une, t3, fun w H4 hw hmax s4 t4 => ?_⟩
      have hwe := (um w).mp hw
      have hwn := (val _ hwe).1
      have dw := d4 w hwe fun x hx => hmax x ((um x).mpr hx)
      have hl4 := s4.at t3 hl3
      refine ⟨l, _, _, rfl, rfl, hl4, ?_, ?_⟩
      · rw [List.length_map, List.length_map, List.length_append]
        show ys.length + 1 < sizeLine
        exact small1000 (by omega)
      have e5 : upd H4 l (.lst (List.map V.str ((ys ++ [u]).map (nmA ss)) ++ [V.str (nmA ss w)])) l = some (.lst (List.map V.str (((ys ++ [u]) ++ [w]).map (nmA ss)))) := by
        rw [upd_same, List.map_append (l₁ := ys ++ [u]), List.map_append (l₁ := (ys ++ [u]).map (nmA ss))]; rfl
      have s34 := s3.trans s4
      have s5 : SameK Pt H (upd H4 l (.lst (List.map V.str ((ys ++ [u]).map (nmA ss)) ++ [V.str (nmA ss w)]))) := fun b o nb hb => by rw [upd_ne (ne_of_none hb hl)]; exact s34 b o nb hb
      have t5 : TbK Pt (upd H4 l (.lst (List.map V.str ((ys ++ [u]).map (nmA ss)) ++ [V.str (nmA ss w)]))) := t4.upd hl4
      generalize upd H4 l (.lst (List.map V.str ((ys ++ [u]).map (nmA ss)) ++ [V.str (nmA ss w)])) = H5 at e5 s5 t5 ⊢
      refine ⟨_, rfl, _, rfl, _, rfl, _, rfl, .lst (.of e5) (nm_last ss (ys ++ [u]) w) ⟨q, d, ss, es, D, ks, w, rfl, webK W s5 tb, val, s5.at tb hd, klt, kall, dep, fun le2 us2 H6 s6 hle20 hle2 ul2 um2 => ?_⟩⟩
      refine ⟨ys ++ [u], us2, w, le2, rfl, s5.trans (SameK.of s6), t5.same s6, s6 _ _ e5, hle2, ul2, um2, hwn, ?_, ?_, ?_, by omega⟩
      · rw [List.length_append]
        show ((ys.length + 1 : Nat) : Int) + D w = D v
        omega
      · intro i a b ha hb
        have hbl := (List.getElem?_eq_some_iff.mp hb).1
        rw [List.length_append (as := ys ++ [u])] at hbl
        have hbl : i + 1 < (ys ++ [u]).length + 1 := hbl
        rw [List.getElem?_append_left (by omega)] at ha
        by_cases z : i + 1 < (ys ++ [u]).length
        · rw [List.getElem?_append_left z] at hb
          exact chn i a b ha hb
        · have z : i + 1 = (ys ++ [u]).length := by omega
          rw [List.getElem?_append_right (by omega), z, Nat.sub_self] at hb
          have hb : w = b := Option.some.inj hb
          subst hb
          have zi : i = ys.length := by rw [List.length_append] at z; have z : i + 1 = ys.length + 1 := z; omega
          subst zi
          rw [List.getElem?_append_right (Nat.le_refl _), Nat.sub_self] at ha
          have ha : u = a := Option.some.inj ha
          subst ha
          exact hwe
      · intro x hx
        rcases List.mem_append.mp hx with hx | hx
        · exact hin x hx
        · rw [List.mem_singleton.mp hx]; exact hwn
    · have hc : ¬ (0 : Int) < ((List.map V.str (us.map (nmA ss))).length : Nat) := fun z => hc (decide_eq_true z)
      rw [List.length_map, List.length_map] at hc
      have un : us = [] := List.eq_nil_of_length_eq_zero (by omega)
      have du := d3 fun x hx => by
        have := (um x).mpr hx
        rw [un] at this; cases this
      refine ⟨_, rfl, .inl ⟨rfl, _, .of hl3⟩, l, _, rfl, rfl, hl3, ?_⟩
      have e4 : upd H3 l (.lst (List.map V.str ((ys ++ [u]).map (nmA ss))).reverse) l = some (.lst (List.map V.str ((ys ++ [u]).reverse.map (nmA ss)))) := by
        rw [upd_same, ← List.map_reverse, ← List.map_reverse]
      have s4 : SameK Pt H (upd H3 l (.lst (List.map V.str ((ys ++ [u]).map (nmA ss))).reverse)) := fun b o nb hb => by rw [upd_ne (ne_of_none hb hl)]; exact s3 b o nb hb
      have t4 : TbK Pt (upd H3 l (.lst (List.map V.str ((ys ++ [u]).map (nmA ss))).reverse)) := t3.upd hl3
      refine ⟨_, rfl, k l (ys ++ [u]).reverse _ s4 hl e4 ?_ (fun i a b ha hb => ?_) (fun x hx => hin x (List.mem_reverse.mp hx)) t4⟩
      · rw [List.length_reverse, List.length_append]
        show ((ys.length + 1 : Nat) : Int) = D v
        omega
      · have hbl := (List.getElem?_eq_some_iff.mp hb).1
        rw [List.length_reverse] at hbl
        rw [List.getElem?_reverse (by omega)] at ha hb
        refine chn ((ys ++ [u]).length - 1 - (i + 1)) b a hb ?_
        rw [show (ys ++ [u]).length - 1 - (i + 1) + 1 = (ys ++ [u]).length - 1 - i by omega]
        exact ha
end
end K22
namespace K22
open PySem L2
section
variable {P : Program} {w : World} {K : PySem.W.Frag} {mg : Str → Option Value} {base : Heap}
theorem range_ss (ss : List Str) : List.map V.str ((List.range ss.length).map (nmA ss)) = List.map V.str ss := by rw [← ss_eq ss]
noncomputable def Best (n : Nat) (D : Nat → Int) (v : Nat) : Prop := v < n ∧ ∀ u, u < n → D u ≤ D v
noncomputable def Chain (es : List (Nat × Nat)) (xs : List Nat) : Prop := ∀ i a b, xs[i]? = some a → xs[i + 1]? = some b → (a, b) ∈ es
noncomputable def spDeepest (Pt : Addr) : Sp := fun vs H Q _ => ∃ (q : V) (a : Addr) (ss : List Str) (es : List (Nat × Nat)) (D : Nat → Int), vs = [q, .ref a] ∧ Web H q ss (es.map (nmP ss)) ∧ ValE ss es ∧ MG.Ris es ∧ H a = some (.lst (intV (List.replicate ss.length 1))) ∧ MG.IsD es (wOf (List.replicate ss.length 1)) D ∧ TbK Pt H ∧
  (ss.length = 0 → ∀ H', SameK Pt H H' → TbK Pt H' → Q .non H') ∧
  ∀ (t l : Addr) (x y : V) (xs : List Nat) (v : Nat) (H' : Hp), SameK Pt H H' → H l = none → H' t = some (.tup [x, .ref l, y]) → H' l = some (.lst (List.map V.str (xs.map (nmA ss)))) → Best ss.length D v → (xs.length : Int) = D v → Chain es xs → (∀ x ∈ xs, x < ss.length) → TbK Pt H' → Q (.ref t) H'
theorem scDeepest : FnScope ["web", "weights", "found", "last"] ["web", "weights"] (defScope sDeepest) := ⟨rfl, rfl, rfl, by decide +kernel, rfl, by decide +kernel, by decide +kernel⟩
theorem ok_deepest {f Pt : Addr} {fd : FuncData} (F : Fun K "deepest" "deepest" sDeepest f fd) (B : Blt mg) (cweights_by_thing : Cal P w K mg base 8 "weights_by_thing" ["web", "weights"] spWeigh) (cdepths_by_thing : Cal P w K mg base 9 "depths_by_thing" ["web", "weighed"] spDepBy) (cby_places : Cal P w K mg base 1 "by_places" ["web", "found"] spByPl)
    (cdeepest_among : Cal P w K mg base 3 "deepest_among" ["things", "found"] (spDeepA Pt)) (cway_back : Cal P w K mg base 4 "way_back" ["web", "found", "last"] (spWayB Pt)) : FnOk P w K mg base CX0 10 f fd ["web", "weights"] (spDeepest Pt) := by
  refine F.ok scDeepest (fun vs H Q E h => ?_) (fun cdv A outer s H vs Q E hr h => ?_)
  · obtain ⟨q, a, ss, es, D, rfl, _⟩ := h
    rfl
  · obtain ⟨q, a, ss, es, D, rfl, W, val, ris, ha, hD, tb, k0, k⟩ := h
    have nd := scDeepest.nd
    refine ⟨_, (pss_cons (ps_set (i := 2) nd rfl (Or.inl rfl) (pe_cal cdepths_by_thing (hr.mono (by decide)) rfl (pa_cons (pv 0) (pa_cons (pe_cal cweights_by_thing (hr.mono (by decide)) rfl (pa_cons (pv 0) (pa_cons (pv 1) pa_nil))) pa_nil))))
      (pss_cons (ps_if (pt_cmpR (op_eqX hr.units) (b_lenD B (pa_cons (pv 2) pa_nil)) pe_int (nomark _)) (pss_one (ps_ret pe_non)) pss_nil)
      (pss_cons (ps_set (i := 3) nd rfl (Or.inl rfl) (pe_cal cdeepest_among (hr.mono (by decide)) rfl (pa_cons (pe_ix (ix_X K hr.units) (pv 0) pe_int (fun _ _ => rfl)) (pa_cons (pv 2) pa_nil))))
      (pss_one (ps_ret (pe_tup (pa_cons (pe_ix (ix_X K hr.units) (pv 2) (pv 3) (fun _ _ => rfl)) (pa_cons (pe_cal cway_back (hr.mono (by decide)) rfl (pa_cons (pv 0) (pa_cons (pv 2) (pa_cons (pv 3) pa_nil)))) (pa_cons (pe_cal cby_places (hr.mono (by decide)) rfl (pa_cons (pv 0) (pa_cons (pv 2) pa_nil))) pa_nil))))))))), ?_⟩
    have hrl : (List.replicate ss.length (1 : Int)).length = ss.length := List.length_replicate ..
    have dep : DepO ss.length es D := DepO.of hD (fun v hv => wOf_ones hv) val
    refine ⟨_, rfl, _, rfl, _, rfl, q, a, ss, es, _, rfl, W, val, ris, ha, hrl, fun dz H1 s1 hdz0 hdz => ⟨q, dz, ss, es, _, D, rfl, W.same s1, val, ris, hdz, hrl, hD, fun d ks H2 s2 hd0 hd knd klt kall => ?_⟩⟩
    have s12 := s1.trans s2
    have tl : (tabI ss D ks).length = ks.length := List.length_map ..
    refine ⟨_, rfl, d, _, rfl, hd, .sc rfl ⟨_, rfl, ?_⟩⟩
    refine ite2 (fun h1 => ?_) (fun h1 => ?_)
    · have h1 : (((tabI ss D ks).length : Nat) : Int) = 0 := V.int.inj (of_decide_eq_true h1)
      refine k0 ?_ H2 (SameK.of s12) (tb.same s12)
      refine Nat.eq_zero_of_not_pos fun z => ?_
      have := List.length_pos_of_mem (kall 0 z)
      omega
    · have hn : 0 < ss.length := by
        refine Nat.pos_of_ne_zero fun z => h1 (decide_eq_true ?_)
        have : ks = [] := List.eq_nil_iff_forall_not_mem.mpr fun x hx => by have := klt x hx; omega
        rw [this]; rfl
      obtain ⟨qa, wa, wb, xs2, rfl, hq, hwa, hwb, _⟩ := web_at W.rep
      have tb2 := tb.same s12
      refine ⟨_, rfl, .tup (.of (s12 _ _ hq)) rfl ⟨_, rfl, wa, d, ss, D, ks, List.range ss.length, rfl, .inr (by rw [range_ss]; exact s12 _ _ hwa), hd, W.nd, klt, fun u hu => kall u (List.mem_range.mp hu), fun z => ?_, tb2, fun v H3 hv hmax s3 t3 => ?_⟩⟩
      · have := congrArg List.length z
        rw [List.length_range] at this
        have : ss.length = 0 := this
        omega
      have hv := List.mem_range.mp hv
      have best : Best ss.length D v := ⟨hv, fun u hu => hmax u (List.mem_range.mpr hu)⟩
      have hd3 := s3.at tb2 hd
      have s13 : SameK Pt H H3 := (SameK.of s12).trans s3
      have W3 := webK W s13 tb
      refine ⟨_, rfl, _, rfl, .dic (.inl ⟨tabI ss D ks, .inr (nmA ss v), .inl hd3, rfl, (tabI_at W.nd D klt (kall v hv)).symm⟩) ⟨_, rfl, _, rfl, _, rfl, .ref qa, d, ss, es, D, ks, v, rfl, W3, val, hd3, klt, kall, dep, hv, t3, fun l xs H4 s4 hl0 hl hlen chn hin t4 => ?_⟩⟩
      have hd4 := s4.at t3 hd3
      have s14 := s13.trans s4
      refine ⟨_, rfl, _, rfl, .ref qa, d, ss, _, D, ks, rfl, webK W s14 tb, hd4, klt, kall, fun l2 H5 s5 hl20 hl2 => ⟨(by show 3 ≤ sizeLine; decide), fun t ht => ?_⟩⟩
      have s6 := s5.trans (Same.new (o := .tup [V.int (D v), V.ref l, V.ref l2]) ht)
      exact k t l _ _ xs v _ (s14.trans (SameK.of s6)) (s13.free tb t3 hl0) upd_same (s6 _ _ hl) best hlen chn hin (t4.same s6)
noncomputable def spLongest (Pt : Addr) : Sp := fun vs H Q _ => ∃ (q : V) (ss : List Str) (es : List (Nat × Nat)) (D : Nat → Int), vs = [q] ∧ Web H q ss (es.map (nmP ss)) ∧ ValE ss es ∧ MG.Ris es ∧ MG.IsD es (wOf (List.replicate ss.length 1)) D ∧ TbK Pt H ∧
  ∀ (l : Addr) (xs : List Nat) (H' : Hp), SameK Pt H H' → H l = none → H' l = some (.lst (List.map V.str (xs.map (nmA ss)))) → ((ss.length = 0 ∧ xs = []) ∨ ∃ v, Best ss.length D v ∧ (xs.length : Int) = D v) → Chain es xs → (∀ x ∈ xs, x < ss.length) → TbK Pt H' → Q (.ref l) H'
theorem scLongest : FnScope ["web", "found"] ["web"] (defScope sLongest) := ⟨rfl, rfl, rfl, by decide +kernel, rfl, by decide +kernel, by decide +kernel⟩
theorem ok_longest {f Pt : Addr} {fd : FuncData} (F : Fun K "longest" "longest" sLongest f fd) (B : Blt mg) (cdeepest : Cal P w K mg base 10 "deepest" ["web", "weights"] (spDeepest Pt)) (cones : Cal P w K mg base 1 "ones" ["web"] spOnes) : FnOk P w K mg base CX0 11 f fd ["web"] (spLongest Pt) := by
  refine F.ok scLongest (fun vs H Q E h => ?_) (fun cdv A outer s H vs Q E hr h => ?_)
  · obtain ⟨q, ss, es, D, rfl, _⟩ := h
    rfl
  · obtain ⟨q, ss, es, D, rfl, W, val, ris, hD, tb, k⟩ := h
    have nd := scLongest.nd
    refine ⟨_, (pss_cons (ps_set (i := 1) nd rfl (Or.inl rfl) (pe_cal cdeepest (hr.mono (by decide)) rfl (pa_cons (pv 0) (pa_cons (pe_cal cones (hr.mono (by decide)) rfl (pa_cons (pv 0) pa_nil)) pa_nil))))
      (pss_cons (ps_if (pt_cmpR op_isX (pv 1) pe_non (nomark _)) (pss_one (ps_ret (pe_lst pa_nil))) pss_nil)
      (pss_one (ps_ret (pe_ix (ix_X K hr.units) (pv 1) pe_int (fun _ _ => rfl)))))), ?_⟩
    refine ⟨_, rfl, _, rfl, q, ss, _, rfl, W, fun lo H1 s1 hlo0 hlo => ⟨q, lo, ss, es, D, rfl, W.same s1, val, ris, hlo, hD, tb.same s1, fun hn H2 s2 t2 => ?_, fun t l x y xs v H2 s2 hl0 ht hl best hlen chn hin t2 => ?_⟩⟩
    · refine ⟨_, rfl, .non ⟨_, rfl, ite2 (fun _ => ?_) (fun h => (h (decide_eq_true (rfl : V.non = V.non))).elim)⟩⟩
      refine ⟨(by show 0 ≤ sizeLine; decide), fun l hl => ?_⟩
      have s3 := Same.new (o := .lst []) hl
      have sK : SameK Pt H H2 := (SameK.of s1).trans s2
      exact k l [] _ (sK.trans (SameK.of s3)) (sK.free tb t2 hl) upd_same (.inl ⟨hn, rfl⟩) (fun i a b ha => by cases ha) (fun x hx => by cases hx) (t2.same s3)
    · refine ⟨_, rfl, .non ⟨_, rfl, ite2 (fun h => ?_) (fun _ => ?_)⟩⟩
      · have h : V.ref t = V.non := of_decide_eq_true h
        cases h
      · exact ⟨_, rfl, .tup (.of ht) rfl (k l xs H2 ((SameK.of s1).trans s2) (same_free s1 hl0) hl (.inr ⟨v, best, hlen⟩) chn hin t2)⟩
end
end K22
namespace K22
open PySem L2
section
variable {P : Program} {w : World} {K : PySem.W.Frag} {mg : Str → Option Value} {base : Heap}
theorem nil_ {σ : St} {H : Hp} {k : List V → Hp → Prop} (h : k [] H) : tNil σ H k := h
theorem str_getL {xs : List Str} {i : Nat} {x : V} (h : (List.map V.str xs)[i]? = some x) : ∃ z, xs[i]? = some z ∧ x = .str z := by
  rw [List.getElem?_map] at h
  cases q : xs[i]? with
  | none => rw [q] at h; cases h
  | some e => rw [q] at h; exact ⟨e, rfl, (Option.some.inj h).symm⟩
theorem nmA_getL {ss : List Str} {xs : List Nat} {i : Nat} {x : V} (h : (List.map V.str (xs.map (nmA ss)))[i]? = some x) : ∃ a, xs[i]? = some a ∧ x = .str (nmA ss a) := by
  obtain ⟨z, hz, rfl⟩ := str_getL h
  rw [List.getElem?_map] at hz
  cases q : xs[i]? with
  | none => rw [q] at hz; cases hz
  | some a => rw [q] at hz; exact ⟨a, rfl, congrArg V.str (Option.some.inj hz).symm⟩
noncomputable def Mny (n : Nat) (D : Nat → Int) (m : Nat) : Prop := (n = 0 ∧ m = 0) ∨ ∃ v, Best n D v ∧ (m : Int) = D v
noncomputable def spLaw (Pt : Addr) (K : PySem.W.Frag) : Sp := fun vs H Q _ => ∃ (a : Addr) (ns : List Int), vs = [.ref a] ∧ SqL K H a (ns.map V.int) ∧ H Pt = some (.tbl #[]) ∧ ∀ H', Q (.bl true) H'
theorem scLaw : FnScope ["_law_script", "_law_pen", "_law_names_here", "_law_ties_here", "_law_web_here", "_law_many", "_law_again", "_law_told"] ["_law_script"] (defScope sLaw) := ⟨rfl, rfl, rfl, by decide +kernel, rfl, by decide +kernel, by decide +kernel⟩
theorem ok_law {f Pt : Addr} {fd : FuncData} (F : Fun K "law" "law" sLaw f fd) (B : Blt mg) (Zz : mg "zip" = none)
    (c_law_built : Cal P w K mg base 3 "_law_built" ["_law_pen"] (spBuilt K)) (c_law_web : Cal P w K mg base 1 "_law_web" ["_law_names_here", "_law_ties_here"] spWeb)
    (c_law_layers : Cal P w K mg base 1 "_law_layers" ["_law_size", "_law_ties_here"] spLLay) (clongest : Cal P w K mg base 11 "longest" ["web"] (spLongest Pt)) :
    FnOk P w K mg base CX0 12 f fd ["_law_script"] (spLaw Pt K) := by
  refine F.ok scLaw (fun vs H Q E h => ?_) (fun cdv A outer s H vs Q E hr h => ?_)
  · obtain ⟨a, ns, rfl, _⟩ := h
    rfl
  · obtain ⟨a, ns, rfl, hS, hT, k⟩ := h
    have nd := scLaw.nd
    refine ⟨_, (pss_cons (ps_set (i := 1) nd rfl (Or.inl rfl) (pe_lst (pa_cons (pe_slice (sl_K K) (pv 0) po_none (po_some pe_int)) (pa_cons pe_int (pa_cons pe_int pa_nil)))))
      (pss_cons (ps_asg (pe_cal c_law_built (hr.mono (by decide)) rfl (pa_cons (pv 1) pa_nil)) (pg_tupK (n := 2) K rfl (pgs_cons (pg_name (i := 2) nd rfl (Or.inr rfl)) (pgs_cons (pg_name (i := 3) nd rfl (Or.inl rfl)) pgs_nil))))
      (pss_cons (ps_set (i := 4) nd rfl (Or.inr rfl) (pe_cal c_law_web (hr.mono (by decide)) rfl (pa_cons (pv 2) (pa_cons (pv 3) pa_nil))))
      (pss_cons (ps_set (i := 5) nd rfl (Or.inl rfl) (pe_op op_addX (pe_maxD K rfl B (pe_cal c_law_layers (hr.mono (by decide)) rfl (pa_cons (b_len K B (pa_cons (pv 2) pa_nil)) (pa_cons (pv 3) pa_nil))) (pe_un un_neg pe_int)) pe_int))
      (pss_cons (ps_for PassesOwn.never rfl (pi_range1 rfl B.range (pa_cons pe_int pa_nil)) (pg_name (i := 6) nd rfl (Or.inl rfl)) (pss_cons (ps_set (i := 7) nd rfl (Or.inl rfl) (pe_cal clongest (hr.mono (by decide)) rfl (pa_cons (pv 4) pa_nil)))
      (pss_cons (ps_if (PW.pt (pw_or (pt_not (pt_val (b_isi K "list" B (pa_cons (pv 7) (pa_cons (g_list B) pa_nil))))) (pw_or (pt_cmpR (op_neX hr.units) (b_len K B (pa_cons (pv 7) pa_nil)) (pv 5) (nomark _)) (pw_or1 (pt_cmpR (op_neX hr.units) (pe_comp (defScope sLaw) ["_law_script", "_law_pen", "_law_names_here", "_law_ties_here", "_law_web_here", "_law_many", "_law_again", "_law_told"] ["_law_one"] [2] ["_law_one", "_law_names_here"] rfl (pi_listK K (pv 7)) (fun _ _ _ _ _ => (pg_name (i := 0) (show (["_law_one", "_law_names_here"] : List Str).Nodup by decide) rfl (Or.inl rfl))) (fun _ _ _ _ _ => (pts_one (pt_cmpR (op_notInX K hr.units) (pv 0) (pv 1) (by with_unfolding_all rfl)))) (fun _ _ _ _ _ => (pv 0))) (pe_lst pa_nil) (nomark _)))))) (pss_one (ps_ret pe_bl)) pss_nil)
      (pss_cons (ps_if (pt_cmpR (op_neX hr.units) (pe_comp (defScope sLaw) ["_law_script", "_law_pen", "_law_names_here", "_law_ties_here", "_law_web_here", "_law_many", "_law_again", "_law_told"] ["_law_pair"] [4] ["_law_pair", "_law_web_here"] rfl (pi_zip K rfl Zz (pa_cons (pv 7) (pa_cons (pe_slice (sl_K K) (pv 7) (po_some pe_int) po_none) pa_nil))) (fun _ _ _ _ _ => (pg_name (i := 0) (show (["_law_pair", "_law_web_here"] : List Str).Nodup by decide) rfl (Or.inl rfl))) (fun _ _ _ _ _ => (pts_one (pt_cmpR (op_notInDT hr.units) (pv 0) (pe_ix (ix_X K hr.units) (pv 1) pe_int (fun _ _ => rfl)) (by with_unfolding_all rfl)))) (fun _ _ _ _ _ => (pv 0))) (pe_lst pa_nil) (nomark _)) (pss_one (ps_ret pe_bl)) pss_nil)
      (pss_one (ps_expr (m_clear K (pv 7))))))))
      (pss_one (ps_ret (pe_cmpR (op_eqX hr.units) (pv 4) (pe_cal c_law_web (hr.mono (by decide)) rfl (pa_cons (pv 2) (pa_cons (pv 3) pa_nil))) (nomark _))))))))), ?_⟩
    obtain ⟨ns', hns⟩ : ∃ ns', cutV (ns.map V.int) none (some 63) = List.map V.int ns' := ⟨_, by unfold cutV; rw [← List.map_drop, ← List.map_take]⟩
    refine ⟨_, rfl, _, rfl, .lst hS fun a0 ha0 => ?_⟩
    rw [hns]
    refine ⟨(by show 3 ≤ sizeLine; decide), fun p hp => ?_⟩
    have hP : Pen K (upd (upd H a0 (.lst (List.map V.int ns'))) p (.lst [.ref a0, .int 0, .int 0])) p a0 := Pen.new (ns := ns') (.of upd_same) hp ⟨0, 0, upd_same, by decide, by decide⟩
    have hT1 : upd H a0 (.lst (List.map V.int ns')) Pt = some (.tbl #[]) := by rw [upd_ne (ne_of_none hT ha0)]; exact hT
    have nPp : Pt ≠ p := ne_of_none hT1 hp
    have hT2 : upd (upd H a0 (.lst (List.map V.int ns'))) p (.lst [.ref a0, .int 0, .int 0]) Pt = some (.tbl #[]) := by rw [upd_ne nPp]; exact hT1
    generalize upd (upd H a0 (.lst (List.map V.int ns'))) p (.lst [.ref a0, .int 0, .int 0]) = H2 at hP hT2 ⊢
    refine ⟨_, rfl, p, a0, rfl, hP, fun q n t ss es H3 hq hB hris hnp htp v3 b3 => ⟨q, _, rfl, .of hq, rfl, _, _, rfl, _, _, rfl, rfl, ?_⟩⟩
    have hT3 := b3 Pt _ nPp hT2
    refine ⟨_, rfl, _, rfl, n, t, ss, es, rfl, hB, fun wq H4 s4 rw4 => ?_⟩
    have W4 := web_of hB rw4
    have hB4 := hB.same s4
    have hT4 := s4 _ _ hT3
    have hln : (List.map V.str ss).length = ss.length := List.length_map ..
    have h60 := hB.len
    obtain ⟨D, hD⟩ := MG.depth_ex hris (wOf (List.replicate ss.length 1))
    have hL := hD.lay hB.val (fun v hv => wOf_ones hv)
    have dep : DepO ss.length es D := DepO.of hD (fun v hv => wOf_ones hv) hB.val
    obtain ⟨refs, ht, rp⟩ := hB4.ti
    clear hB rw4 hq b3 v3 hT hT1 hT2 hT3 hS hP s4
    apply once2 (C := fun m HC => Same H4 HC ∧ Mny ss.length D m)
    · intro tail
      refine ⟨_, rfl, _, _, rfl, Or.inl ⟨_, .of hB4.nm, rfl⟩, ?_⟩
      rw [hln]
      refine ⟨_, rfl, ss.length, t, refs, es, _, rfl, ht, rp, hB4.val, h60, hL, fun l2 H5 s5 hl2 hc2 => ?_⟩
      have hc2 : H5 l2 = some (.lst (List.map V.int ((List.range ss.length).map fun v => ((D v - 1).toNat : Int)))) := by
        rw [hc2]; unfold natV; rw [List.map_map, List.map_map]; rfl
      refine ⟨_, rfl, l2, _, -1, rfl, rfl, .of hc2, fun he => .int ?_, fun M hM hmx => .int ?_⟩
      · have hn : ss.length = 0 := by have := congrArg List.length he; simpa using this
        obtain ⟨m, em⟩ : ∃ m : Nat, (-1 : Int) + 1 = (m : Int) := ⟨0, rfl⟩
        rw [em]
        exact tail m H5 ⟨s5, .inl ⟨hn, by omega⟩⟩
      · obtain ⟨v, hv, ev⟩ := List.mem_map.mp hM
        have hv := List.mem_range.mp hv
        have d1 := (dep v hv).1
        obtain ⟨m, em⟩ : ∃ m : Nat, M + 1 = (m : Int) := ⟨(D v).toNat, by omega⟩
        rw [em]
        refine tail m H5 ⟨s5, .inr ⟨v, ⟨hv, fun u hu => ?_⟩, by omega⟩⟩
        have := hmx _ (List.mem_map.mpr ⟨u, List.mem_range.mpr hu, rfl⟩)
        have d2 := (dep u hu).1
        omega
    · intro m HC hC
      obtain ⟨sC, hm⟩ := hC
      have W := W4.same sC
      have hN := sC _ _ hB4.nm
      have hTi := sC _ _ ht
      have rpC := rp.same sC
      have tb : TbK Pt HC := ⟨#[], trivial, sC _ _ hT4, .inl rfl⟩
      obtain ⟨wq', wa, wb, xs2, e0, hwq, hwa, hwb, rpw⟩ := web_at W.rep
      cases e0
      have nme : ∀ e ∈ es.map (nmP ss), Nm e.1 ∧ Nm e.2 := fun e he => ⟨W.nm _ (W.inn e he).1, W.nm _ (W.inn e he).2⟩
      refine ⟨_, rfl, by decide, by decide, ?_⟩
      refine for_range (fun i σ H' => ∃ o6 o7, σ = [some (.ref a), some (.ref p), some (.ref n), some (.ref t), some (.ref wq), some (.int (m : Int)), o6, o7] ∧ SameK Pt HC H' ∧ TbK Pt H') ⟨none, none, rfl, SameK.of (Same.refl _), tb⟩ ?_ ?_
      · rintro i σ HI hi ⟨o6, o7, rfl, sI, tI⟩
        refine ⟨_, rfl, .ref wq, ss, es, D, rfl, webK W sI tb, hB4.val, hris, hD, tI, fun l xs HJ sJ hl0 hl res chn hin tJ => ?_⟩
        have sIJ := sI.trans sJ
        have xl : (xs.length : Int) = (m : Int) := by
          rcases res with ⟨hn, rfl⟩ | ⟨v, bv, ev⟩
          · rcases hm with ⟨_, rfl⟩ | ⟨u, bu, eu⟩
            · rfl
            · exact absurd bu.1 (by omega)
          · rcases hm with ⟨hn, _⟩ | ⟨u, bu, eu⟩
            · exact absurd bv.1 (by omega)
            · have h1 := bv.2 u bu.1
              have h2 := bu.2 v bv.1
              omega
        have x60 : xs.length ≤ 60 := by
          rcases res with ⟨hn, rfl⟩ | ⟨v, bv, ev⟩
          · exact Nat.zero_le _
          · have := (dep v bv.1).2.1
            omega
        obtain ⟨tt, ty, _, _, _, t4, _⟩ := ty_thg (K := K) (Thg.lst hl)
        rw [isL_of hl] at t4
        refine ⟨_, rfl, .ref l, tt, _, rfl, ty, t4, _, rfl, iteF ?_⟩
        refine ⟨_, rfl, _, _, rfl, Or.inl ⟨_, .of hl, rfl⟩, _, rfl, .sc rfl ⟨_, rfl, ite2 (fun h => ?_) (fun _ => ?_)⟩⟩
        · have h : (!decide (V.int (((List.map V.str (xs.map (nmA ss))).length : Nat) : Int) = V.int (m : Int))) = true := h
          rw [List.length_map, List.length_map, decide_eq_true (congrArg V.int xl)] at h
          cases h
        have hNJ := sIJ.at tb hN
        refine ⟨_, rfl, l, rfl, ⟨_, .of hl⟩, ?_⟩
        refine comp_list (List.map V.str (xs.map (nmA ss))) (fun D i acc σ' H' => ∃ o, σ' = [o, some (.ref n)] ∧ acc = [] ∧ Same HJ H' ∧ HJ D = none) fun D1 hD1 => ⟨?_, ?_, ?_, ?_⟩
        · exact ⟨none, rfl, rfl, Same.new hD1, hD1⟩
        · rintro i acc σ' H' _ ⟨o, rfl, _, sm, _⟩ _
          exact .of (sm _ _ hl)
        · rintro i acc σ' H' x hx ⟨o, rfl, rfl, sm, hD0⟩ hacc
          obtain ⟨u, hu, rfl⟩ := nmA_getL hx
          refine ⟨_, rfl, _, rfl, .seq (.inl (.of (sm _ _ hNJ))) rfl (flat_strs _) ⟨_, rfl, ?_⟩⟩
          rw [in_strs, decide_eq_true (show nmA ss u ∈ ss from mem_getD (hin u (List.mem_of_getElem? hu)))]
          exact iteF ⟨hacc, _, rfl, rfl, sm, hD0⟩
        rintro acc σ' HK ⟨o, rfl, rfl, sK, _⟩ hacc
        refine ⟨(by show 0 ≤ sizeLine; decide), fun n2 hn2 => ?_⟩
        have s3 := Same.new (o := .lst []) hn2
        refine .tr (da := .list []) (db := .list []) (.lst (s3 _ _ hacc) .nil) (.lst upd_same .nil) (by rfl) (by rfl) ⟨_, rfl, iteF ?_⟩
        have sJL := sK.trans s3
        generalize upd HK n2 (.lst []) = HL at sJL ⊢
        clear s3 hn2 hacc sK
        have hlL := sJL _ _ hl
        refine ⟨_, rfl, _, rfl, _, rfl, .lst (.of hlL) fun l6 hl6 => ?_⟩
        rw [show (1 : Int) = ((1 : Nat) : Int) from rfl, cutV_from, ← List.map_drop, ← List.map_drop]
        have s4 := Same.new (o := .lst (List.map V.str ((xs.drop 1).map (nmA ss)))) hl6
        have e6 : upd HL l6 (.lst (List.map V.str ((xs.drop 1).map (nmA ss)))) l6 = some (.lst (List.map V.str ((xs.drop 1).map (nmA ss)))) := upd_same
        have sJM := sJL.trans s4
        generalize upd HL l6 (.lst (List.map V.str ((xs.drop 1).map (nmA ss)))) = HM at sJM e6 ⊢
        clear s4 hlL
        have hlM := sJM _ _ hl
        have sCM : SameK Pt HC HM := sIJ.trans (SameK.of sJM)
        have hwqM := sCM.at tb hwq
        have hwbM := sCM.at tb hwb
        have rpM := (RepAll.cor rpw).same (sCM.cor tb)
        refine nil_ ⟨l, l6, _, _, rfl, .of hlM, .of e6, ?_⟩
        refine comp_zip (List.map V.str (xs.map (nmA ss))) (List.map V.str ((xs.drop 1).map (nmA ss))) (fun D i acc σ' H' => ∃ o, σ' = [o, some (.ref wq)] ∧ acc = [] ∧ Same HM H' ∧ HM D = none) fun D2 hD2 => ⟨?_, ?_, ?_, ?_⟩
        · exact ⟨none, rfl, rfl, Same.new hD2, hD2⟩
        · rintro i acc σ' H' _ ⟨o, rfl, _, sm, _⟩ _
          exact ⟨.of (sm _ _ hlM), .of (sm _ _ e6)⟩
        · rintro i acc σ' H' x y pp hxy ⟨o, rfl, rfl, sm, hD0⟩ hacc hpp
          rw [List.getElem?_zip_eq_some] at hxy
          obtain ⟨u, hu, rfl⟩ := nmA_getL hxy.1
          obtain ⟨v, hv, rfl⟩ := nmA_getL hxy.2
          rw [List.getElem?_drop, Nat.add_comm] at hv
          have huv := chn i u v hu hv
          have hmem : (nmA ss u, nmA ss v) ∈ es.map (nmP ss) := List.mem_map.mpr ⟨(u, v), huv, rfl⟩
          have sp := Same.new (o := .tup [V.str (nmA ss u), V.str (nmA ss v)]) hpp
          have smp := sm.trans sp
          have cl2 := canLay_pairN (nme _ hmem)
          refine ⟨_, rfl, _, rfl, .tup (.of (smp _ _ hwqM)) rfl ⟨wb, xs2, _, pairD (nmA ss u, nmA ss v), rfl, smp _ _ hwbM, rpM.same smp, pair_rep upd_same, canLay_pairsN nme, cl2, (by show 1 ≤ 16; decide), _, rfl, ?_⟩⟩
          rw [show ((es.map (nmP ss)).map pairD).any (fun e => PyData.eqv e (pairD (nmA ss u, nmA ss v))) = true from List.any_eq_true.mpr ⟨_, List.mem_map.mpr ⟨_, hmem, rfl⟩, SeqAt.eqv_refl _ cl2⟩]
          exact iteF ⟨sp _ _ hacc, _, rfl, rfl, smp, hD0⟩
        rintro acc σ' HN ⟨o, rfl, rfl, sN, _⟩ hacc
        refine ⟨(by show 0 ≤ sizeLine; decide), fun n3 hn3 => ?_⟩
        have s3 := Same.new (o := .lst []) hn3
        refine .tr (da := .list []) (db := .list []) (.lst (s3 _ _ hacc) .nil) (.lst upd_same .nil) (by rfl) (by rfl) ⟨_, rfl, iteF ?_⟩
        have sJO := (sJM.trans sN).trans s3
        generalize upd HN n3 (.lst []) = HO at sJO ⊢
        have hlO := sJO _ _ hl
        refine ⟨_, rfl, .inl ⟨rfl, _, .of hlO⟩, l, _, rfl, rfl, hlO, ?_⟩
        have hlC : HC l = none := sI.free tb tI hl0
        have sCO : SameK Pt HC HO := sIJ.trans (SameK.of sJO)
        exact ⟨_, _, rfl, fun b u nb hb => by rw [upd_ne (ne_of_none hb hlC)]; exact sCO b u nb hb, (tJ.same sJO).upd hlO⟩
      · rintro σ HI ⟨o6, o7, rfl, sI, tI⟩
        have s0 := sI.cor tb
        have WI := webK W sI tb
        refine ⟨_, rfl, _, rfl, _, rfl, n, t, ss, es, rfl, ⟨sI.at tb hN, hB4.nd, hB4.ok, hB4.len, ⟨refs, sI.at tb hTi, (RepAll.cor rpC).same s0⟩, hB4.val, hB4.few⟩, fun wq2 H9 s9 r9 => ?_⟩
        refine .tr (WI.rep.same s9) r9 (web_shp WI) (web_shp WI) ?_
        have e : PyData.eqv (webD ss (es.map (nmP ss))) (webD ss (es.map (nmP ss))) = true := eqv_shp (web_shp WI)
        show Q (.bl (PyData.eqv (webD ss (es.map (nmP ss))) (webD ss (es.map (nmP ss))))) _
        rw [e]
        exact k _
end
end K22
namespace K22
open PySem L2
section
variable {P : Program} {w : World} {K : PySem.W.Frag} {mg : Str → Option Value} {base : Heap}
theorem ar1 {us : List Value} (h : us.length = 1) : ∃ a, us = [a] := List.length_eq_one_iff.mp h
theorem ar2 {us : List Value} (h : us.length = 2) : ∃ a1 a2, us = [a1, a2] := by
  obtain ⟨a1, t, rfl⟩ := List.exists_cons_of_length_eq_add_one h
  obtain ⟨a2, rfl⟩ := ar1 (Nat.succ.inj h)
  exact ⟨a1, a2, rfl⟩
theorem ar3 {us : List Value} (h : us.length = 3) : ∃ a1 a2 a3, us = [a1, a2, a3] := by
  obtain ⟨a1, t, rfl⟩ := List.exists_cons_of_length_eq_add_one h
  obtain ⟨a2, a3, rfl⟩ := ar2 (Nat.succ.inj h)
  exact ⟨a1, a2, a3, rfl⟩
theorem hd_mk {K : PySem.W.Frag} {h : Heap} {c Pt : Addr} {o2 : Obj} {ws : Array Value} {file : Str} {tf tg tt : Tok} {flags text : Int} {inF : Bool} (lZ : K.lookup c = some o2) (qZ1 : o2.cls = .type "code") (qZ2 : o2.data = .fields ws) (qZ3 : ws[11]? = some (.ref Pt)) (qZ4 : ws.getD 11 .none = .ref Pt) (qZ5 : ws.getD 18 .none = .str file tf) (qZ6 : ws.getD 7 .none = .int flags tg) (qZ7 : ws.getD 9 .none = .bool inF) (qZ8 : ws.getD 10 .none = .int text tt) (qZ9 : c ≠ Pt) (X : K.In h) : PySem.W.CodeHd h c Pt := ⟨o2, ws, file, tf, flags, tg, inF, text, tt, X _ _ lZ, qZ1, qZ2, qZ3, qZ4, qZ5, qZ6, qZ7, qZ8, qZ9⟩
theorem hd_ex {K : PySem.W.Frag} {h : Heap} {fa : Addr} {x : FuncData} {oc : Value} {od : Option Addr} {sl : Array (Option Value)} {c Pt : Addr} {o2 : Obj} {ws : Array Value} {file : Str} {tf tg tt : Tok} {flags text : Int} {inF : Bool} (X : K.In h) (a1 : PySem.W.nsIn K mainGlobals "deepest_among" = some (some (.ref fa))) (l1 : K.lookup fa = some ⟨oc, od, .func x, sl⟩) (eZ : x.code = .ref c) (lZ : K.lookup c = some o2) (qZ1 : o2.cls = .type "code") (qZ2 : o2.data = .fields ws) (qZ3 : ws[11]? = some (.ref Pt)) (qZ4 : ws.getD 11 .none = .ref Pt) (qZ5 : ws.getD 18 .none = .str file tf) (qZ6 : ws.getD 7 .none = .int flags tg) (qZ7 : ws.getD 9 .none = .bool inF) (qZ8 : ws.getD 10 .none = .int text tt) (qZ9 : c ≠ Pt) : ∃ c, PySem.W.CodeHd h c Pt := ⟨c, hd_mk lZ qZ1 qZ2 qZ3 qZ4 qZ5 qZ6 qZ7 qZ8 qZ9 X⟩
theorem all_mk {l : PySem.W.OpenLaw} {w : World} {K : PySem.W.Frag} {h : Heap} {mg : Str → Option Value} {fa f1 f2 f3 f4 f5 f6 f7 f8 f9 f10 f11 f12 f13 f14 f15 f16 f17 f18 f19 f20 f21 f22 f23 f24 f25 f26 f27 f28 f29 : Addr} (X : K.In h) (G : h.Ns mainGlobals mg) (hfa : mg "law" = some (.ref fa))
    {od1 an1 od2 an2 od3 an3 od4 an4 od5 an5 od6 an6 od7 an7 od8 an8 od9 an9 od10 an10 od11 an11 od12 an12 od13 an13 od14 an14 od15 an15 od16 an16 od17 an17 od18 an18 od19 an19 od20 an20 od21 an21 od22 an22 od23 an23 od24 an24 od25 an25 od26 an26 od27 an27 od28 an28 od29 an29 : Option Addr} {sl1 sl2 sl3 sl4 sl5 sl6 sl7 sl8 sl9 sl10 sl11 sl12 sl13 sl14 sl15 sl16 sl17 sl18 sl19 sl20 sl21 sl22 sl23 sl24 sl25 sl26 sl27 sl28 sl29 : Array (Option Value)} {oc1 kV1 dc1 pm1 cd1 ct1 oc2 kV2 dc2 pm2 cd2 ct2 oc3 kV3 dc3 pm3 cd3 ct3 oc4 kV4 dc4 pm4 cd4 ct4 oc5 kV5 dc5 pm5 cd5 ct5 oc6 kV6 dc6 pm6 cd6 ct6 oc7 kV7 dc7 pm7 cd7 ct7 oc8 kV8 dc8 pm8 cd8 ct8 oc9 kV9 dc9 pm9 cd9 ct9 oc10 kV10 dc10 pm10 cd10 ct10 oc11 kV11 dc11 pm11 cd11 ct11 oc12 kV12 dc12 pm12 cd12 ct12 oc13 kV13 dc13 pm13 cd13 ct13 oc14 kV14 dc14 pm14 cd14 ct14 oc15 kV15 dc15 pm15 cd15 ct15 oc16 kV16 dc16 pm16 cd16 ct16 oc17 kV17 dc17 pm17 cd17 ct17 oc18 kV18 dc18 pm18 cd18 ct18 oc19 kV19 dc19 pm19 cd19 ct19 oc20 kV20 dc20 pm20 cd20 ct20 oc21 kV21 dc21 pm21 cd21 ct21 oc22 kV22 dc22 pm22 cd22 ct22 oc23 kV23 dc23 pm23 cd23 ct23 oc24 kV24 dc24 pm24 cd24 ct24 oc25 kV25 dc25 pm25 cd25 ct25 oc26 kV26 dc26 pm26 cd26 ct26 oc27 kV27 dc27 pm27 cd27 ct27 oc28 kV28 dc28 pm28 cd28 ct28 oc29 kV29 dc29 pm29 cd29 ct29 : Value}
    (a1 : PySem.W.nsIn K mainGlobals "is_whole" = some (some (.ref f1))) (l1 : K.lookup f1 = some ⟨oc1, od1, .func (PySem.W.fnOf "is_whole" "is_whole" (defArgs sIsWhole) (defBody sIsWhole) (defScope sIsWhole) .none kV1 dc1 pm1 an1 cd1 ct1), sl1⟩) (c1 : PySem.W.codeIn K cd1 "is_whole" = true) (k1 : PySem.W.keepIn K (.ref f1) = true)
    (a2 : PySem.W.nsIn K mainGlobals "nexts" = some (some (.ref f2))) (l2 : K.lookup f2 = some ⟨oc2, od2, .func (PySem.W.fnOf "nexts" "nexts" (defArgs sNexts) (defBody sNexts) (defScope sNexts) .none kV2 dc2 pm2 an2 cd2 ct2), sl2⟩) (c2 : PySem.W.codeIn K cd2 "nexts" = true) (k2 : PySem.W.keepIn K (.ref f2) = true)
    (a3 : PySem.W.nsIn K mainGlobals "priors" = some (some (.ref f3))) (l3 : K.lookup f3 = some ⟨oc3, od3, .func (PySem.W.fnOf "priors" "priors" (defArgs sPriors) (defBody sPriors) (defScope sPriors) .none kV3 dc3 pm3 an3 cd3 ct3), sl3⟩) (c3 : PySem.W.codeIn K cd3 "priors" = true) (k3 : PySem.W.keepIn K (.ref f3) = true)
    (a4 : PySem.W.nsIn K mainGlobals "places_of" = some (some (.ref f4))) (l4 : K.lookup f4 = some ⟨oc4, od4, .func (PySem.W.fnOf "places_of" "places_of" (defArgs sPlaces) (defBody sPlaces) (defScope sPlaces) .none kV4 dc4 pm4 an4 cd4 ct4), sl4⟩) (c4 : PySem.W.codeIn K cd4 "places_of" = true) (k4 : PySem.W.keepIn K (.ref f4) = true)
    (a5 : PySem.W.nsIn K mainGlobals "nexts_of_all" = some (some (.ref f5))) (l5 : K.lookup f5 = some ⟨oc5, od5, .func (PySem.W.fnOf "nexts_of_all" "nexts_of_all" (defArgs sNextsAll) (defBody sNextsAll) (defScope sNextsAll) .none kV5 dc5 pm5 an5 cd5 ct5), sl5⟩) (c5 : PySem.W.codeIn K cd5 "nexts_of_all" = true) (k5 : PySem.W.keepIn K (.ref f5) = true)
    (a6 : PySem.W.nsIn K mainGlobals "priors_of_all" = some (some (.ref f6))) (l6 : K.lookup f6 = some ⟨oc6, od6, .func (PySem.W.fnOf "priors_of_all" "priors_of_all" (defArgs sPriorsAll) (defBody sPriorsAll) (defScope sPriorsAll) .none kV6 dc6 pm6 an6 cd6 ct6), sl6⟩) (c6 : PySem.W.codeIn K cd6 "priors_of_all" = true) (k6 : PySem.W.keepIn K (.ref f6) = true)
    (a7 : PySem.W.nsIn K mainGlobals "steps_from" = some (some (.ref f7))) (l7 : K.lookup f7 = some ⟨oc7, od7, .func (PySem.W.fnOf "steps_from" "steps_from" (defArgs sSteps) (defBody sSteps) (defScope sSteps) .none kV7 dc7 pm7 an7 cd7 ct7), sl7⟩) (c7 : PySem.W.codeIn K cd7 "steps_from" = true) (k7 : PySem.W.keepIn K (.ref f7) = true)
    (a8 : PySem.W.nsIn K mainGlobals "ring_by" = some (some (.ref f8))) (l8 : K.lookup f8 = some ⟨oc8, od8, .func (PySem.W.fnOf "ring_by" "ring_by" (defArgs sRingBy) (defBody sRingBy) (defScope sRingBy) .none kV8 dc8 pm8 an8 cd8 ct8), sl8⟩) (c8 : PySem.W.codeIn K cd8 "ring_by" = true) (k8 : PySem.W.keepIn K (.ref f8) = true)
    (a9 : PySem.W.nsIn K mainGlobals "ring_of" = some (some (.ref f9))) (l9 : K.lookup f9 = some ⟨oc9, od9, .func (PySem.W.fnOf "ring_of" "ring_of" (defArgs sRingOf) (defBody sRingOf) (defScope sRingOf) .none kV9 dc9 pm9 an9 cd9 ct9), sl9⟩) (c9 : PySem.W.codeIn K cd9 "ring_of" = true) (k9 : PySem.W.keepIn K (.ref f9) = true)
    (a10 : PySem.W.nsIn K mainGlobals "refuse_ring" = some (some (.ref f10))) (l10 : K.lookup f10 = some ⟨oc10, od10, .func (PySem.W.fnOf "refuse_ring" "refuse_ring" (defArgs sRefuse) (defBody sRefuse) (defScope sRefuse) .none kV10 dc10 pm10 an10 cd10 ct10), sl10⟩) (c10 : PySem.W.codeIn K cd10 "refuse_ring" = true) (k10 : PySem.W.keepIn K (.ref f10) = true)
    (a11 : PySem.W.nsIn K mainGlobals "order_anew" = some (some (.ref f11))) (l11 : K.lookup f11 = some ⟨oc11, od11, .func (PySem.W.fnOf "order_anew" "order_anew" (defArgs sAnew) (defBody sAnew) (defScope sAnew) .none kV11 dc11 pm11 an11 cd11 ct11), sl11⟩) (c11 : PySem.W.codeIn K cd11 "order_anew" = true) (k11 : PySem.W.keepIn K (.ref f11) = true)
    (a12 : PySem.W.nsIn K mainGlobals "is_due" = some (some (.ref f12))) (l12 : K.lookup f12 = some ⟨oc12, od12, .func (PySem.W.fnOf "is_due" "is_due" (defArgs sIsDue) (defBody sIsDue) (defScope sIsDue) .none kV12 dc12 pm12 an12 cd12 ct12), sl12⟩) (c12 : PySem.W.codeIn K cd12 "is_due" = true) (k12 : PySem.W.keepIn K (.ref f12) = true)
    (a13 : PySem.W.nsIn K mainGlobals "deepest" = some (some (.ref f13))) (l13 : K.lookup f13 = some ⟨oc13, od13, .func (PySem.W.fnOf "deepest" "deepest" (defArgs sDeepest) (defBody sDeepest) (defScope sDeepest) .none kV13 dc13 pm13 an13 cd13 ct13), sl13⟩) (c13 : PySem.W.codeIn K cd13 "deepest" = true) (k13 : PySem.W.keepIn K (.ref f13) = true)
    (a14 : PySem.W.nsIn K mainGlobals "weights_by_thing" = some (some (.ref f14))) (l14 : K.lookup f14 = some ⟨oc14, od14, .func (PySem.W.fnOf "weights_by_thing" "weights_by_thing" (defArgs sWeigh) (defBody sWeigh) (defScope sWeigh) .none kV14 dc14 pm14 an14 cd14 ct14), sl14⟩) (c14 : PySem.W.codeIn K cd14 "weights_by_thing" = true) (k14 : PySem.W.keepIn K (.ref f14) = true)
    (a15 : PySem.W.nsIn K mainGlobals "are_wholes" = some (some (.ref f15))) (l15 : K.lookup f15 = some ⟨oc15, od15, .func (PySem.W.fnOf "are_wholes" "are_wholes" (defArgs sWholes) (defBody sWholes) (defScope sWholes) .none kV15 dc15 pm15 an15 cd15 ct15), sl15⟩) (c15 : PySem.W.codeIn K cd15 "are_wholes" = true) (k15 : PySem.W.keepIn K (.ref f15) = true)
    (a16 : PySem.W.nsIn K mainGlobals "by_places" = some (some (.ref f16))) (l16 : K.lookup f16 = some ⟨oc16, od16, .func (PySem.W.fnOf "by_places" "by_places" (defArgs sByPl) (defBody sByPl) (defScope sByPl) .none kV16 dc16 pm16 an16 cd16 ct16), sl16⟩) (c16 : PySem.W.codeIn K cd16 "by_places" = true) (k16 : PySem.W.keepIn K (.ref f16) = true)
    (a17 : PySem.W.nsIn K mainGlobals "depths_by_thing" = some (some (.ref f17))) (l17 : K.lookup f17 = some ⟨oc17, od17, .func (PySem.W.fnOf "depths_by_thing" "depths_by_thing" (defArgs sDepBy) (defBody sDepBy) (defScope sDepBy) .none kV17 dc17 pm17 an17 cd17 ct17), sl17⟩) (c17 : PySem.W.codeIn K cd17 "depths_by_thing" = true) (k17 : PySem.W.keepIn K (.ref f17) = true)
    (a18 : PySem.W.nsIn K mainGlobals "deepest_among" = some (some (.ref f18))) (l18 : K.lookup f18 = some ⟨oc18, od18, .func (PySem.W.fnOf "deepest_among" "deepest_among" (defArgs sDeepA) (defBody sDeepA) (defScope sDeepA) .none kV18 dc18 pm18 an18 cd18 ct18), sl18⟩) (c18 : PySem.W.codeIn K cd18 "deepest_among" = true) (k18 : PySem.W.keepIn K (.ref f18) = true)
    (a19 : PySem.W.nsIn K mainGlobals "way_back" = some (some (.ref f19))) (l19 : K.lookup f19 = some ⟨oc19, od19, .func (PySem.W.fnOf "way_back" "way_back" (defArgs sWayB) (defBody sWayB) (defScope sWayB) .none kV19 dc19 pm19 an19 cd19 ct19), sl19⟩) (c19 : PySem.W.codeIn K cd19 "way_back" = true) (k19 : PySem.W.keepIn K (.ref f19) = true)
    (a20 : PySem.W.nsIn K mainGlobals "worth_taking" = some (some (.ref f20))) (l20 : K.lookup f20 = some ⟨oc20, od20, .func (PySem.W.fnOf "worth_taking" "worth_taking" (defArgs sWorth) (defBody sWorth) (defScope sWorth) .none kV20 dc20 pm20 an20 cd20 ct20), sl20⟩) (c20 : PySem.W.codeIn K cd20 "worth_taking" = true) (k20 : PySem.W.keepIn K (.ref f20) = true)
    (a21 : PySem.W.nsIn K mainGlobals "longest" = some (some (.ref f21))) (l21 : K.lookup f21 = some ⟨oc21, od21, .func (PySem.W.fnOf "longest" "longest" (defArgs sLongest) (defBody sLongest) (defScope sLongest) .none kV21 dc21 pm21 an21 cd21 ct21), sl21⟩) (c21 : PySem.W.codeIn K cd21 "longest" = true) (k21 : PySem.W.keepIn K (.ref f21) = true)
    (a22 : PySem.W.nsIn K mainGlobals "ones" = some (some (.ref f22))) (l22 : K.lookup f22 = some ⟨oc22, od22, .func (PySem.W.fnOf "ones" "ones" (defArgs sOnes) (defBody sOnes) (defScope sOnes) .none kV22 dc22 pm22 an22 cd22 ct22), sl22⟩) (c22 : PySem.W.codeIn K cd22 "ones" = true) (k22 : PySem.W.keepIn K (.ref f22) = true)
    (a23 : PySem.W.nsIn K mainGlobals "_law_take" = some (some (.ref f23))) (l23 : K.lookup f23 = some ⟨oc23, od23, .func (PySem.W.fnOf "_law_take" "_law_take" (defArgs sTake) (defBody sTake) (defScope sTake) .none kV23 dc23 pm23 an23 cd23 ct23), sl23⟩) (c23 : PySem.W.codeIn K cd23 "_law_take" = true) (k23 : PySem.W.keepIn K (.ref f23) = true)
    (a24 : PySem.W.nsIn K mainGlobals "_law_names" = some (some (.ref f24))) (l24 : K.lookup f24 = some ⟨oc24, od24, .func (PySem.W.fnOf "_law_names" "_law_names" (defArgs sNames) (defBody sNames) (defScope sNames) .none kV24 dc24 pm24 an24 cd24 ct24), sl24⟩) (c24 : PySem.W.codeIn K cd24 "_law_names" = true) (k24 : PySem.W.keepIn K (.ref f24) = true)
    (a25 : PySem.W.nsIn K mainGlobals "_law_ties" = some (some (.ref f25))) (l25 : K.lookup f25 = some ⟨oc25, od25, .func (PySem.W.fnOf "_law_ties" "_law_ties" (defArgs sTies) (defBody sTies) (defScope sTies) .none kV25 dc25 pm25 an25 cd25 ct25), sl25⟩) (c25 : PySem.W.codeIn K cd25 "_law_ties" = true) (k25 : PySem.W.keepIn K (.ref f25) = true)
    (a26 : PySem.W.nsIn K mainGlobals "_law_built" = some (some (.ref f26))) (l26 : K.lookup f26 = some ⟨oc26, od26, .func (PySem.W.fnOf "_law_built" "_law_built" (defArgs sBuilt) (defBody sBuilt) (defScope sBuilt) .none kV26 dc26 pm26 an26 cd26 ct26), sl26⟩) (c26 : PySem.W.codeIn K cd26 "_law_built" = true) (k26 : PySem.W.keepIn K (.ref f26) = true)
    (a27 : PySem.W.nsIn K mainGlobals "_law_web" = some (some (.ref f27))) (l27 : K.lookup f27 = some ⟨oc27, od27, .func (PySem.W.fnOf "_law_web" "_law_web" (defArgs sWeb) (defBody sWeb) (defScope sWeb) .none kV27 dc27 pm27 an27 cd27 ct27), sl27⟩) (c27 : PySem.W.codeIn K cd27 "_law_web" = true) (k27 : PySem.W.keepIn K (.ref f27) = true)
    (a28 : PySem.W.nsIn K mainGlobals "_law_layers" = some (some (.ref f28))) (l28 : K.lookup f28 = some ⟨oc28, od28, .func (PySem.W.fnOf "_law_layers" "_law_layers" (defArgs sLLayers) (defBody sLLayers) (defScope sLLayers) .none kV28 dc28 pm28 an28 cd28 ct28), sl28⟩) (c28 : PySem.W.codeIn K cd28 "_law_layers" = true) (k28 : PySem.W.keepIn K (.ref f28) = true)
    (a29 : PySem.W.nsIn K mainGlobals "law" = some (some (.ref f29))) (l29 : K.lookup f29 = some ⟨oc29, od29, .func (PySem.W.fnOf "law" "law" (defArgs sLaw) (defBody sLaw) (defScope sLaw) .none kV29 dc29 pm29 an29 cd29 ct29), sl29⟩) (c29 : PySem.W.codeIn K cd29 "law" = true) (k29 : PySem.W.keepIn K (.ref f29) = true)
    (z1 : PySem.W.nsIn K mainGlobals "len" = some none) (z2 : PySem.W.nsIn K mainGlobals "range" = some none) (z3 : PySem.W.nsIn K mainGlobals "abs" = some none) (z4 : PySem.W.nsIn K mainGlobals "all" = some none) (z5 : PySem.W.nsIn K mainGlobals "repr" = some none) (z6 : PySem.W.nsIn K mainGlobals "isinstance" = some none) (z7 : PySem.W.nsIn K mainGlobals "str" = some none) (z8 : PySem.W.nsIn K mainGlobals "int" = some none) (z9 : PySem.W.nsIn K mainGlobals "bool" = some none) (z10 : PySem.W.nsIn K mainGlobals "enumerate" = some none) (z11 : PySem.W.nsIn K mainGlobals "list" = some none) (z12 : PySem.W.nsIn K mainGlobals "tuple" = some none) (z13 : PySem.W.nsIn K mainGlobals "dict" = some none) (z14 : PySem.W.nsIn K mainGlobals "min" = some none) (z15 : PySem.W.nsIn K mainGlobals "max" = some none) (z16 : PySem.W.nsIn K mainGlobals "zip" = some none)
    {c Pt : Addr} {o2 : Obj} {ws : Array Value} {file : Str} {tf tg tt : Tok} {flags text : Int} {inF : Bool} (eZ : cd18 = .ref c) (lZ : K.lookup c = some o2) (qZ1 : o2.cls = .type "code") (qZ2 : o2.data = .fields ws) (qZ3 : ws[11]? = some (.ref Pt)) (qZ4 : ws.getD 11 .none = .ref Pt) (qZ5 : ws.getD 18 .none = .str file tf) (qZ6 : ws.getD 7 .none = .int flags tg) (qZ7 : ws.getD 9 .none = .bool inF) (qZ8 : ws.getD 10 .none = .int text tt) (qZ9 : c ≠ Pt)
    : ∃ fd : FuncData, (∀ (s : Shared) (v : Value), BindsTo s fd ⟨[v], []⟩ [("_law_script", v)]) ∧ ∀ base : Heap, K.In base → base.Ns mainGlobals mg → base.BuiltinsAt mg Pt → FnOk l.prog w K mg base CX0 12 fa fd ["_law_script"] (spLaw Pt K) := by
  have e := hfa.symm.trans (PySem.W.mg_of X G a29)
  cases e
  have B : Blt mg := ⟨PySem.W.mg_none_of X G z1, PySem.W.mg_none_of X G z2, PySem.W.mg_none_of X G z3, PySem.W.mg_none_of X G z4, PySem.W.mg_none_of X G z5, PySem.W.mg_none_of X G z6, PySem.W.mg_none_of X G z7, PySem.W.mg_none_of X G z8, PySem.W.mg_none_of X G z9, PySem.W.mg_none_of X G z10, PySem.W.mg_none_of X G z11, PySem.W.mg_none_of X G z12, PySem.W.mg_none_of X G z13, PySem.W.mg_none_of X G z14, PySem.W.mg_none_of X G z15⟩
  have Zzip := PySem.W.mg_none_of X G z16
  have F1 := fun_mk (st := sIsWhole) l1 c1 k1
  have F2 := fun_mk (st := sNexts) l2 c2 k2
  have F3 := fun_mk (st := sPriors) l3 c3 k3
  have F4 := fun_mk (st := sPlaces) l4 c4 k4
  have F5 := fun_mk (st := sNextsAll) l5 c5 k5
  have F6 := fun_mk (st := sPriorsAll) l6 c6 k6
  have F7 := fun_mk (st := sSteps) l7 c7 k7
  have F8 := fun_mk (st := sRingBy) l8 c8 k8
  have F9 := fun_mk (st := sRingOf) l9 c9 k9
  have F10 := fun_mk (st := sRefuse) l10 c10 k10
  have F11 := fun_mk (st := sAnew) l11 c11 k11
  have F12 := fun_mk (st := sIsDue) l12 c12 k12
  have F13 := fun_mk (st := sDeepest) l13 c13 k13
  have F14 := fun_mk (st := sWeigh) l14 c14 k14
  have F15 := fun_mk (st := sWholes) l15 c15 k15
  have F16 := fun_mk (st := sByPl) l16 c16 k16
  have F17 := fun_mk (st := sDepBy) l17 c17 k17
  have F18 := fun_mk (st := sDeepA) l18 c18 k18
  have F19 := fun_mk (st := sWayB) l19 c19 k19
  have F20 := fun_mk (st := sWorth) l20 c20 k20
  have F21 := fun_mk (st := sLongest) l21 c21 k21
  have F22 := fun_mk (st := sOnes) l22 c22 k22
  have F23 := fun_mk (st := sTake) l23 c23 k23
  have F24 := fun_mk (st := sNames) l24 c24 k24
  have F25 := fun_mk (st := sTies) l25 c25 k25
  have F26 := fun_mk (st := sBuilt) l26 c26 k26
  have F27 := fun_mk (st := sWeb) l27 c27 k27
  have F28 := fun_mk (st := sLLayers) l28 c28 k28
  have F29 := fun_mk (st := sLaw) l29 c29 k29
  have b1 := F1.binds (ps := ["thing"]) fun _ _ _ _ _ _ us hl => by obtain ⟨_, rfl⟩ := ar1 hl; rfl
  have b2 := F2.binds (ps := ["web", "one"]) fun _ _ _ _ _ _ us hl => by obtain ⟨_, _, rfl⟩ := ar2 hl; rfl
  have b3 := F3.binds (ps := ["web", "one"]) fun _ _ _ _ _ _ us hl => by obtain ⟨_, _, rfl⟩ := ar2 hl; rfl
  have b4 := F4.binds (ps := ["things"]) fun _ _ _ _ _ _ us hl => by obtain ⟨_, rfl⟩ := ar1 hl; rfl
  have b5 := F5.binds (ps := ["web"]) fun _ _ _ _ _ _ us hl => by obtain ⟨_, rfl⟩ := ar1 hl; rfl
  have b6 := F6.binds (ps := ["web"]) fun _ _ _ _ _ _ us hl => by obtain ⟨_, rfl⟩ := ar1 hl; rfl
  have b7 := F7.binds (ps := ["table", "starts"]) fun _ _ _ _ _ _ us hl => by obtain ⟨_, _, rfl⟩ := ar2 hl; rfl
  have b8 := F8.binds (ps := ["web", "one", "other"]) fun _ _ _ _ _ _ us hl => by obtain ⟨_, _, _, rfl⟩ := ar3 hl; rfl
  have b9 := F9.binds (ps := ["web"]) fun _ _ _ _ _ _ us hl => by obtain ⟨_, rfl⟩ := ar1 hl; rfl
  have b10 := F10.binds (ps := ["web"]) fun _ _ _ _ _ _ us hl => by obtain ⟨_, rfl⟩ := ar1 hl; rfl
  have b11 := F11.binds (ps := ["web"]) fun _ _ _ _ _ _ us hl => by obtain ⟨_, rfl⟩ := ar1 hl; rfl
  have b12 := F12.binds (ps := ["thing", "table", "told"]) fun _ _ _ _ _ _ us hl => by obtain ⟨_, _, _, rfl⟩ := ar3 hl; rfl
  have b13 := F13.binds (ps := ["web", "weights"]) fun _ _ _ _ _ _ us hl => by obtain ⟨_, _, rfl⟩ := ar2 hl; rfl
  have b14 := F14.binds (ps := ["web", "weights"]) fun _ _ _ _ _ _ us hl => by obtain ⟨_, _, rfl⟩ := ar2 hl; rfl
  have b15 := F15.binds (ps := ["web", "numbers"]) fun _ _ _ _ _ _ us hl => by obtain ⟨_, _, rfl⟩ := ar2 hl; rfl
  have b16 := F16.binds (ps := ["web", "found"]) fun _ _ _ _ _ _ us hl => by obtain ⟨_, _, rfl⟩ := ar2 hl; rfl
  have b17 := F17.binds (ps := ["web", "weighed"]) fun _ _ _ _ _ _ us hl => by obtain ⟨_, _, rfl⟩ := ar2 hl; rfl
  have b18 := F18.binds (ps := ["things", "found"]) fun _ _ _ _ _ _ us hl => by obtain ⟨_, _, rfl⟩ := ar2 hl; rfl
  have b19 := F19.binds (ps := ["web", "found", "last"]) fun _ _ _ _ _ _ us hl => by obtain ⟨_, _, _, rfl⟩ := ar3 hl; rfl
  have b20 := F20.binds (ps := ["web", "found", "thing"]) fun _ _ _ _ _ _ us hl => by obtain ⟨_, _, _, rfl⟩ := ar3 hl; rfl
  have b21 := F21.binds (ps := ["web"]) fun _ _ _ _ _ _ us hl => by obtain ⟨_, rfl⟩ := ar1 hl; rfl
  have b22 := F22.binds (ps := ["web"]) fun _ _ _ _ _ _ us hl => by obtain ⟨_, rfl⟩ := ar1 hl; rfl
  have b23 := F23.binds (ps := ["_law_pen", "_law_many"]) fun _ _ _ _ _ _ us hl => by obtain ⟨_, _, rfl⟩ := ar2 hl; rfl
  have b24 := F24.binds (ps := ["_law_pen", "_law_many"]) fun _ _ _ _ _ _ us hl => by obtain ⟨_, _, rfl⟩ := ar2 hl; rfl
  have b25 := F25.binds (ps := ["_law_pen", "_law_size", "_law_count"]) fun _ _ _ _ _ _ us hl => by obtain ⟨_, _, _, rfl⟩ := ar3 hl; rfl
  have b26 := F26.binds (ps := ["_law_pen"]) fun _ _ _ _ _ _ us hl => by obtain ⟨_, rfl⟩ := ar1 hl; rfl
  have b27 := F27.binds (ps := ["_law_names_here", "_law_ties_here"]) fun _ _ _ _ _ _ us hl => by obtain ⟨_, _, rfl⟩ := ar2 hl; rfl
  have b28 := F28.binds (ps := ["_law_size", "_law_ties_here"]) fun _ _ _ _ _ _ us hl => by obtain ⟨_, _, rfl⟩ := ar2 hl; rfl
  refine ⟨PySem.W.fnOf "law" "law" (defArgs sLaw) (defBody sLaw) (defScope sLaw) .none kV29 dc29 pm29 an29 cd29 ct29, fun s v => .of_eq rfl, fun base XB GB hBm => ?_⟩
  have hC := eZ
  have hCd := fun (h : Heap) (XH : K.In h) => hd_mk lZ qZ1 qZ2 qZ3 qZ4 qZ5 qZ6 qZ7 qZ8 qZ9 XH
  have c__law_take : Cal l.prog w K mg base 1 "_law_take" ["_law_pen", "_law_many"] (spDraw K) := ⟨_, _, ok_take F23 B, PySem.W.mg_of X G a23, k23, b23⟩
  have c__law_names : Cal l.prog w K mg base 2 "_law_names" ["_law_pen", "_law_many"] (spNames K) := ⟨_, _, ok_names F24 B c__law_take, PySem.W.mg_of X G a24, k24, b24⟩
  have c__law_ties : Cal l.prog w K mg base 2 "_law_ties" ["_law_pen", "_law_size", "_law_count"] (spTies K) := ⟨_, _, ok_ties F25 B c__law_take, PySem.W.mg_of X G a25, k25, b25⟩
  have c__law_built : Cal l.prog w K mg base 3 "_law_built" ["_law_pen"] (spBuilt K) := ⟨_, _, ok_built F26 B c__law_take c__law_names c__law_ties, PySem.W.mg_of X G a26, k26, b26⟩
  have c__law_web : Cal l.prog w K mg base 1 "_law_web" ["_law_names_here", "_law_ties_here"] spWeb := ⟨_, _, ok_web F27 B, PySem.W.mg_of X G a27, k27, b27⟩
  have c_places_of : Cal l.prog w K mg base 1 "places_of" ["things"] spPlacesX := ⟨_, _, ok_placesX F4 B, PySem.W.mg_of X G a4, k4, b4⟩
  have c_places_ofN : Cal l.prog w K mg base 1 "places_of" ["things"] spPlaces := ⟨_, _, (ok_placesX F4 B).imp placesX_of, PySem.W.mg_of X G a4, k4, b4⟩
  have c_nexts : Cal l.prog w K mg base 2 "nexts" ["web", "one"] (spNexts false) := ⟨_, _, ok_nexts F2 B c_places_ofN, PySem.W.mg_of X G a2, k2, b2⟩
  have c_priors : Cal l.prog w K mg base 2 "priors" ["web", "one"] (spNexts true) := ⟨_, _, ok_priors F3 B c_places_ofN, PySem.W.mg_of X G a3, k3, b3⟩
  have c_nexts_of_all : Cal l.prog w K mg base 3 "nexts_of_all" ["web"] (spNextsAll false) := ⟨_, _, ok_nexts_of_all F5 B c_nexts, PySem.W.mg_of X G a5, k5, b5⟩
  have c_steps_from : Cal l.prog w K mg base 1 "steps_from" ["table", "starts"] spStepsL := ⟨_, _, ok_steps F7 B, PySem.W.mg_of X G a7, k7, b7⟩
  have c_ring_by : Cal l.prog w K mg base 5 "ring_by" ["web", "one", "other"] spNo := ⟨_, _, ok_no, PySem.W.mg_of X G a8, k8, b8⟩
  have c_ring_of : Cal l.prog w K mg base 6 "ring_of" ["web"] spRingOf := ⟨_, _, ok_ring_of F9 B c_steps_from c_nexts_of_all c_ring_by, PySem.W.mg_of X G a9, k9, b9⟩
  have c_refuse_ring : Cal l.prog w K mg base 7 "refuse_ring" ["web"] spRefuse := ⟨_, _, ok_refuse F10 B c_ring_of, PySem.W.mg_of X G a10, k10, b10⟩
  have c_priors_of_allK : Cal l.prog w K mg base 3 "priors_of_all" ["web"] spPriK := ⟨_, _, ok_priK F6 B c_priors, PySem.W.mg_of X G a6, k6, b6⟩
  have c_is_due : Cal l.prog w K mg base 1 "is_due" ["thing", "table", "told"] spIsDue := ⟨_, _, ok_isdue F12 B, PySem.W.mg_of X G a12, k12, b12⟩
  have c_order_anew : Cal l.prog w K mg base 8 "order_anew" ["web"] spAnew := ⟨_, _, ok_anew F11 B c_refuse_ring c_priors_of_allK c_is_due, PySem.W.mg_of X G a11, k11, b11⟩
  have c_is_whole : Cal l.prog w K mg base 1 "is_whole" ["thing"] spWhole := ⟨_, _, ok_whole F1 B, PySem.W.mg_of X G a1, k1, b1⟩
  have c_are_wholes : Cal l.prog w K mg base 2 "are_wholes" ["web", "numbers"] spWholes := ⟨_, _, ok_wholes F15 B c_is_whole, PySem.W.mg_of X G a15, k15, b15⟩
  have c_weights_by_thing : Cal l.prog w K mg base 8 "weights_by_thing" ["web", "weights"] spWeigh := ⟨_, _, ok_weigh F14 B Zzip c_refuse_ring c_are_wholes, PySem.W.mg_of X G a14, k14, b14⟩
  have c_by_places : Cal l.prog w K mg base 1 "by_places" ["web", "found"] spByPl := ⟨_, _, ok_bypl F16 B, PySem.W.mg_of X G a16, k16, b16⟩
  have c_depths_by_thing : Cal l.prog w K mg base 9 "depths_by_thing" ["web", "weighed"] spDepBy := ⟨_, _, ok_depby F17 B c_priors_of_allK c_order_anew, PySem.W.mg_of X G a17, k17, b17⟩
  have c_ones : Cal l.prog w K mg base 1 "ones" ["web"] spOnes := ⟨_, _, ok_ones F22 B, PySem.W.mg_of X G a22, k22, b22⟩
  have c__law_layers : Cal l.prog w K mg base 1 "_law_layers" ["_law_size", "_law_ties_here"] spLLay := ⟨_, _, ok_llay F28 B, PySem.W.mg_of X G a28, k28, b28⟩
  have c_deepest_among : Cal l.prog w K mg base 3 "deepest_among" ["things", "found"] (spDeepA Pt) := ⟨_, _, ok_deepA F18 hC hCd hBm B, PySem.W.mg_of X G a18, k18, b18⟩
  have c_worth_taking : Cal l.prog w K mg base 3 "worth_taking" ["web", "found", "thing"] spWorth := ⟨_, _, ok_worth F20 B c_priors, PySem.W.mg_of X G a20, k20, b20⟩
  have c_way_back : Cal l.prog w K mg base 4 "way_back" ["web", "found", "last"] (spWayB Pt) := ⟨_, _, ok_wayB F19 B c_deepest_among c_worth_taking, PySem.W.mg_of X G a19, k19, b19⟩
  have c_deepest : Cal l.prog w K mg base 10 "deepest" ["web", "weights"] (spDeepest Pt) := ⟨_, _, ok_deepest F13 B c_weights_by_thing c_depths_by_thing c_by_places c_deepest_among c_way_back, PySem.W.mg_of X G a13, k13, b13⟩
  have c_longest : Cal l.prog w K mg base 11 "longest" ["web"] (spLongest Pt) := ⟨_, _, ok_longest F21 B c_deepest c_ones, PySem.W.mg_of X G a21, k21, b21⟩
  exact ok_law F29 B Zzip c__law_built c__law_web c__law_layers c_longest
theorem walk {l : PySem.W.OpenLaw} {q : Program} {loose : List Str} {XP : (Str → Option Value) → Heap → Prop} {YP : World → Heap → Prop} {d : DefRec} {K : Params → PySem.W.Frag} {Pt : Addr} (hn : l.most = some 63) (hdf : d.params.defaults = [])
    (hY : ∀ (w : World) (h : Heap), YP w h → (K w.params).In h) (hT : ∀ (w : World) (h : Heap), YP w h → h.get? Pt = some (PySem.W.tabObj #[])) (hKP : ∀ w : World, (K w.params).lookup Pt = none) (hC : ∀ (w : World) (h : Heap), (K w.params).In h → ∃ c, PySem.W.CodeHd h c Pt)
    (F : ∀ (w : World) (mg : Str → Option Value) (fa : Addr) (h : Heap), (K w.params).In h → h.Ns mainGlobals mg → mg d.name = some (.ref fa) →
      ∃ fd : FuncData, (∀ (s : Shared) (u : Value), BindsTo s fd ⟨[u], []⟩ [("_law_script", u)]) ∧ ∀ base : Heap, (K w.params).In base → base.Ns mainGlobals mg → base.BuiltinsAt mg Pt → FnOk l.prog w (K w.params) mg base CX0 12 fa fd ["_law_script"] (spLaw Pt (K w.params))) :
    PySem.W.WalkO q loose XP YP l.row.toRowW d [] (fun f vs => PySem.call f vs) := by
  refine Att.attach_call hn hdf fun w s₀ s₁ mg mb fa o pm cd doc a vs ns G Y ho hd hcd hmg hobj hints hlen hg => ?_
  have KX := hY w _ Y
  obtain ⟨fd, hb, hF⟩ := F w mg fa _ KX G.T.g hmg
  obtain ⟨c, hc⟩ := hC w _ KX
  exact law_callT KX G.T.g G.T.b G.T.builtins G.T.nolimit hg G.T.bmain (hT w _ Y) (hKP w) hc hobj hints (Nat.le_trans hlen (by decide)) ⟨rfl, by decide, by decide, rfl⟩ hF hb (fun H hO hS => ⟨a, ns, rfl, hS, hO, fun _ => rfl⟩) fun H e s' z => z
end
end K22
open PySem PySem.W PyProof.Rows
set_option maxRecDepth 100000 in
set_option maxHeartbeats 0 in
theorem PySem.Challenge.cw_orderkeep_k22_longest_ways_holds : PySem.Challenge.rw_orderkeep_k22_longest_ways.Holds := by
  w_on; o_law; k_head; (case hw => w_witness2)
  k_fill
  refine K22.walk (l := PySem.Challenge.rw_orderkeep_k22_longest_ways) rfl rfl (fun w h Y => Y.1) (fun w h Y => Y.2 _ (.head _)) ?KP ?HC ?F
  case KP => exact fun w => rfl
  case HC =>
    intro w h KX
    refine' K22.hd_ex KX ?a1 ?l1 ?eZ ?lZ ?qZ1 ?qZ2 ?qZ3 ?qZ4 ?qZ5 ?qZ6 ?qZ7 ?qZ8 ?qZ9
    (case a1 => k_is)
    (case l1 => k_is)
    (case eZ => exact rfl)
    (case lZ => k_is)
    (case qZ1 => exact rfl)
    (case qZ2 => exact rfl)
    (case qZ3 => exact rfl)
    (case qZ4 => exact rfl)
    (case qZ5 => exact rfl)
    (case qZ6 => exact rfl)
    (case qZ7 => exact rfl)
    (case qZ8 => exact rfl)
    (case qZ9 => decide)
  case F =>
    intro w mg fa h KX G hmg
    refine' K22.all_mk KX G hmg ?a1 ?l1 ?c1 ?k1 ?a2 ?l2 ?c2 ?k2 ?a3 ?l3 ?c3 ?k3 ?a4 ?l4 ?c4 ?k4 ?a5 ?l5 ?c5 ?k5 ?a6 ?l6 ?c6 ?k6 ?a7 ?l7 ?c7 ?k7 ?a8 ?l8 ?c8 ?k8 ?a9 ?l9 ?c9 ?k9 ?a10 ?l10 ?c10 ?k10 ?a11 ?l11 ?c11 ?k11 ?a12 ?l12 ?c12 ?k12 ?a13 ?l13 ?c13 ?k13 ?a14 ?l14 ?c14 ?k14 ?a15 ?l15 ?c15 ?k15 ?a16 ?l16 ?c16 ?k16 ?a17 ?l17 ?c17 ?k17 ?a18 ?l18 ?c18 ?k18 ?a19 ?l19 ?c19 ?k19 ?a20 ?l20 ?c20 ?k20 ?a21 ?l21 ?c21 ?k21 ?a22 ?l22 ?c22 ?k22 ?a23 ?l23 ?c23 ?k23 ?a24 ?l24 ?c24 ?k24 ?a25 ?l25 ?c25 ?k25 ?a26 ?l26 ?c26 ?k26 ?a27 ?l27 ?c27 ?k27 ?a28 ?l28 ?c28 ?k28 ?a29 ?l29 ?c29 ?k29 ?z1 ?z2 ?z3 ?z4 ?z5 ?z6 ?z7 ?z8 ?z9 ?z10 ?z11 ?z12 ?z13 ?z14 ?z15 ?z16 ?eZ ?lZ ?qZ1 ?qZ2 ?qZ3 ?qZ4 ?qZ5 ?qZ6 ?qZ7 ?qZ8 ?qZ9
    (case a1 => k_is)
    (case l1 => k_is)
    (case c1 => k_is)
    (case k1 => k_is)
    (case a2 => k_is)
    (case l2 => k_is)
    (case c2 => k_is)
    (case k2 => k_is)
    (case a3 => k_is)
    (case l3 => k_is)
    (case c3 => k_is)
    (case k3 => k_is)
    (case a4 => k_is)
    (case l4 => k_is)
    (case c4 => k_is)
    (case k4 => k_is)
    (case a5 => k_is)
    (case l5 => k_is)
    (case c5 => k_is)
    (case k5 => k_is)
    (case a6 => k_is)
    (case l6 => k_is)
    (case c6 => k_is)
    (case k6 => k_is)
    (case a7 => k_is)
    (case l7 => k_is)
    (case c7 => k_is)
    (case k7 => k_is)
    (case a8 => k_is)
    (case l8 => k_is)
    (case c8 => k_is)
    (case k8 => k_is)
    (case a9 => k_is)
    (case l9 => k_is)
    (case c9 => k_is)
    (case k9 => k_is)
    (case a10 => k_is)
    (case l10 => k_is)
    (case c10 => k_is)
    (case k10 => k_is)
    (case a11 => k_is)
    (case l11 => k_is)
    (case c11 => k_is)
    (case k11 => k_is)
    (case a12 => k_is)
    (case l12 => k_is)
    (case c12 => k_is)
    (case k12 => k_is)
    (case a13 => k_is)
    (case l13 => k_is)
    (case c13 => k_is)
    (case k13 => k_is)
    (case a14 => k_is)
    (case l14 => k_is)
    (case c14 => k_is)
    (case k14 => k_is)
    (case a15 => k_is)
    (case l15 => k_is)
    (case c15 => k_is)
    (case k15 => k_is)
    (case a16 => k_is)
    (case l16 => k_is)
    (case c16 => k_is)
    (case k16 => k_is)
    (case a17 => k_is)
    (case l17 => k_is)
    (case c17 => k_is)
    (case k17 => k_is)
    (case a18 => k_is)
    (case l18 => k_is)
    (case c18 => k_is)
    (case k18 => k_is)
    (case a19 => k_is)
    (case l19 => k_is)
    (case c19 => k_is)
    (case k19 => k_is)
    (case a20 => k_is)
    (case l20 => k_is)
    (case c20 => k_is)
    (case k20 => k_is)
    (case a21 => k_is)
    (case l21 => k_is)
    (case c21 => k_is)
    (case k21 => k_is)
    (case a22 => k_is)
    (case l22 => k_is)
    (case c22 => k_is)
    (case k22 => k_is)
    (case a23 => k_is)
    (case l23 => k_is)
    (case c23 => k_is)
    (case k23 => k_is)
    (case a24 => k_is)
    (case l24 => k_is)
    (case c24 => k_is)
    (case k24 => k_is)
    (case a25 => k_is)
    (case l25 => k_is)
    (case c25 => k_is)
    (case k25 => k_is)
    (case a26 => k_is)
    (case l26 => k_is)
    (case c26 => k_is)
    (case k26 => k_is)
    (case a27 => k_is)
    (case l27 => k_is)
    (case c27 => k_is)
    (case k27 => k_is)
    (case a28 => k_is)
    (case l28 => k_is)
    (case c28 => k_is)
    (case k28 => k_is)
    (case a29 => k_is)
    (case l29 => k_is)
    (case c29 => k_is)
    (case k29 => k_is)
    (case z1 => k_is)
    (case z2 => k_is)
    (case z3 => k_is)
    (case z4 => k_is)
    (case z5 => k_is)
    (case z6 => k_is)
    (case z7 => k_is)
    (case z8 => k_is)
    (case z9 => k_is)
    (case z10 => k_is)
    (case z11 => k_is)
    (case z12 => k_is)
    (case z13 => k_is)
    (case z14 => k_is)
    (case z15 => k_is)
    (case z16 => k_is)
    (case eZ => exact rfl)
    (case lZ => k_is)
    (case qZ1 => exact rfl)
    (case qZ2 => exact rfl)
    (case qZ3 => exact rfl)
    (case qZ4 => exact rfl)
    (case qZ5 => exact rfl)
    (case qZ6 => exact rfl)
    (case qZ7 => exact rfl)
    (case qZ8 => exact rfl)
    (case qZ9 => decide)