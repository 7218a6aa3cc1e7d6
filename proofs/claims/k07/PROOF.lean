import PyProof.Rows.All
import Wide.All
import OpenK.AllK
import Wide.FinOn
import Lean
import PyProof.EqAt
import PyProof.EqKinds
import PyProof.TupleCall
import PyProof.Rows.SumAny
import PyProof.StationsW
import PyProof.ExcClass3
import OpenK.KOwn
import KE.KTryDeep
import KE.KIsAll
import PyProof.ExcAttrAll.ValueError
import PyProof.ExcBaseAll.ValueError
import PyProof.InstStoreFacts
import PyProof.RulesTry
import PyProof.Rows.SortStr
import PyProof.TupleOfSeq
import KE.KxWritten
import PyProof.Conv_bool
import KE.KStrOpen
import PyProof.AttrMissHeap
import KE.KDictOf
import PyProof.StrOps2
import PyProof.DictWalks
import KE.KDictList
import PyProof.Rows.ZipGen
import PySem.Challenge.RW_orderkeep_k07_whole_bent_texts_of_webs
set_option Elab.async false
set_option linter.all false
set_option maxRecDepth 100000
namespace L2
open PySem PySem.Spec PyProof.Rows
noncomputable abbrev Key := Sum Int Str
noncomputable def keyIs : Key → Value → Bool
  | .inl k, v => Value.isInt k v
  | .inr x, v => Value.isStrOf x v
noncomputable def keyH (w : World) : Key → Int
  | .inl k => hashInt k
  | .inr x => hashStr w x
theorem keyIs_shape : ∀ {k : Key} {v : Value}, keyIs k v = true → (∃ i t, k = Sum.inl i ∧ v = Value.int i t) ∨ (∃ x t, k = Sum.inr x ∧ v = Value.str x t)
  | .inl i, v, h => by
    obtain ⟨t, e⟩ := Value.isInt_shape (k := i) (v := v) h
    exact .inl ⟨i, t, rfl, e⟩
  | .inr x, v, h => by
    obtain ⟨t, e⟩ := Value.isStrOf_shape (x := x) (v := v) h
    exact .inr ⟨x, t, rfl, e⟩
theorem keyIs_int (i : Int) (t : Tok) : keyIs (.inl i) (.int i t) = true := by simp [keyIs, Value.isInt]
theorem keyIs_str (x : Str) (t : Tok) : keyIs (.inr x) (.str x t) = true := by simp [keyIs, Value.isStrOf]
theorem key_ll (a b : Int) : decide ((Sum.inl a : Key) = Sum.inl b) = (a == b) := by
  by_cases e : a = b
  · subst e; simp
  · have h : ¬ (Sum.inl a : Key) = Sum.inl b := fun q => e (Sum.inl.inj q)
    rw [decide_eq_false h]
    exact (beq_eq_false_iff_ne.mpr e).symm
theorem key_rr (a b : Str) : decide ((Sum.inr a : Key) = Sum.inr b) = decide (a = b) := by
  by_cases e : a = b
  · subst e; simp
  · have h : ¬ (Sum.inr a : Key) = Sum.inr b := fun q => e (Sum.inr.inj q)
    rw [decide_eq_false h, decide_eq_false e]
theorem key_lr (a : Int) (b : Str) : decide ((Sum.inl a : Key) = Sum.inr b) = false := decide_eq_false (fun q => nomatch q)
theorem key_rl (a : Str) (b : Int) : decide ((Sum.inr a : Key) = Sum.inl b) = false := decide_eq_false (fun q => nomatch q)
noncomputable def mixKind (prog : Program) (w : World) : PySem.KeyKind prog w Key where
  is := keyIs
  hash := keyH w
  inj := fun v a b ha hb => by
    rcases keyIs_shape ha with ⟨i, t, rfl, rfl⟩ | ⟨x, t, rfl, rfl⟩
    · rcases keyIs_shape hb with ⟨j, u, rfl, e⟩ | ⟨y, u, rfl, e⟩
      · injection e with e1 _; rw [e1]
      · exact nomatch e
    · rcases keyIs_shape hb with ⟨j, u, rfl, e⟩ | ⟨y, u, rfl, e⟩
      · exact nomatch e
      · injection e with e1 _; rw [e1]
  byValue := fun k v h => by
    rcases keyIs_shape h with ⟨i, t, rfl, rfl⟩ | ⟨x, t, rfl, rfl⟩ <;> rfl
  pyHash := fun hv h => by
    rcases keyIs_shape hv with ⟨i, t, rfl, rfl⟩ | ⟨x, t, rfl, rfl⟩
    · exact wpAny_pyHash_int h
    · exact wpAny_pyHash_str h
  eqBool := fun hu hv h => by
    rcases keyIs_shape hu with ⟨i, t, rfl, rfl⟩ | ⟨x, t, rfl, rfl⟩
    · rcases keyIs_shape hv with ⟨j, u, rfl, rfl⟩ | ⟨y, u, rfl, rfl⟩
      · rw [key_ll] at h; exact wpAny_eqBool_int h
      · rw [key_lr] at h; exact SeqAt.EqAt.int_str i t y u _ _ _ _ h
    · rcases keyIs_shape hv with ⟨j, u, rfl, rfl⟩ | ⟨y, u, rfl, rfl⟩
      · rw [key_rl] at h; exact SeqAt.EqAt.str_int x t j u _ _ _ _ h
      · rw [key_rr] at h; exact wpAny_eqBool_str h
  «strs» := fun k x t v h => by
    rcases keyIs_shape h with ⟨i, u, rfl, e⟩ | ⟨y, u, rfl, e⟩
    · exact nomatch e
    · injection e with e1 _
      subst e1
      cases v <;> rfl
theorem mixKind_int (prog : Program) (w : World) (i : Int) (t : Tok) : (mixKind prog w).is (.inl i) (.int i t) = true := keyIs_int i t
theorem mixKind_str (prog : Program) (w : World) (x : Str) (t : Tok) : (mixKind prog w).is (.inr x) (.str x t) = true := keyIs_str x t
end L2
namespace L2
open PySem PySem.Spec PyProof.Rows
inductive V where
  | non | bl (b : Bool) | int (i : Int) | str (x : Str) | byt (b : Array UInt8) | flt (b : UInt64) | ref (a : Addr) | ty (n : String)
  deriving DecidableEq
noncomputable def RelV : V → Value → Prop
  | .non, u => u = Value.none
  | .bl b, u => u = Value.bool b
  | .int i, u => ∃ t, u = Value.int i t
  | .str x, u => ∃ t, u = Value.str x t
  | .byt b, u => ∃ t, u = Value.bytes b t
  | .flt b, u => ∃ t, u = Value.float b t
  | .ref a, u => u = Value.ref a
  | .ty n, u => u = Value.type n
noncomputable abbrev Vals : List V → List Value → Prop := Paired RelV
theorem Vals.length {xs : List V} {us : List Value} (r : Vals xs us) : xs.length = us.length := Paired.length r
theorem Vals.get : ∀ {xs : List V} {us : List Value} {i : Nat} {x : V}, Vals xs us → xs[i]? = some x → ∃ u, us[i]? = some u ∧ RelV x u
  | _, _, _, _, .nil, e => by simp at e
  | _, _, 0, _, .cons r _, e => by simp at e; subst e; exact ⟨_, rfl, r⟩
  | _, _, i + 1, x, .cons _ t, e => by
    obtain ⟨u, h1, h2⟩ := Vals.get (i := i) (x := x) t (by simpa using e)
    exact ⟨u, by simpa using h1, h2⟩
theorem Vals.set {x : V} {u : Value} (r : RelV x u) : ∀ {xs : List V} {us : List Value} (i : Nat), Vals xs us → Vals (xs.set i x) (us.set i u)
  | _, _, _, .nil => .nil
  | _, _, 0, .cons _ t => .cons r t
  | _, _, i + 1, .cons q t => .cons q (Vals.set r i t)
theorem Vals.append : ∀ {xs ys : List V} {us ws : List Value}, Vals xs us → Vals ys ws → Vals (xs ++ ys) (us ++ ws)
  | _, _, _, _, .nil, s => s
  | _, _, _, _, .cons r t, s => .cons r (Vals.append t s)
theorem Vals.take : ∀ {xs : List V} {us : List Value} (n : Nat), Vals xs us → Vals (xs.take n) (us.take n)
  | _, _, 0, _ => .nil
  | _, _, _ + 1, .nil => .nil
  | _, _, n + 1, .cons r t => .cons r (Vals.take n t)
theorem Vals.drop : ∀ {xs : List V} {us : List Value} (n : Nat), Vals xs us → Vals (xs.drop n) (us.drop n)
  | _, _, 0, r => r
  | _, _, _ + 1, .nil => .nil
  | _, _, n + 1, .cons _ t => Vals.drop n t
noncomputable def RelO : Option V → Option Value → Prop
  | some v, some u => RelV v u
  | none, none => True
  | _, _ => False
noncomputable def KV {κ : Type} : List (κ × V) → List (κ × Value) → Prop := Paired fun (p : κ × V) (q : κ × Value) => p.1 = q.1 ∧ RelV p.2 q.2
noncomputable def kV : Key → V
  | .inl i => .int i
  | .inr x => .str x
inductive HO where
  /-- a list -/
  | lst (xs : List V)
  /-- a tuple (never changes) -/
  | tup (xs : List V)
  /-- a dict whose keys are ints and texts; one whose keys are tuples of ints and texts (the empty one is both) -/
  | dK (kvs : List (Key × V)) | dT (kvs : List (List Key × V))
  /-- a set of ints: its members, its size -/
  | set (S : Int → Bool) (n : Nat)
  /-- an instance of the class at C, its dict at dx, its attributes -/
  | ins (C dx : Addr) (fs : List (Str × V))
  /-- the dict of the instance at x -/
  | own (x : Addr)
  /-- the dict of an exception -/
  | xd (fs : List (Str × V))
  /-- a bound method, f of x -/
  | met (f x : Addr)
  /-- a range object lo, lo + 1, .. below hi -/
  | rng (lo hi : Int)
  /-- a thing that is known to the object (the script; a dict while a loop walks it): read, never written while it is so -/
  | frz (o : Obj) (u : HO)
  /-- a code object's table -/
  | tbl (ps : Array Value)
  /-- any other thing, by what is true of its one object (a def of one's own: SetO a S n := HO.ext fun h => ..) -/
  | ext (φ : Heap → Prop)
noncomputable abbrev Hp := Addr → Option HO
noncomputable def upd (H : Hp) (a : Addr) (o : HO) : Hp := fun b => if b = a then some o else H b
theorem upd_same {H : Hp} {a : Addr} {o : HO} : upd H a o a = some o := by unfold upd; rw [if_pos rfl]
theorem upd_ne {H : Hp} {a b : Addr} {o : HO} (h : b ≠ a) : upd H a o b = H b := by unfold upd; rw [if_neg h]
theorem ne_of {H : Hp} {a b : Addr} {o u : HO} (h : H a = some o) (h' : H b = some u) (d : o ≠ u) : a ≠ b := by
  intro e; subst e; rw [h] at h'; exact d (Option.some.inj h')
theorem ne_of_none {H : Hp} {a b : Addr} {o : HO} (h : H a = some o) (h' : H b = none) : a ≠ b := by
  intro e; subst e; rw [h] at h'; cases h'
noncomputable def TupN (h : Heap) (a : Addr) (items : Array Value) : Prop := ∃ o, h.get? a = some o ∧ o.cls = .type "tuple" ∧ ∃ n, o.data = .seq items n ∧ o.dict = none
theorem TupN.tup {h : Heap} {a : Addr} {items : Array Value} (x : TupN h a items) : IsTup h a items := let ⟨o, e, c, n, d, _⟩ := x; ⟨o, e, c, n, d⟩
theorem TupN.new (h : Heap) (items : Array Value) : TupN (h.push { cls := .type "tuple", data := .seq items }) h.objs.size items := ⟨_, Heap.get?_push_size _ rfl, rfl, _, rfl, rfl⟩
section
variable (P : Program) (w : World)
noncomputable def ObjOk (H : Hp) (h : Heap) (a : Addr) : HO → Prop
  | .lst xs => xs.length ≤ sizeLine ∧ ∃ (its : List Value) (n : Nat), Vals xs its ∧ h.get? a = some { cls := .type "list", data := .seq its.toArray n }
  | .tup xs => xs.length ≤ sizeLine ∧ ∃ its : List Value, Vals xs its ∧ TupN h a its.toArray
  | .dK kvs => kvs.length ≤ sizeLine ∧ (a == sysModules) = false ∧ ∃ vs, KV kvs vs ∧ h.DictOf (mixKind P w) a vs
  | .dT kvs => kvs.length ≤ sizeLine ∧ (a == sysModules) = false ∧ ∃ xs : List (List Key × Addr × Value),
      Paired (fun (p : List Key × V) (q : List Key × Addr × Value) => p.1 = q.1 ∧ H q.2.1 = some (.tup (p.1.map kV)) ∧ RelV p.2 q.2.2) kvs xs ∧
      ∃ o es ep, h.get? a = some o ∧ o.ExactDict ∧ o.data = .dict es ep ∧ es.toList = xs.map (entryOfKey (tupleKind (mixKind P w))) ∧ (xs.map (·.1)).Nodup
  | .set S n => h.SetOf (intKind P w) a S n
  | .ins C dx fs => H dx = some (.own a) ∧ fs.length ≤ 1000 ∧ dx ≠ a ∧ h.get? a = some (PySem.W.instObj C dx) ∧
      ∃ mA, h.Ns1 dx mA ∧ (∀ f, RelO (fs.lookup f) (mA f)) ∧ PySem.Within mA (fs.map (·.1))
  | .own _ => ∃ o, h.get? a = some o
  | .xd fs => ∃ mA, h.Ns1 a mA ∧ ∀ f, RelO (fs.lookup f) (mA f)
  | .rng lo hi => ∃ t u v, h.get? a = some { cls := .type "range", data := .fields #[.int lo t, .int hi u, .int 1 v] }
  | .frz o u => h.get? a = some o ∧ ObjOk H h a u
  | .tbl ps => h.get? a = some { cls := .none, data := .fields ps }
  | .met f x => h.get? a = some (PySem.W.methodObj (.ref f) (.ref x))
  | .ext φ => φ h ∧ (∃ o, h.get? a = some o) ∧ ∀ h1 h2 : Heap, φ h1 → (∀ o, h1.get? a = some o → h2.get? a = some o) → φ h2
noncomputable def HOk (H : Hp) (h : Heap) : Prop := ∀ a o, H a = some o → ObjOk P w H h a o
end
section
variable {P : Program} {w : World} {H H' : Hp} {h h' : Heap} {a : Addr} {o : HO}
theorem ObjOk.lt (x : ObjOk P w H h a o) : a < h.objs.size := by
  cases o with
  | lst xs => obtain ⟨_, _, _, _, e⟩ := x; exact Heap.lt_size e
  | tup xs => obtain ⟨_, _, _, p⟩ := x; exact p.tup.lt
  | dK kvs => obtain ⟨_, _, _, _, o, _, _, e, _⟩ := x; exact Heap.lt_size e
  | dT kvs => obtain ⟨_, _, _, _, o, _, _, e, _⟩ := x; exact Heap.lt_size e
  | set S n => obtain ⟨o, _, _, _, e, _⟩ := x; exact Heap.lt_size e
  | ins C dx fs => obtain ⟨_, _, _, e, _⟩ := x; exact Heap.lt_size e
  | own y => obtain ⟨_, e⟩ := x; exact Heap.lt_size e
  | xd fs => obtain ⟨_, ⟨_, _, _, e, _⟩, _⟩ := x; exact Heap.lt_size e
  | rng lo hi => obtain ⟨_, _, _, e⟩ := x; exact Heap.lt_size e
  | frz ob u => obtain ⟨e, _⟩ := x; exact Heap.lt_size e
  | tbl ps => exact Heap.lt_size (show h.get? a = some _ from x)
  | met f y => exact Heap.lt_size (show h.get? a = some _ from x)
  | ext φ => obtain ⟨_, ⟨_, e⟩, _⟩ := x; exact Heap.lt_size e
theorem Paired.mapP {α β : Type} {F G : α → β → Prop} : ∀ {l₁ : List α} {l₂ : List β}, Paired F l₁ l₂ → (∀ a b, F a b → G a b) → Paired G l₁ l₂
  | _, _, .nil, _ => .nil
  | _, _, .cons r t, f => .cons (f _ _ r) (Paired.mapP t f)
theorem ObjOk.stay (x : ObjOk P w H h a o) (k : ∀ b u, (b = a ∨ H b = some (.own a)) → h.get? b = some u → h'.get? b = some u)
    (ho : ∀ b, H b = some (.own a) → H' b = some (.own a)) (ht : ∀ b xs, H b = some (.tup xs) → H' b = some (.tup xs)) : ObjOk P w H' h' a o := by
  induction o with
  | lst xs => obtain ⟨z, its, n, r, e⟩ := x; exact ⟨z, its, n, r, k _ _ (.inl rfl) e⟩
  | tup xs => obtain ⟨z, its, r, ob, e, c⟩ := x; exact ⟨z, its, r, ob, k _ _ (.inl rfl) e, c⟩
  | dK kvs => obtain ⟨z, y, vs, r, ob, es, ep, e, c⟩ := x; exact ⟨z, y, vs, r, ob, es, ep, k _ _ (.inl rfl) e, c⟩
  | dT kvs =>
    obtain ⟨z, y, xs, r, ob, es, ep, e, c⟩ := x
    exact ⟨z, y, xs, Paired.mapP r fun p q z => ⟨z.1, ht _ _ z.2.1, z.2.2⟩, ob, es, ep, k _ _ (.inl rfl) e, c⟩
  | set S n => obtain ⟨ob, es, ep, t, e, c⟩ := x; exact ⟨ob, es, ep, t, k _ _ (.inl rfl) e, c⟩
  | ins C dx fs =>
    obtain ⟨d, z, ne, e, mA, ⟨od, es, ep, e2, c⟩, r⟩ := x
    exact ⟨ho _ d, z, ne, k _ _ (.inl rfl) e, mA, ⟨od, es, ep, k _ _ (.inr d) e2, c⟩, r⟩
  | own y => obtain ⟨ob, e⟩ := x; exact ⟨ob, k _ _ (.inl rfl) e⟩
  | xd fs => obtain ⟨mA, ⟨od, es, ep, e, c⟩, r⟩ := x; exact ⟨mA, ⟨od, es, ep, k _ _ (.inl rfl) e, c⟩, r⟩
  | rng lo hi => obtain ⟨t, u, v, e⟩ := x; exact ⟨t, u, v, k _ _ (.inl rfl) e⟩
  | frz ob u ih => obtain ⟨e, q⟩ := x; exact ⟨k _ _ (.inl rfl) e, ih q⟩
  | tbl ps =>
    have e : h.get? a = some { cls := .none, data := .fields ps } := x
    show h'.get? a = some { cls := .none, data := .fields ps }
    exact k a _ (.inl rfl) e
  | met f y =>
    have e : h.get? a = some (PySem.W.methodObj (.ref f) (.ref y)) := x
    show h'.get? a = some (PySem.W.methodObj (.ref f) (.ref y))
    exact k a _ (.inl rfl) e
  | ext φ => obtain ⟨p, ⟨o, e⟩, st⟩ := x; exact ⟨st _ _ p fun o q => k _ _ (.inl rfl) q, ⟨o, k _ _ (.inl rfl) e⟩, st⟩
theorem HOk.lt (x : HOk P w H h) (e : H a = some o) : a < h.objs.size := (x a o e).lt
theorem HOk.fresh (x : HOk P w H h) (e : h.objs.size ≤ a) : H a = none := by
  cases q : H a with
  | none => rfl
  | some u => exact absurd (Nat.lt_of_lt_of_le (x.lt q) e) (Nat.lt_irrefl _)
theorem HOk.kept (x : HOk P w H h) (k : ∀ b u, h.get? b = some u → h'.get? b = some u) : HOk P w H h' := fun a o e =>
  (x a o e).stay (fun b u _ q => k b u q) (fun _ q => q) fun _ _ q => q
theorem HOk.laid (x : HOk P w H h) (k : ∀ b u, h.get? b = some u → h'.get? b = some u) (hp : h.objs.size ≤ a) (new : ObjOk P w (upd H a o) h' a o) : HOk P w (upd H a o) h' := fun b u e => by
  have hn := x.fresh hp
  by_cases hb : b = a
  · subst hb; rw [upd_same] at e; cases e; exact new
  · rw [upd_ne hb] at e
    exact (x b u e).stay (fun c v _ q => k c v q) (fun c q => by rw [upd_ne (ne_of_none q hn)]; exact q) fun c xs q => by rw [upd_ne (ne_of_none q hn)]; exact q
end
noncomputable def Rd (H : Hp) (a : Addr) (u : HO) : Prop := H a = some u ∨ ∃ o, H a = some (.frz o u)
theorem Rd.ok {P : Program} {w : World} {H : Hp} {h : Heap} {a : Addr} {u : HO} (r : Rd H a u) (x : HOk P w H h) : ObjOk P w H h a u := by
  rcases r with r | ⟨o, r⟩
  · exact x a u r
  · obtain ⟨_, q⟩ := x a _ r
    exact q
noncomputable def Mut : Option HO → Prop
  | some (.lst _) => True
  | some (.dK _) => True
  | some (.dT _) => True
  | some (.set _ _) => True
  | some (.ins _ _ _) => True
  | some (.ext _) => True
  | _ => False
section
variable {P : Program} {w : World} {H : Hp} {h h' : Heap} {x e : Addr} {o' : HO}
theorem HOk.write (ok : HOk P w H h) (mu : Mut (H x)) (he : e = x ∨ H e = some (.own x)) (k : ∀ b u, b ≠ e → h.get? b = some u → h'.get? b = some u) (heo : ∃ u, h'.get? e = some u)
    (new : ObjOk P w (upd H x o') h' x o') : HOk P w (upd H x o') h' := fun b u q => by
  have nown : ∀ c y, H c = some (.own y) → c ≠ x := fun c y r z => by subst z; rw [r] at mu; exact mu
  have ntup : ∀ c xs, H c = some (.tup xs) → c ≠ x := fun c xs r z => by subst z; rw [r] at mu; exact mu
  by_cases hb : b = x
  · subst hb; rw [upd_same] at q; cases q; exact new
  · rw [upd_ne hb] at q
    by_cases hbe : b = e
    · have q' : H b = some (.own x) := by
        rcases he with z | z
        · exact absurd (hbe.trans z) hb
        · rw [hbe]; exact z
      rw [q] at q'; cases q'
      obtain ⟨v, hv⟩ := heo
      exact ⟨v, by rw [hbe]; exact hv⟩
    · refine (ok b u q).stay (fun c v hc r => k c v ?_ r) (fun c r => by rw [upd_ne (nown c b r)]; exact r) fun c xs r => by rw [upd_ne (ntup c xs r)]; exact r
      rcases hc with rfl | hc
      · exact hbe
      · rintro rfl
        rcases he with z | z
        · exact nown c b hc z
        · rw [hc] at z; cases z; exact hb rfl
end
structure Un (fs ex : List Addr) (H H' : Hp) (h h' : Heap) : Prop where
  keep : ∀ b o, h.get? b = some o → H b = none → b ∉ fs → b ∉ ex → h'.get? b = some o
  slot : ∀ b o, h.get? b = some o → H b = none → b ∈ fs → b ∉ ex → ∃ sl, h'.get? b = some { o with slots := sl }
  free : ∀ b o, h.get? b = some o → H b = none → b ∉ ex → H' b = none
  there : ∀ b o, h.get? b = some o → b ∉ ex → ∃ o', h'.get? b = some o'
  tups : ∀ b xs, H b = some (.tup xs) → H' b = some (.tup xs)
  frzs : ∀ b o u, H b = some (.frz o u) → H' b = some (.frz o u)
  tbls : ∀ b ps, H b = some (.tbl ps) → ∃ more, H' b = some (.tbl (ps ++ more))
section
variable {fs fs' ex ex' : List Addr} {H H1 H2 : Hp} {h h1 h2 h' : Heap} {a x e : Addr} {o : HO}
theorem Un.any (u : Un fs ex H H1 h h1) {b : Addr} {ob : Obj} (q : h.get? b = some ob) (n : H b = none) (hx : b ∉ ex) : ∃ sl, h1.get? b = some { ob with slots := sl } := by
  by_cases hb : b ∈ fs
  · exact u.slot b ob q n hb hx
  · exact ⟨ob.slots, u.keep b ob q n hb hx⟩
theorem Un.kept (k : ∀ b u, h.get? b = some u → h'.get? b = some u) : Un fs ex H H h h' :=
  ⟨fun b ob q _ _ _ => k b ob q, fun b ob q _ _ _ => ⟨ob.slots, k b ob q⟩, fun _ _ _ n _ => n, fun b ob q _ => ⟨ob, k b ob q⟩, fun _ _ q => q, fun _ _ _ q => q, fun _ ps q => ⟨#[], by rw [q]; simp⟩⟩
theorem Un.refl : Un fs ex H H h h := Un.kept fun _ _ q => q
theorem Un.laid (k : ∀ b u, h.get? b = some u → h'.get? b = some u) (hp : h.objs.size ≤ a) (hn : H a = none) : Un fs ex H (upd H a o) h h' where
  keep := fun b u q _ _ _ => k b u q
  slot := fun b u q _ _ _ => ⟨u.slots, k b u q⟩
  free := fun b u q n _ => by rw [upd_ne (Nat.ne_of_lt (Nat.lt_of_lt_of_le (Heap.lt_size q) hp))]; exact n
  there := fun b u q _ => ⟨u, k b u q⟩
  tups := fun b xs q => by rw [upd_ne (ne_of_none q hn)]; exact q
  frzs := fun b u xs q => by rw [upd_ne (ne_of_none q hn)]; exact q
  tbls := fun b ps q => ⟨#[], by rw [upd_ne (ne_of_none q hn), q]; simp⟩
theorem Un.write (mu : Mut (H x)) (he : e = x ∨ H e = some (.own x)) (k : ∀ b u, b ≠ e → h.get? b = some u → h'.get? b = some u) (heo : ∃ u, h'.get? e = some u) : Un fs ex H (upd H x o) h h' := by
  have hx : ∀ b, H b = none → b ≠ x := fun b n z => by subst z; rw [n] at mu; exact mu
  have hb : ∀ b, H b = none → b ≠ e := fun b n z => by
    subst z
    rcases he with r | r
    · exact hx b n r
    · rw [n] at r; cases r
  have hm : ∀ b u, H b = some u → ¬ Mut (some u) → b ≠ x := fun b u q nm z => by subst z; rw [q] at mu; exact nm mu
  refine ⟨fun b u q n _ _ => k b u (hb b n) q, fun b u q n _ _ => ⟨u.slots, k b u (hb b n) q⟩, fun b u q n _ => by rw [upd_ne (hx b n)]; exact n, fun b u q _ => ?_,
    fun b xs q => by rw [upd_ne (hm b _ q fun z => z)]; exact q, fun b u xs q => by rw [upd_ne (hm b _ q fun z => z)]; exact q, fun b ps q => ⟨#[], by rw [upd_ne (hm b _ q fun z => z), q]; simp⟩⟩
  by_cases hbe : b = e
  · subst hbe; exact heo
  · exact ⟨u, k b u hbe q⟩
end
noncomputable def trk (h : Heap) (H : Hp) : List Addr := (List.range h.objs.size).filter fun a => (H a).isSome
noncomputable def hidT (h : Heap) (H : Hp) : Heap := PySem.W.hideAll h (trk h H)
theorem hidT_size (h : Heap) (H : Hp) : (hidT h H).objs.size = h.objs.size := PySem.W.hideAll_size _ _
theorem hidT_get {h : Heap} {H : Hp} {b : Addr} {o : Obj} (e : h.get? b = some o) (n : H b = none) : (hidT h H).get? b = some o :=
  PySem.W.hideAll_get _ e fun hm => by
    have q : (H b).isSome = true := (List.mem_filter.mp hm).2
    rw [n] at q; simp at q
theorem of_hidT {h : Heap} {H : Hp} {b : Addr} {o : Obj} (e : (hidT h H).get? b = some o) : h.get? b = some o ∧ H b = none := by
  have e' : h.get? b = some o := PySem.W.of_hideAll (trk h H) e
  refine ⟨e', ?_⟩
  cases q : H b with
  | none => rfl
  | some x =>
    have hm : b ∈ trk h H := List.mem_filter.mpr ⟨List.mem_range.mpr (Heap.lt_size e'), by simp [q]⟩
    have z : (hidT h H).get? b = none := PySem.W.hideAll_none (trk h H) hm
    rw [z] at e; cases e
noncomputable def allNews (g h : Heap) (L : Addr) : List (Addr × Obj) := (List.range h.objs.size).filterMap fun a => if a = L ∨ (g.get? a).isSome = true then none else (h.get? a).map fun o => (a, o)
noncomputable def rest (g h : Heap) (L d : Addr) : List (Addr × Obj) := (allNews g h L).filter fun p => decide (p.1 ≠ d)
end L2
namespace L2
open PySem PySem.Spec PyProof.Rows
structure Mod (K : PySem.W.Frag) (mg : Str → Option Value) (base : Heap) : Prop where
  kin : K.In base
  glob : base.Ns mainGlobals mg
  blt : ∃ mb, base.Ns builtinsNs mb ∧ ∀ x : Str, x ≠ "__name__" → mb x = bootBuiltins x
  nolimit : base.NoLimit
structure Cx where
  prog : Program
  w : World
  K : PySem.W.Frag
  mg : Str → Option Value
  base : Heap
  A : Around
  N : List Str
  s₀ : Shared
  H₀ : Hp
  env : Env
  outer : List Env
  stack : List Env
  ex : List Addr
  fn : Str → Bool
  calm : Bool
  pn : List (Addr × Obj)
  xe : Value → Shared → Prop
noncomputable def frs (l : List Env) : List Addr := l.filterMap (·.frame)
noncomputable abbrev Cx.fs (X : Cx) : List Addr := frs X.outer
noncomputable def Vis (sc : Scope) (x : Str) : Prop := sc.names.lookup x = some .local ∨ sc.names.lookup x = some .cell ∨ sc.names.lookup x = some .free
noncomputable def Loc (sc : Scope) (x : Str) : Prop := sc.names.lookup x = some .local ∨ sc.names.lookup x = some .cell
noncomputable def Look (env : Env) (h : Heap) (m : Str → Option Value) (x : Str) (u : Value) : Prop :=
  (env.kindOf x = some .local ∧ m x = some u) ∨ ((env.kindOf x = some .cell ∨ env.kindOf x = some .free) ∧ ∃ c, env.cells.lookup x = some c ∧ h.IsCell c (some u))
structure Cx.Ok (X : Cx) : Prop where
  mod : Mod X.K X.mg X.base
  kind : X.env.scope.kind = .function
  glob : X.env.globals = mainGlobals
  blt : X.env.builtins = builtinsNs
  above : X.s₀.heap.objs.size ≤ X.env.locals
  inj : ∀ x y c, X.env.cells.lookup x = some c → X.env.cells.lookup y = some c → x = y
  has : ∀ x, (X.env.kindOf x = some .cell ∨ X.env.kindOf x = some .free) → ∃ c, X.env.cells.lookup x = some c
  cab : ∀ x c, X.fn x = true → X.env.cells.lookup x = some c → X.s₀.heap.objs.size ≤ c
  hd : X.calm = true → X.A.handled = none
  frames : X.A.frames = some X.stack
  stk : X.stack = X.outer ∨ (X.stack = X.env :: X.outer ∧ X.env.frame = some X.env.locals)
  exf : ∀ b ∈ X.ex, b ≠ X.env.locals ∧ ∀ x c, X.env.cells.lookup x = some c → c ≠ b
  bs : ∀ b o, X.base.get? b = some o → X.s₀.heap.get? b = some o ∧ X.H₀ b = none
  bsz : X.base.objs.size ≤ X.s₀.heap.objs.size
  noex : ∀ b o, X.base.get? b = some o → b ∉ X.ex
  exfs : ∀ b ∈ X.ex, b ∉ X.fs
  funs : X.s₀.heap.FunFrames X.base X.outer
  frf : ∀ b ∈ X.fs, X.H₀ b = none
structure Inv (X : Cx) (pins : List (Addr × Obj)) (σ : List (Option V)) (H : Hp) (s : Shared) : Prop where
  ok : X.Ok
  os : s.os = X.s₀.os
  bare : AllBare s.gens
  base : Un X.fs X.ex X.H₀ H X.s₀.heap s.heap
  loc : ∃ m, s.heap.Ns X.env.locals m ∧ ∀ (i : Nat) (x : Str) (v : V), X.N[i]? = some x → σ[i]? = some (some v) → Vis X.env.scope x → ∃ u, RelV v u ∧ Look X.env s.heap m x u
  cell : ∀ x c, X.env.cells.lookup x = some c → ∃ v, s.heap.IsCell c v
  free : H X.env.locals = none
  freeC : ∀ x c, X.env.cells.lookup x = some c → H c = none
  pin : ∀ p ∈ X.pn ++ pins, s.heap.get? p.1 = some p.2 ∧ H p.1 = none ∧ p.1 ≠ X.env.locals ∧ p.1 ∉ X.fs ∧ ∀ v, p.2.data ≠ .cell v
  hok : HOk X.prog X.w H s.heap
  len : σ.length = X.N.length
section
variable {X : Cx} {pins : List (Addr × Obj)} {σ : List (Option V)} {H H' : Hp} {s : Shared} {h' : Heap}
theorem Cx.Ok.nofr (ok : X.Ok) {b : Addr} {o : Obj} (e : X.base.get? b = some o) : b ∉ X.fs := fun hb => by
  have := (ok.funs.mem hb).1
  rw [e] at this; cases this
theorem Inv.bs (I : Inv X pins σ H s) : ∀ b o, X.base.get? b = some o → s.heap.get? b = some o ∧ H b = none := fun b o e =>
  ⟨I.base.keep b o (I.ok.bs b o e).1 (I.ok.bs b o e).2 (I.ok.nofr e) (I.ok.noex b o e), I.base.free b o (I.ok.bs b o e).1 (I.ok.bs b o e).2 (I.ok.noex b o e)⟩
theorem Inv.bk (I : Inv X pins σ H s) : ∀ b o, X.base.get? b = some o → s.heap.get? b = some o := fun b o e => (I.bs b o e).1
theorem Inv.mod (I : Inv X pins σ H s) : Mod X.K X.mg X.base := I.ok.mod
theorem Inv.kIn (I : Inv X pins σ H s) : X.K.In s.heap := I.ok.mod.kin.keeps I.bk
theorem Inv.lt (I : Inv X pins σ H s) : X.env.locals < s.heap.objs.size := let ⟨_, hn, _⟩ := I.loc; hn.lt
theorem Inv.sz (I : Inv X pins σ H s) : X.s₀.heap.objs.size ≤ s.heap.objs.size := Nat.le_trans I.ok.above (Nat.le_of_lt I.lt)
theorem Inv.nofs (I : Inv X pins σ H s) {a : Addr} (h : s.heap.objs.size ≤ a) : a ∉ X.fs := fun hb => by
  obtain ⟨_, o, ho, _⟩ := I.ok.funs.mem hb
  exact absurd (Nat.lt_of_lt_of_le (Heap.lt_size ho) (Nat.le_trans I.sz h)) (Nat.lt_irrefl _)
theorem Inv.cne (I : Inv X pins σ H s) : ∀ x c, X.env.cells.lookup x = some c → c ≠ X.env.locals := fun x c e z => by
  obtain ⟨v, o, ho, hd⟩ := I.cell x c e
  obtain ⟨m, ⟨o', es, ep, ho', hd', _⟩, _⟩ := I.loc
  rw [z, ho'] at ho; cases ho; rw [hd'] at hd; cases hd
theorem Inv.funs (I : Inv X pins σ H s) : s.heap.FunFrames X.base X.outer := by
  have all : ∀ (l : List Env), (∀ b ∈ frs l, b ∈ X.fs) → X.s₀.heap.FunFrames X.base l → s.heap.FunFrames X.base l := by
    intro l
    induction l with
    | nil => intro _ _; trivial
    | cons env r ih =>
      intro hs hl
      obtain ⟨hk, ⟨L, o, hf, hn, ho, hd⟩, hr⟩ := hl
      have hL : L ∈ X.fs := hs L (by unfold frs; rw [List.filterMap_cons, hf]; exact List.mem_cons_self)
      obtain ⟨sl, e⟩ := I.base.slot L o ho (I.ok.frf L hL) hL fun z => I.ok.exfs L z hL
      exact ⟨hk, ⟨L, _, hf, hn, e, hd⟩, ih (fun b hb => hs b (by unfold frs; rw [List.filterMap_cons, hf]; exact List.mem_cons_of_mem _ hb)) hr⟩
  exact all X.outer (fun _ hb => hb) I.ok.funs
theorem Inv.stack (I : Inv X pins σ H s) : s.heap.FunFrames X.base X.stack := by
  rcases I.ok.stk with e | ⟨e, hf⟩
  · rw [e]; exact I.funs
  · rw [e]
    obtain ⟨m, hn, _⟩ := I.loc
    refine .cons (by rw [I.ok.kind]; decide) hf hn ?_ I.funs
    exact Heap.get?_none_of_le (Nat.le_trans I.ok.bsz I.ok.above)
theorem Inv.stkSub (I : Inv X pins σ H s) : ∀ b ∈ frs X.stack, b ∈ X.env.locals :: X.fs := fun b hb => by
  rcases I.ok.stk with e | ⟨e, hf⟩
  · rw [e] at hb; exact List.mem_cons_of_mem _ hb
  · rw [e] at hb
    unfold frs at hb
    rw [List.filterMap_cons, hf] at hb
    exact hb
theorem Inv.stkFree (I : Inv X pins σ H s) : ∀ b ∈ frs X.stack, H b = none := fun b hb => by
  rcases List.mem_cons.mp (I.stkSub b hb) with e | hb
  · rw [e]; exact I.free
  · obtain ⟨_, o, ho, _⟩ := I.ok.funs.mem hb
    exact I.base.free b o ho (I.ok.frf b hb) fun z => I.ok.exfs b z hb
theorem Inv.step {g' : Array GenState} {t' : Nat} {d' : Drawn} {ch : List Addr} (I : Inv X pins σ H s)
    (hch : ∀ b ∈ ch, (b ∈ X.ex ∨ X.s₀.heap.objs.size ≤ b) ∧ b ≠ X.env.locals ∧ (∀ x c, X.env.cells.lookup x = some c → c ≠ b) ∧ ∀ p ∈ X.pn ++ pins, p.1 ≠ b)
    (keep : ∀ b o, b ≠ X.env.locals → b ∉ X.fs → b ∉ ch → s.heap.get? b = some o → H b = none → h'.get? b = some o)
    (slot : ∀ b o, b ≠ X.env.locals → b ∈ X.fs → b ∉ ch → s.heap.get? b = some o → H b = none → ∃ sl, h'.get? b = some { o with slots := sl }) (free : ∀ b o, b ∉ ch → s.heap.get? b = some o → H b = none → H' b = none)
    (there : ∀ b o, b ∉ ch → s.heap.get? b = some o → ∃ o', h'.get? b = some o')
    (tups : ∀ b xs, H b = some (.tup xs) → H' b = some (.tup xs)) (frzs : ∀ b o u, H b = some (.frz o u) → H' b = some (.frz o u)) (tbls : ∀ b ps, H b = some (.tbl ps) → ∃ more, H' b = some (.tbl (ps ++ more)))
    (ns : ∀ m, s.heap.Ns X.env.locals m → h'.Ns X.env.locals m) (hok : HOk X.prog X.w H' h') (hg : AllBare g') :
    Inv X pins σ H' { s with heap := h', gens := g', drawn := d', toks := t' } := by
  have neL : ∀ b o, X.s₀.heap.get? b = some o → b ≠ X.env.locals := fun b o e => Nat.ne_of_lt (Nat.lt_of_lt_of_le (Heap.lt_size e) I.ok.above)
  have neC : ∀ b o, X.s₀.heap.get? b = some o → b ∉ X.ex → b ∉ ch := fun b o e hx hb => by
    rcases (hch b hb).1 with z | z
    · exact hx z
    · exact absurd (Nat.lt_of_lt_of_le (Heap.lt_size e) z) (Nat.lt_irrefl _)
  have cellK : ∀ x c, X.env.cells.lookup x = some c → ∀ v, s.heap.IsCell c v → h'.IsCell c v := fun x c e v ⟨o, ho, hd⟩ => by
    have nch : c ∉ ch := fun z => (hch c z).2.2.1 x c e rfl
    by_cases hc : c ∈ X.fs
    · obtain ⟨sl, q⟩ := slot c o (I.cne x c e) hc nch ho (I.freeC x c e)
      exact ⟨_, q, hd⟩
    · exact ⟨o, keep c o (I.cne x c e) hc nch ho (I.freeC x c e), hd⟩
  refine ⟨I.ok, I.os, hg, ⟨fun b o e n hb hx => ?_, fun b o e n hb hx => ?_, fun b o e n hx => ?_, fun b o e hx => ?_, fun b xs e => tups b xs (I.base.tups b xs e), fun b o xs e => frzs b o xs (I.base.frzs b o xs e), fun b ps e => ?_⟩, ?_, fun x c e => ?_, ?_, fun x c e => ?_, fun p hp => ?_, hok, I.len⟩
  · exact keep b o (neL b o e) hb (neC b o e hx) (I.base.keep b o e n hb hx) (I.base.free b o e n hx)
  · obtain ⟨sl, e1⟩ := I.base.slot b o e n hb hx
    obtain ⟨sl', e2⟩ := slot b _ (neL b o e) hb (neC b o e hx) e1 (I.base.free b o e n hx)
    exact ⟨sl', e2⟩
  · obtain ⟨o', e1⟩ := I.base.there b o e hx
    exact free b o' (neC b o e hx) e1 (I.base.free b o e n hx)
  · obtain ⟨o', e1⟩ := I.base.there b o e hx
    exact there b o' (neC b o e hx) e1
  · obtain ⟨m1, e1⟩ := I.base.tbls b ps e
    obtain ⟨m2, e2⟩ := tbls b _ e1
    exact ⟨m1 ++ m2, by rw [e2, Array.append_assoc]⟩
  · obtain ⟨m, hn, hl⟩ := I.loc
    refine ⟨m, ns m hn, fun i x v e1 e2 e3 => ?_⟩
    obtain ⟨u, r, l⟩ := hl i x v e1 e2 e3
    refine ⟨u, r, ?_⟩
    rcases l with l | ⟨k, c, e, z⟩
    · exact .inl l
    · exact .inr ⟨k, c, e, cellK x c e _ z⟩
  · obtain ⟨v, z⟩ := I.cell x c e
    exact ⟨v, cellK x c e v z⟩
  · obtain ⟨m, ⟨o, _, _, ho, _⟩, _⟩ := I.loc
    exact free _ o (fun z => (hch _ z).2.1 rfl) ho I.free
  · obtain ⟨v, o, ho, hd⟩ := I.cell x c e
    exact free c o (fun z => (hch c z).2.2.1 x c e rfl) ho (I.freeC x c e)
  · obtain ⟨e, n, ne, nf, d⟩ := I.pin p hp
    have nch : p.1 ∉ ch := fun z => (hch p.1 z).2.2.2 p hp rfl
    exact ⟨keep p.1 p.2 ne nf nch e n, free p.1 p.2 nch e n, ne, nf, d⟩
theorem Inv.un {t' : Nat} (I : Inv X pins σ H s) (u : Un X.fs [] H H' s.heap h') (hok : HOk X.prog X.w H' h') : Inv X pins σ H' { s with heap := h', toks := t' } := by
  obtain ⟨m, ⟨o, es, ep, ho, r⟩, _⟩ := id I.loc
  obtain ⟨sl, hL⟩ := u.any ho I.free (by simp)
  exact I.step (g' := s.gens) (d' := s.drawn) (ch := []) (fun _ z => nomatch z) (fun b o _ hb _ e n => u.keep b o e n hb (by simp)) (fun b o _ hb _ e n => u.slot b o e n hb (by simp)) (fun b o _ e n => u.free b o e n (by simp)) (fun b o _ e => u.there b o e (by simp)) u.tups u.frzs u.tbls (fun m' hm => by
    obtain ⟨o', es', ep', ho', r'⟩ := hm
    rw [ho] at ho'; cases ho'
    exact ⟨_, es', ep', hL, r'⟩) hok I.bare
theorem Inv.call {g' : Array GenState} {t' : Nat} {d' : Drawn} {ch : List Addr} (I : Inv X pins σ H s) (u : Un (frs X.stack) ch H H' s.heap h') (hok : HOk X.prog X.w H' h') (hg : AllBare g')
    (hch : ∀ b ∈ ch, (b ∈ X.ex ∨ X.s₀.heap.objs.size ≤ b) ∧ b ≠ X.env.locals ∧ (∀ x c, X.env.cells.lookup x = some c → c ≠ b) ∧ ∀ p ∈ X.pn ++ pins, p.1 ≠ b) :
    Inv X pins σ H' { s with heap := h', gens := g', drawn := d', toks := t' } := by
  obtain ⟨m, ⟨o, es, ep, ho, r⟩, _⟩ := id I.loc
  obtain ⟨sl, hL⟩ := u.any ho I.free fun z => (hch _ z).2.1 rfl
  exact I.step (ch := ch) hch (fun b o hL hb hc e n => u.keep b o e n (fun z => (List.mem_cons.mp (I.stkSub b z)).elim hL hb) hc) (fun b o _ _ hc e n => u.any e n hc) (fun b o hc e n => u.free b o e n hc) (fun b o hc e => u.there b o e hc) u.tups u.frzs u.tbls (fun m' hm => by
    obtain ⟨o', es', ep', ho', r'⟩ := hm
    rw [ho] at ho'; cases ho'
    exact ⟨_, es', ep', hL, r'⟩) hok hg
theorem Inv.turned {t' : Nat} {it : Addr} (I : Inv X pins σ H s) (k : ∀ b o, b ≠ it → s.heap.get? b = some o → h'.get? b = some o) (hn : H it = none) (hL : it ≠ X.env.locals)
    (h1 : it ∈ X.ex ∨ X.s₀.heap.objs.size ≤ it) (h2 : ∀ x c, X.env.cells.lookup x = some c → c ≠ it) (h3 : ∀ p ∈ X.pn ++ pins, p.1 ≠ it) : Inv X pins σ H { s with heap := h', toks := t' } := by
  have nit : ∀ b u, H b = some u → b ≠ it := fun b u e z => by rw [z, hn] at e; cases e
  refine I.step (g' := s.gens) (d' := s.drawn) (ch := [it]) (fun b hb => ?_) (fun b o _ _ hc e _ => k b o (fun z => hc (by simp [z])) e) (fun b o _ _ hc e _ => ⟨o.slots, k b o (fun z => hc (by simp [z])) e⟩) (fun _ _ _ _ n => n)
    (fun b o hc e => ⟨o, k b o (fun z => hc (by simp [z])) e⟩) (fun _ _ e => e) (fun _ _ _ e => e) (fun b ps e => ⟨#[], by rw [e]; simp⟩) (fun m hm => ?_) (fun b u e => ?_) I.bare
  · have e : b = it := by simpa using hb
    subst e
    exact ⟨h1, hL, h2, h3⟩
  · obtain ⟨o, es, ep, ho, r⟩ := hm
    exact ⟨o, es, ep, k _ o (Ne.symm hL) ho, r⟩
  · refine (I.hok b u e).stay (fun c v hc q => k c v ?_ q) (fun _ q => q) fun _ _ q => q
    rcases hc with z | z
    · rw [z]; exact nit b u e
    · exact nit c _ z
theorem Inv.tok (I : Inv X pins σ H s) (t : Nat) : Inv X pins σ H { s with toks := t } := I.un (h' := s.heap) (t' := t) Un.refl I.hok
theorem Inv.kept {t' : Nat} (I : Inv X pins σ H s) (k : ∀ b u, s.heap.get? b = some u → h'.get? b = some u) : Inv X pins σ H { s with heap := h', toks := t' } := I.un (Un.kept k) (I.hok.kept k)
theorem Inv.laid {a : Addr} {o : HO} {t' : Nat} (I : Inv X pins σ H s) (k : ∀ b u, s.heap.get? b = some u → h'.get? b = some u) (hp : s.heap.objs.size ≤ a) (new : ObjOk X.prog X.w (upd H a o) h' a o) :
    Inv X pins σ (upd H a o) { s with heap := h', toks := t' } := I.un (Un.laid k hp (I.hok.fresh hp)) (I.hok.laid k hp new)
theorem Inv.write {x e : Addr} {o : HO} {t' : Nat} (I : Inv X pins σ H s) (mu : Mut (H x)) (he : e = x ∨ H e = some (.own x)) (k : ∀ b u, b ≠ e → s.heap.get? b = some u → h'.get? b = some u) (heo : ∃ u, h'.get? e = some u)
    (new : ObjOk X.prog X.w (upd H x o) h' x o) : Inv X pins σ (upd H x o) { s with heap := h', toks := t' } := I.un (Un.write mu he k heo) (I.hok.write mu he k heo new)
theorem Inv.pins_of {pins' : List (Addr × Obj)} (I : Inv X pins σ H s) (h : ∀ p ∈ pins', s.heap.get? p.1 = some p.2 ∧ H p.1 = none ∧ p.1 ≠ X.env.locals ∧ p.1 ∉ X.fs ∧ ∀ v, p.2.data ≠ .cell v) : Inv X pins' σ H s :=
  ⟨I.ok, I.os, I.bare, I.base, I.loc, I.cell, I.free, I.freeC, fun p hp => (List.mem_append.mp hp).elim (fun z => I.pin p (List.mem_append_left _ z)) (h p), I.hok, I.len⟩
theorem nodup_ix {N : List Str} (hN : N.Nodup) {i j : Nat} {x : Str} (a : N[i]? = some x) (b : N[j]? = some x) : i = j := by
  obtain ⟨h1, e1⟩ := List.getElem?_eq_some_iff.mp a
  obtain ⟨h2, e2⟩ := List.getElem?_eq_some_iff.mp b
  exact (List.getElem_inj hN).mp (e1.trans e2.symm)
theorem store_ok2 {M : Model} {A : Around} {E : Value → Shared → Prop} {i : Nat} {x : Str} {v : V} {u : Value} {Q : Unit → Shared → Prop} (I : Inv X pins σ H s) (hN : X.N.Nodup) (hi : X.N[i]? = some x) (hx : Loc X.env.scope x) (r : RelV v u)
    (h : ∀ s', Inv X pins (σ.set i (some v)) H s' → (∃ a, Heap.SameBut a s.heap s'.heap ∧ (a = X.env.locals ∨ X.env.cells.lookup x = some a)) → Q () s') (hf : X.fn x = true ∨ X.env.scope.names.lookup x = some .local := by first | exact .inl rfl | exact .inr rfl | assumption) : wpAny M A (storeName X.env x u) Q E s := by
  obtain ⟨m, hn, hl⟩ := id I.loc
  have hcls : (X.env.scope.kind == .class || (X.env.scope.kind == .module && X.env.locals != X.env.globals)) = false := by rw [I.ok.kind]; rfl
  have hiσ : i < σ.length := by rw [I.len]; exact (List.getElem?_eq_some_iff.mp hi).1
  have cne := I.cne
  have tracked : ∀ {a : Addr} {h' : Heap}, (∃ o, s.heap.get? a = some o ∧ H a = none) → Heap.SameBut a s.heap h' → HOk X.prog X.w H h' := fun {a h'} ha hs b ob e => by
    obtain ⟨_, _, hfree⟩ := ha
    refine (I.hok b ob e).stay (fun c w' hc q => (hs.2 c ?_).trans q) (fun _ q => q) fun _ _ q => q
    rintro rfl
    rcases hc with rfl | hc
    · rw [hfree] at e; cases e
    · rw [hfree] at hc; cases hc
  rcases hx with hk | hk
  · refine wpAny_storeName_local hk hn (fun h' hn' hs => ?_) hcls
    obtain ⟨oL, _, _, hoL, _⟩ := id hn
    refine h _ ⟨I.ok, I.os, I.bare, ⟨fun b o e n hb hx => ?_, fun b o e n hb hx => ?_, I.base.free, fun b o e hx => ?_, I.base.tups, I.base.frzs, I.base.tbls⟩, ⟨_, hn', fun j y v' e1 e2 e3 => ?_⟩, fun y c e => ?_, I.free, I.freeC, fun p hp => ?_, tracked ⟨oL, hoL, I.free⟩ hs, by simpa using I.len⟩ ⟨_, hs, .inl rfl⟩
    · exact (hs.2 b (Nat.ne_of_lt (Nat.lt_of_lt_of_le (Heap.lt_size e) I.ok.above))).trans (I.base.keep b o e n hb hx)
    · obtain ⟨sl, e1⟩ := I.base.slot b o e n hb hx
      exact ⟨sl, (hs.2 b (Nat.ne_of_lt (Nat.lt_of_lt_of_le (Heap.lt_size e) I.ok.above))).trans e1⟩
    · obtain ⟨o', e1⟩ := I.base.there b o e hx
      exact ⟨o', (hs.2 b (Nat.ne_of_lt (Nat.lt_of_lt_of_le (Heap.lt_size e) I.ok.above))).trans e1⟩
    · by_cases hj : j = i
      · subst hj
        rw [hi] at e1; cases e1
        rw [List.getElem?_set_self hiσ] at e2
        cases e2
        exact ⟨u, r, .inl ⟨hk, by simp⟩⟩
      · rw [List.getElem?_set_ne (Ne.symm hj)] at e2
        obtain ⟨u', r', q⟩ := hl j y v' e1 e2 e3
        refine ⟨u', r', ?_⟩
        rcases q with ⟨k, e⟩ | ⟨k, c, e, z⟩
        · refine .inl ⟨k, ?_⟩
          have : y ≠ x := fun e => hj (nodup_ix hN e1 (e ▸ hi))
          simp [this, e]
        · exact .inr ⟨k, c, e, z.sameBut hs (cne y c e)⟩
    · obtain ⟨w', z⟩ := I.cell y c e
      exact ⟨w', z.sameBut hs (cne y c e)⟩
    · obtain ⟨e, n, ne, nf, d⟩ := I.pin p hp
      exact ⟨(hs.2 p.1 ne).trans e, n, ne, nf, d⟩
  · have hfn : X.fn x = true := by
      rcases hf with z | z
      · exact z
      · rw [z] at hk; cases hk
    obtain ⟨c, hc⟩ := I.ok.has x (.inl hk)
    obtain ⟨w', z⟩ := I.cell x c hc
    refine wpAny_storeName_cell I.ok.kind hk hc z (fun h' hc' hs => ?_)
    obtain ⟨oc, hoc, hocd⟩ := id z
    refine h { s with heap := h' } ⟨I.ok, I.os, I.bare, ⟨fun b o e n hb hx => ?_, fun b o e n hb hx => ?_, I.base.free, fun b o e hx => ?_, I.base.tups, I.base.frzs, I.base.tbls⟩, ⟨m, hn.sameBut hs (Ne.symm (cne x c hc)), fun j y v' e1 e2 e3 => ?_⟩, fun y c' e => ?_, I.free, I.freeC, fun p hp => ?_, tracked ⟨oc, hoc, I.freeC x c hc⟩ hs, by simpa using I.len⟩ ⟨c, hs, .inr hc⟩
    · exact (hs.2 b (Nat.ne_of_lt (Nat.lt_of_lt_of_le (Heap.lt_size e) (I.ok.cab x c hfn hc)))).trans (I.base.keep b o e n hb hx)
    · obtain ⟨sl, e1⟩ := I.base.slot b o e n hb hx
      exact ⟨sl, (hs.2 b (Nat.ne_of_lt (Nat.lt_of_lt_of_le (Heap.lt_size e) (I.ok.cab x c hfn hc)))).trans e1⟩
    · obtain ⟨o', e1⟩ := I.base.there b o e hx
      exact ⟨o', (hs.2 b (Nat.ne_of_lt (Nat.lt_of_lt_of_le (Heap.lt_size e) (I.ok.cab x c hfn hc)))).trans e1⟩
    · by_cases hj : j = i
      · subst hj
        rw [hi] at e1; cases e1
        rw [List.getElem?_set_self hiσ] at e2
        cases e2
        exact ⟨u, r, .inr ⟨.inl hk, c, hc, hc'⟩⟩
      · rw [List.getElem?_set_ne (Ne.symm hj)] at e2
        obtain ⟨u', r', q⟩ := hl j y v' e1 e2 e3
        refine ⟨u', r', ?_⟩
        rcases q with q | ⟨k, c', e, z'⟩
        · exact .inl q
        · refine .inr ⟨k, c', e, z'.sameBut hs ?_⟩
          rintro rfl
          exact hj (nodup_ix hN e1 (I.ok.inj _ _ _ e hc ▸ hi))
    · by_cases hcc : c' = c
      · subst hcc; exact ⟨_, hc'⟩
      · obtain ⟨w2, z2⟩ := I.cell y c' e
        exact ⟨w2, z2.sameBut hs hcc⟩
    · obtain ⟨e, n, ne, nf, d⟩ := I.pin p hp
      refine ⟨(hs.2 p.1 ?_).trans e, n, ne, nf, d⟩
      intro q
      rw [q, hoc] at e
      have q' : oc = p.2 := Option.some.inj e
      exact d w' (by rw [← q']; exact hocd)
theorem store_ok {M : Model} {A : Around} {E : Value → Shared → Prop} {i : Nat} {x : Str} {v : V} {u : Value} {Q : Unit → Shared → Prop} (I : Inv X pins σ H s) (hN : X.N.Nodup) (hi : X.N[i]? = some x) (hx : Loc X.env.scope x) (r : RelV v u)
    (h : ∀ s', Inv X pins (σ.set i (some v)) H s' → Q () s') (hf : X.fn x = true ∨ X.env.scope.names.lookup x = some .local := by first | exact .inl rfl | exact .inr rfl | assumption) : wpAny M A (storeName X.env x u) Q E s :=
  store_ok2 I hN hi hx r (fun s' I' _ => h s' I') hf
theorem Inv.call' {s' : Shared} {ch : List Addr} (I : Inv X pins σ H s) (ho : s'.os = s.os) (u : Un (frs X.stack) ch H H' s.heap s'.heap) (hok : HOk X.prog X.w H' s'.heap) (hg : AllBare s'.gens)
    (hch : ∀ b ∈ ch, (b ∈ X.ex ∨ X.s₀.heap.objs.size ≤ b) ∧ b ≠ X.env.locals ∧ (∀ x c, X.env.cells.lookup x = some c → c ≠ b) ∧ ∀ p ∈ X.pn ++ pins, p.1 ≠ b) : Inv X pins σ H' s' := by
  obtain ⟨h', g', d', t', o'⟩ := s'
  have e : o' = s.os := ho
  subst e
  exact I.call (g' := g') (t' := t') (d' := d') u hok hg hch
end
noncomputable abbrev XK := Value → Option Addr → Hp → Prop
noncomputable abbrev St := List (Option V)
noncomputable abbrev VK := V → Hp → Prop
noncomputable abbrev TE := St → Hp → VK → Prop
noncomputable abbrev TT := St → Hp → (Bool → Hp → Prop) → Prop
noncomputable abbrev TA := St → Hp → (List V → Hp → Prop) → Prop
structure Ends where
  nx : St → Hp → Prop
  rt : VK
  bk : St → Hp → Prop := fun _ _ => False
  ct : St → Hp → Prop := fun _ _ => False
noncomputable abbrev TS := Ends → St → Hp → Prop
noncomputable def EP (X : Cx) (pins : List (Addr × Obj)) (σ : St) (Q : VK) (u : Value) (s' : Shared) : Prop := ∃ v H', Inv X pins σ H' s' ∧ RelV v u ∧ Q v H'
noncomputable def TP (X : Cx) (pins : List (Addr × Obj)) (σ : St) (Q : Bool → Hp → Prop) (b : Bool) (s' : Shared) : Prop := ∃ H', Inv X pins σ H' s' ∧ Q b H'
noncomputable def AP (X : Cx) (pins : List (Addr × Obj)) (σ : St) (Q : List V → Hp → Prop) (us : List Value) (s' : Shared) : Prop := ∃ vs H', Inv X pins σ H' s' ∧ Vals vs us ∧ Q vs H'
noncomputable def SP (X : Cx) (pins : List (Addr × Obj)) (D : Ends) (f : Flow) (s' : Shared) : Prop :=
  match f with
  | .next => ∃ σ' H', Inv X pins σ' H' s' ∧ D.nx σ' H'
  | .brk => ∃ σ' H', Inv X pins σ' H' s' ∧ D.bk σ' H'
  | .cont => ∃ σ' H', Inv X pins σ' H' s' ∧ D.ct σ' H'
  | .ret u => ∃ v σ' H', Inv X pins σ' H' s' ∧ RelV v u ∧ D.rt v H'
noncomputable def PE (X : Cx) (e : Expr) (t : TE) : Prop :=
  ∀ (pins : List (Addr × Obj)) (s : Shared) (σ : St) (H : Hp) (Q : VK), Inv X pins σ H s → t σ H Q → wpAny (model X.prog X.w) X.A (eval e X.env) (EP X pins σ Q) X.xe s
noncomputable def PT (X : Cx) (e : Expr) (t : TT) : Prop :=
  ∀ (pins : List (Addr × Obj)) (s : Shared) (σ : St) (H : Hp) (Q : Bool → Hp → Prop), Inv X pins σ H s → t σ H Q → wpAny (model X.prog X.w) X.A (isTrue e X.env (eval e X.env)) (TP X pins σ Q) X.xe s
noncomputable def PW (X : Cx) (e : Expr) (t : TT) : Prop :=
  ∀ (whole : Sem Value) (pins : List (Addr × Obj)) (s : Shared) (σ : St) (H : Hp) (Q : Bool → Hp → Prop), Inv X pins σ H s → t σ H Q → wpAny (model X.prog X.w) X.A (isTrue e X.env whole) (TP X pins σ Q) X.xe s
theorem PW.pt {X : Cx} {e : Expr} {t : TT} (h : PW X e t) : PT X e t := h _
noncomputable def PA (X : Cx) (es : List Expr) (t : TA) : Prop :=
  ∀ (pos : Pos) (pins : List (Addr × Obj)) (s : Shared) (σ : St) (H : Hp) (Q : List V → Hp → Prop), Inv X pins σ H s → t σ H Q → wpAny (model X.prog X.w) X.A (spliced (backTo pos (starEach es X.env))) (AP X pins σ Q) X.xe s
noncomputable def PS (X : Cx) (st : Stmt) (t : TS) : Prop :=
  ∀ (pins : List (Addr × Obj)) (s : Shared) (σ : St) (H : Hp) (D : Ends), Inv X pins σ H s → t D σ H → wpAny (model X.prog X.w) X.A (exec st X.env) (SP X pins D) X.xe s
noncomputable def PSs (X : Cx) (st : List Stmt) (t : TS) : Prop :=
  ∀ (pins : List (Addr × Obj)) (s : Shared) (σ : St) (H : Hp) (D : Ends), Inv X pins σ H s → t D σ H → wpAny (model X.prog X.w) X.A (execs st X.env) (SP X pins D) X.xe s
theorem thn {α : Type} {t : Sem α} {Q Q' : α → Shared → Prop} {M : Model} {A : Around} {E : Value → Shared → Prop} {s : Shared} (h : wpAny M A t Q E s) (hQ : ∀ a s, Q a s → Q' a s) : wpAny M A t Q' E s := wpAny_mono h hQ fun _ _ x => x
end L2
namespace L2
open PySem PySem.Spec PyProof.Rows
section
variable {X : Cx}
noncomputable def tVar (i : Nat) : TE := fun σ H Q => ∃ v, σ[i]? = some (some v) ∧ Q v H
noncomputable def tC (v : V) : TE := fun _ H Q => Q v H
theorem pe_var {i : Nat} {x : Str} {pos : Pos} (hN : X.N[i]? = some x) (hv : Vis X.env.scope x) (hd : (x == ("__debug__" : Str)) = false := by decide) (hcd : (x == ("__classdict__" : Str)) = false := by decide) : PE X (.Name x pos) (tVar i) := by
  intro pins s σ H Q I h
  obtain ⟨v, e, h⟩ := h
  obtain ⟨m, hn, hl⟩ := I.loc
  obtain ⟨u, r, l⟩ := hl i x v hN e hv
  have fin : EP X pins σ Q u s := ⟨v, H, I, r, h⟩
  rcases l with ⟨hk, hm⟩ | ⟨hk, c, hc, hcell⟩
  · exact wpAny_Name (wpAny_loadName_local I.ok.kind hk hn hm fin) hd
  · rcases hk with hk | hk
    · exact wpAny_Name (wpAny_loadName_cell I.ok.kind hk hc hcell fin) hd
    · exact wpAny_Name (wpAny_loadName_free I.ok.kind hk hc hcell fin hcd) hd
theorem pe_int {i j pos} : PE X (.Constant (.int i) j pos) (tC (.int i)) := fun _ _ _ H _ I h => wpAny_Constant_int ⟨.int i, H, I.tok _, ⟨_, rfl⟩, h⟩
theorem pe_bl {b j pos} : PE X (.Constant (.bool b) j pos) (tC (.bl b)) := fun _ _ _ H _ I h => Constant_bool ⟨.bl b, H, I, rfl, h⟩
theorem pe_non {j pos} : PE X (.Constant .none j pos) (tC .non) := fun _ _ _ H _ I h => Constant_none ⟨.non, H, I, rfl, h⟩
theorem pe_str {x j pos} : PE X (.Constant (.str x) j pos) (tC (.str x)) := fun _ _ _ H _ I h => Calls.Constant_str ⟨.str x, H, I.tok _, ⟨_, rfl⟩, h⟩
noncomputable def Gl (X : Cx) (x : Str) : Prop := X.env.kindOf x = some .globalImplicit
theorem ld_glob {E : Value → Shared → Prop} {pins : List (Addr × Obj)} {s : Shared} {σ : St} {H : Hp} {x : Str} {u : Value} {pos : Pos} {Q : Value → Shared → Prop} (I : Inv X pins σ H s) (hg : Gl X x) (hm : X.mg x = some u) (h : Q u s)
    (hd : (x == ("__debug__" : Str)) = false := by decide) : wpAny (model X.prog X.w) X.A (eval (.Name x pos) X.env) Q E s :=
  Calls.Name_function_global I.ok.kind hg (Calls.loadGlobal_global (by rw [I.ok.glob]; exact I.mod.glob.keeps I.bk) hm h) hd
theorem ld_blt {E : Value → Shared → Prop} {pins : List (Addr × Obj)} {s : Shared} {σ : St} {H : Hp} {x : Str} {u : Value} {pos : Pos} {Q : Value → Shared → Prop} (I : Inv X pins σ H s) (hg : Gl X x) (hm : X.mg x = none) (hv : bootBuiltins x = some u) (h : Q u s)
    (hn : x ≠ "__name__" := by decide) (hd : (x == ("__debug__" : Str)) = false := by decide) : wpAny (model X.prog X.w) X.A (eval (.Name x pos) X.env) Q E s := by
  obtain ⟨mb, h1, h2⟩ := I.mod.blt
  exact Calls.Name_function_global I.ok.kind hg (Calls.loadGlobal_builtin (by rw [I.ok.glob]; exact I.mod.glob.keeps I.bk) hm (by rw [I.ok.blt]; exact h1.keeps I.bk) ((h2 x hn).trans hv) h) hd
theorem pe_glob {x : Str} {v : V} {u : Value} {pos : Pos} (hg : Gl X x) (hm : X.mg x = some u) (r : RelV v u) (hd : (x == ("__debug__" : Str)) = false := by decide) : PE X (.Name x pos) (tC v) :=
  fun _ _ _ H _ I h => ld_glob I hg hm ⟨v, H, I, r, h⟩ hd
theorem pe_bltn {x : Str} {v : V} {u : Value} {pos : Pos} (hg : Gl X x) (hm : X.mg x = none) (hv : bootBuiltins x = some u) (r : RelV v u) (hn : x ≠ "__name__" := by decide) (hd : (x == ("__debug__" : Str)) = false := by decide) : PE X (.Name x pos) (tC v) :=
  fun _ _ _ H _ I h => ld_blt I hg hm hv ⟨v, H, I, r, h⟩ hn hd
variable {a b : Expr} {ta tb : TE} {pos : Pos}
noncomputable def tB (t : TE) : TT := fun σ H Q => t σ H fun x H1 => ∃ c, x = .bl c ∧ Q c H1
theorem pt_val {e : Expr} {t : TE} (h : PE X e t) (he : ∀ whole, isTrue e X.env whole = (do let v ← whole; standAt e.pos; holding [v] (truthy v)) := by intro _; rfl) : PT X e (tB t) := by
  intro pins s σ H Q I hw
  refine isTrue_plain (thn (h pins s σ H _ I hw) fun v s1 ⟨x, H1, I1, r1, q1⟩ => ?_) (he _)
  obtain ⟨d, rfl, q⟩ := q1
  cases r1
  exact wpAny_truthy_bool ⟨H1, I1, q⟩
variable {tA tB' : TT} {rest : List Expr}
noncomputable def tAnd (t u : TT) : TT := fun σ H Q => t σ H fun c H1 => if c = true then u σ H1 Q else Q false H1
noncomputable def tOr (t u : TT) : TT := fun σ H Q => t σ H fun c H1 => if c = true then Q true H1 else u σ H1 Q
noncomputable def tNot (t : TT) : TT := fun σ H Q => t σ H fun c H1 => Q (!c) H1
theorem pw_and1 (ha : PT X a tA) : PW X (.BoolOp .And [a] pos) tA := by
  intro wh pins s σ H Q I h
  refine isTrue_and (thn (ha pins s σ H Q I h) fun c s1 e => ?_)
  cases c with
  | true => exact isTrue_and_nil e
  | false => exact e
theorem pw_or1 (ha : PT X a tA) : PW X (.BoolOp .Or [a] pos) tA := by
  intro wh pins s σ H Q I h
  refine isTrue_or (thn (ha pins s σ H Q I h) fun c s1 e => ?_)
  cases c with
  | false => exact isTrue_or_nil e
  | true => exact e
theorem pw_and (ha : PT X a tA) (hb : PW X (.BoolOp .And (b :: rest) pos) tB') : PW X (.BoolOp .And (a :: b :: rest) pos) (tAnd tA tB') := by
  intro wh pins s σ H Q I h
  refine isTrue_and (thn (ha pins s σ H _ I h) fun c s1 ⟨H1, I1, q1⟩ => ?_)
  cases c with
  | true => exact hb wh pins s1 σ H1 Q I1 q1
  | false => exact ⟨H1, I1, q1⟩
theorem pw_or (ha : PT X a tA) (hb : PW X (.BoolOp .Or (b :: rest) pos) tB') : PW X (.BoolOp .Or (a :: b :: rest) pos) (tOr tA tB') := by
  intro wh pins s σ H Q I h
  refine isTrue_or (thn (ha pins s σ H _ I h) fun c s1 ⟨H1, I1, q1⟩ => ?_)
  cases c with
  | true => exact ⟨H1, I1, q1⟩
  | false => exact hb wh pins s1 σ H1 Q I1 q1
theorem pt_not (ha : PT X a tA) : PT X (.UnaryOp .Not a pos) (tNot tA) := by
  intro pins s σ H Q I h
  exact isTrue_not (ha pins s σ H (fun c H1 => Q (!c) H1) I h)
noncomputable def tAndV (ta tb : TE) : TE := fun σ H Q => ta σ H fun x H1 => ∃ c, x = .bl c ∧ if c = true then tb σ H1 Q else Q (.bl false) H1
theorem pe_one {op} {t : TE} (h : PE X a t) : PE X (.BoolOp op [a] pos) t := fun pins s σ H Q I hw => BoolOp_one (h pins s σ H Q I hw)
theorem pe_and (ha : PE X a ta) (hb : PE X (.BoolOp .And (b :: rest) pos) tb) : PE X (.BoolOp .And (a :: b :: rest) pos) (tAndV ta tb) := by
  intro pins s σ H Q I h
  refine BoolOp_and (thn (ha pins s σ H _ I h) fun v s1 ⟨x, H1, I1, r1, q1⟩ => ?_)
  obtain ⟨c, rfl, q1⟩ := q1
  cases r1
  refine wpAny_truthy_bool ?_
  cases c with
  | true => exact hb pins s1 σ H1 Q I1 q1
  | false => exact ⟨.bl false, H1, I1, rfl, q1⟩
end
end L2
namespace L2
open PySem PySem.Spec PyProof.Rows
noncomputable def SqL (K : PySem.W.Frag) (H : Hp) (a : Addr) (xs : List V) : Prop :=
  Rd H a (.lst xs) ∨
    ∃ (o : Obj) (its : Array Value) (n : Nat), K.lookup a = some o ∧ o.cls = .type "list" ∧ o.dict = none ∧ o.data = .seq its n ∧ its.size ≤ sizeLine ∧ Vals xs its.toList
noncomputable def SqT (K : PySem.W.Frag) (H : Hp) (a : Addr) (xs : List V) : Prop :=
  Rd H a (.tup xs) ∨
    ∃ (o : Obj) (its : Array Value) (n : Nat), K.lookup a = some o ∧ o.cls = .type "tuple" ∧ o.data = .seq its n ∧ its.size ≤ sizeLine ∧ Vals xs its.toList
noncomputable def absV : Value → Option V
  | .none => some .non
  | .bool b => some (.bl b)
  | .int i _ => some (.int i)
  | .str x _ => some (.str x)
  | .bytes b _ => some (.byt b)
  | .float b _ => some (.flt b)
  | .ref a => some (.ref a)
  | .type n => some (.ty n)
  | _ => none
theorem RelV.abs {x : V} {u : Value} (r : RelV x u) : absV u = some x := by
  cases x with
  | non => cases r; rfl
  | bl _ => cases r; rfl
  | int _ => obtain ⟨t, rfl⟩ := r; rfl
  | str _ => obtain ⟨t, rfl⟩ := r; rfl
  | byt _ => obtain ⟨t, rfl⟩ := r; rfl
  | flt _ => obtain ⟨t, rfl⟩ := r; rfl
  | ref _ => cases r; rfl
  | ty _ => cases r; rfl
theorem RelV.inj {x y : V} {u : Value} (r : RelV x u) (q : RelV y u) : x = y := Option.some.inj (r.abs.symm.trans q.abs)
theorem Vals.inj : ∀ {xs ys : List V} {us : List Value}, Vals xs us → Vals ys us → xs = ys
  | _, _, _, .nil, .nil => rfl
  | _, _, _, .cons r t, .cons r' t' => by rw [r.inj r', Vals.inj t t']
section
variable {X : Cx} {pins : List (Addr × Obj)} {σ : St} {H : Hp} {s : Shared} {a : Addr} {xs ys : List V}
theorem SqL.of {K : PySem.W.Frag} (h : H a = some (.lst xs)) : SqL K H a xs := .inl (.inl h)
theorem SqT.of {K : PySem.W.Frag} (h : H a = some (.tup xs)) : SqT K H a xs := .inl (.inl h)
theorem Inv.list (I : Inv X pins σ H s) (h : SqL X.K H a xs) : ∃ its : List Value, Vals xs its ∧ PlainL s.heap a its.toArray ∧ xs.length ≤ sizeLine := by
  rcases h with h | ⟨o, its, n, hk, hc, hd, hs, hz, r⟩
  · obtain ⟨z, its, n, r, e⟩ := h.ok I.hok
    exact ⟨its, r, ⟨_, n, e, rfl, rfl, rfl⟩, z⟩
  · refine ⟨its.toList, r, ⟨o, n, I.kIn a o hk, hc, hd, by simpa using hs⟩, ?_⟩
    have e := r.length
    simp only [Array.length_toList] at e
    omega
theorem Inv.tuple (I : Inv X pins σ H s) (h : SqT X.K H a xs) : ∃ its : List Value, Vals xs its ∧ IsTup s.heap a its.toArray ∧ xs.length ≤ sizeLine := by
  rcases h with h | ⟨o, its, n, hk, hc, hs, hz, r⟩
  · obtain ⟨z, its, r, p⟩ := h.ok I.hok
    exact ⟨its, r, p.tup, z⟩
  · refine ⟨its.toList, r, ⟨o, I.kIn a o hk, hc, n, by simpa using hs⟩, ?_⟩
    have e := r.length
    simp only [Array.length_toList] at e
    omega
theorem Inv.list_inj (I : Inv X pins σ H s) (h : SqL X.K H a xs) (h' : SqL X.K H a ys) : xs = ys := by
  obtain ⟨its, r, ⟨o, n, e, _, _, d⟩, _⟩ := I.list h
  obtain ⟨its', r', ⟨o', n', e', _, _, d'⟩, _⟩ := I.list h'
  rw [e] at e'; cases e'
  rw [d] at d'
  injection d' with d1 _
  have : its = its' := by simpa using congrArg Array.toList d1
  subst this
  exact r.inj r'
theorem Inv.tuple_inj (I : Inv X pins σ H s) (h : SqT X.K H a xs) (h' : SqT X.K H a ys) : xs = ys := by
  obtain ⟨its, r, ⟨o, e, _, n, d⟩, _⟩ := I.tuple h
  obtain ⟨its', r', ⟨o', e', _, n', d'⟩, _⟩ := I.tuple h'
  rw [e] at e'; cases e'
  rw [d] at d'
  injection d' with d1 _
  have : its = its' := by simpa using congrArg Array.toList d1
  subst this
  exact r.inj r'
end
noncomputable abbrev Cx.wish (X : Cx) (E : Value → Shared → Prop) : Cx := { X with xe := E }
noncomputable abbrev Cx.nox (X : Cx) : Cx := X.wish fun _ _ => False
theorem Cx.Ok.wish {X : Cx} (ok : X.Ok) (E : Value → Shared → Prop) : (X.wish E).Ok :=
  ⟨ok.mod, ok.kind, ok.glob, ok.blt, ok.above, ok.inj, ok.has, ok.cab, ok.hd, ok.frames, ok.stk, ok.exf, ok.bs, ok.bsz, ok.noex, ok.exfs, ok.funs, ok.frf⟩
theorem Cx.Ok.unwish {X : Cx} {E : Value → Shared → Prop} (ok : (X.wish E).Ok) : X.Ok :=
  ⟨ok.mod, ok.kind, ok.glob, ok.blt, ok.above, ok.inj, ok.has, ok.cab, ok.hd, ok.frames, ok.stk, ok.exf, ok.bs, ok.bsz, ok.noex, ok.exfs, ok.funs, ok.frf⟩
section
variable {X : Cx} {pins : List (Addr × Obj)} {σ : St} {H : Hp} {s : Shared} {E : Value → Shared → Prop}
theorem Inv.wish (I : Inv X pins σ H s) (E : Value → Shared → Prop) : Inv (X.wish E) pins σ H s := ⟨I.ok.wish E, I.os, I.bare, I.base, I.loc, I.cell, I.free, I.freeC, I.pin, I.hok, I.len⟩
theorem Inv.unwish (I : Inv (X.wish E) pins σ H s) : Inv X pins σ H s := ⟨I.ok.unwish, I.os, I.bare, I.base, I.loc, I.cell, I.free, I.freeC, I.pin, I.hok, I.len⟩
theorem SP.unwish {D : Ends} {f : Flow} {s' : Shared} (h : SP (X.wish E) pins D f s') : SP X pins D f s' := by
  cases f with
  | next => obtain ⟨σ', H', I, q⟩ := h; exact ⟨σ', H', I.unwish, q⟩
  | brk => obtain ⟨σ', H', I, q⟩ := h; exact ⟨σ', H', I.unwish, q⟩
  | cont => obtain ⟨σ', H', I, q⟩ := h; exact ⟨σ', H', I.unwish, q⟩
  | ret u => obtain ⟨v, σ', H', I, r, q⟩ := h; exact ⟨v, σ', H', I.unwish, r, q⟩
theorem PSs.nox {st : List Stmt} {t : TS} (h : PSs X.nox st t) : PSs X st t := fun pins s σ H D I hw =>
  wpAny_mono (h pins s σ H D (I.wish _) hw) (fun _ _ q => q.unwish) fun _ _ z => False.elim z
end
section
variable {X : Cx} {st : Stmt} {rest : List Stmt} {t u : TS} {e : Expr} {te : TE} {pos : Pos}
noncomputable def tNext : TS := fun D σ H => D.nx σ H
noncomputable def tSeq (t u : TS) : TS := fun D σ H => t { D with nx := u D } σ H
theorem pss_nil : PSs X [] tNext := fun _ _ σ H _ I h => wpAny_execs_nil ⟨σ, H, I, h⟩
theorem pss_cons (h1 : PS X st t) (h2 : PSs X rest u) : PSs X (st :: rest) (tSeq t u) := by
  intro pins s σ H D I h
  refine wpAny_execs_cons (thn (h1 pins s σ H { D with nx := u D } I h) fun f s1 q => ?_)
  cases f with
  | next =>
    obtain ⟨σ', H', I', q⟩ := q
    exact h2 pins s1 σ' H' D I' q
  | ret v => exact q
  | brk => exact q
  | cont => exact q
theorem pss_one (h1 : PS X st t) : PSs X [st] t := by
  intro pins s σ H D I h
  refine wpAny_execs_cons (thn (h1 pins s σ H D I h) fun f s1 q => ?_)
  cases f with
  | next => exact wpAny_execs_nil q
  | ret v => exact q
  | brk => exact q
  | cont => exact q
theorem Inv.quiet {pins : List (Addr × Obj)} {σ : St} {H : Hp} {s : Shared} (I : Inv X pins σ H s) : interactive X.env = false := by simp [interactive, I.ok.kind]
noncomputable def tDrop (te : TE) : TS := fun D σ H => te σ H fun _ H1 => D.nx σ H1
theorem ps_expr (he : PE X e te) (hs : swapsWith e none pos.line X.env = pure false := by rfl) : PS X (.Expr e pos) (tDrop te) := by
  intro pins s σ H D I h
  exact wpAny_Expr_any (thn (he pins s σ H _ I h) fun v s1 ⟨x, H1, I1, r1, q1⟩ => ⟨σ, H1, I1, q1⟩) I.quiet hs
noncomputable def tRet (te : TE) : TS := fun D σ H => te σ H D.rt
theorem ps_ret (he : PE X e te) : PS X (.Return (some e) pos) (tRet te) := by
  intro pins s σ H D I h
  exact wpAny_Return_some (thn (he pins s σ H _ I h) fun v s1 ⟨x, H1, I1, r1, q1⟩ => ⟨x, σ, H1, I1, r1, q1⟩)
noncomputable def tIfS (c : TT) (t u : TS) : TS := fun D σ H => c σ H fun b H1 => if b = true then t D σ H1 else u D σ H1
theorem ps_if {c : Expr} {a b : List Stmt} {tc : TT} (hc : PT X c tc) (ha : PSs X a t) (hb : PSs X b u) : PS X (.If c a b pos) (tIfS tc t u) := by
  intro pins s σ H D I h
  refine wpAny_If (thn (hc pins s σ H _ I h) fun d s1 ⟨H1, I1, q1⟩ => ?_)
  cases d with
  | true => exact ha pins s1 σ H1 D I1 q1
  | false => exact hb pins s1 σ H1 D I1 q1
noncomputable def tNever : TS := fun _ _ _ => False
theorem ps_never : PS X st tNever := fun _ _ _ _ _ _ h => h.elim
theorem pss_never {sts : List Stmt} : PSs X sts tNever := fun _ _ _ _ _ _ h => h.elim
end
noncomputable abbrev TG := V → St → Hp → (St → Hp → Prop) → Prop
noncomputable abbrev TGs := List V → St → Hp → (St → Hp → Prop) → Prop
noncomputable def PG (X : Cx) (target : Expr) (t : TG) : Prop :=
  ∀ (pins : List (Addr × Obj)) (s : Shared) (σ : St) (H : Hp) (v : V) (u : Value) (Q : St → Hp → Prop), Inv X pins σ H s → RelV v u → t v σ H Q →
    wpAny (model X.prog X.w) X.A (assign target X.env u) (fun _ s' => ∃ σ' H', Inv X pins σ' H' s' ∧ Q σ' H') X.xe s
noncomputable def PGs (X : Cx) (ts : List Expr) (t : TGs) : Prop :=
  ∀ (pins : List (Addr × Obj)) (s : Shared) (σ : St) (H : Hp) (vs : List V) (us : List Value) (Q : St → Hp → Prop), Inv X pins σ H s → Vals vs us → t vs σ H Q →
    wpAny (model X.prog X.w) X.A (assignInOrder ((assignEach ts X.env).map (·.2)) us) (fun _ s' => ∃ σ' H', Inv X pins σ' H' s' ∧ Q σ' H') X.xe s
noncomputable abbrev TSet := V → V → V → Hp → (Hp → Prop) → Prop
noncomputable def PSet (X : Cx) (t : TSet) : Prop :=
  ∀ (pins : List (Addr × Obj)) (s : Shared) (σ : St) (H : Hp) (o i v : V) (ov iv u : Value) (Q : Hp → Prop), Inv X pins σ H s → RelV o ov → RelV i iv → RelV v u → t o i v H Q →
    wpAny (model X.prog X.w) X.A (setItem ov iv u) (fun _ s' => ∃ H', Inv X pins σ H' s' ∧ Q H') X.xe s
section
variable {X : Cx} {pos : Pos}
noncomputable def gName (i : Nat) : TG := fun v σ H Q => Q (σ.set i (some v)) H
theorem pg_name {i : Nat} {x : Str} (hN : X.N.Nodup) (hi : X.N[i]? = some x) (hx : Loc X.env.scope x) (hf : X.fn x = true ∨ X.env.scope.names.lookup x = some .local := by first | exact .inl rfl | exact .inr rfl | assumption) : PG X (.Name x pos) (gName i) := by
  intro pins s σ H v u Q I r h
  exact wpAny_assign_Name (store_ok I hN hi hx r (fun s' I' => ⟨_, H, I', h⟩) hf)
noncomputable def gNil : TGs := fun vs σ H Q => vs = [] ∧ Q σ H
noncomputable def gCons (t : TG) (u : TGs) : TGs := fun vs σ H Q => ∃ v r, vs = v :: r ∧ t v σ H fun σ' H' => u r σ' H' Q
theorem pgs_nil : PGs X [] gNil := by
  intro pins s σ H vs us Q I r h
  obtain ⟨e, h⟩ := h
  subst e
  cases r
  exact assignInOrder_nil ⟨σ, H, I, h⟩
theorem pgs_cons {e : Expr} {es : List Expr} {t : TG} {u : TGs} (h1 : PG X e t) (h2 : PGs X es u)
    (hs : (assignEach (e :: es) X.env).map (·.2) = assign e X.env :: (assignEach es X.env).map (·.2) := by rfl) : PGs X (e :: es) (gCons t u) := by
  intro pins s σ H vs us Q I r h
  obtain ⟨v, vr, e1, h⟩ := h
  subst e1
  cases r with
  | cons r rr =>
    rw [hs]
    refine assignInOrder_cons (thn (h1 pins s σ H _ _ _ I r h) fun _ s1 ⟨σ1, H1, I1, q1⟩ => ?_)
    exact h2 pins s1 σ1 H1 _ _ Q I1 rr q1
noncomputable def gTup (K : PySem.W.Frag) (n : Nat) (t : TGs) : TG := fun v σ H Q => ∃ a xs, v = .ref a ∧ SqT K H a xs ∧ xs.length = n ∧ t xs σ H Q
theorem pg_tup {es : List Expr} {k : Nat} {t : TGs} {n : Nat} (hc : X.calm = true) (h : PGs X es t)
    (hn : (assignEach es X.env).length = n := by rfl) (hst : (assignEach es X.env).findIdx? (·.1) = none := by rfl) : PG X (.Tuple es k pos) (gTup X.K n t) := by
  intro pins s σ H v u Q I r hw
  obtain ⟨a, xs, e1, hq, hl, hw⟩ := hw
  subst e1
  cases r
  obtain ⟨its, rv, ht, hz⟩ := I.tuple hq
  refine assign_Tuple_tuple (I.ok.hd hc) ht (by simp [hn, ← hl, rv.length]) hst fun h' hx => ?_
  have I1 : Inv X pins σ H { s with heap := h' } := I.kept (t' := s.toks) fun b o e => hx b o (Nat.ne_of_lt (Heap.lt_size e)) e
  exact h pins _ σ H xs _ Q I1 (by simpa using rv) hw
noncomputable def gSub (to ti : TE) (t : TSet) : TG := fun v σ H Q => to σ H fun o H1 => ti σ H1 fun i H2 => t o i v H2 fun H3 => Q σ H3
theorem pg_sub {o i : Expr} {to ti : TE} {t : TSet} (ho : PE X o to) (hi : PE X i ti) (hs : PSet X t)
    (ha : ∀ v, assign (.Subscript o i pos) X.env v = (do
      let ov ← holding [v] (eval o X.env)
      let iv ← holding [v, ov] (eval i X.env)
      standAt pos
      holding [v, ov, iv] (setItem ov iv v)
      release [v, ov, iv] []) := by intro _; rfl) : PG X (.Subscript o i pos) (gSub to ti t) := by
  intro pins s σ H v u Q I r h
  rw [ha]
  refine wpAny_bind (wpAny_holding (thn (ho pins s σ H _ I h) fun ov s1 ⟨x, H1, I1, r1, q1⟩ => ?_))
  refine wpAny_bind (wpAny_holding (thn (hi pins s1 σ H1 _ I1 q1) fun iv s2 ⟨y, H2, I2, r2, q2⟩ => ?_))
  refine wpAny_bind (wpAny_standAt (wpAny_bind (wpAny_holding (thn (hs pins s2 σ H2 x y v ov iv u _ I2 r1 r2 r q2) fun _ s3 ⟨H3, I3, q3⟩ => ?_))))
  exact wpAny_release ⟨σ, H3, I3, q3⟩
noncomputable def tAsg (te : TE) (g : TG) : TS := fun D σ H => te σ H fun x H1 => g x σ H1 D.nx
theorem ps_asg {tg e : Expr} {te : TE} {g : TG} (he : PE X e te) (hg : PG X tg g) (hs : swapsWithSole [tg] e pos.line X.env = pure false := by rfl) (hw : swappedStores [tg] e X.env = pure none := by rfl)
    (h1 : (assignEach [tg] X.env).map (·.2) = [assign tg X.env] := by rfl) : PS X (.Assign [tg] e pos) (tAsg te g) := by
  intro pins s σ H D I h
  refine wpAny_Assign_stores (thn (he pins s σ H _ I h) fun v s1 ⟨x, H1, I1, r1, q1⟩ => ?_) hs hw
  rw [h1]
  exact thn (hg pins s1 σ H1 x v _ I1 r1 q1) fun _ s2 q => q
theorem ps_set {i : Nat} {x : Str} {e : Expr} {te : TE} {pos' : Pos} (hN : X.N.Nodup) (hi : X.N[i]? = some x) (hx : Loc X.env.scope x) (he : PE X e te) (hs : swapsWith e (some (.Name x pos')) pos.line X.env = pure false := by rfl) (hf : X.fn x = true ∨ X.env.scope.names.lookup x = some .local := by first | exact .inl rfl | exact .inr rfl | assumption) :
    PS X (.Assign [.Name x pos'] e pos) (tAsg te (gName i)) := by
  intro pins s σ H D I h
  refine wpAny_Assign_Name (thn (he pins s σ H _ I h) fun v s1 ⟨y, H1, I1, r1, q1⟩ => ?_) hs
  exact store_ok I1 hN hi hx r1 (fun s2 I2 => ⟨_, H1, I2, q1⟩) hf
end
structure It where
  go : Nat → Hp → Prop
  yld : Nat → Hp → V → Hp → Prop
  stop : Nat → Hp → Prop
noncomputable def FpOk (X : Cx) (pins : List (Addr × Obj)) (H : Hp) (b : Addr) : Prop :=
  H b = none ∧ b ≠ X.env.locals ∧ b ∉ X.fs ∧ (b ∈ X.ex ∨ X.s₀.heap.objs.size ≤ b) ∧ (∀ x c, X.env.cells.lookup x = some c → c ≠ b) ∧ ∀ p ∈ X.pn ++ pins, p.1 ≠ b
theorem Inv.fpOk {X : Cx} {pins : List (Addr × Obj)} {σ : St} {H H' : Hp} {s : Shared} {b : Addr} (I : Inv X pins σ H s) (hb : s.heap.objs.size ≤ b) (hn : H' b = none) : FpOk X pins H' b := by
  refine ⟨hn, Nat.ne_of_gt (Nat.lt_of_lt_of_le I.lt hb), I.nofs hb, .inr (Nat.le_trans I.sz hb), fun x c e z => ?_, fun p hp z => ?_⟩
  · obtain ⟨v, q⟩ := I.cell x c e
    exact absurd (Nat.lt_of_lt_of_le q.lt (by rw [z]; exact hb)) (Nat.lt_irrefl _)
  · exact absurd (Nat.lt_of_lt_of_le (Heap.lt_size (I.pin p hp).1) (by rw [z]; exact hb)) (Nat.lt_irrefl _)
structure Turn (P : Program) (w : World) (K : PySem.W.Frag) (tg : Expr) (J : It) (fp : List Addr) (it : Addr) (tn : Nat → Heap → Prop) : Prop where
  mem : it ∈ fp
  obj : ∀ i h, tn i h → ∀ b ∈ fp, ∃ o, h.get? b = some o ∧ ∀ v, o.data ≠ .cell v
  keep : ∀ i h h', tn i h → (∀ b ∈ fp, ∀ o, h.get? b = some o → h'.get? b = some o) → tn i h'
  item : ∀ (X : Cx), X.prog = P → X.w = w → X.K = K → X.calm = true → ∀ (i : Nat) (pins : List (Addr × Obj)) (s : Shared) (σ : St) (H : Hp) (E : Value → Shared → Prop), Inv X pins σ H s → (∀ b ∈ fp, FpOk X pins H b) → tn i s.heap → J.go i H →
    wpAny (model P w) X.A (pyNext (.ref it)) (fun r s1 => ∃ u, r = some u ∧
      wpAny (model P w) X.A (letOwnedTupleGo tg (.ref it) u) (fun _ s2 => ∃ x H', Inv X pins σ H' s2 ∧ RelV x u ∧ J.yld i H x H' ∧ tn (i + 1) s2.heap ∧ ∀ b ∈ fp, H' b = none) E s1) E s
  done : ∀ (X : Cx), X.prog = P → X.w = w → X.K = K → X.calm = true → ∀ (i : Nat) (pins : List (Addr × Obj)) (s : Shared) (σ : St) (H : Hp) (E : Value → Shared → Prop), Inv X pins σ H s → (∀ b ∈ fp, FpOk X pins H b) → tn i s.heap → J.stop i H →
    wpAny (model P w) X.A (pyNext (.ref it)) (fun r s1 => r = none ∧ Inv X pins σ H s1) E s
  self : ∀ (A : Around) (i : Nat) (s : Shared) (Q : Value → Shared → Prop) (E : Value → Shared → Prop), tn i s.heap → Q (.ref it) s → wpAny (model P w) A (pyIter (.ref it)) Q E s
noncomputable abbrev TI := St → Hp → (It → Hp → Prop) → Prop
noncomputable def PIE (X : Cx) (pins : List (Addr × Obj)) (σ : St) (tg : Expr) (R : It → Hp → Prop) (itv : Value) (s2 : Shared) : Prop :=
  ∃ (it : Addr) (fp : List Addr) (tn : Nat → Heap → Prop) (J : It) (H' : Hp), itv = .ref it ∧ Inv X pins σ H' s2 ∧ Turn X.prog X.w X.K tg J fp it tn ∧ tn 0 s2.heap ∧ (∀ b ∈ fp, FpOk X pins H' b) ∧ R J H'
noncomputable def PI (X : Cx) (tg iter : Expr) (wi : TI) : Prop :=
  ∀ (pins : List (Addr × Obj)) (s : Shared) (σ : St) (H : Hp) (R : It → Hp → Prop), Inv X pins σ H s → wi σ H R →
    wpAny (model X.prog X.w) X.A (eval iter X.env) (fun v s1 => wpAny (model X.prog X.w) X.A (pyIter v) (PIE X pins σ tg R) X.xe s1) X.xe s
theorem go_of {M : Model} {A : Around} {E : Value → Shared → Prop} {s : Shared} {tg : Expr} {it : Addr} {u : Value} {o : Obj} {n : String} {vs : Array Value} {Q : Unit → Shared → Prop} (ho : s.heap.get? it = some o) (hc : o.cls = .type n) (hd : o.data = .fields vs)
    (hn : ["enumerate", "zip", "dict_itemiterator", "dict_reverseitemiterator", "odict_iterator", "itertools.zip_longest", "itertools.pairwise"].contains n = false) (hQ : Q () s) : wpAny M A (letOwnedTupleGo tg (.ref it) u) Q E s := by
  unfold letOwnedTupleGo
  cases tg <;> first
    | exact wpAny_pure hQ
    | (cases u <;> first
        | exact wpAny_pure hQ
        | (refine wpAny_bind (wpAny_load ho ?_)
           rw [hc, hd]
           show wpAny M A (if (["enumerate", "zip", "dict_itemiterator", "dict_reverseitemiterator", "odict_iterator", "itertools.zip_longest", "itertools.pairwise"].contains n && vs[0]? == some (rawInt _)) = true then _ else _) Q E s
           rw [if_neg (by intro h; rw [hn, Bool.false_and] at h; cases h)]
           exact wpAny_pure hQ))
noncomputable def Itl (K : PySem.W.Frag) (a : Addr) : It :=
  ⟨fun i H => ∃ xs x, SqL K H a xs ∧ xs[i]? = some x, fun i H x H' => H' = H ∧ ∀ xs, SqL K H a xs → xs[i]? = some x, fun i H => ∃ xs, SqL K H a xs ∧ xs.length ≤ i⟩
noncomputable def Itt (K : PySem.W.Frag) (a : Addr) : It :=
  ⟨fun i H => ∃ xs x, SqT K H a xs ∧ xs[i]? = some x, fun i H x H' => H' = H ∧ ∀ xs, SqT K H a xs → xs[i]? = some x, fun i H => ∃ xs, SqT K H a xs ∧ xs.length ≤ i⟩
noncomputable def Itr (lo : Int) (n : Nat) : It := ⟨fun i _ => i < n, fun i H x H' => H' = H ∧ x = .int (lo + i), fun i _ => n ≤ i⟩
theorem turn_list {P : Program} {w : World} {K : PySem.W.Frag} {tg : Expr} (a it : Addr) : Turn P w K tg (Itl K a) [it] it (fun i h => h.IsListIter it a i) where
  mem := by simp
  obj := fun i h st b hb => by
    have e : b = it := by simpa using hb
    subst e
    obtain ⟨o, e, c, d⟩ := st
    exact ⟨o, e, fun v z => by rw [d] at z; cases z⟩
  keep := fun i h h' st k => st.at fun o e => k it (by simp) o e
  item := by
    intro X hP hw hK hc i pins s σ H E I hf st hg
    subst hP hw hK
    obtain ⟨xs, x, hq, hx⟩ := hg
    obtain ⟨its, rv, p, hz⟩ := I.list hq
    obtain ⟨u, hu, ru⟩ := rv.get hx
    obtain ⟨f0, f1, f2, f3, f4, f5⟩ := hf it (by simp)
    refine wpAny_pyNext_list_item st p.isList (x := u) (by simpa using hu) fun h' st' sb => ?_
    have I1 : Inv X pins σ H { s with heap := h' } := I.turned (t' := s.toks) (fun b o hb e => (sb.2 b hb).trans e) f0 f1 f3 f4 f5
    obtain ⟨o, e, c, d⟩ := id st'
    exact ⟨u, rfl, go_of (s := { s with heap := h' }) e c d (by decide) ⟨x, H, I1, ru, ⟨rfl, fun ys hy => by rw [I.list_inj hy hq]; exact hx⟩, st', fun b hb => (hf b hb).1⟩⟩
  done := by
    intro X hP hw hK hc i pins s σ H E I hf st hg
    subst hP hw hK
    obtain ⟨xs, hq, hx⟩ := hg
    obtain ⟨its, rv, p, hz⟩ := I.list hq
    obtain ⟨f0, f1, f2, f3, f4, f5⟩ := hf it (by simp)
    have hl := rv.length
    exact wpAny_pyNext_list_end (I.ok.hd hc) st p.isList (by simp; omega) fun h' eb => ⟨rfl, I.turned (t' := s.toks) (fun b o hb e => eb b o hb e) f0 f1 f3 f4 f5⟩
  self := fun _ _ _ _ _ st h => wpAny_pyIter_listiter st h
theorem turn_tuple {P : Program} {w : World} {K : PySem.W.Frag} {tg : Expr} (a it : Addr) : Turn P w K tg (Itt K a) [it] it (fun i h => h.IsTupleIter it a i) where
  mem := by simp
  obj := fun i h st b hb => by
    have e : b = it := by simpa using hb
    subst e
    obtain ⟨o, e, c, d⟩ := st
    exact ⟨o, e, fun v z => by rw [d] at z; cases z⟩
  keep := fun i h h' st k => st.at fun o e => k it (by simp) o e
  item := by
    intro X hP hw hK hc i pins s σ H E I hf st hg
    subst hP hw hK
    obtain ⟨xs, x, hq, hx⟩ := hg
    obtain ⟨its, rv, p, hz⟩ := I.tuple hq
    obtain ⟨u, hu, ru⟩ := rv.get hx
    obtain ⟨f0, f1, f2, f3, f4, f5⟩ := hf it (by simp)
    refine wpAny_pyNext_tuple_item st (show s.heap.IsTuple a its.toArray from p) (x := u) (by simpa using hu) fun h' st' sb => ?_
    have I1 : Inv X pins σ H { s with heap := h' } := I.turned (t' := s.toks) (fun b o hb e => (sb.2 b hb).trans e) f0 f1 f3 f4 f5
    obtain ⟨o, e, c, d⟩ := id st'
    exact ⟨u, rfl, go_of (s := { s with heap := h' }) e c d (by decide) ⟨x, H, I1, ru, ⟨rfl, fun ys hy => by rw [I.tuple_inj hy hq]; exact hx⟩, st', fun b hb => (hf b hb).1⟩⟩
  done := by
    intro X hP hw hK hc i pins s σ H E I hf st hg
    subst hP hw hK
    obtain ⟨xs, hq, hx⟩ := hg
    obtain ⟨its, rv, p, hz⟩ := I.tuple hq
    obtain ⟨f0, f1, f2, f3, f4, f5⟩ := hf it (by simp)
    have hl := rv.length
    exact wpAny_pyNext_tuple_end (I.ok.hd hc) st (show s.heap.IsTuple a its.toArray from p) (by simp; omega) fun h' eb => ⟨rfl, I.turned (t' := s.toks) (fun b o hb e => eb b o hb e) f0 f1 f3 f4 f5⟩
  self := fun _ _ _ _ _ st h => wpAny_pyIter_tupleiter st h
theorem turn_range {P : Program} {w : World} {K : PySem.W.Frag} {tg : Expr} (it : Addr) (lo : Int) (n : Nat) : Turn P w K tg (Itr lo n) [it] it (fun i h => IsRangeIter h it (lo + (i : Nat) * 1) ((n : Int) - (i : Nat)) 1) where
  mem := by simp
  obj := fun i h st b hb => by
    have e : b = it := by simpa using hb
    subst e
    exact ⟨_, st, fun v z => by
      have z' : Data.fields _ = Data.cell v := z
      cases z'⟩
  keep := fun i h h' st k => k it (by simp) _ st
  item := by
    intro X hP hw hK hc i pins s σ H E I hf st hg
    subst hP hw hK
    obtain ⟨f0, f1, f2, f3, f4, f5⟩ := hf it (by simp)
    have W := Walks.range (prog := X.prog) (w := X.w) (I.ok.hd hc) it lo 1 n
    refine W.item i s _ _ hg st fun v h' tk hv st' kk => ?_
    obtain ⟨t, rfl⟩ := hv
    have I1 : Inv X pins σ H { s with heap := h', toks := tk } := I.turned (fun b o hb e => kk b o (by simpa using hb) e) f0 f1 f3 f4 f5
    refine ⟨_, rfl, go_of (s := { s with heap := h', toks := tk }) (n := "range_iterator") st' rfl rfl (by decide) ⟨.int (lo + i), H, I1, ⟨t, ?_⟩, ⟨rfl, rfl⟩, st', fun b hb => (hf b hb).1⟩⟩
    rw [Int.mul_one]
  done := by
    intro X hP hw hK hc i pins s σ H E I hf st hg
    subst hP hw hK
    obtain ⟨f0, f1, f2, f3, f4, f5⟩ := hf it (by simp)
    exact wpAny_pyNext_range_end (I.ok.hd hc) st (by have : n ≤ i := hg; omega) fun h' eb => ⟨rfl, I.turned (t' := s.toks) (fun b o hb e => eb b o hb e) f0 f1 f3 f4 f5⟩
  self := fun _ _ _ _ _ st h => wpAny_pyIter_rangeiter st h
end L2
namespace L2
open PySem PySem.Spec PyProof.Rows
section
variable {X : Cx} {tg : Expr}
noncomputable def iList (K : PySem.W.Frag) (tl : TE) : TI := fun σ H R => tl σ H fun x H1 => ∃ a, x = .ref a ∧ (∃ xs, SqL K H1 a xs) ∧ R (Itl K a) H1
noncomputable def iTup (K : PySem.W.Frag) (tl : TE) : TI := fun σ H R => tl σ H fun x H1 => ∃ a, x = .ref a ∧ (∃ xs, SqT K H1 a xs) ∧ R (Itt K a) H1
theorem pi_list {l : Expr} {tl : TE} (hl : PE X l tl) : PI X tg l (iList X.K tl) := by
  intro pins s σ H R I h
  refine thn (hl pins s σ H _ I h) fun v s1 ⟨x, H1, I1, r1, q1⟩ => ?_
  obtain ⟨a, e, ⟨xs, hq⟩, q⟩ := q1
  subst e
  cases r1
  obtain ⟨its, rv, p, hz⟩ := I1.list hq
  refine wpAny_pyIter_list p.isList ?_
  refine ⟨s1.heap.objs.size, [s1.heap.objs.size], _, _, H1, rfl, I1.kept (t' := s1.toks) fun b o e => Heap.get?_push_of_some _ e, turn_list a _, ⟨_, Heap.get?_push_size _ rfl, rfl, rfl⟩, fun b hb => ?_, q⟩
  have e : b = s1.heap.objs.size := by simpa using hb
  subst e
  exact I1.fpOk (Nat.le_refl _) (I1.hok.fresh (Nat.le_refl _))
theorem pi_tup {l : Expr} {tl : TE} (hl : PE X l tl) : PI X tg l (iTup X.K tl) := by
  intro pins s σ H R I h
  refine thn (hl pins s σ H _ I h) fun v s1 ⟨x, H1, I1, r1, q1⟩ => ?_
  obtain ⟨a, e, ⟨xs, hq⟩, q⟩ := q1
  subst e
  cases r1
  obtain ⟨its, rv, p, hz⟩ := I1.tuple hq
  refine wpAny_pyIter_tuple (show s1.heap.IsTuple a its.toArray from p) ?_
  refine ⟨s1.heap.objs.size, [s1.heap.objs.size], _, _, H1, rfl, I1.kept (t' := s1.toks) fun b o e => Heap.get?_push_of_some _ e, turn_tuple a _, ⟨_, Heap.get?_push_size _ rfl, rfl, rfl⟩, fun b hb => ?_, q⟩
  have e : b = s1.heap.objs.size := by simpa using hb
  subst e
  exact I1.fpOk (Nat.le_refl _) (I1.hok.fresh (Nat.le_refl _))
theorem range_it {pins : List (Addr × Obj)} {σ : St} {H : Hp} {s : Shared} {R : It → Hp → Prop} {E : Value → Shared → Prop} {lo hi : Int} {t u v : Tok} {tk : Nat} (I : Inv X pins σ H s) (h1 : -(2 ^ 62) ≤ lo) (h2 : lo < 2 ^ 62) (h3 : -(2 ^ 62) ≤ hi) (h4 : hi < 2 ^ 62)
    (q : R (Itr lo (hi - lo).toNat) H) : wpAny (model X.prog X.w) X.A (pyIter (.ref s.heap.objs.size)) (PIE X pins σ tg R) E { s with heap := s.heap.push { cls := .type "range", data := .fields #[.int lo t, .int hi u, .int 1 v] }, toks := tk } := by
  refine wpAny_pyIter_range (IsRange.new ..) (small_one h1 h2 h3 h4) ?_
  have I1 : Inv X pins σ H { s with heap := s.heap.push { cls := .type "range", data := .fields #[.int lo t, .int hi u, .int 1 v] }, toks := tk } := I.kept fun b o e => Heap.get?_push_of_some _ e
  refine ⟨(s.heap.push { cls := .type "range", data := .fields #[.int lo t, .int hi u, .int 1 v] }).objs.size, [(s.heap.push { cls := .type "range", data := .fields #[.int lo t, .int hi u, .int 1 v] }).objs.size], _, _, H, rfl,
    I1.kept (t' := tk) fun b o e => Heap.get?_push_of_some _ e, turn_range _ lo (hi - lo).toNat, ?_, fun b hb => ?_, q⟩
  · have e1 : lo + ((0 : Nat) : Int) * 1 = lo := by simp
    have e2 : (((hi - lo).toNat : Nat) : Int) - ((0 : Nat) : Int) = Builtin.Range.rangeSize lo hi 1 := by rw [rangeSize_one]; split <;> omega
    show IsRangeIter _ _ (lo + ((0 : Nat) : Int) * 1) ((((hi - lo).toNat : Nat) : Int) - ((0 : Nat) : Int)) 1
    rw [e1, e2]
    exact Heap.get?_push_size _ rfl
  · have e : b = (s.heap.push { cls := .type "range", data := .fields #[.int lo t, .int hi u, .int 1 v] }).objs.size := by simpa using hb
    subst e
    exact I1.fpOk (Nat.le_refl _) (I1.hok.fresh (Nat.le_refl _))
noncomputable def iRng1 (ta : TA) : TI := fun σ H R => ta σ H fun vs H1 => ∃ j : Int, vs = [.int j] ∧ -(2 ^ 62) ≤ j ∧ j < 2 ^ 62 ∧ R (Itr 0 j.toNat) H1
theorem pi_range1 {a : Expr} {ta : TA} {p pos : Pos} (hg : Gl X "range") (hm : X.mg "range" = none) (ha : PA X [a] ta) (hs : starEach [a] X.env = [(false, eval a X.env)] := by rfl) : PI X tg (.Call (.Name "range" p) [a] [] pos) (iRng1 ta) := by
  intro pins s σ H R I h
  refine Call_ (ld_blt I hg hm boot_range (PyProof.Rows.callWith_type1 (thn (ha pos pins s σ H _ I h) fun us s1 ⟨vs, H1, I1, r1, q1⟩ => ?_) hs rfl))
  obtain ⟨j, e, q1, q2, q⟩ := q1
  subst e
  cases r1 with
  | cons r rr =>
    cases rr
    obtain ⟨t, rfl⟩ := r
    exact call_range_1 (range_it I1 (by omega) (by omega) q1 q2 (by simpa using q))
noncomputable def tFor (wi : TI) (g : TG) (tb : TS) : TS := fun D σ H => wi σ H fun J H1 => ∃ W : Nat → Nat → St → Hp → Prop, (∃ m, W 0 m σ H1) ∧ ∀ i m σ H, W i m σ H →
  (J.stop i H ∧ D.nx σ H) ∨ (J.go i H ∧ ∃ N : St → Hp → Prop, (∀ σ' H', N σ' H' → ∃ m', m' < m ∧ W (i + 1) m' σ' H') ∧ ∀ x H', J.yld i H x H' → g x σ H' fun σ2 H2 => tb { D with nx := N, ct := N, bk := D.nx } σ2 H2)
noncomputable def pinsAt (fp : List Addr) (h : Heap) : List (Addr × Obj) := fp.filterMap fun b => (h.get? b).map fun o => (b, o)
theorem mem_pinsAt {fp : List Addr} {h : Heap} {b : Addr} {o : Obj} (hb : b ∈ fp) (e : h.get? b = some o) : (b, o) ∈ pinsAt fp h := List.mem_filterMap.mpr ⟨b, hb, by rw [e]; rfl⟩
theorem of_pinsAt {fp : List Addr} {h : Heap} {p : Addr × Obj} (hp : p ∈ pinsAt fp h) : p.1 ∈ fp ∧ h.get? p.1 = some p.2 := by
  obtain ⟨b, hb, e⟩ := List.mem_filterMap.mp hp
  cases q : h.get? b with
  | none => rw [q] at e; cases e
  | some o =>
    rw [q] at e
    have e' : (b, o) = p := Option.some.inj e
    subst e'
    exact ⟨hb, q⟩
theorem Inv.pinned {pins : List (Addr × Obj)} {σ : St} {H : Hp} {s : Shared} {fp : List Addr} (I : Inv X pins σ H s) (hf : ∀ b ∈ fp, FpOk X pins H b) (ho : ∀ b ∈ fp, ∃ o, s.heap.get? b = some o ∧ ∀ v, o.data ≠ .cell v) : Inv X (pins ++ pinsAt fp s.heap) σ H s :=
  I.pins_of fun p hp => (List.mem_append.mp hp).elim (fun z => I.pin p (List.mem_append_right _ z)) fun z => by
    obtain ⟨hb, e⟩ := of_pinsAt z
    obtain ⟨f0, f1, f2, _⟩ := hf p.1 hb
    obtain ⟨o, e', d⟩ := ho p.1 hb
    rw [e] at e'; cases e'
    exact ⟨e, f0, f1, f2, d⟩
theorem Inv.unpinned {pins pl : List (Addr × Obj)} {σ : St} {H : Hp} {s : Shared} (I : Inv X (pins ++ pl) σ H s) : Inv X pins σ H s := I.pins_of fun p hp => I.pin p (List.mem_append_right _ (List.mem_append_left _ hp))
theorem ps_for {iter : Expr} {body : List Stmt} {wi : TI} {g : TG} {tb : TS} {pos : Pos} (hp : PassesOwn (model X.prog X.w) X.A X.env X.xe) (hc : X.calm = true) (hi : PI X tg iter wi) (hg : PG X tg g) (hb : PSs X body tb)
    (hs : ∀ x, foldedSetIterable iter X.env x = pure x := by intro _; rfl) : PS X (.For tg iter body [] pos) (tFor wi g tb) := by
  intro pins s σ H D I h
  refine wpAny_For (thn (hi pins s σ H _ I h) fun v s1 h1 => thn h1 fun itv s2 h2 => ?_) hs
  obtain ⟨it, fp, tn, J, H2, e, I2, T, st2, f2, W, ⟨m0, w0⟩, turn⟩ := h2
  subst e
  have stat : ∀ {H' : Hp}, (∀ b ∈ fp, H' b = none) → ∀ b ∈ fp, FpOk X pins H' b := fun hn b hb => ⟨hn b hb, (f2 b hb).2⟩
  refine codeAny_forLoop_any (fun n s' => ∃ i σ' H', Inv X pins σ' H' s' ∧ tn i s'.heap ∧ (∀ b ∈ fp, H' b = none) ∧ W i n σ' H') ?_ m0 ⟨0, σ, H2, I2, st2, fun b hb => (f2 b hb).1, w0⟩
  rintro n s3 ⟨i, σ3, H3, I3, st3, fr3, w3⟩
  rcases turn i n σ3 H3 w3 with ⟨stop, qn⟩ | ⟨go, N, hN, step⟩
  · refine wpAny_passesOwn hp (thn (T.done X rfl rfl rfl hc i pins s3 σ3 H3 X.xe I3 (stat fr3) st3 stop) fun r s4 ⟨hr, I4⟩ => ?_)
    subst hr
    exact wpAny_execs_nil ⟨σ3, H3, I4, qn⟩
  · refine wpAny_passesOwn hp (thn (T.item X rfl rfl rfl hc i pins s3 σ3 H3 X.xe I3 (stat fr3) st3 go) fun r s4 ⟨u, hr, h4⟩ => ?_)
    subst hr
    refine wpAny_passesOwn hp (thn h4 fun _ s5 ⟨x, H5, I5, r5, y5, st5, fr5⟩ => ?_)
    have I5' := I5.pinned (stat fr5) (T.obj _ _ st5)
    refine wpAny_passesOwn hp (thn (hg _ s5 σ3 H5 x u _ I5' r5 (step x H5 y5)) fun _ s6 ⟨σ6, H6, I6, q6⟩ => ?_)
    refine wpAny_passesOwn hp (thn (hb _ s6 σ6 H6 _ I6 q6) fun f s7 q7 => ?_)
    have again : ∀ {σ7 : St} {H7 : Hp}, Inv X (pins ++ pinsAt fp s5.heap) σ7 H7 s7 → N σ7 H7 → ∃ m, m < n ∧ ∃ i σ' H', Inv X pins σ' H' s7 ∧ tn i s7.heap ∧ (∀ b ∈ fp, H' b = none) ∧ W i m σ' H' := fun {σ7 H7} I7 n7 => by
      obtain ⟨m', hm, w7⟩ := hN σ7 H7 n7
      refine ⟨m', hm, i + 1, σ7, H7, I7.unpinned, T.keep _ _ _ st5 fun b hb o e => (I7.pin (b, o) (List.mem_append_right _ (List.mem_append_right _ (mem_pinsAt hb e)))).1, fun b hb => ?_, w7⟩
      obtain ⟨o, e, d⟩ := T.obj _ _ st5 b hb
      exact (I7.pin (b, o) (List.mem_append_right _ (List.mem_append_right _ (mem_pinsAt hb e)))).2.1
    cases f with
    | next => obtain ⟨σ7, H7, I7, n7⟩ := q7; exact again I7 n7
    | cont => obtain ⟨σ7, H7, I7, n7⟩ := q7; exact again I7 n7
    | brk => obtain ⟨σ7, H7, I7, q7⟩ := q7; exact ⟨σ7, H7, I7.unpinned, q7⟩
    | ret v => obtain ⟨x7, σ7, H7, I7, r7, q7⟩ := q7; exact ⟨x7, σ7, H7, I7.unpinned, r7, q7⟩
end
theorem for_list {K : PySem.W.Frag} {a : Addr} {xs : List V} {g : TG} {tb : TS} {D : Ends} {σ : St} {H : Hp} (Pv : Nat → St → Hp → Prop) (h0 : Pv 0 σ H) (hl : ∀ i σ H, i ≤ xs.length → Pv i σ H → SqL K H a xs)
    (hs : ∀ i x σ H, xs[i]? = some x → Pv i σ H → g x σ H fun σ2 H2 => tb { D with nx := Pv (i + 1), ct := Pv (i + 1), bk := D.nx } σ2 H2) (hd : ∀ σ H, Pv xs.length σ H → D.nx σ H) :
    ∃ W : Nat → Nat → St → Hp → Prop, (∃ m, W 0 m σ H) ∧ ∀ i m σ H, W i m σ H →
      ((Itl K a).stop i H ∧ D.nx σ H) ∨ ((Itl K a).go i H ∧ ∃ N : St → Hp → Prop, (∀ σ' H', N σ' H' → ∃ m', m' < m ∧ W (i + 1) m' σ' H') ∧ ∀ x H', (Itl K a).yld i H x H' → g x σ H' fun σ2 H2 => tb { D with nx := N, ct := N, bk := D.nx } σ2 H2) := by
  refine ⟨fun i m σ H => m = xs.length - i ∧ i ≤ xs.length ∧ Pv i σ H, ⟨xs.length, by simp, Nat.zero_le _, h0⟩, ?_⟩
  rintro i m σ H ⟨rfl, hi, p⟩
  have q := hl i σ H hi p
  by_cases hlt : i < xs.length
  · refine .inr ⟨⟨xs, xs[i], q, by simp [hlt]⟩, Pv (i + 1), fun σ' H' p' => ⟨xs.length - (i + 1), by omega, rfl, hlt, p'⟩, fun x H' y => ?_⟩
    obtain ⟨e, y⟩ := y
    subst e
    exact hs i x σ _ (y xs q) p
  · have e : i = xs.length := by omega
    subst e
    exact .inl ⟨⟨xs, q, Nat.le_refl _⟩, hd σ H p⟩
theorem for_tup {K : PySem.W.Frag} {a : Addr} {xs : List V} {g : TG} {tb : TS} {D : Ends} {σ : St} {H : Hp} (Pv : Nat → St → Hp → Prop) (h0 : Pv 0 σ H) (hl : ∀ i σ H, i ≤ xs.length → Pv i σ H → SqT K H a xs)
    (hs : ∀ i x σ H, xs[i]? = some x → Pv i σ H → g x σ H fun σ2 H2 => tb { D with nx := Pv (i + 1), ct := Pv (i + 1), bk := D.nx } σ2 H2) (hd : ∀ σ H, Pv xs.length σ H → D.nx σ H) :
    ∃ W : Nat → Nat → St → Hp → Prop, (∃ m, W 0 m σ H) ∧ ∀ i m σ H, W i m σ H →
      ((Itt K a).stop i H ∧ D.nx σ H) ∨ ((Itt K a).go i H ∧ ∃ N : St → Hp → Prop, (∀ σ' H', N σ' H' → ∃ m', m' < m ∧ W (i + 1) m' σ' H') ∧ ∀ x H', (Itt K a).yld i H x H' → g x σ H' fun σ2 H2 => tb { D with nx := N, ct := N, bk := D.nx } σ2 H2) := by
  refine ⟨fun i m σ H => m = xs.length - i ∧ i ≤ xs.length ∧ Pv i σ H, ⟨xs.length, by simp, Nat.zero_le _, h0⟩, ?_⟩
  rintro i m σ H ⟨rfl, hi, p⟩
  have q := hl i σ H hi p
  by_cases hlt : i < xs.length
  · refine .inr ⟨⟨xs, xs[i], q, by simp [hlt]⟩, Pv (i + 1), fun σ' H' p' => ⟨xs.length - (i + 1), by omega, rfl, hlt, p'⟩, fun x H' y => ?_⟩
    obtain ⟨e, y⟩ := y
    subst e
    exact hs i x σ _ (y xs q) p
  · have e : i = xs.length := by omega
    subst e
    exact .inl ⟨⟨xs, q, Nat.le_refl _⟩, hd σ H p⟩
theorem for_range {lo : Int} {n : Nat} {g : TG} {tb : TS} {D : Ends} {σ : St} {H : Hp} (Pv : Nat → St → Hp → Prop) (h0 : Pv 0 σ H)
    (hs : ∀ i σ H, i < n → Pv i σ H → g (.int (lo + i)) σ H fun σ2 H2 => tb { D with nx := Pv (i + 1), ct := Pv (i + 1), bk := D.nx } σ2 H2) (hd : ∀ σ H, Pv n σ H → D.nx σ H) :
    ∃ W : Nat → Nat → St → Hp → Prop, (∃ m, W 0 m σ H) ∧ ∀ i m σ H, W i m σ H →
      ((Itr lo n).stop i H ∧ D.nx σ H) ∨ ((Itr lo n).go i H ∧ ∃ N : St → Hp → Prop, (∀ σ' H', N σ' H' → ∃ m', m' < m ∧ W (i + 1) m' σ' H') ∧ ∀ x H', (Itr lo n).yld i H x H' → g x σ H' fun σ2 H2 => tb { D with nx := N, ct := N, bk := D.nx } σ2 H2) := by
  refine ⟨fun i m σ H => m = n - i ∧ i ≤ n ∧ Pv i σ H, ⟨n, by simp, Nat.zero_le _, h0⟩, ?_⟩
  rintro i m σ H ⟨rfl, hi, p⟩
  by_cases hlt : i < n
  · refine .inr ⟨hlt, Pv (i + 1), fun σ' H' p' => ⟨n - (i + 1), by omega, rfl, hlt, p'⟩, fun x H' y => ?_⟩
    obtain ⟨e, y⟩ := y
    subst e y
    exact hs i σ _ hlt p
  · have e : i = n := by omega
    subst e
    exact .inl ⟨Nat.le_refl _, hd σ H p⟩
end L2
namespace L2
open PySem PySem.Spec PyProof.Rows
noncomputable abbrev R2 := V → V → Hp → VK → Prop
noncomputable def OpR (X : Cx) (f : Value → Value → Sem Value) (r : R2) : Prop :=
  ∀ (pins : List (Addr × Obj)) (s : Shared) (σ : St) (H : Hp) (x y : V) (v u : Value) (Q : VK), Inv X pins σ H s → RelV x v → RelV y u → r x y H Q →
    wpAny (model X.prog X.w) X.A (f v u) (EP X pins σ Q) X.xe s
noncomputable def CallR (X : Cx) (f : Value) (r : List V → Hp → VK → Prop) : Prop :=
  ∀ (pins : List (Addr × Obj)) (s : Shared) (σ : St) (H : Hp) (xs : List V) (us : List Value) (Q : VK), Inv X pins σ H s → Vals xs us → r xs H Q →
    wpAny (model X.prog X.w) X.A (call f us) (EP X pins σ Q) X.xe s
noncomputable def tOp (r : R2) (ta tb : TE) : TE := fun σ H Q => ta σ H fun x H1 => tb σ H1 fun y H2 => r x y H2 Q
noncomputable def rI (C : Int → Int → Prop) (g : Int → Int → V) : R2 := fun x y H Q => ∃ i j, x = .int i ∧ y = .int j ∧ C i j ∧ Q (g i j) H
noncomputable def rI0 (g : Int → Int → V) : R2 := fun x y H Q => ∃ i j, x = .int i ∧ y = .int j ∧ Q (g i j) H
section
variable {X : Cx} {a b c : Expr} {ta tb tc : TE} {pos : Pos}
theorem binT (ha : PE X a ta) (hb : PE X b tb) {pins : List (Addr × Obj)} {s : Shared} {σ : St} {H : Hp} {R : V → V → Hp → Prop} (I : Inv X pins σ H s)
    (h : ta σ H fun x H1 => tb σ H1 fun y H2 => R x y H2) {Q : Value → Shared → Prop} {f : Value → Value → Sem Value}
    (hf : ∀ v u s2 x y H2, Inv X pins σ H2 s2 → RelV x v → RelV y u → R x y H2 → wpAny (model X.prog X.w) X.A (f v u) Q X.xe s2) :
    wpAny (model X.prog X.w) X.A (eval a X.env) (fun v s₁ => wpAny (model X.prog X.w) X.A (eval b X.env) (fun u s₂ => wpAny (model X.prog X.w) X.A (f v u) Q X.xe s₂) X.xe s₁) X.xe s := by
  refine thn (ha pins s σ H _ I h) fun v s1 ⟨x, H1, I1, r1, q1⟩ => ?_
  refine thn (hb pins s1 σ H1 _ I1 q1) fun u s2 ⟨y, H2, I2, r2, q2⟩ => ?_
  exact hf v u s2 x y H2 I2 r1 r2 q2
theorem pe_op {op : Operator} {r : R2} (ho : OpR X (binaryOp op) r) (ha : PE X a ta) (hb : PE X b tb) : PE X (.BinOp a op b pos) (tOp r ta tb) := by
  intro pins s σ H Q I h
  exact wpAny_BinOp (binT ha hb I h fun v u s2 x y H2 I2 rx ry q => ho pins s2 σ H2 x y v u Q I2 rx ry q)
theorem opI {f : Value → Value → Sem Value} {C : Int → Int → Prop} {g : Int → Int → Int}
    (rule : ∀ (i j : Int) (t u : Tok) (s : Shared) (Q : Value → Shared → Prop) (E : Value → Shared → Prop), C i j → Q (.int (g i j) s.toks) { s with toks := s.toks + 1 } → wpAny (model X.prog X.w) X.A (f (.int i t) (.int j u)) Q E s) :
    OpR X f (rI C fun i j => .int (g i j)) := by
  intro pins s σ H x y v u Q I rx ry h
  obtain ⟨i, j, rfl, rfl, hc, q⟩ := h
  obtain ⟨t, rfl⟩ := rx
  obtain ⟨t', rfl⟩ := ry
  exact rule i j t t' s _ _ hc ⟨.int (g i j), H, I.tok _, ⟨_, rfl⟩, q⟩
theorem opI0 {f : Value → Value → Sem Value} {g : Int → Int → Int}
    (rule : ∀ (i j : Int) (t u : Tok) (s : Shared) (Q : Value → Shared → Prop) (E : Value → Shared → Prop), Q (.int (g i j) s.toks) { s with toks := s.toks + 1 } → wpAny (model X.prog X.w) X.A (f (.int i t) (.int j u)) Q E s) :
    OpR X f (rI0 fun i j => .int (g i j)) := by
  intro pins s σ H x y v u Q I rx ry h
  obtain ⟨i, j, rfl, rfl, q⟩ := h
  obtain ⟨t, rfl⟩ := rx
  obtain ⟨t', rfl⟩ := ry
  exact rule i j t t' s _ _ ⟨.int (g i j), H, I.tok _, ⟨_, rfl⟩, q⟩
theorem opB0 {f : Value → Value → Sem Value} {g : Int → Int → Bool}
    (rule : ∀ (i j : Int) (t u : Tok) (s : Shared) (Q : Value → Shared → Prop) (E : Value → Shared → Prop), Q (.bool (g i j)) s → wpAny (model X.prog X.w) X.A (f (.int i t) (.int j u)) Q E s) :
    OpR X f (rI0 fun i j => .bl (g i j)) := by
  intro pins s σ H x y v u Q I rx ry h
  obtain ⟨i, j, rfl, rfl, q⟩ := h
  obtain ⟨t, rfl⟩ := rx
  obtain ⟨t', rfl⟩ := ry
  exact rule i j t t' s _ _ ⟨.bl (g i j), H, I, rfl, q⟩
noncomputable def CDiv (i j : Int) : Prop := 0 < j ∧ j < 1073741824
noncomputable def CPow (i j : Int) : Prop := 0 ≤ j ∧ j ≤ 1000000 ∧ i.natAbs < 2 ^ 64
noncomputable def CMul (i j : Int) : Prop := (-(2 ^ 64) < i ∧ i < 2 ^ 64) ∨ (-(2 ^ 64) < j ∧ j < 2 ^ 64)
theorem CMul.ok {i j : Int} (h : CMul i j) : IntMulOk i j := by
  rcases h with ⟨h1, h2⟩ | ⟨h1, h2⟩
  · exact .of_left (intBits_le_64 h1 h2)
  · exact .of_right (intBits_le_64 h1 h2)
theorem op_add : OpR X (binaryOp .Add) (rI0 fun i j => .int (i + j)) := opI0 fun _ _ _ _ _ _ _ q => add_int q
theorem op_mul : OpR X (binaryOp .Mult) (rI CMul fun i j => .int (i * j)) := opI fun _ _ _ _ _ _ _ hc q => mul_int q hc.ok
theorem op_fdiv : OpR X (binaryOp .FloorDiv) (rI CDiv fun i j => .int (i / j)) := opI fun i j _ _ _ _ _ hc q => by
  have h1 : (0 : Int) < j := hc.1
  have h2 : j < 1073741824 := hc.2
  exact floordiv_int (by omega) (by rw [Int.fdiv_eq_ediv_of_nonneg i (by omega)]; exact q) (.inl (PyProof.noPylong_small (by omega)))
theorem op_mod : OpR X (binaryOp .Mod) (rI (fun _ j => 0 < j) fun i j => .int (i % j)) := opI fun i j _ _ _ _ _ hc q => by
  have h1 : (0 : Int) < j := hc
  exact mod_int' (by omega) (by rw [Int.fmod_eq_emod_of_nonneg i (by omega)]; exact q)
theorem op_pow : OpR X (binaryOp .Pow) (rI CPow fun i j => .int (i ^ j.toNat)) := opI fun _ _ _ _ _ _ _ hc q => pow_int_small hc.1 hc.2.1 hc.2.2 q
end
noncomputable def scal : V → V → Bool
  | .non, .non => true | .non, .int _ => true | .int _, .non => true | .non, .bl _ => true | .bl _, .non => true | .non, .str _ => true | .str _, .non => true
  | .int _, .int _ => true | .bl _, .bl _ => true | .str _, .str _ => true | .byt _, .byt _ => true
  | .int _, .str _ => true | .str _, .int _ => true | .bl _, .str _ => true | .str _, .bl _ => true
  | _, _ => false
noncomputable def rEq : R2 := fun x y H Q => scal x y = true ∧ Q (.bl (decide (x = y))) H
noncomputable def rNe : R2 := fun x y H Q => scal x y = true ∧ Q (.bl (!decide (x = y))) H
theorem dec_int {i j : Int} : decide (V.int i = V.int j) = (i == j) := by
  rw [Bool.eq_iff_iff]
  simp
theorem dec_bl {i j : Bool} : decide (V.bl i = V.bl j) = (i == j) := by
  rw [Bool.eq_iff_iff]
  simp
theorem dec_str {i j : Str} : decide (V.str i = V.str j) = (i == j) := by
  rw [Bool.eq_iff_iff]
  simp
theorem dec_byt {i j : Array UInt8} : decide (V.byt i = V.byt j) = (i.toList == j.toList) := by
  rw [Bool.eq_iff_iff]
  cases i
  cases j
  simp
section
variable {X : Cx} {a b c : Expr} {ta tb tc : TE} {pos : Pos}
theorem fin_bl {pins : List (Addr × Obj)} {σ : St} {H : Hp} {s : Shared} {Q : VK} {k k' : Bool} (I : Inv X pins σ H s) (q : Q (.bl k) H) (e : k = k') : EP X pins σ Q (.bool k') s := by
  subst e
  exact ⟨.bl k, H, I, rfl, q⟩
theorem op_eq : OpR X (compareOp .Eq) rEq := by
  intro pins s σ H x y v u Q I rx ry h
  obtain ⟨hs, q⟩ := h
  cases x with
  | non =>
    cases rx
    cases y with
    | non => cases ry; exact PySem.EqNone.eq_none_none (fin_bl I q (by simp))
    | bl j => cases ry; exact PySem.EqNone.eq_none_bool (fin_bl I q (by simp))
    | int j => obtain ⟨t', rfl⟩ := ry; exact PySem.EqNone.eq_none_int (fin_bl I q (by simp))
    | str j => obtain ⟨t', rfl⟩ := ry; exact PySem.EqNone.eq_none_str (fin_bl I q (by simp))
    | _ => exact absurd (show false = true from hs) Bool.false_ne_true
  | bl i =>
    cases rx
    cases y with
    | non => cases ry; exact PySem.EqNone.eq_bool_none (fin_bl I q (by simp))
    | bl j => cases ry; exact eq_bool (fin_bl I q dec_bl)
    | str j => obtain ⟨t', rfl⟩ := ry; exact PySem.EqMixed.eq_bool_str (fin_bl I q (by simp))
    | _ => exact absurd (show false = true from hs) Bool.false_ne_true
  | int i =>
    obtain ⟨t, rfl⟩ := rx
    cases y with
    | non => cases ry; exact PySem.EqNone.eq_int_none (fin_bl I q (by simp))
    | int j => obtain ⟨t', rfl⟩ := ry; exact eq_int (fin_bl I q dec_int)
    | str j => obtain ⟨t', rfl⟩ := ry; exact PySem.EqMixed.eq_int_str (fin_bl I q (by simp))
    | _ => exact absurd (show false = true from hs) Bool.false_ne_true
  | str i =>
    obtain ⟨t, rfl⟩ := rx
    cases y with
    | non => cases ry; exact PySem.EqNone.eq_str_none (fin_bl I q (by simp))
    | bl j => cases ry; exact PySem.EqMixed.eq_str_bool (fin_bl I q (by simp))
    | int j => obtain ⟨t', rfl⟩ := ry; exact PySem.EqMixed.eq_str_int (fin_bl I q (by simp))
    | str j => obtain ⟨t', rfl⟩ := ry; exact eq_str (fin_bl I q dec_str)
    | _ => exact absurd (show false = true from hs) Bool.false_ne_true
  | byt i =>
    obtain ⟨t, rfl⟩ := rx
    cases y with
    | byt j => obtain ⟨t', rfl⟩ := ry; exact PySem.W.eq_bytes (fin_bl I q dec_byt)
    | _ => exact absurd (show false = true from hs) Bool.false_ne_true
  | _ => cases y <;> exact absurd (show false = true from hs) Bool.false_ne_true
theorem op_ne : OpR X (compareOp .NotEq) rNe := by
  intro pins s σ H x y v u Q I rx ry h
  obtain ⟨hs, q⟩ := h
  cases x with
  | non =>
    cases rx
    cases y with
    | non => cases ry; exact PySem.EqNone.ne_none_none (fin_bl I q (by simp))
    | bl j => cases ry; exact PySem.EqNone.ne_none_bool (fin_bl I q (by simp))
    | int j => obtain ⟨t', rfl⟩ := ry; exact PySem.EqNone.ne_none_int (fin_bl I q (by simp))
    | str j => obtain ⟨t', rfl⟩ := ry; exact PySem.EqNone.ne_none_str (fin_bl I q (by simp))
    | _ => exact absurd (show false = true from hs) Bool.false_ne_true
  | bl i =>
    cases rx
    cases y with
    | non => cases ry; exact PySem.EqNone.ne_bool_none (fin_bl I q (by simp))
    | bl j => cases ry; exact ne_bool (fin_bl I q (congrArg not dec_bl))
    | str j => obtain ⟨t', rfl⟩ := ry; exact PySem.EqMixed.ne_bool_str (fin_bl I q (by simp))
    | _ => exact absurd (show false = true from hs) Bool.false_ne_true
  | int i =>
    obtain ⟨t, rfl⟩ := rx
    cases y with
    | non => cases ry; exact PySem.EqNone.ne_int_none (fin_bl I q (by simp))
    | int j => obtain ⟨t', rfl⟩ := ry; exact ne_int (fin_bl I q (congrArg not dec_int))
    | str j => obtain ⟨t', rfl⟩ := ry; exact PySem.EqMixed.ne_int_str (fin_bl I q (by simp))
    | _ => exact absurd (show false = true from hs) Bool.false_ne_true
  | str i =>
    obtain ⟨t, rfl⟩ := rx
    cases y with
    | non => cases ry; exact PySem.EqNone.ne_str_none (fin_bl I q (by simp))
    | bl j => cases ry; exact PySem.EqMixed.ne_str_bool (fin_bl I q (by simp))
    | int j => obtain ⟨t', rfl⟩ := ry; exact PySem.EqMixed.ne_str_int (fin_bl I q (by simp))
    | str j => obtain ⟨t', rfl⟩ := ry; exact ne_str (fin_bl I q (congrArg not dec_str))
    | _ => exact absurd (show false = true from hs) Bool.false_ne_true
  | byt i =>
    obtain ⟨t, rfl⟩ := rx
    cases y with
    | byt j => obtain ⟨t', rfl⟩ := ry; exact PySem.W.ne_bytes (fin_bl I q (congrArg not dec_byt))
    | _ => exact absurd (show false = true from hs) Bool.false_ne_true
  | _ => cases y <;> exact absurd (show false = true from hs) Bool.false_ne_true
theorem op_lt : OpR X (compareOp .Lt) (rI0 fun i j => .bl (decide (i < j))) := opB0 fun _ _ _ _ _ _ _ q => lt_int q
theorem op_le : OpR X (compareOp .LtE) (rI0 fun i j => .bl (decide (i ≤ j))) := opB0 fun _ _ _ _ _ _ _ q => le_int q
theorem op_gt : OpR X (compareOp .Gt) (rI0 fun i j => .bl (decide (j < i))) := opB0 fun _ _ _ _ _ _ _ q => gt_int q
theorem op_ge : OpR X (compareOp .GtE) (rI0 fun i j => .bl (decide (j ≤ i))) := opB0 fun _ _ _ _ _ _ _ q => ge_int q
theorem op_lt_str : OpR X (compareOp .Lt) (fun x y H Q => ∃ i j, x = .str i ∧ y = .str j ∧ Q (.bl (decide (i.cps.toList < j.cps.toList))) H) := by
  intro pins s σ H x y v u Q I rx ry h
  obtain ⟨i, j, rfl, rfl, q⟩ := h
  obtain ⟨t, rfl⟩ := rx
  obtain ⟨t', rfl⟩ := ry
  exact lt_str (fin_bl I q rfl)
theorem op_isN : OpR X (compareOp .Is) (fun x y H Q => y = .non ∧ Q (.bl (decide (x = .non))) H) := by
  intro pins s σ H x y v u Q I rx ry h
  obtain ⟨rfl, q⟩ := h
  cases ry
  refine is_none_gen (fin_bl I q ?_)
  cases x <;> first
    | (cases rx; rfl)
    | (obtain ⟨t, rfl⟩ := rx; rfl)
theorem op_notN : OpR X (compareOp .IsNot) (fun x y H Q => y = .non ∧ Q (.bl (!decide (x = .non))) H) := by
  intro pins s σ H x y v u Q I rx ry h
  obtain ⟨rfl, q⟩ := h
  cases ry
  refine isnot_none_gen (fin_bl I q ?_)
  cases x <;> first
    | (cases rx; rfl)
    | (obtain ⟨t, rfl⟩ := rx; rfl)
theorem nomark (b : Expr) {op : CmpOp} (h : op ≠ .In := by decide) (h2 : op ≠ .NotIn := by decide) : behindInMarks op b = false := by
  have e1 : (op == CmpOp.In) = false := by cases op <;> first | rfl | exact absurd rfl h
  have e2 : (op == CmpOp.NotIn) = false := by cases op <;> first | rfl | exact absurd rfl h2
  cases b <;> simp [behindInMarks, e1, e2]
theorem pe_cmpR {op : CmpOp} {r : R2} (ho : OpR X (compareOp op) r) (ha : PE X a ta) (hb : PE X b tb) (hm : behindInMarks op b = false) : PE X (.Compare a [op] [b] pos) (tOp r ta tb) := by
  intro pins s σ H Q I h
  exact wpAny_Compare1 (binT ha hb I h fun v u s2 x y H2 I2 rx ry q => ho pins s2 σ H2 x y v u Q I2 rx ry q) hm
noncomputable def tTest (t : TE) : TT := fun σ H Q => t σ H fun x H' => ∃ k, x = .bl k ∧ Q k H'
theorem pt_cmpR {op : CmpOp} {r : R2} (ho : OpR X (compareOp op) r) (ha : PE X a ta) (hb : PE X b tb) (hm : behindInMarks op b = false) : PT X (.Compare a [op] [b] pos) (tTest (tOp r ta tb)) := by
  intro pins s σ H Q I h
  refine wpAny_isTrue_Compare1 (thn (ha pins s σ H _ I h) fun v s1 ⟨x, H1, I1, r1, q1⟩ => thn (hb pins s1 σ H1 _ I1 q1) fun u s2 ⟨y, H2, I2, r2, q2⟩ =>
    thn (ho pins s2 σ H2 x y v u _ I2 r1 r2 q2) fun c s3 ⟨z, H3, I3, r3, k, e, q3⟩ => ?_) hm
  subst e
  cases r3
  exact wpAny_truthy_bool ⟨H3, I3, q3⟩
noncomputable def tChain (r r' : R2) (ta tb tc : TE) : TE := fun σ H Q => ta σ H fun x H1 => tb σ H1 fun y H2 => r x y H2 fun z H3 => ∃ k, z = .bl k ∧
  (if k = true then tc σ H3 fun w' H4 => r' y w' H4 Q else Q (.bl false) H3)
theorem pe_chain {op op' : CmpOp} {r r' : R2} (ho : OpR X (compareOp op) r) (ho' : OpR X (compareOp op') r') (ha : PE X a ta) (hb : PE X b tb) (hc : PE X c tc)
    (hm : lastMarks [op, op'] [b, c] = false := by with_unfolding_all rfl) : PE X (.Compare a [op, op'] [b, c] pos) (tChain r r' ta tb tc) := by
  intro pins s σ H Q I h
  refine Compare_chain (thn (ha pins s σ H _ I h) fun v s1 ⟨x, H1, I1, r1, q1⟩ => chain_link (thn (hb pins s1 σ H1 _ I1 q1) fun u s2 ⟨y, H2, I2, r2, q2⟩ =>
    thn (ho pins s2 σ H2 x y v u _ I2 r1 r2 q2) fun d s3 ⟨z, H3, I3, r3, k, e, q3⟩ => ?_)) hm
  subst e
  cases r3
  refine wpAny_truthy_bool ?_
  cases k with
  | false => exact ite_ff ⟨.bl false, H3, I3, rfl, q3⟩
  | true => exact ite_tt (chain_last (thn (hc pins s3 σ H3 _ I3 q3) fun w' s4 ⟨z', H4, I4, r4, q4⟩ => ho' pins s4 σ H4 y z' u w' Q I4 r2 r4 q4))
theorem pt_chain {op op' : CmpOp} {r r' : R2} (ho : OpR X (compareOp op) r) (ho' : OpR X (compareOp op') r') (ha : PE X a ta) (hb : PE X b tb) (hc : PE X c tc)
    (hm : lastMarks [op, op'] [b, c] = false := by with_unfolding_all rfl) : PT X (.Compare a [op, op'] [b, c] pos) (tTest (tChain r r' ta tb tc)) := by
  intro pins s σ H Q I h
  refine isTrue_chain (thn (ha pins s σ H _ I h) fun v s1 ⟨x, H1, I1, r1, q1⟩ => test_link (thn (hb pins s1 σ H1 _ I1 q1) fun u s2 ⟨y, H2, I2, r2, q2⟩ =>
    thn (ho pins s2 σ H2 x y v u _ I2 r1 r2 q2) fun d s3 ⟨z, H3, I3, r3, k, e, q3⟩ => ?_)) hm
  subst e
  cases r3
  refine wpAny_truthy_bool ?_
  cases k with
  | false =>
    obtain ⟨k', e', q'⟩ := q3
    cases e'
    exact ite_ff ⟨H3, I3, q'⟩
  | true =>
    refine ite_tt (test_last (thn (hc pins s3 σ H3 _ I3 q3) fun w' s4 ⟨z', H4, I4, r4, q4⟩ => thn (ho' pins s4 σ H4 y z' u w' _ I4 r2 r4 q4) fun d' s5 ⟨z2, H5, I5, r5, k2, e2, q5⟩ => ?_))
    subst e2
    cases r5
    exact wpAny_truthy_bool ⟨H5, I5, q5⟩
theorem line63 : (sizeLine : Nat) < 2 ^ 63 := by rw [sizeLine_eq]; decide
theorem op_add_str : OpR X (binaryOp .Add) (fun x y H Q => ∃ i j, x = .str i ∧ y = .str j ∧ i.length + j.length ≤ sizeLine ∧ Q (.str (i ++ j)) H) := by
  intro pins s σ H x y v u Q I rx ry h
  obtain ⟨i, j, rfl, rfl, hz, q⟩ := h
  obtain ⟨t, rfl⟩ := rx
  obtain ⟨t', rfl⟩ := ry
  exact add_str (fun t' tk => ⟨.str (i ++ j), H, I.tok _, ⟨_, rfl⟩, q⟩) hz
theorem vals1 {x : V} {us : List Value} (r : Vals [x] us) : ∃ u, us = [u] ∧ RelV x u := by
  cases r with
  | cons r1 r2 => cases r2; exact ⟨_, rfl, r1⟩
theorem vals2 {x y : V} {us : List Value} (r : Vals [x, y] us) : ∃ u w', us = [u, w'] ∧ RelV x u ∧ RelV y w' := by
  cases r with
  | cons r1 r2 =>
    cases r2 with
    | cons r3 r4 => cases r4; exact ⟨_, _, rfl, r1, r3⟩
theorem call_abs : CallR X (.builtin "abs") (fun xs H Q => ∃ i, xs = [.int i] ∧ Q (.int (if i < 0 then -i else i)) H) := by
  intro pins s σ H xs us Q I r h
  obtain ⟨i, rfl, q⟩ := h
  obtain ⟨u, rfl, t, rfl⟩ := vals1 r
  exact call_abs_int fun u tk => ⟨.int (if i < 0 then -i else i), H, I.tok _, ⟨_, rfl⟩, q⟩
theorem call_min2 (hc : X.calm = true) : CallR X (.builtin "min") (fun xs H Q => ∃ i j, xs = [.int i, .int j] ∧ Q (.int (if j < i then j else i)) H) := by
  intro pins s σ H xs us Q I r h
  obtain ⟨i, j, rfl, q⟩ := h
  obtain ⟨u, w', rfl, ⟨t, rfl⟩, ⟨t', rfl⟩⟩ := vals2 r
  refine min_two_ints (I.ok.hd hc) fun h' tk k => ⟨_, H, I.kept k, ?_, q⟩
  by_cases hj : j < i
  · rw [if_pos hj, if_pos hj]; exact ⟨_, rfl⟩
  · rw [if_neg hj, if_neg hj]; exact ⟨_, rfl⟩
theorem call_int1 : CallR X (.type "int") (fun xs H Q => (∃ i, xs = [.int i] ∧ Q (.int i) H) ∨ ∃ k, xs = [.bl k] ∧ Q (.int (if k then 1 else 0)) H) := by
  intro pins s σ H xs us Q I r h
  rcases h with ⟨i, rfl, q⟩ | ⟨k, rfl, q⟩
  · obtain ⟨u, rfl, t, rfl⟩ := vals1 r
    exact call_int_int ⟨.int i, H, I, ⟨_, rfl⟩, q⟩
  · obtain ⟨u, rfl, r1⟩ := vals1 r
    cases r1
    exact call_int_bool ⟨.int (if k then 1 else 0), H, I.tok _, ⟨_, rfl⟩, q⟩
noncomputable def LenV (K : PySem.W.Frag) (x : V) (H : Hp) (n : Nat) : Prop :=
  match x with
  | .str y => y.length ≤ sizeLine ∧ n = y.length
  | .byt y => y.size ≤ sizeLine ∧ n = y.size
  | .ref p => (∃ xs, SqL K H p xs ∧ n = xs.length) ∨ ∃ xs, SqT K H p xs ∧ n = xs.length
  | _ => False
theorem call_len : CallR X (.builtin "len") (fun xs H Q => ∃ x n, xs = [x] ∧ LenV X.K x H n ∧ Q (.int n) H) := by
  intro pins s σ H xs us Q I r h
  obtain ⟨x, n, rfl, e, q⟩ := h
  obtain ⟨u, rfl, rx⟩ := vals1 r
  have hl := line63
  have hs : sizeLine = 16777216 := sizeLine_eq
  cases x with
  | str y =>
    obtain ⟨t, rfl⟩ := rx
    obtain ⟨hy, e'⟩ : y.length ≤ sizeLine ∧ n = y.length := e
    subst e'
    exact len_str (by omega) ⟨.int _, H, I.tok _, ⟨_, rfl⟩, q⟩
  | byt y =>
    obtain ⟨t, rfl⟩ := rx
    obtain ⟨hy, e'⟩ : y.size ≤ sizeLine ∧ n = y.size := e
    subst e'
    exact PySem.W.len_bytes (by omega) ⟨.int _, H, I.tok _, ⟨_, rfl⟩, q⟩
  | ref p =>
    cases rx
    have e' : (∃ xs, SqL X.K H p xs ∧ n = xs.length) ∨ ∃ xs, SqT X.K H p xs ∧ n = xs.length := e
    rcases e' with ⟨xs, hx, e'⟩ | ⟨xs, hx, e'⟩
    · subst e'
      obtain ⟨its, r', pl, hz⟩ := I.list hx
      have hlen := r'.length
      exact Calls.call_len_list pl.isList (by simp only [List.size_toArray]; omega) ⟨.int xs.length, H, I.tok _, ⟨_, by simp only [List.size_toArray]; rw [hlen]⟩, q⟩
    · subst e'
      obtain ⟨its, r', pl, hz⟩ := I.tuple hx
      have hlen := r'.length
      exact len_tuple pl (by simp only [List.size_toArray]; omega) ⟨.int xs.length, H, I.tok _, ⟨_, by simp only [List.size_toArray]; rw [hlen]⟩, q⟩
  | _ => exact (show False from e).elim
end
end L2
namespace L2
open PySem PySem.Spec PyProof.Rows
structure ObjM (h : Heap) (x dx C : Addr) (mA : Str → Option Value) : Prop where
  obj : h.get? x = some (PySem.W.instObj C dx)
  ns : h.Ns1 dx mA
  ne : dx ≠ x
theorem lookIn_ns {h : Heap} {dx : Addr} {mA : Str → Option Value} (n : h.Ns1 dx mA) : ∃ od, h.get? dx = some od ∧ ∀ name, PySem.W.lookIn name od = some (mA name) := by
  obtain ⟨o, es, ep, ho, hd, hk, _, hm⟩ := n
  refine ⟨o, ho, fun name => ?_⟩
  have e := hm name
  unfold nsFind findBy at e
  rw [← Array.find?_toList] at e
  unfold PySem.W.lookIn
  rw [hd]
  dsimp only
  split
  · rename_i y q
    rw [q] at e
    exact congrArg some e
  · rename_i q
    rw [q] at e
    have a : es.toList.any (·.refKey) = false := by
      rw [List.any_eq_false]
      intro y hy
      obtain ⟨z, t, hkey⟩ := hk y (Array.mem_toList_iff.mp hy)
      simp [DictEntry.refKey, hkey]
    have a' : ¬ es.toList.any (·.refKey) = true := by rw [a]; exact Bool.false_ne_true
    rw [if_neg a']
    exact congrArg some e
theorem ObjM.look {h : Heap} {x dx C : Addr} {mA : Str → Option Value} (I : ObjM h x dx C mA) : ∃ od, PySem.W.InstAt h x (PySem.W.instObj C dx) C (some od) ∧ ∀ name, PySem.W.lookIn name od = some (mA name) :=
  let ⟨od, ho, hl⟩ := lookIn_ns I.ns
  ⟨od, ⟨I.obj, rfl, rfl, ho⟩, hl⟩
theorem RelO.some_of {v : V} {o : Option Value} (r : RelO (some v) o) : ∃ u, o = some u ∧ RelV v u := by
  cases o with
  | none => exact (show False from r).elim
  | some u => exact ⟨u, rfl, r⟩
theorem handed_of {v : V} {u : Value} (r : RelV v u) : PySem.W.handedIn u = true := by
  cases v with
  | non => cases (show u = Value.none from r); rfl
  | bl b => cases (show u = Value.bool b from r); rfl
  | int i => obtain ⟨t, e⟩ := (show ∃ t, u = Value.int i t from r); cases e; rfl
  | str x => obtain ⟨t, e⟩ := (show ∃ t, u = Value.str x t from r); cases e; rfl
  | byt b => obtain ⟨t, e⟩ := (show ∃ t, u = Value.bytes b t from r); cases e; rfl
  | flt b => obtain ⟨t, e⟩ := (show ∃ t, u = Value.float b t from r); cases e; rfl
  | ref a => cases (show u = Value.ref a from r); rfl
  | ty n => cases (show u = Value.type n from r); rfl
section
variable {P : Program} {w : World} {H H' : Hp} {h h' : Heap} {a C dx : Addr} {fs fs' : List (Str × V)}
theorem ins_get (hok : HOk P w H h) (e : H a = some (.ins C dx fs)) : ∃ mA, ObjM h a dx C mA ∧ (∀ f, RelO (fs.lookup f) (mA f)) ∧ PySem.Within mA (fs.map (·.1)) ∧ fs.length ≤ 1000 ∧ H dx = some (.own a) := by
  obtain ⟨d, z, ne, ob, mA, n, r, q⟩ := (show ObjOk P w H h a (.ins C dx fs) from hok a _ e)
  exact ⟨mA, ⟨ob, n, ne⟩, r, q, z, d⟩
end
structure Cls (K : PySem.W.Frag) (C : Addr) : Prop where
  pg : PySem.W.plainGet K C Str.empty = true
  hd : PySem.W.hasDictIn K C = true
  po : PySem.W.plainOver K C = true
  sa : PySem.W.findIn K (.ref C) "__setattr__" = some (some (.builtin "object.__setattr__"))
theorem Cls.get {K : PySem.W.Frag} {C : Addr} (c : Cls K C) (f : Str) : PySem.W.plainGet K C f = true := c.pg
section
variable {X : Cx} {pins : List (Addr × Obj)} {σ : St} {H : Hp} {s : Shared} {a C dx : Addr} {fs : List (Str × V)} {f : Str} {v : V} {A : Around} {E : Value → Shared → Prop}
theorem attr_of {prog : Program} {w : World} {env : Env} {e : Expr} {f : Str} {pos : Pos} {s : Shared} {Q : Value → Shared → Prop} (hb : attributeBase e f env (eval e env) = eval e env)
    (h : wpAny (model prog w) A (eval e env) (fun o s₁ => wpAny (model prog w) A (getAttr o f true) Q E s₁) E s) : wpAny (model prog w) A (eval (.Attribute e f pos) env) Q E s :=
  Attribute_any_ h (by rw [arm_eval_Attribute, hb])
end
section
variable {X : Cx} {pins : List (Addr × Obj)} {σ : St} {H : Hp} {s : Shared} {A : Around} {E : Value → Shared → Prop} {Q : Value → Shared → Prop} {c : Value} {b : Bool}
inductive TyOf (K : PySem.W.Frag) (H : Hp) : V → Value → Prop where
  | non : TyOf K H .non (.type "NoneType")
  | bl (x : Bool) : TyOf K H (.bl x) (.type "bool")
  | int (i : Int) : TyOf K H (.int i) (.type "int")
  | str (x : Str) : TyOf K H (.str x) (.type "str")
  | flt (x : UInt64) : TyOf K H (.flt x) (.type "float")
  | lst {a : Addr} {xs : List V} (e : H a = some (.lst xs)) : TyOf K H (.ref a) (.type "list")
  | frz {a : Addr} {o : Obj} {xs : List V} (e : H a = some (.frz o (.lst xs))) : TyOf K H (.ref a) (.type "list")
  | tup {a : Addr} {xs : List V} (e : H a = some (.tup xs)) : TyOf K H (.ref a) (.type "tuple")
  | dK {a : Addr} {kvs : List (Key × V)} (e : H a = some (.dK kvs)) : TyOf K H (.ref a) (.type "dict")
  | dT {a : Addr} {kvs : List (List Key × V)} (e : H a = some (.dT kvs)) : TyOf K H (.ref a) (.type "dict")
  | ins {a C dx : Addr} {fs : List (Str × V)} (e : H a = some (.ins C dx fs)) (cl : Cls K C) (ha : PySem.W.findIn K (.ref C) "__class__" = some (some (.builtin "object.__class__")))
      (hn : PySem.W.specialIn K (.builtin "object.__class__") "__get__" = some (some (.builtin "getset_descriptor.__get__"))) (htk : PySem.W.takesIn K (.builtin "object.__class__") = some true)
      (hm : PySem.W.mroIn K C (.type "object") = some true) : TyOf K H (.ref a) (.ref C)
theorem isinst_ok {x : V} {u t : Value} (I : Inv X pins σ H s) (rx : RelV x u) (ty : TyOf X.K H x t) (e : PySem.W.kitOne X.K t c = some b) (h : ∀ tk, Q (.bool b) { s with toks := tk }) :
    wpAny (model X.prog X.w) A (call (.builtin "isinstance") [u, c]) Q E s := by
  cases ty with
  | non => cases (show u = Value.none from rx); exact PySem.W.kia_one PySem.W.kitx_none I.kIn True.intro e (fun z => nomatch z) h
  | bl y => cases (show u = Value.bool y from rx); exact PySem.W.kia_one PySem.W.kitx_bool I.kIn True.intro e (fun z => nomatch z) h
  | int i => obtain ⟨t, q⟩ := (show ∃ t, u = Value.int i t from rx); cases q; exact PySem.W.kia_one PySem.W.kitx_int I.kIn True.intro e (fun z => nomatch z) h
  | str y => obtain ⟨t, q⟩ := (show ∃ t, u = Value.str y t from rx); cases q; exact PySem.W.kia_one PySem.W.kitx_str I.kIn True.intro e (fun z => nomatch z) h
  | flt y => obtain ⟨t, q⟩ := (show ∃ t, u = Value.float y t from rx); cases q; exact PySem.W.kia_one PySem.W.kitx_float I.kIn True.intro e (fun z => nomatch z) h
  | @lst a xs ea =>
    cases (show u = Value.ref a from rx)
    obtain ⟨_, _, n, _, h1⟩ := (show ObjOk X.prog X.w H s.heap a (.lst xs) from I.hok a _ ea)
    exact PySem.W.kia_one PySem.W.kitx_list I.kIn ⟨_, h1, rfl⟩ e (fun z => nomatch z) h
  | @frz a ob xs ea =>
    cases (show u = Value.ref a from rx)
    obtain ⟨_, _, _, n, _, h1⟩ := (show ObjOk X.prog X.w H s.heap a (.frz ob (.lst xs)) from I.hok a _ ea)
    exact PySem.W.kia_one PySem.W.kitx_list I.kIn ⟨_, h1, rfl⟩ e (fun z => nomatch z) h
  | @tup a xs ea =>
    cases (show u = Value.ref a from rx)
    obtain ⟨_, _, _, p⟩ := (show ObjOk X.prog X.w H s.heap a (.tup xs) from I.hok a _ ea)
    obtain ⟨o, h1, h2, _⟩ := p
    exact PySem.W.kia_one PySem.W.kitx_tuple I.kIn ⟨o, h1, h2⟩ e (fun z => nomatch z) h
  | @dK a kvs ea =>
    cases (show u = Value.ref a from rx)
    obtain ⟨_, _, vs, _, p⟩ := (show ObjOk X.prog X.w H s.heap a (.dK kvs) from I.hok a _ ea)
    obtain ⟨o, es, ep, h1, h2, _⟩ := p
    exact PySem.W.kia_one PySem.W.kitx_dict I.kIn ⟨o, h1, h2.1⟩ e (fun z => nomatch z) h
  | @dT a kvs ea =>
    cases (show u = Value.ref a from rx)
    obtain ⟨_, _, xs, _, o, es, ep, h1, h2, _⟩ := (show ObjOk X.prog X.w H s.heap a (.dT kvs) from I.hok a _ ea)
    exact PySem.W.kia_one PySem.W.kitx_dict I.kIn ⟨o, h1, h2.1⟩ e (fun z => nomatch z) h
  | @ins a C dx fs ea cl ha hn htk hm =>
    cases (show u = Value.ref a from rx)
    obtain ⟨mA, O, _⟩ := ins_get I.hok ea
    obtain ⟨od, J, _⟩ := O.look
    exact PySem.W.kia_one (PySem.W.kitx_own (cl.get _) cl.hd ha hn htk hm) I.kIn J e (fun z => nomatch z) h
end
end L2
namespace L2
open PySem PySem.Spec PyProof.Rows
structure Room (k : Nat) (A : Around) : Prop where
  hd : A.handled = none
  dp : A.depth + 3 * k + 5 < recursionLimit
  un : A.units + 16 * k + 200 < cLine
  gd : A.guards = some []
theorem Room.mono {j k : Nat} {A : Around} (r : Room k A) (h : j ≤ k) : Room j A := ⟨r.hd, by have := r.dp; omega, by have := r.un; omega, r.gd⟩
theorem Room.deeper {k : Nat} {A : Around} (r : Room (k + 1) A) (env : Env) : Room k (A.deeper env) :=
  ⟨r.hd, by have := r.dp; show A.depth + 1 + 3 * k + 5 < _; omega, by have := r.un; show A.units + 3 + 16 * k + 200 < _; omega, r.gd⟩
theorem make_depth {A : Around} {C : Addr} {us : List Value} {kw : List (Str × Value)} : (A.under (.builtin "type.__call__" ⟨.ref C :: us, kw⟩)).depth = A.depth + 1 := by
  first | rfl | simp [Around.under, Code.weight, Code.isCreation, Code.isGuard, Code.isCaller, Code.frames, Code.isFrame, guardIds]
theorem make_units {A : Around} {C : Addr} {us : List Value} {kw : List (Str × Value)} : (A.under (.builtin "type.__call__" ⟨.ref C :: us, kw⟩)).units = A.units + 1 := by
  first | rfl | simp [Around.under, Code.cUnits, Code.frames, Code.isFrame]
theorem Room.make {k : Nat} {A : Around} (r : Room (k + 1) A) (C : Addr) (us : List Value) (kw : List (Str × Value)) : Room k (A.under (.builtin "type.__call__" ⟨.ref C :: us, kw⟩)) :=
  ⟨r.hd, by have := r.dp; rw [make_depth]; omega, by have := r.un; rw [make_units]; omega, by first | exact r.gd | (simp [Around.under, Code.isGuard, guardIds]; exact r.gd)⟩
theorem Room.depth {k : Nat} {A : Around} (r : Room k A) : A.depth < recursionLimit := by have := r.dp; omega
theorem Room.units {k : Nat} {A : Around} (r : Room k A) : A.units + 64 < cLine := by have := r.un; omega
noncomputable def tNil : TA := fun _ H Q => Q [] H
noncomputable def tCons (ta : TE) (tr : TA) : TA := fun σ H Q => ta σ H fun x H1 => tr σ H1 fun xs H2 => Q (x :: xs) H2
section
variable {X : Cx} {e : Expr} {es : List Expr} {te : TE} {t : TA} {pos : Pos}
theorem pa_nil : PA X [] tNil := fun _ _ _ _ H Q I h => Calls.spliced_nil ⟨[], H, I, .nil, h⟩
theorem pa_cons (ha : PE X e te) (hr : PA X es t) (hs : starEach (e :: es) X.env = (false, eval e X.env) :: starEach es X.env := by rfl) : PA X (e :: es) (tCons te t) := by
  intro pos pins s σ H Q I h
  rw [hs]
  show wpAny _ _ (spliced ((false, eval e X.env) :: backTo pos (starEach es X.env))) _ _ s
  refine Calls.spliced_cons (thn (ha pins s σ H _ I h) fun u s1 ⟨x, H1, I1, r1, q1⟩ => ?_)
  exact thn (hr pos pins s1 σ H1 _ I1 q1) fun us s2 ⟨xs, H2, I2, r2, q2⟩ => ⟨x :: xs, H2, I2, .cons r1 r2, q2⟩
noncomputable def tTup (t : TA) : TE := fun σ H Q => t σ H fun xs H1 => xs.length ≤ sizeLine ∧ ∀ p, H1 p = none → Q (.ref p) (upd H1 p (.tup xs))
noncomputable def tLst (t : TA) : TE := fun σ H Q => t σ H fun xs H1 => xs.length ≤ sizeLine ∧ ∀ p, H1 p = none → Q (.ref p) (upd H1 p (.lst xs))
theorem pe_tup {x1} (h : PA X es t) : PE X (.Tuple es x1 pos) (tTup t) := by
  intro pins s σ H Q I hq
  refine wpAny_Tuple_spliced (thn (h pos pins s σ H _ I hq) fun us s1 ⟨xs, H1, I1, r, z, q⟩ => ⟨by rw [← r.length]; exact z, ?_⟩)
  have hf : H1 s1.heap.objs.size = none := I1.hok.fresh (Nat.le_refl _)
  refine ⟨.ref s1.heap.objs.size, upd H1 s1.heap.objs.size (.tup xs), I1.laid (t' := s1.toks) (fun b u e => Heap.get?_push_of_some _ e) (Nat.le_refl _) ?_, rfl, q _ hf⟩
  exact ⟨z, us, r, ⟨_, Heap.get?_push_size _ rfl, rfl, _, rfl, rfl⟩⟩
theorem pe_lst (h : PA X es t) : PE X (.List es pos) (tLst t) := by
  intro pins s σ H Q I hq
  refine wpAny_List_spliced (thn (h pos pins s σ H _ I hq) fun us s1 ⟨xs, H1, I1, r, z, q⟩ => ⟨by rw [← r.length]; exact z, ?_⟩)
  have hf : H1 s1.heap.objs.size = none := I1.hok.fresh (Nat.le_refl _)
  refine ⟨.ref s1.heap.objs.size, upd H1 s1.heap.objs.size (.lst xs), I1.laid (t' := s1.toks) (fun b u e => Heap.get?_push_of_some _ e) (Nat.le_refl _) ?_, rfl, q _ hf⟩
  exact ⟨z, us, 0, r, Heap.get?_push_size _ rfl⟩
end
noncomputable abbrev Sp := List V → Hp → VK → XK → Prop
noncomputable abbrev CXT := List Env → Hp → Shared → XK → Value → Shared → Prop
structure Env0 (P : Program) (w : World) (K : PySem.W.Frag) (mg : Str → Option Value) (base : Heap) (A : Around) (outer : List Env) (s : Shared) (H : Hp) : Prop where
  frames : A.frames = some outer
  mod : Mod K mg base
  bs : ∀ b o, base.get? b = some o → s.heap.get? b = some o ∧ H b = none
  bsz : base.objs.size ≤ s.heap.objs.size
  funs : s.heap.FunFrames base outer
  frf : ∀ b ∈ frs outer, H b = none
  hok : HOk P w H s.heap
  bare : AllBare s.gens
noncomputable def CE (outer : List Env) (P : Program) (w : World) (H : Hp) (s : Shared) (Q : VK) (u : Value) (s' : Shared) : Prop :=
  ∃ v H', s'.os = s.os ∧ AllBare s'.gens ∧ Un (frs outer) [] H H' s.heap s'.heap ∧ HOk P w H' s'.heap ∧ RelV v u ∧ Q v H'
noncomputable def CR (CX : CXT) (outer : List Env) (P : Program) (w : World) (H : Hp) (s : Shared) (Q : VK) (E : XK) (r : Result) (s' : Shared) : Prop :=
  match r with
  | .ok (.ret u) => CE outer P w H s Q u s'
  | .ok _ => False
  | .error e => CX outer H s E e s'
structure FnOk (P : Program) (w : World) (K : PySem.W.Frag) (mg : Str → Option Value) (base : Heap) (CX : CXT) (k : Nat) (f : Addr) (fd : FuncData) (ps : List Str) (sp : Sp) : Prop where
  len : ∀ vs H Q E, sp vs H Q E → vs.length = ps.length
  run : ∀ (A : Around) (outer : List Env) (s : Shared) (H : Hp) (args : Args) (us : List Value) (vs : List V) (Q : VK) (E : XK), Room k A → Env0 P w K mg base A outer s H → BindsTo s fd args (ps.zip us) → Vals vs us → sp vs H Q E →
    codeAny (model P w) A (.call (.ref f) args) (CR CX outer P w H s Q E) s
theorem Env0.make {P : Program} {w : World} {K : PySem.W.Frag} {mg : Str → Option Value} {base : Heap} {A : Around} {outer : List Env} {s : Shared} {H : Hp} (e : Env0 P w K mg base A outer s H) (C : Addr) (us : List Value) (kw : List (Str × Value)) :
    Env0 P w K mg base (A.under (.builtin "type.__call__" ⟨.ref C :: us, kw⟩)) outer s H := ⟨by first | exact e.frames | (simpa [Around.under, Code.envs, Code.isFrame, pushEnvs] using e.frames), e.mod, e.bs, e.bsz, e.funs, e.frf, e.hok, e.bare⟩
section
variable {X : Cx} {pins : List (Addr × Obj)} {σ : St} {H : Hp} {s s' : Shared}
theorem Inv.env0 (I : Inv X pins σ H s) : Env0 X.prog X.w X.K X.mg X.base X.A X.stack s H :=
  ⟨I.ok.frames, I.ok.mod, I.bs, Nat.le_trans I.ok.bsz I.sz, I.stack, I.stkFree, I.hok, I.bare⟩
theorem Inv.after {Q : VK} {u : Value} (I : Inv X pins σ H s) (h : CE X.stack X.prog X.w H s Q u s') : EP X pins σ Q u s' := by
  obtain ⟨v, H', os, bare, un, hok, r, q⟩ := h
  obtain ⟨hh, g, d, t, os'⟩ := s'
  obtain rfl : os' = s.os := os
  exact ⟨v, H', I.call (h' := hh) (g' := g) (d' := d) (t' := t) (ch := []) un hok bare (fun b z => absurd z (by simp)), r, q⟩
end
noncomputable def tCall (sp : Sp) (dvs : List V) (E : XK) (t : TA) : TE := fun σ H Q => t σ H fun vs H1 => sp (vs ++ dvs) H1 Q E
noncomputable def Binds (K : PySem.W.Frag) (fd : FuncData) (ps : List Str) (ds : List Value) : Prop :=
  ∀ (s : Shared) (us : List Value), K.In s.heap → (us ++ ds).length = ps.length → BindsTo s fd ⟨us, []⟩ (ps.zip (us ++ ds))
theorem Binds.all {K : PySem.W.Frag} {fd : FuncData} {ps : List Str} (h : ∀ us : List Value, us.length = ps.length → bindArgs fd ⟨us, []⟩ = pure (ps.zip us)) : Binds K fd ps [] := fun s us _ hl => by
  rw [List.append_nil] at hl ⊢
  exact .of_eq (h us hl)
noncomputable def Passes (CX : CXT) (X : Cx) (E : XK) : Prop := ∀ (pins : List (Addr × Obj)) (σ : St) (H : Hp) (s : Shared) (e : Value) (s' : Shared), Inv X pins σ H s → CX X.stack H s E e s' → X.xe e s'
section
variable {X : Cx} {CX : CXT} {k : Nat} {f C : Addr} {fd : FuncData} {ps : List Str} {sp : Sp} {dvs : List V} {ds : List Value} {E : XK} {x m : Str} {p pos apos : Pos} {e o : Expr} {es : List Expr} {ta : TE} {t : TA}
theorem run_fn {pins : List (Addr × Obj)} {σ : St} {H : Hp} {s : Shared} {Q : VK} {us : List Value} {vs : List V} (F : FnOk X.prog X.w X.K X.mg X.base CX k f fd ps sp) (hr : Room k X.A) (hb : Binds X.K fd ps ds) (hd : Vals dvs ds) (hx : Passes CX X E)
    (I : Inv X pins σ H s) (r : Vals vs us) (h : sp (vs ++ dvs) H Q E) : wpAny (model X.prog X.w) X.A (call (.ref f) us) (EP X pins σ Q) X.xe s := by
  have r2 : Vals (vs ++ dvs) (us ++ ds) := r.append hd
  have hl : (us ++ ds).length = ps.length := by rw [← r2.length]; exact F.len _ _ _ _ h
  refine wpAny_call (codeAny_mono (F.run X.A X.stack s H ⟨us, []⟩ (us ++ ds) (vs ++ dvs) Q E hr I.env0 (hb s us I.kIn hl) r2 h) fun r s' hq => ?_)
  cases r with
  | error e => exact hx pins σ H s e s' I hq
  | ok fl =>
    cases fl with
    | ret u => exact I.after hq
    | next => exact False.elim hq
    | brk => exact False.elim hq
    | cont => exact False.elim hq
theorem pe_call (F : FnOk X.prog X.w X.K X.mg X.base CX k f fd ps sp) (hr : Room k X.A) (hg : Gl X x) (hm : X.mg x = some (.ref f)) (hk : PySem.W.keepIn X.K (.ref f) = true) (hb : Binds X.K fd ps ds) (hd : Vals dvs ds) (hx : Passes CX X E)
    (ha : PA X (e :: es) t) (hdb : (x == ("__debug__" : Str)) = false := by decide) (he : starEach (e :: es) X.env = (false, eval e X.env) :: starEach es X.env := by rfl) (hpl : (backTo pos (starEach es X.env)).any (·.1) = false := by rfl) :
    PE X (.Call (.Name x p) (e :: es) [] pos) (tCall sp dvs E t) := by
  intro pins s σ H Q I h
  refine wpAny_Call_Name_kw (ld_glob I hg hm ?_ hdb)
  refine PySem.W.callWith_K (h₀ := X.base) I.ok.mod.kin hk (thn (ha pos pins s σ H _ I h) fun us s1 ⟨vs, H1, I1, r, q⟩ => ⟨I1.kIn, ?_⟩) he hpl
  exact run_fn F hr hb hd hx I1 r q
end
structure FnScope (N P : List Str) (sc : Scope) : Prop where
  kind : sc.kind = .function
  co : sc.isCoroutine = false
  gen : sc.isGenerator = false
  nd : N.Nodup
  pre : N.take P.length = P
  par : ∀ x ∈ P, sc.names.lookup x = some .local ∨ sc.names.lookup x = some .cell
  nofree : ∀ y ∈ sc.names, y.2 ≠ .free
theorem bindL_out {kindOf : Str → Option NameKind} {x : Str} : ∀ {binds : List (Str × Value)} {m : Str → Option Value}, (∀ v, (x, v) ∉ binds) → bindL kindOf binds m x = m x
  | [], _, _ => rfl
  | (n, v) :: r, m, h => by
    unfold bindL
    rw [bindL_out fun w hw => h w (List.mem_cons_of_mem _ hw)]
    split
    · have : x ≠ n := by rintro rfl; exact h v List.mem_cons_self
      simp [this]
    · rfl
theorem bindC_out {kindOf : Str → Option NameKind} {x : Str} : ∀ {binds : List (Str × Value)} {m : Str → Option Value}, (∀ v, (x, v) ∉ binds) → bindC kindOf binds m x = m x
  | [], _, _ => rfl
  | (n, v) :: r, m, h => by
    unfold bindC
    rw [bindC_out fun w hw => h w (List.mem_cons_of_mem _ hw)]
    split
    · rfl
    · have : x ≠ n := by rintro rfl; exact h v List.mem_cons_self
      simp [this]
theorem bindL_get {kindOf : Str → Option NameKind} {x : Str} {v : Value} : ∀ {P : List Str} {vs : List Value} {i : Nat} {m : Str → Option Value}, P.Nodup → P[i]? = some x → vs[i]? = some v → kindOf x = some .local →
    bindL kindOf (P.zip vs) m x = some v
  | [], _, _, _, _, h, _, _ => by simp at h
  | _ :: _, [], _, _, _, _, h, _ => by simp at h
  | p :: P, w :: vs, 0, m, nd, h1, h2, hk => by
    simp at h1 h2; subst h1; subst h2
    show bindL kindOf ((p, w) :: P.zip vs) m p = _
    unfold bindL
    rw [bindL_out fun v hv => (List.nodup_cons.mp nd).1 (List.of_mem_zip hv).1, if_pos hk]
    simp
  | p :: P, w :: vs, i + 1, m, nd, h1, h2, hk => by
    show bindL kindOf ((p, w) :: P.zip vs) m x = _
    unfold bindL
    exact bindL_get (i := i) (List.nodup_cons.mp nd).2 (by simpa using h1) (by simpa using h2) hk
theorem bindC_get {kindOf : Str → Option NameKind} {x : Str} {v : Value} : ∀ {P : List Str} {vs : List Value} {i : Nat} {m : Str → Option Value}, P.Nodup → P[i]? = some x → vs[i]? = some v → kindOf x ≠ some .local →
    bindC kindOf (P.zip vs) m x = some v
  | [], _, _, _, _, h, _, _ => by simp at h
  | _ :: _, [], _, _, _, _, h, _ => by simp at h
  | p :: P, w :: vs, 0, m, nd, h1, h2, hk => by
    simp at h1 h2; subst h1; subst h2
    show bindC kindOf ((p, w) :: P.zip vs) m p = _
    unfold bindC
    rw [bindC_out fun v hv => (List.nodup_cons.mp nd).1 (List.of_mem_zip hv).1, if_neg hk]
    simp
  | p :: P, w :: vs, i + 1, m, nd, h1, h2, hk => by
    show bindC kindOf ((p, w) :: P.zip vs) m x = _
    unfold bindC
    exact bindC_get (i := i) (List.nodup_cons.mp nd).2 (by simpa using h1) (by simpa using h2) hk
noncomputable def start (N : List Str) (vs : List V) : St := vs.map some ++ List.replicate (N.length - vs.length) none
noncomputable def cxOf (CX : CXT) (P : Program) (w : World) (K : PySem.W.Frag) (mg : Str → Option Value) (base : Heap) (N : List Str) (qual : Str) (scope : Scope) (f : Addr) (cd : Value) (A : Around) (outer : List Env) (s : Shared) (H : Hp) (E : XK) : Cx where
  prog := P
  w := w
  K := K
  mg := mg
  base := base
  A := A.deeper (envOfC qual scope s.heap.objs.size f cd)
  N := N
  s₀ := s
  H₀ := H
  env := envOfC qual scope s.heap.objs.size f cd
  outer := outer
  stack := envOfC qual scope s.heap.objs.size f cd :: outer
  ex := []
  calm := true
  fn := fun _ => true
  pn := []
  xe := fun e s' => wpAny (model P w) (A.deeper (envOfC qual scope s.heap.objs.size f cd)) (leaving (envOfC qual scope s.heap.objs.size f cd) e) (fun _ s'' => CX outer H s E e s'') (fun e' s'' => CX outer H s E e' s'') s'
theorem cell_has {sc : Scope} {n : Nat} {x : Str} (h : sc.names.lookup x = some .cell) : ∃ c, (cellsFrom n sc.names []).lookup x = some c := by
  have q := PySem.W.cellsFrom_some sc.names n [] (.inl h)
  exact Option.isSome_iff_exists.mp q
theorem inv_start {CX : CXT} {P : Program} {w : World} {K : PySem.W.Frag} {mg : Str → Option Value} {base : Heap} {N ps : List Str} {qual : Str} {scope : Scope} {f : Addr} {cd : Value} {A : Around} {outer : List Env} {s s1 : Shared} {H : Hp} {E : XK} {us : List Value} {vs : List V}
    (S : FnScope N ps scope) (hd : A.handled = none) (e0 : Env0 P w K mg base A outer s H) (hl : vs.length = ps.length) (r : Vals vs us)
    (x : InCallC s s.heap.objs.size (bindL (envOfC qual scope s.heap.objs.size f cd).kindOf (ps.zip us) fun _ => none) (cellsFrom (s.heap.objs.size + 1) scope.names []) (bindC (envOfC qual scope s.heap.objs.size f cd).kindOf (ps.zip us) fun _ => none) s1) :
    Inv (cxOf CX P w K mg base N qual scope f cd A outer s H E) [] (start N vs) H s1 := by
  have hpl : ps.length ≤ N.length := by have := congrArg List.length S.pre; rw [List.length_take] at this; omega
  obtain ⟨h1, tk, rfl, hk⟩ := x.done
  have noA : ∀ b : Addr, b ∉ (cxOf CX P w K mg base N qual scope f cd A outer s H E).ex := fun b z => absurd (show b ∈ ([] : List Addr) from z) (by simp)
  refine ⟨⟨e0.mod, S.kind, rfl, rfl, Nat.le_refl _, fun y z c h1 h2 => ?_, fun y hy => ?_, fun y c _ h => ?_, fun _ => hd, Around.frames_deeper e0.frames, .inr ⟨rfl, rfl⟩, fun b z => absurd z (noA b), e0.bs, e0.bsz, fun b _ _ => noA b, fun b z => absurd z (noA b), e0.funs, e0.frf⟩,
    rfl, e0.bare, Un.kept hk, ⟨_, x.toInCall.ns, fun i y v h1 h2 h3 => ?_⟩, fun y c h => ⟨_, x.cell y c h⟩, e0.hok.fresh (Nat.le_refl _), fun y c h => ?_, fun p hp => absurd (show p ∈ ([] : List (Addr × Obj)) from hp) (by simp), e0.hok.kept hk, ?_⟩
  · exact name_of_addr x.apart (PySem.mem_of_lookup h1) (PySem.mem_of_lookup h2)
  · have hy : scope.names.lookup y = some .cell ∨ scope.names.lookup y = some .free := hy
    rcases hy with hy | hy
    · exact cell_has hy
    · exact absurd rfl (S.nofree _ (PySem.mem_of_lookup hy))
  · exact Nat.le_of_lt (x.above y c (PySem.mem_of_lookup h))
  · have hi : i < vs.length := by
      unfold start at h2
      by_cases hi : i < vs.length
      · exact hi
      · rw [List.getElem?_append_right (by simpa using hi)] at h2
        rw [List.getElem?_replicate] at h2
        split at h2 <;> cases h2
    have ha : vs[i]? = some v := by
      unfold start at h2
      rw [List.getElem?_append_left (by simpa using hi), List.getElem?_map] at h2
      cases e : vs[i]? with
      | none => rw [e] at h2; cases h2
      | some a => rw [e] at h2; cases h2; rfl
    obtain ⟨u, hu, rv⟩ := r.get ha
    have hp : ps[i]? = some y := by
      rw [← S.pre, List.getElem?_take_of_lt (by omega)]; exact h1
    have ndP : ps.Nodup := by rw [← S.pre]; exact S.nd.sublist (List.take_sublist _ _)
    refine ⟨u, rv, ?_⟩
    rcases S.par y (List.mem_of_getElem? hp) with k | k
    · exact .inl ⟨k, bindL_get ndP hp hu k⟩
    · obtain ⟨c, e⟩ := cell_has (n := s.heap.objs.size + 1) k
      refine .inr ⟨.inl k, c, e, ?_⟩
      have q := x.cell y c e
      rw [bindC_get ndP hp hu (by show scope.names.lookup y ≠ _; rw [k]; decide)] at q
      exact q
  · exact e0.hok.fresh (Nat.le_of_lt (x.above y c (PySem.mem_of_lookup h)))
  · unfold start
    show _ = N.length
    rw [List.length_append, List.length_map, List.length_replicate]
    omega
theorem fn_of {CX : CXT} {P : Program} {w : World} {K : PySem.W.Frag} {mg : Str → Option Value} {base : Heap} {k : Nat} {f : Addr} {name qual : Str} {params : Arguments} {body : List Stmt} {scope : Scope} {dV kV doc pm cdv ct oc : Value} {an od : Option Addr}
    {osl : Array (Option Value)} {N ps : List Str} {sp : Sp} (lk : K.lookup f = some ⟨oc, od, .func (PySem.W.fnOf name qual params body scope dV kV doc pm an cdv ct), osl⟩) (hcd : PySem.W.codeIn K cdv qual = true) (S : FnScope N ps scope)
    (len : ∀ vs H Q E, sp vs H Q E → vs.length = ps.length)
    (hbody : ∀ (A : Around) (outer : List Env) (s : Shared) (H : Hp) (vs : List V) (Q : VK) (E : XK), Room k (A.deeper (envOfC qual scope s.heap.objs.size f cdv)) → sp vs H Q E →
      ∃ t, PSs (cxOf CX P w K mg base N qual scope f cdv A outer s H E) body t ∧ t { nx := fun _ H' => Q .non H', rt := Q } (start N vs) H) :
    FnOk P w K mg base CX (k + 1) f (PySem.W.fnOf name qual params body scope dV kV doc pm an cdv ct) ps sp := by
  refine ⟨len, fun A outer s H args us vs Q E hr e0 hb r hsp => ?_⟩
  have hl := len _ _ _ _ hsp
  have KX : K.In s.heap := e0.mod.kin.keeps fun b o e => (e0.bs b o e).1
  have lim : s.heap.NoLimit := e0.mod.nolimit.keeps fun b o e => (e0.bs b o e).1
  have hkind : ∀ y ∈ ps.zip us, scope.names.lookup y.1 = some .local ∨ (scope.names.lookup y.1 = some .cell ∧ ((cellsFrom (s.heap.objs.size + 1) scope.names []).lookup y.1).isSome = true) := fun ⟨n, v⟩ hy => by
    rcases S.par n (List.of_mem_zip hy).1 with q | q
    · exact .inl q
    · exact .inr ⟨q, PySem.W.cellsFrom_some _ _ _ (.inl q)⟩
  refine codeAny_call_function hr.depth (KX _ _ lk) rfl S.co S.gen rfl (PySem.W.codeRec_of KX hcd) (hb _ _ _ _ ?_)
  refine wpAny_newFunctionEnv_cells S.kind hkind fun env he s1 x => ?_
  subst he
  refine ⟨lim.keeps x.toInCall.keep, codeAny_func ?_⟩
  obtain ⟨t, ht, hq⟩ := hbody A outer s H vs Q E (hr.deeper _) hsp
  have I : Inv (cxOf CX P w K mg base N qual scope f cdv A outer s H E) [] (start N vs) H s1 := inv_start S hr.hd e0 hl r x
  refine wpAny_mono (ht [] s1 (start N vs) H _ I hq) (fun fl s' hs => ?_) fun e s' hs => hs
  have fin : ∀ {σ' : St} {H' : Hp} {v : V} {u : Value}, Inv (cxOf CX P w K mg base N qual scope f cdv A outer s H E) [] σ' H' s' → RelV v u → Q v H' → CE outer P w H s Q u s' :=
    fun {σ' H' v u} J rv q => ⟨v, H', J.os, J.bare, J.base, J.hok, rv, q⟩
  cases fl with
  | ret u =>
    obtain ⟨v, σ', H', J, rv, q⟩ := hs
    exact fin J rv q
  | next =>
    obtain ⟨σ', H', J, q⟩ := hs
    exact fin (v := V.non) (u := Value.none) J rfl q
  | brk =>
    obtain ⟨_, _, _, q⟩ := hs
    exact False.elim q
  | cont =>
    obtain ⟨_, _, _, q⟩ := hs
    exact False.elim q
end L2
namespace L2
open PySem PySem.Spec PyProof.Rows
section
variable {X : Cx} {x : Str} {p pos : Pos} {e : Expr} {es : List Expr} {t : TA} {id T : String} {r : List V → Hp → VK → Prop}
noncomputable def tCB (r : List V → Hp → VK → Prop) (t : TA) : TE := fun σ H Q => t σ H fun vs H1 => r vs H1 Q
theorem pe_callB (hc : CallR X (.builtin id) r) (hg : Gl X x) (hm : X.mg x = none) (hv : bootBuiltins x = some (.builtin id)) (ha : PA X (e :: es) t) (hn : x ≠ "__name__" := by decide) (hdb : (x == ("__debug__" : Str)) = false := by decide)
    (he : starEach (e :: es) X.env = (false, eval e X.env) :: starEach es X.env := by rfl) (hpl : (backTo pos (starEach es X.env)).any (·.1) = false := by rfl) : PE X (.Call (.Name x p) (e :: es) [] pos) (tCB r t) := by
  intro pins s σ H Q I h
  refine wpAny_Call_Name_kw (ld_blt I hg hm hv ?_ hn hdb)
  exact PyProof.Rows.callWith_builtin1 (thn (ha pos pins s σ H _ I h) fun us s1 ⟨vs, H1, I1, r1, q1⟩ => hc pins s1 σ H1 vs us Q I1 r1 q1) he hpl
theorem pe_callTy (hc : CallR X (.type T) r) (hg : Gl X x) (hm : X.mg x = none) (hv : bootBuiltins x = some (.type T)) (ha : PA X (e :: es) t) (hn : x ≠ "__name__" := by decide) (hdb : (x == ("__debug__" : Str)) = false := by decide)
    (he : starEach (e :: es) X.env = (false, eval e X.env) :: starEach es X.env := by rfl) (hpl : (backTo pos (starEach es X.env)).any (·.1) = false := by rfl) : PE X (.Call (.Name x p) (e :: es) [] pos) (tCB r t) := by
  intro pins s σ H Q I h
  refine wpAny_Call_Name_kw (ld_blt I hg hm hv ?_ hn hdb)
  exact PyProof.Rows.callWith_type1 (thn (ha pos pins s σ H _ I h) fun us s1 ⟨vs, H1, I1, r1, q1⟩ => hc pins s1 σ H1 vs us Q I1 r1 q1) he hpl
end
end L2
namespace HT
open PySem PyProof.Rows
section
open PySem.SeqAt
open PySem.AutoSeq1 (wpAny_loadPart')
open PySem.MeetsSeq PySem.MeetsSeq2 PySem.MeetsSeq3
end
section
variable {prog : Program} {w : World} {A : Around} {E : Value → Shared → Prop} {s : Shared}
noncomputable def sIx (n d : Nat) : Option Int → Nat
  | none => d
  | some v => if v < 0 then (v + (n : Int)).toNat else min v.toNat n
theorem sIx_none (n d : Nat) : sIx n d none = d := rfl
theorem sIx_nat (n d k : Nat) : sIx n d (some (k : Int)) = min k n := by
  show (if (k : Int) < 0 then ((k : Int) + (n : Int)).toNat else min (k : Int).toNat n) = min k n
  rw [if_neg (by omega), Int.toNat_natCast]
end
end HT
namespace L2
open PySem PySem.Spec PyProof.Rows
noncomputable abbrev TO := St → Hp → (Option Int → Hp → Prop) → Prop
noncomputable def PO (X : Cx) (e : Option Expr) (t : TO) : Prop :=
  ∀ (pins : List (Addr × Obj)) (s : Shared) (σ : St) (H : Hp) (Q : Option Int → Hp → Prop), Inv X pins σ H s → t σ H Q →
    wpAny (model X.prog X.w) X.A (evalPart e X.env) (fun u s' => ∃ o H', Inv X pins σ H' s' ∧ IsPart u o ∧ Q o H') X.xe s
noncomputable def tNoPart : TO := fun _ H Q => Q none H
noncomputable def tPart (t : TE) : TO := fun σ H Q => t σ H fun x H1 => ∃ i, x = .int i ∧ Q (some i) H1
section
variable {X : Cx} {e : Expr} {te : TE} {lo hi : Option Expr} {tl th : TO} {pos p2 : Pos}
theorem po_none : PO X none tNoPart := by
  intro pins s σ H Q I h
  rw [evalPart_none]
  exact wpAny_pure ⟨none, H, I, .none, h⟩
theorem po_some (h : PE X e te) : PO X (some e) (tPart te) := by
  intro pins s σ H Q I hw
  rw [evalPart_some]
  refine thn (h pins s σ H _ I hw) fun u s1 ⟨x, H1, I1, r1, q1⟩ => ?_
  obtain ⟨i, rfl, q⟩ := q1
  obtain ⟨t, rfl⟩ := r1
  exact ⟨some i, H1, I1, .int i t, q⟩
noncomputable def SlR (X : Cx) (r : V → Option Int → Option Int → Hp → VK → Prop) : Prop :=
  ∀ (pins : List (Addr × Obj)) (s : Shared) (σ : St) (H : Hp) (x : V) (v vl vu : Value) (lo hi : Option Int) (sl : Addr) (Q : VK), Inv X pins σ H s → RelV x v → s.heap.IsSliceOf sl vl vu .none → IsPart vl lo → IsPart vu hi → r x lo hi H Q →
    ∃ T id, typeLookup (.type T) "__getitem__" = pure (some (.builtin id)) ∧ s.TypeIs v T ∧ wpAny (model X.prog X.w) X.A (getItem v (.ref sl)) (EP X pins σ Q) X.xe s
noncomputable def tSl (r : V → Option Int → Option Int → Hp → VK → Prop) (te : TE) (tl th : TO) : TE := fun σ H Q => te σ H fun x H1 => tl σ H1 fun l H2 => th σ H2 fun u H3 => r x l u H3 Q
theorem pe_slice {r : V → Option Int → Option Int → Hp → VK → Prop} (hr : SlR X r) (he : PE X e te) (hl : PO X lo tl) (hu : PO X hi th) : PE X (.Subscript e (.Slice lo hi none p2) pos) (tSl r te tl th) := by
  intro pins s σ H Q I h
  refine Subscript_ (thn (he pins s σ H _ I h) fun v s1 ⟨x, H1, I1, r1, q1⟩ => ?_)
  refine wpAny_Slice (thn (hl pins s1 σ H1 _ I1 q1) fun vl s2 ⟨l, H2, I2, pl, q2⟩ => thn (hu pins s2 σ H2 _ I2 q2) fun vu s3 ⟨u, H3, I3, pu, q3⟩ => ?_)
  rw [evalPart_none]
  refine wpAny_pure ?_
  have I4 : Inv X pins σ H3 { s3 with heap := s3.heap.push { cls := .type "slice", data := .fields #[vl, vu, .none] } } := I3.kept (t' := s3.toks) fun b ob q => Heap.get?_push_of_some _ q
  obtain ⟨T, id, hT, ht, hg⟩ := hr pins { s3 with heap := s3.heap.push { cls := .type "slice", data := .fields #[vl, vu, .none] } } σ H3 x v vl vu l u s3.heap.objs.size Q I4 r1 (Heap.IsSliceOf.new ..) pl pu q3
  show wpAny (model X.prog X.w) X.A (subscriptTail e (.Slice lo hi none p2) v (.ref s3.heap.objs.size)) (EP X pins σ Q) X.xe { s3 with heap := s3.heap.push { cls := .type "slice", data := .fields #[vl, vu, .none] } }
  exact tail_any (ops := [.ref s3.heap.objs.size, v]) ht hT hg (by with_unfolding_all rfl)
noncomputable def cutV (xs : List V) (lo hi : Option Int) : List V := (xs.drop (HT.sIx xs.length 0 lo)).take (HT.sIx xs.length xs.length hi - HT.sIx xs.length 0 lo)
theorem cutV_length (xs : List V) (lo hi : Option Int) : (cutV xs lo hi).length ≤ xs.length := by
  unfold cutV
  rw [List.length_take, List.length_drop]
  omega
end
end L2
namespace L2
open PySem PySem.Spec PyProof.Rows
noncomputable def ixN (n : Nat) (i : Int) : Option Nat := if 0 ≤ i then (if i < n then some i.toNat else none) else if -(n : Int) ≤ i then some (i + n).toNat else none
noncomputable def atI {α : Type} (xs : List α) (i : Int) : Option α := (ixN xs.length i).bind fun j => xs[j]?
theorem ixN_seq {n : Nat} {i : Int} {j : Nat} (h : ixN n i = some j) : seqIndex? i n = some j ∧ j < n ∧ -(n : Int) ≤ i ∧ i < n := by
  unfold ixN at h
  by_cases h0 : 0 ≤ i
  · rw [if_pos h0] at h
    by_cases h1 : i < n
    · rw [if_pos h1] at h
      have e : i.toNat = j := Option.some.inj h
      exact ⟨by rw [seqIndex_of h0 h1, e], by omega, by omega, h1⟩
    · rw [if_neg h1] at h; cases h
  · rw [if_neg h0] at h
    by_cases h1 : -(n : Int) ≤ i
    · rw [if_pos h1] at h
      have e : (i + n).toNat = j := Option.some.inj h
      exact ⟨by rw [seqIndex_neg (by omega) h1, e], by omega, h1, by omega⟩
    · rw [if_neg h1] at h; cases h
theorem atI_get {α : Type} {xs : List α} {i : Int} {v : α} (h : atI xs i = some v) : ∃ j, seqIndex? i xs.length = some j ∧ xs[j]? = some v ∧ j < xs.length ∧ -(xs.length : Int) ≤ i ∧ i < xs.length := by
  unfold atI at h
  cases e : ixN xs.length i with
  | none => rw [e] at h; cases h
  | some j =>
    rw [e] at h
    obtain ⟨h1, h2, h3, h4⟩ := ixN_seq e
    exact ⟨j, h1, h, h2, h3, h4⟩
theorem atI_nat {α : Type} {xs : List α} {j : Nat} {v : α} (h : xs[j]? = some v) : atI xs (j : Int) = some v := by
  have hj : j < xs.length := (List.getElem?_eq_some_iff.mp h).1
  have e : ixN xs.length (j : Int) = some j := by
    unfold ixN
    rw [if_pos (by omega), if_pos (by omega)]; simp
  unfold atI; rw [e]; exact h
noncomputable def PlainIx (b : Expr) : Prop := ∀ o i, subscripted b false o i = operate [o, i] (getItem o i)
noncomputable def IxR (X : Cx) (r : R2) : Prop :=
  ∀ (value slice : Expr) (pins : List (Addr × Obj)) (s : Shared) (σ : St) (H : Hp) (x y : V) (v u : Value) (Q : VK), Inv X pins σ H s → RelV x v → RelV y u → r x y H Q →
    subscripted slice false v u = operate [v, u] (getItem v u) → wpAny (model X.prog X.w) X.A (subscriptTail value slice v u) (EP X pins σ Q) X.xe s
noncomputable def MtR (X : Cx) (id : String) (r : V → List V → Hp → VK → Prop) : Prop :=
  ∀ (pins : List (Addr × Obj)) (s : Shared) (σ : St) (H : Hp) (x : V) (xs : List V) (v : Value) (us : List Value) (Q : VK), Inv X pins σ H s → RelV x v → Vals xs us → r x xs H Q →
    wpAny (model X.prog X.w) X.A (call (.builtin id) (v :: us)) (EP X pins σ Q) X.xe s
section
variable {X : Cx} {a b : Expr} {ta tb : TE} {pos : Pos}
theorem pe_ix {r : R2} (hr : IxR X r) (ha : PE X a ta) (hb : PE X b tb) (hs : PlainIx b) : PE X (.Subscript a b pos) (tOp r ta tb) := by
  intro pins s σ H Q I h
  exact Subscript_ (binT ha hb I h fun v u s2 x y H2 I2 rx ry q => hr a b pins s2 σ H2 x y v u Q I2 rx ry q (hs _ _))
noncomputable def rIxL (K : PySem.W.Frag) : R2 := fun x y H Q => ∃ p xs i v, x = .ref p ∧ y = .int i ∧ SqL K H p xs ∧ atI xs i = some v ∧ Q v H
noncomputable def rIxT (K : PySem.W.Frag) : R2 := fun x y H Q => ∃ p xs i v, x = .ref p ∧ y = .int i ∧ SqT K H p xs ∧ atI xs i = some v ∧ Q v H
noncomputable def rIxS : R2 := fun x y H Q => ∃ z i c, x = .str z ∧ y = .int i ∧ z.length ≤ sizeLine ∧ atI z.cps.toList i = some c ∧ Q (.str ⟨#[c]⟩) H
theorem ix_list : IxR X (rIxL X.K) := by
  intro value slice pins s σ H x y v u Q I rx ry h hs
  obtain ⟨p, xs, i, z, rfl, rfl, hq, he, q⟩ := h
  cases rx
  obtain ⟨t, rfl⟩ := ry
  obtain ⟨its, r, pl, hz⟩ := I.list hq
  obtain ⟨j, h1, h2, h3, h4, h5⟩ := atI_get he
  obtain ⟨w, ew, rw'⟩ := r.get h2
  have hl := r.length
  have hn := line63
  have fin : EP X pins σ Q w s := ⟨z, H, I, rw', q⟩
  by_cases h0 : 0 ≤ i
  · have hj : i.toNat = j := by
      rw [seqIndex_of h0 h5] at h1
      exact Option.some.inj h1
    exact item_listR pl.isList h0 (by omega) (by rw [hj]; simpa using ew) fin hs
  · have hj : (i + (its.toArray.size : Int)).toNat = j := by
      rw [seqIndex_neg (by omega) h4] at h1
      rw [List.size_toArray, ← hl]
      exact Option.some.inj h1
    exact subscriptTail_builtinR (x := w) pl.isList.typeIs slot_list_getitem.lookup
      (wpAny_getItem_list_neg (Q := fun r s' => r = w ∧ EP X pins σ Q r s') pl.isList (by omega) (by rw [List.size_toArray] <;> omega) (by omega) (by rw [hj]; simpa using ew) ⟨rfl, fin⟩) hs
theorem ix_tup : IxR X (rIxT X.K) := by
  intro value slice pins s σ H x y v u Q I rx ry h hs
  obtain ⟨p, xs, i, z, rfl, rfl, hq, he, q⟩ := h
  cases rx
  obtain ⟨t, rfl⟩ := ry
  obtain ⟨its, r, pl, hz⟩ := I.tuple hq
  obtain ⟨j, h1, h2, h3, h4, h5⟩ := atI_get he
  obtain ⟨w, ew, rw'⟩ := r.get h2
  have hl := r.length
  have hn := line63
  have fin : EP X pins σ Q w s := ⟨z, H, I, rw', q⟩
  exact subscriptTail_builtinR (x := w) pl.typeIs slot_tuple_getitem.lookup
    (getItem_tuple (j := j) (Q := fun r s' => r = w ∧ EP X pins σ Q r s') pl (by omega) (by omega) (by rw [List.size_toArray, ← hl]; exact h1) (by simpa using ew) ⟨rfl, fin⟩) hs
theorem ix_str : IxR X rIxS := by
  intro value slice pins s σ H x y v u Q I rx ry h hs
  obtain ⟨z, i, c, rfl, rfl, hz, he, q⟩ := h
  obtain ⟨t, rfl⟩ := rx
  obtain ⟨t', rfl⟩ := ry
  obtain ⟨j, h1, h2, h3, h4, h5⟩ := atI_get he
  have hl : z.cps.toList.length = z.length := by simp [Str.length]
  rw [hl] at h1 h4 h5
  have hn := line63
  exact tail_any (typeIs_str s z t) slot_str_getitem.lookup (getItem_str (c := c) (by
    have e1 : decide (i < -(2 ^ 63 : Int)) = false := decide_eq_false (by omega)
    have e2 : decide (i ≥ 2 ^ 63) = false := decide_eq_false (by omega)
    rw [e1, e2, Bool.or_false]) (by rw [h1]; simpa using h2) ⟨.str ⟨#[c]⟩, H, I.tok _, ⟨_, rfl⟩, q⟩) hs
theorem mapSeq_set (its : List Value) (n j : Nat) (u : Value) : Obj.mapSeq (·.setIfInBounds j u) { cls := .type "list", data := .seq its.toArray n } = { cls := .type "list", data := .seq (its.set j u).toArray n } := by
  simp [Obj.mapSeq]
theorem Inv.lst {pins : List (Addr × Obj)} {σ : St} {H : Hp} {s : Shared} {p : Addr} {xs : List V} (I : Inv X pins σ H s) (h : H p = some (.lst xs)) :
    ∃ (its : List Value) (n : Nat), Vals xs its ∧ s.heap.get? p = some { cls := .type "list", data := .seq its.toArray n } ∧ xs.length ≤ sizeLine := by
  obtain ⟨z, its, n, r, e⟩ := I.hok p _ h
  exact ⟨its, n, r, e, z⟩
theorem Inv.lstUpd {pins : List (Addr × Obj)} {σ : St} {H : Hp} {s : Shared} {p : Addr} {xs ys : List V} {its its' : List Value} {n n' : Nat} {f : Obj → Obj} (I : Inv X pins σ H s) (h : H p = some (.lst xs))
    (ho : s.heap.get? p = some { cls := .type "list", data := .seq its.toArray n }) (hf : f { cls := .type "list", data := .seq its.toArray n } = { cls := .type "list", data := .seq its'.toArray n' }) (r : Vals ys its') (hz : ys.length ≤ sizeLine) (t : Nat) :
    Inv X pins σ (upd H p (.lst ys)) { s with heap := s.heap.update p f, toks := t } := by
  have e : (s.heap.update p f).get? p = some { cls := .type "list", data := .seq its'.toArray n' } := by
    rw [Heap.get?_update_self f ho (by rw [hf] <;> rfl), hf]
  refine I.write (x := p) (e := p) (by rw [h]; trivial) (.inl rfl) (fun b u hb q => (Heap.get?_update_other _ _ (Ne.symm hb)).trans q) ⟨_, e⟩ ?_
  exact ⟨hz, its', n', r, e⟩
noncomputable def rSetL : V → V → V → Hp → (Hp → Prop) → Prop := fun o i v H Q => ∃ p xs k j, o = .ref p ∧ i = .int k ∧ H p = some (.lst xs) ∧ ixN xs.length k = some j ∧ Q (upd H p (.lst (xs.set j v)))
theorem set_list : PSet X rSetL := by
  intro pins s σ H o i v ov iv u Q I ro ri rv h
  obtain ⟨p, xs, k, j, rfl, rfl, hp, hj, q⟩ := h
  cases ro
  obtain ⟨t, rfl⟩ := ri
  obtain ⟨its, n, r, ho, hz⟩ := I.lst hp
  obtain ⟨h1, h2, h3, h4⟩ := ixN_seq hj
  have hl := r.length
  have hn := line63
  have I' : Inv X pins σ (upd H p (.lst (xs.set j v))) { s with heap := s.heap.update p (Obj.mapSeq (·.setIfInBounds j u)) } :=
    I.lstUpd hp ho (mapSeq_set its n j u) (r.set rv j) (by rw [List.length_set]; exact hz) s.toks
  by_cases h0 : 0 ≤ k
  · have hk : k.toNat = j := by
      rw [seqIndex_of h0 h4] at h1
      exact Option.some.inj h1
    exact PySem.W.ki_setAt ho h0 (by omega) (by rw [List.size_toArray, ← hl]; exact h4) (by rw [hk]; exact ⟨_, I', q⟩)
  · have hk : (k + (its.toArray.size : Int)).toNat = j := by
      rw [seqIndex_neg (by omega) h3] at h1
      rw [List.size_toArray, ← hl]
      exact Option.some.inj h1
    exact PySem.W.ki_setBack ho (by omega) (by rw [List.size_toArray, ← hl]; exact h3) (by omega) (by rw [hk]; exact ⟨_, I', q⟩)
theorem slice_bounds (lo hi : Option Int) (n : Nat) : (sliceBounds lo hi none n).1 = ((HT.sIx n 0 lo : Nat) : Int) ∧ (sliceBounds lo hi none n).2.1 = ((HT.sIx n n hi : Nat) : Int) ∧ (sliceBounds lo hi none n).2.2 = 1 := by
  refine ⟨?_, ?_, rfl⟩
  · cases lo with
    | none => simp [sliceBounds, HT.sIx]
    | some i =>
      simp only [sliceBounds, HT.sIx, Option.getD_none, show (1 : Int) > 0 by decide, if_true]
      by_cases h : i < 0
      · simp only [h, if_true] <;> omega
      · simp only [h, if_false] <;> omega
  · cases hi with
    | none => simp [sliceBounds, HT.sIx]
    | some i =>
      simp only [sliceBounds, HT.sIx, Option.getD_none, show (1 : Int) > 0 by decide, if_true]
      by_cases h : i < 0
      · simp only [h, if_true] <;> omega
      · simp only [h, if_false] <;> omega
theorem slicePick_cut (its : List Value) (lo hi : Option Int) : slicePick its.toArray lo hi none = ((its.drop (HT.sIx its.length 0 lo)).take (HT.sIx its.length its.length hi - HT.sIx its.length 0 lo)).toArray := by
  obtain ⟨h1, h2, h3⟩ := slice_bounds lo hi its.toArray.size
  unfold slicePick
  rw [h1, h2, h3]
  simp only [sliceRange_one, pick_run, List.size_toArray] <;> rfl
noncomputable def rSlL (K : PySem.W.Frag) : V → Option Int → Option Int → Hp → VK → Prop := fun x lo hi H Q => ∃ a xs, x = .ref a ∧ SqL K H a xs ∧ ∀ p, H p = none → Q (.ref p) (upd H p (.lst (cutV xs lo hi)))
theorem sl_list : SlR X (rSlL X.K) := by
  intro pins s σ H x v vl vu lo hi sl Q I rx hs pl pu h
  obtain ⟨a, xs, rfl, hx, q⟩ := h
  cases rx
  obtain ⟨its, r, ht, hz⟩ := I.list hx
  have hlen := r.length
  refine ⟨"list", _, slot_list_getitem.lookup, ht.isList.typeIs, ?_⟩
  refine wpAny_getItem_list_slice ht.isList hs pl pu .none (by simp) ?_ (by rw [List.size_toArray] <;> omega)
  rw [slicePick_cut, ← hlen]
  refine ⟨.ref s.heap.objs.size, _, I.laid (t' := s.toks) (o := .lst (cutV xs lo hi)) (fun b ob q => Heap.get?_push_of_some _ q) (Nat.le_refl _) ?_, rfl, q _ (I.hok.fresh (Nat.le_refl _))⟩
  exact ⟨Nat.le_trans (cutV_length xs lo hi) hz, _, 0, (r.drop (HT.sIx xs.length 0 lo)).take (HT.sIx xs.length xs.length hi - HT.sIx xs.length 0 lo), Heap.get?_push_size _ rfl⟩
noncomputable def flatV : V → Bool
  | .non => true
  | .bl _ => true
  | .int _ => true
  | .str _ => true
  | _ => false
noncomputable def eqV : V → V → Bool
  | .non, .non => true
  | .bl a, .bl b => a == b
  | .bl a, .int b => (if a then 1 else 0) == b
  | .int a, .bl b => a == (if b then 1 else 0)
  | .int a, .int b => a == b
  | .str a, .str b => a == b
  | _, _ => false
theorem eqAt_V {A : Around} {s : Shared} {y x : V} {u v : Value} (ry : RelV y u) (rx : RelV x v) (fy : flatV y = true) (fx : flatV x = true) : SeqAt.EqAt A s u v (eqV y x) := by
  cases y with
  | non =>
    cases ry
    cases x with
    | non => cases rx; exact SeqAt.EqAt.same _
    | bl b => cases rx; exact SeqAt.EqAt.none_bool b
    | int b => obtain ⟨t, rfl⟩ := rx; exact SeqAt.EqAt.none_int b t
    | str b => obtain ⟨t, rfl⟩ := rx; exact SeqAt.EqAt.none_str b t
    | _ => exact absurd (show false = true from fx) Bool.false_ne_true
  | bl a =>
    cases ry
    cases x with
    | non => cases rx; exact SeqAt.EqAt.bool_none a
    | bl b => cases rx; exact SeqAt.EqAt.bool_bool a b
    | int b => obtain ⟨t, rfl⟩ := rx; exact SeqAt.EqAt.bool_int a b t
    | str b => obtain ⟨t, rfl⟩ := rx; exact SeqAt.EqAt.bool_str a b t
    | _ => exact absurd (show false = true from fx) Bool.false_ne_true
  | int a =>
    obtain ⟨t', rfl⟩ := ry
    cases x with
    | non => cases rx; exact SeqAt.EqAt.int_none a t'
    | bl b => cases rx; exact SeqAt.EqAt.int_bool a t' b
    | int b => obtain ⟨t, rfl⟩ := rx; exact SeqAt.EqAt.int_int a t' b t
    | str b => obtain ⟨t, rfl⟩ := rx; exact SeqAt.EqAt.int_str a t' b t
    | _ => exact absurd (show false = true from fx) Bool.false_ne_true
  | str a =>
    obtain ⟨t', rfl⟩ := ry
    cases x with
    | non => cases rx; exact SeqAt.EqAt.str_none a t'
    | bl b => cases rx; exact SeqAt.EqAt.str_bool a t' b
    | int b => obtain ⟨t, rfl⟩ := rx; exact SeqAt.EqAt.str_int a t' b t
    | str b => obtain ⟨t, rfl⟩ := rx; exact SeqAt.EqAt.str_str a t' b t
    | _ => exact absurd (show false = true from fx) Bool.false_ne_true
  | _ => exact absurd (show false = true from fy) Bool.false_ne_true
noncomputable def eqU (x : V) (u : Value) : Bool := match u with
  | .none => eqV .non x
  | .bool b => eqV (.bl b) x
  | .int i _ => eqV (.int i) x
  | .str z _ => eqV (.str z) x
  | _ => false
theorem eqU_of {x y : V} {u : Value} (r : RelV y u) (f : flatV y = true) : eqU x u = eqV y x := by
  cases y with
  | non => cases r; rfl
  | bl b => cases r; rfl
  | int i => obtain ⟨t, rfl⟩ := r; rfl
  | str z => obtain ⟨t, rfl⟩ := r; rfl
  | _ => exact absurd (show false = true from f) Bool.false_ne_true
theorem any_eqU {x : V} : ∀ {xs : List V} {us : List Value}, Vals xs us → xs.all flatV = true → us.any (eqU x) = xs.any fun y => eqV y x
  | _, _, .nil, _ => rfl
  | y :: xs, u :: us, .cons r t, f => by
    rw [List.all_cons, Bool.and_eq_true] at f
    rw [List.any_cons, List.any_cons, eqU_of r f.1, any_eqU t f.2]
theorem mem_eqAt {A : Around} {s : Shared} {x : V} {v : Value} (rx : RelV x v) (fx : flatV x = true) : ∀ {xs : List V} {us : List Value}, Vals xs us → xs.all flatV = true → ∀ u ∈ us, SeqAt.EqAt A s u v (eqU x u)
  | _, _, .nil, _ => fun u hu => by cases hu
  | y :: xs, u :: us, .cons r t, f => fun u' hu => by
    rw [List.all_cons, Bool.and_eq_true] at f
    rcases List.mem_cons.mp hu with rfl | hu
    · rw [eqU_of r f.1]; exact eqAt_V r rx f.1 fx
    · exact mem_eqAt rx fx t f.2 u' hu
noncomputable def inV (x : V) (xs : List V) : Bool := xs.any fun y => eqV y x
noncomputable def rIn (K : PySem.W.Frag) (neg : Bool) : R2 := fun x y H Q => ∃ p xs, y = .ref p ∧ (SqL K H p xs ∨ SqT K H p xs) ∧ flatV x = true ∧ xs.all flatV = true ∧ Q (.bl (if neg then !inV x xs else inV x xs)) H
theorem op_in_seq : OpR X (compareOp .In) (rIn X.K false) := by
  intro pins s σ H x y v u Q I rx ry h
  obtain ⟨p, xs, rfl, hq, fx, fs, q⟩ := h
  cases ry
  rcases hq with hq | hq
  · obtain ⟨its, r, pl, hz⟩ := I.list hq
    refine SeqAt.in_listAt (eqU x) pl.isList (fun w hw => mem_eqAt rx fx r fs w (by simpa using hw)) ⟨.bl _, H, I, rfl, ?_⟩
    rw [show its.toArray.any (eqU x) = its.any (eqU x) by simp, any_eqU r fs]
    exact q
  · obtain ⟨its, r, pl, hz⟩ := I.tuple hq
    refine SeqAt.in_tupleAt (eqU x) pl (fun w hw => mem_eqAt rx fx r fs w (by simpa using hw)) ⟨.bl _, H, I, rfl, ?_⟩
    rw [show its.toArray.any (eqU x) = its.any (eqU x) by simp, any_eqU r fs]
    exact q
theorem op_notIn_seq : OpR X (compareOp .NotIn) (rIn X.K true) := by
  intro pins s σ H x y v u Q I rx ry h
  obtain ⟨p, xs, rfl, hq, fx, fs, q⟩ := h
  cases ry
  rcases hq with hq | hq
  · obtain ⟨its, r, pl, hz⟩ := I.list hq
    refine SeqAt.notIn_listAt (eqU x) pl.isList (fun w hw => mem_eqAt rx fx r fs w (by simpa using hw)) ⟨.bl _, H, I, rfl, ?_⟩
    rw [show its.toArray.any (eqU x) = its.any (eqU x) by simp, any_eqU r fs]
    exact q
  · obtain ⟨its, r, pl, hz⟩ := I.tuple hq
    refine SeqAt.notIn_tupleAt (eqU x) pl (fun w hw => mem_eqAt rx fx r fs w (by simpa using hw)) ⟨.bl _, H, I, rfl, ?_⟩
    rw [show its.toArray.any (eqU x) = its.any (eqU x) by simp, any_eqU r fs]
    exact q
theorem call_list_of : CallR X (.type "list") (fun xs H Q => ∃ p ys, xs = [.ref p] ∧ (SqL X.K H p ys ∨ SqT X.K H p ys) ∧ ∀ l, H l = none → Q (.ref l) (upd H l (.lst ys))) := by
  intro pins s σ H xs us Q I r h
  obtain ⟨p, ys, rfl, hq, q⟩ := h
  obtain ⟨u, rfl, rx⟩ := vals1 r
  cases rx
  have fin : ∀ (its : List Value), Vals ys its → ys.length ≤ sizeLine → ∀ (h' : Heap) (c' : Nat), (∀ b o', s.heap.get? b = some o' → h'.get? b = some o') →
      h'.get? s.heap.objs.size = some { cls := .type "list", dict := none, data := .seq its.toArray c', slots := #[] } → EP X pins σ Q (.ref s.heap.objs.size) { s with heap := h' } := fun its r' hz h' c' kp e =>
    ⟨.ref s.heap.objs.size, _, I.laid (t' := s.toks) kp (Nat.le_refl _) (show ObjOk X.prog X.w _ h' _ (.lst ys) from ⟨hz, its, c', r', e⟩), rfl, q _ (I.hok.fresh (Nat.le_refl _))⟩
  rcases hq with hq | hq
  · obtain ⟨its, r', pl, hz⟩ := I.list hq
    have hlen := r'.length
    obtain ⟨o, ho, hc, n, hd⟩ := pl.isList
    exact call_list_seq p (.inl rfl) ho hc hd (fun h' c' kp e => fin its r' hz h' c' kp e) (by simp only [List.size_toArray] <;> omega)
  · obtain ⟨its, r', pl, hz⟩ := I.tuple hq
    have hlen := r'.length
    obtain ⟨o, ho, hc, n, hd⟩ := pl
    exact call_list_seq p (.inr rfl) ho hc hd (fun h' c' kp e => fin its r' hz h' c' kp e) (by simp only [List.size_toArray] <;> omega)
theorem call_tuple_of : CallR X (.type "tuple") (fun xs H Q => ∃ p ys, xs = [.ref p] ∧ ((SqL X.K H p ys ∧ ∀ l, H l = none → Q (.ref l) (upd H l (.tup ys))) ∨ (SqT X.K H p ys ∧ Q (.ref p) H))) := by
  intro pins s σ H xs us Q I r h
  obtain ⟨p, ys, rfl, h⟩ := h
  obtain ⟨u, rfl, rx⟩ := vals1 r
  cases rx
  rcases h with ⟨hq, q⟩ | ⟨hq, q⟩
  · obtain ⟨its, r', pl, hz⟩ := I.list hq
    have hlen := r'.length
    refine call_tuple_list pl.isList (fun h' kp => ?_) (by simp only [List.size_toArray] <;> omega)
    have I1 : Inv X pins σ H { s with heap := h' } := I.kept (t' := s.toks) kp
    have I2 : Inv X pins σ (upd H h'.objs.size (.tup ys)) { s with heap := h'.push { cls := .type "tuple", data := .seq its.toArray } } :=
      I1.laid (t' := s.toks) (fun b o e => Heap.get?_push_of_some _ e) (Nat.le_refl _) (show ObjOk X.prog X.w _ _ _ (.tup ys) from ⟨hz, its, r', TupN.new _ _⟩)
    exact ⟨.ref h'.objs.size, _, I2, rfl, q _ (I1.hok.fresh (Nat.le_refl _))⟩
  · obtain ⟨its, r', pl, hz⟩ := I.tuple hq
    exact call_tuple_same pl ⟨.ref p, H, I, rfl, q⟩
noncomputable def tyV (K : PySem.W.Frag) (T : String) (x : V) (H : Hp) : Prop := match x with
  | .str _ => T = "str"
  | .int _ => T = "int"
  | .ref p => (T = "list" ∧ ∃ xs, SqL K H p xs) ∨ (T = "tuple" ∧ ∃ o, K.lookup p = some o ∧ o.cls = .type "tuple" ∧ o.dict = none) ∨
      (T = "dict" ∧ ((∃ kvs, H p = some (.dK kvs)) ∨ ∃ kvs, H p = some (.dT kvs))) ∨ (T = "set" ∧ ∃ S n, H p = some (.set S n))
  | _ => False
theorem tyV_is {pins : List (Addr × Obj)} {σ : St} {H : Hp} {s : Shared} {T : String} {x : V} {v : Value} (I : Inv X pins σ H s) (r : RelV x v) (ty : tyV X.K T x H) :
    s.TypeIs v T ∧ ∀ a, v = .ref a → ∃ ob, s.heap.get? a = some ob ∧ ob.dict = none := by
  cases x with
  | str z =>
    obtain ⟨t, rfl⟩ := r
    cases (show T = "str" from ty)
    exact ⟨typeIs_str s z t, fun _ e => nomatch e⟩
  | int i =>
    obtain ⟨t, rfl⟩ := r
    cases (show T = "int" from ty)
    exact ⟨typeIs_int s i t, fun _ e => nomatch e⟩
  | ref p =>
    cases r
    rcases ty with ⟨rfl, xs, hq⟩ | ⟨rfl, o, hk, hc, hd⟩ | ⟨rfl, hk⟩ | ⟨rfl, S, n, hk⟩
    · obtain ⟨its, _, pl, _⟩ := I.list hq
      refine ⟨pl.isList.typeIs, fun a e => ?_⟩
      cases e
      obtain ⟨o, n, e, c, hd, _⟩ := pl
      exact ⟨o, e, hd⟩
    · refine ⟨⟨o, I.kIn p o hk, hc⟩, fun a e => ?_⟩
      cases e
      exact ⟨o, I.kIn _ o hk, hd⟩
    · have z : ∃ o, s.heap.get? p = some o ∧ o.ExactDict := by
        rcases hk with ⟨kvs, hk⟩ | ⟨kvs, hk⟩
        · obtain ⟨_, _, _, _, o, _, _, e, ex, _⟩ := I.hok p _ hk
          exact ⟨o, e, ex⟩
        · obtain ⟨_, _, _, _, o, _, _, e, ex, _⟩ := I.hok p _ hk
          exact ⟨o, e, ex⟩
      obtain ⟨o, e, ex⟩ := z
      refine ⟨⟨o, e, ex.1⟩, fun a e2 => ?_⟩
      cases e2
      exact ⟨o, e, ex.2.1⟩
    · obtain ⟨o, _, _, _, e, ex, _⟩ := I.hok p _ hk
      refine ⟨⟨o, e, ex.1⟩, fun a e2 => ?_⟩
      cases e2
      exact ⟨o, e, ex.2.1⟩
  | _ => exact False.elim ty
noncomputable def tBM (K : PySem.W.Frag) (T : String) (r : V → List V → Hp → VK → Prop) (to : TE) (t : TA) : TE := fun σ H Q => to σ H fun x H1 => tyV K T x H1 ∧ t σ H1 fun xs H2 => r x xs H2 Q
variable {o e : Expr} {es : List Expr} {to : TE} {t : TA} {name : Str} {apos cpos : Pos} {T id : String} {r : V → List V → Hp → VK → Prop}
theorem pe_bm (pa : PlainAttrs T) (slot : Slot T name id) (hty : typeOf (.builtin id) = pure (.type "method_descriptor")) (hm : MtR X id r) (ho : PE X o to) (ha : PA X (e :: es) t)
    (hbase : attributeBase o name X.env (eval o X.env) = eval o X.env := by rfl)
    (hfew : ((backTo cpos (starEach (e :: es) X.env)).all (fun x => !x.1) && (backToKw cpos (keywordEach [] X.env)).all (fun x => x.1.isSome)
      && decide ((e :: es).length + ([] : List Keyword).length + (if ([] : List Keyword).isEmpty then 0 else 1) < 30)) = true := by rfl)
    (hline : (apos.endLine == cpos.line) = true := by rfl) (hs : starEach (e :: es) X.env = (false, eval e X.env) :: starEach es X.env := by rfl) (hplain : (backTo cpos (starEach es X.env)).any (·.1) = false := by rfl) :
    PE X (.Call (.Attribute o name apos) (e :: es) [] cpos) (tBM X.K T r to t) := by
  intro pins s σ H Q I h
  refine wpAny_Call_method_late hbase hfew hline rfl (thn (ho pins s σ H _ I h) fun v s1 ⟨x, H1, I1, r1, ty, q1⟩ => ?_)
  obtain ⟨h1, h2⟩ := tyV_is I1 r1 ty
  refine ⟨T, id, pa, slot, hty, h1, h2, ?_⟩
  have hA := ha cpos pins s1 σ H1 _ I1 q1
  rw [hs] at hA ⊢
  refine Calls.callWith_builtin (by show (false || (backTo cpos (starEach es X.env)).any (·.1)) = false; rw [hplain] <;> rfl) (Calls.evalArgs_plain ?_)
  exact thn hA fun us s2 ⟨vs, H2, I2, r2, q2⟩ => hm pins s2 σ H2 x vs v us Q I2 r1 r2 q2
end
end L2
namespace L2
open PySem PySem.Spec PyProof.Rows
noncomputable def MtM (X : Cx) (id : String) (r : V → List V → Hp → VK → Prop) : Prop :=
  ∀ (pins : List (Addr × Obj)) (s : Shared) (σ : St) (H : Hp) (x : V) (xs : List V) (v : Value) (us : List Value) (Q : VK), Inv X pins σ H s → RelV x v → Vals xs us → r x xs H Q →
    wpAny (model X.prog X.w) X.A (call (.builtin id) (v :: us)) (EP X pins σ Q) X.xe s
theorem Vals.one : ∀ {x : V} {us : List Value}, Vals [x] us → ∃ u, us = [u] ∧ RelV x u
  | _, _, .cons r .nil => ⟨_, rfl, r⟩
section
variable {X : Cx} {pins : List (Addr × Obj)} {σ : St} {H : Hp} {s : Shared} {l b : Addr} {xs ys zs : List V}
theorem Inv.lset {its its' : List Value} {n : Nat} {f : Array Value → Array Value} {t' : Nat} (I : Inv X pins σ H s) (hH : H l = some (.lst xs))
    (e : s.heap.get? l = some { cls := .type "list", data := .seq its.toArray n }) (hf : f its.toArray = its'.toArray) (hv : Vals ys its') (hz : ys.length ≤ sizeLine) :
    Inv X pins σ (upd H l (.lst ys)) { s with heap := s.heap.update l (Obj.mapSeq f), toks := t' } := by
  have q := PySem.IsL.update e f
  rw [hf] at q
  refine I.write (x := l) (e := l) (by rw [hH]; exact trivial) (.inl rfl) (fun b' u hb hu => (Heap.get?_update_other s.heap (Obj.mapSeq f) (Ne.symm hb)).trans hu) ⟨_, q⟩ ?_
  exact ⟨hz, its', _, hv, q⟩
theorem Inv.lnew {its : List Value} {t' : Nat} (I : Inv X pins σ H s) (hv : Vals ys its) (hz : ys.length ≤ sizeLine) :
    Inv X pins σ (upd H s.heap.objs.size (.lst ys)) { s with heap := s.heap.push { cls := .type "list", data := .seq its.toArray }, toks := t' } :=
  I.laid (fun _ _ q => Heap.get?_push_of_some _ q) (Nat.le_refl _) ⟨hz, its, 0, hv, Heap.get?_push_size _ rfl⟩
theorem Inv.fresh (I : Inv X pins σ H s) : H s.heap.objs.size = none := I.hok.fresh (Nat.le_refl _)
theorem Inv.lstM (I : Inv X pins σ H s) (hH : H l = some (.lst xs)) : xs.length ≤ sizeLine ∧ ∃ (its : List Value) (n : Nat), Vals xs its ∧ xs.length = its.length ∧ s.heap.get? l = some { cls := .type "list", data := .seq its.toArray n } := by
  obtain ⟨z, its, n, r, e⟩ := I.hok l _ hH
  exact ⟨z, its, n, r, r.length, e⟩
end
section
variable {X : Cx}
noncomputable def rAppend : V → List V → Hp → VK → Prop := fun x vs H Q => ∃ l xs y, x = .ref l ∧ vs = [y] ∧ H l = some (.lst xs) ∧ xs.length < sizeLine ∧ Q .non (upd H l (.lst (xs ++ [y])))
theorem mt_append : MtM X "list.append" rAppend := by
  intro pins s σ H x vs v us Q I rx rv h
  obtain ⟨l, xs, y, rfl, rfl, hH, hz, q⟩ := h
  cases rx
  obtain ⟨u, rfl, ru⟩ := rv.one
  obtain ⟨z, its, n, r, hl, e⟩ := I.lstM hH
  refine call_meets F.slot_list_append ⟨_, e, rfl⟩ F.entry_list_append (F.args_list_append_2 _ _) (PySem.list_append l its.toArray n u (by rw [List.size_toArray]; omega)) ⟨e, ?_⟩
  refine ⟨.non, _, I.lset (its' := its ++ [u]) hH e (by simp) (r.append (.cons ru .nil)) ?_, rfl, q⟩
  rw [List.length_append, List.length_singleton]
  omega
noncomputable def rCat : R2 := fun x y H Q => ∃ l b xs zs, x = .ref l ∧ y = .ref b ∧ H l = some (.lst xs) ∧ H b = some (.lst zs) ∧ xs.length + zs.length ≤ sizeLine ∧ ∀ p, H p = none → Q (.ref p) (upd H p (.lst (xs ++ zs)))
theorem op_cat : OpR X (binaryOp .Add) rCat := by
  intro pins s σ H x y v u Q I rx ry h
  obtain ⟨l, b, xs, zs, rfl, rfl, hH, hB, hz, q⟩ := h
  cases rx
  cases ry
  obtain ⟨z, its, n, r, hl, e⟩ := I.lstM hH
  obtain ⟨z2, its2, n2, r2, hl2, e2⟩ := I.lstM hB
  refine PySem.P.add_list e e2 ?_ (by rw [List.size_toArray, List.size_toArray]; omega)
  have ea : its.toArray ++ its2.toArray = (its ++ its2).toArray := by simp
  rw [ea]
  exact ⟨.ref _, _, I.lnew (t' := s.toks) (r.append r2) (by rw [List.length_append]; omega), rfl, q _ I.fresh⟩
end
end L2
namespace L2
open PySem PySem.Spec PyProof.Rows
section
variable {κ : Type} [DecidableEq κ]
noncomputable def valV (kvs : List (κ × V)) (k : κ) : Option V := (kvs.find? fun kv => decide (kv.1 = k)).map (·.2)
noncomputable def putK (kvs : List (κ × V)) (k : κ) (v : V) : List (κ × V) :=
  if (kvs.any fun kv => decide (kv.1 = k)) = true then kvs.map (fun kv => if kv.1 = k then (kv.1, v) else kv) else kvs ++ [(k, v)]
theorem valV_nil {k : κ} : valV ([] : List (κ × V)) k = none := rfl
theorem valV_pos {p : κ × V} {r : List (κ × V)} {k : κ} (e : p.1 = k) : valV (p :: r) k = some p.2 := by simp [valV, List.find?_cons, e]
theorem valV_neg {p : κ × V} {r : List (κ × V)} {k : κ} (e : ¬ p.1 = k) : valV (p :: r) k = valV r k := by simp [valV, List.find?_cons, e]
theorem valV_any (k : κ) : ∀ kvs : List (κ × V), (kvs.any fun kv => decide (kv.1 = k)) = (valV kvs k).isSome
  | [] => rfl
  | p :: r => by
    rw [List.any_cons]
    by_cases e : p.1 = k
    · simp only [valV_pos e, decide_eq_true e, Bool.true_or, Option.isSome_some]
    · rw [valV_neg e, decide_eq_false e, Bool.false_or]; exact valV_any k r
theorem valV_map (k j : κ) (y : V) : ∀ kvs : List (κ × V), valV (kvs.map fun kv => if kv.1 = k then (kv.1, y) else kv) j = (valV kvs j).map fun x => if j = k then y else x
  | [] => rfl
  | p :: r => by
    have ih := valV_map k j y r
    rw [List.map_cons]
    by_cases h : p.1 = k
    · rw [if_pos h]
      by_cases e : p.1 = j
      · rw [valV_pos (p := (p.1, y)) e, valV_pos e, Option.map_some, if_pos (e.symm.trans h)]
      · rw [valV_neg (p := (p.1, y)) e, valV_neg e, ih]
    · rw [if_neg h]
      by_cases e : p.1 = j
      · rw [valV_pos (p := p) e, valV_pos e, Option.map_some, if_neg (fun z => h (e.trans z))]
      · rw [valV_neg (p := p) e, valV_neg e, ih]
theorem valV_snoc (k j : κ) (y : V) : ∀ kvs : List (κ × V), valV kvs k = none → valV (kvs ++ [(k, y)]) j = if j = k then some y else valV kvs j
  | [], _ => by
    by_cases e : k = j
    · rw [if_pos e.symm]; exact valV_pos (p := (k, y)) e
    · rw [if_neg (fun z => e z.symm)]; exact valV_neg (p := (k, y)) e
  | p :: r, hn => by
    rw [List.cons_append]
    have hk : ¬ p.1 = k := fun z => by rw [valV_pos z] at hn; cases hn
    rw [valV_neg hk] at hn
    have ih := valV_snoc k j y r hn
    by_cases e : p.1 = j
    · rw [valV_pos e, valV_pos e, if_neg (fun z => hk (e.trans z))]
    · rw [valV_neg e, valV_neg e, ih]
theorem valV_put (kvs : List (κ × V)) (k j : κ) (y : V) : valV (putK kvs k y) j = if j = k then some y else valV kvs j := by
  unfold putK
  by_cases a : (kvs.any fun kv => decide (kv.1 = k)) = true
  · rw [if_pos a, valV_map]
    rw [valV_any] at a
    by_cases e : j = k
    · obtain ⟨x, hx⟩ := Option.isSome_iff_exists.mp a
      rw [if_pos e, e, hx, Option.map_some, if_pos rfl]
    · rw [if_neg e]
      cases valV kvs j with
      | none => rfl
      | some x => rw [Option.map_some, if_neg e]
  · rw [if_neg a]
    refine valV_snoc k j y kvs ?_
    rw [valV_any] at a
    cases q : valV kvs k with
    | none => rfl
    | some x => rw [q] at a; exact (a rfl).elim
theorem length_putK (kvs : List (κ × V)) (k : κ) (v : V) : (putK kvs k v).length ≤ kvs.length + 1 := by
  unfold putK
  split
  · rw [List.length_map]; omega
  · rw [List.length_append, List.length_cons, List.length_nil]; omega
theorem putK_new {kvs : List (κ × V)} {k : κ} (v : V) (h : valV kvs k = none) : putK kvs k v = kvs ++ [(k, v)] := by
  unfold putK
  rw [valV_any, h]
  exact if_neg (by decide)
theorem RelO.isSome_eq {o : Option V} {u : Option Value} (r : RelO o u) : o.isSome = u.isSome := by
  cases o with
  | none => cases u with
    | none => rfl
    | some _ => exact (show False from r).elim
  | some _ => cases u with
    | none => exact (show False from r).elim
    | some _ => rfl
theorem KV.val {kvs : List (κ × V)} {vs : List (κ × Value)} (r : KV kvs vs) (k : κ) : RelO (valV kvs k) (valueAt vs k) := by
  unfold KV at r
  induction r with
  | nil => exact True.intro
  | @cons p q ps qs h t ih =>
    obtain ⟨h1, h2⟩ := h
    by_cases e : p.1 = k
    · have e' : q.1 = k := h1.symm.trans e
      have b : valueAt (q :: qs) k = some q.2 := by simp [valueAt, List.find?_cons, e']
      rw [valV_pos e, b]; exact h2
    · have e' : ¬ q.1 = k := fun z => e (h1.trans z)
      have b : valueAt (q :: qs) k = valueAt qs k := by simp [valueAt, List.find?_cons, e']
      rw [valV_neg e, b]; exact ih
theorem KV.any {kvs : List (κ × V)} {vs : List (κ × Value)} (r : KV kvs vs) (k : κ) : (kvs.any fun kv => decide (kv.1 = k)) = vs.any fun kv => decide (kv.1 = k) := by
  unfold KV at r
  induction r with
  | nil => rfl
  | cons h t ih => rw [List.any_cons, List.any_cons, ih, h.1]
theorem KV.repl {kvs : List (κ × V)} {vs : List (κ × Value)} (r : KV kvs vs) (k : κ) {y : V} {u : Value} (ry : RelV y u) :
    KV (kvs.map fun kv => if kv.1 = k then (kv.1, y) else kv) (vs.map fun kv => if kv.1 = k then (kv.1, u) else kv) := by
  unfold KV at r ⊢
  induction r with
  | nil => exact .nil
  | @cons p q ps qs h t ih =>
    rw [List.map_cons, List.map_cons]
    refine .cons ?_ ih
    obtain ⟨h1, h2⟩ := h
    by_cases e : p.1 = k
    · rw [if_pos e, if_pos (h1.symm.trans e)]; exact ⟨h1, ry⟩
    · rw [if_neg e, if_neg (fun z => e (h1.trans z))]; exact ⟨h1, h2⟩
theorem KV.put {kvs : List (κ × V)} {vs : List (κ × Value)} (r : KV kvs vs) (k : κ) {y : V} {u : Value} (ry : RelV y u) : KV (putK kvs k y) (stored vs k u) := by
  unfold putK stored
  rw [r.any k]
  by_cases e : (vs.any fun kv => decide (kv.1 = k)) = true
  · rw [if_pos e, if_pos e]; exact r.repl k ry
  · rw [if_neg e, if_neg e]; exact Paired.snoc r ⟨rfl, ry⟩
theorem KV.length {kvs : List (κ × V)} {vs : List (κ × Value)} (r : KV kvs vs) : kvs.length = vs.length := Paired.length r
end
theorem kV_is {P : Program} {w : World} {k : Key} {u : Value} (r : RelV (kV k) u) : (mixKind P w).is k u = true := by
  cases k with
  | inl i => obtain ⟨t, e⟩ := (show ∃ t, u = Value.int i t from r); subst e; exact mixKind_int P w i t
  | inr x => obtain ⟨t, e⟩ := (show ∃ t, u = Value.str x t from r); subst e; exact mixKind_str P w x t
theorem items_are {P : Program} {w : World} : ∀ {ks : List Key} {us : List Value}, Vals (ks.map kV) us → ItemsAre (mixKind P w) ks us
  | [], _, r => by rw [List.map_nil] at r; cases r; exact .nil
  | k :: ks, _, r => by
    rw [List.map_cons] at r
    cases r with
    | cons h t => exact .cons (kV_is h) (items_are t)
noncomputable abbrev KT (H : Hp) : List (List Key × V) → List (List Key × Addr × Value) → Prop := Paired fun p q => p.1 = q.1 ∧ H q.2.1 = some (.tup (p.1.map kV)) ∧ RelV p.2 q.2.2
theorem KT.val {H : Hp} {kvs : List (List Key × V)} {xs : List (List Key × Addr × Value)} (r : KT H kvs xs) (k : List Key) : RelO (valV kvs k) ((atKey xs k).map (·.2)) := by
  induction r with
  | nil => exact True.intro
  | @cons p q ps qs h t ih =>
    obtain ⟨h1, _, h2⟩ := h
    by_cases e : p.1 = k
    · have e' : q.1 = k := h1.symm.trans e
      have b : atKey (q :: qs) k = some q.2 := by simp [atKey, List.find?_cons, e']
      rw [valV_pos e, b]; exact h2
    · have e' : ¬ q.1 = k := fun z => e (h1.trans z)
      have b : atKey (q :: qs) k = atKey qs k := by simp [atKey, List.find?_cons, e']
      rw [valV_neg e, b]; exact ih
theorem KT.repl {H : Hp} {kvs : List (List Key × V)} {xs : List (List Key × Addr × Value)} (r : KT H kvs xs) (k : List Key) {y : V} {u : Value} (ry : RelV y u) :
    KT H (kvs.map fun kv => if kv.1 = k then (kv.1, y) else kv) (xs.map (putAt k u)) := by
  induction r with
  | nil => exact .nil
  | @cons p q ps qs h t ih =>
    rw [List.map_cons, List.map_cons]
    refine .cons ?_ ih
    obtain ⟨h1, h2, h3⟩ := h
    unfold putAt
    by_cases e : p.1 = k
    · rw [if_pos e, if_pos (h1.symm.trans e)]; exact ⟨h1, h2, ry⟩
    · rw [if_neg e, if_neg (fun z => e (h1.trans z))]; exact ⟨h1, h2, h3⟩
theorem KT.put {H : Hp} {kvs : List (List Key × V)} {xs : List (List Key × Addr × Value)} (r : KT H kvs xs) (k : List Key) {b : Addr} {y : V} {u : Value} (hb : H b = some (.tup (k.map kV))) (ry : RelV y u) :
    KT H (putK kvs k y) (storedH xs k b u) := by
  have e : (kvs.any fun kv => decide (kv.1 = k)) = (atKey xs k).isSome := by
    rw [valV_any, (r.val k).isSome_eq, Option.isSome_map]
  unfold putK storedH
  rw [e]
  by_cases q : (atKey xs k).isSome = true
  · rw [if_pos q, if_pos q]; exact r.repl k ry
  · rw [if_neg q, if_neg q]; exact Paired.snoc r ⟨rfl, hb, ry⟩
theorem KT.keeps {H H' : Hp} {kvs : List (List Key × V)} {xs : List (List Key × Addr × Value)} (r : KT H kvs xs) (ht : ∀ b ys, H b = some (.tup ys) → H' b = some (.tup ys)) : KT H' kvs xs :=
  Paired.mapP r fun _ _ z => ⟨z.1, ht _ _ z.2.1, z.2.2⟩
section
variable {P : Program} {w : World} {H : Hp} {h : Heap} {a : Addr}
theorem rd_of {u : HO} (ok : HOk P w H h) (e : Rd H a u) : ObjOk P w H h a u := e.ok ok
theorem dk_rd {kvs : List (Key × V)} (ok : HOk P w H h) (e : Rd H a (.dK kvs)) : kvs.length ≤ sizeLine ∧ (a == sysModules) = false ∧ ∃ vs, KV kvs vs ∧ h.DictOf (mixKind P w) a vs :=
  show ObjOk P w H h a (.dK kvs) from rd_of ok e
theorem dk_of {kvs : List (Key × V)} (ok : HOk P w H h) (e : H a = some (.dK kvs)) : kvs.length ≤ sizeLine ∧ (a == sysModules) = false ∧ ∃ vs, KV kvs vs ∧ h.DictOf (mixKind P w) a vs := dk_rd ok (.inl e)
theorem key_of {ks : List Key} (ok : HOk P w H h) (e : H a = some (.tup (ks.map kV))) : (tupleKind (mixKind P w)).is h ks a := by
  obtain ⟨_, its, r, o, h1, h2, n, h3, _⟩ := (show ObjOk P w H h a (.tup (ks.map kV)) from ok a _ e)
  exact ⟨o, its.toArray, n, h1, h2, h3, by simpa using items_are r⟩
theorem dt_rd {kvs : List (List Key × V)} (ok : HOk P w H h) (e : Rd H a (.dT kvs)) : kvs.length ≤ sizeLine ∧ (a == sysModules) = false ∧
    ∃ xs, KT H kvs xs ∧ h.DictOfH (tupleKind (mixKind P w)) a xs := by
  obtain ⟨z, y, xs, r, o, es, ep, h1, h2, h3, h4, h5⟩ := (show ObjOk P w H h a (.dT kvs) from rd_of ok e)
  refine ⟨z, y, xs, r, o, es, ep, h1, h2, h3, h4, fun x hx => ?_, h5⟩
  have all : ∀ {l : List (List Key × V)} {m : List (List Key × Addr × Value)}, KT H l m → ∀ x ∈ m, (tupleKind (mixKind P w)).is h x.1 x.2.1 := by
    intro l m q
    induction q with
    | nil => intro x hx; exact nomatch hx
    | @cons p q ps qs hq t ih =>
      intro x hx
      rcases List.mem_cons.mp hx with e | hx
      · subst e
        exact key_of ok (by rw [← hq.1]; exact hq.2.1)
      · exact ih x hx
  exact all r x hx
theorem dt_of {kvs : List (List Key × V)} (ok : HOk P w H h) (e : H a = some (.dT kvs)) : kvs.length ≤ sizeLine ∧ (a == sysModules) = false ∧
    ∃ xs, KT H kvs xs ∧ h.DictOfH (tupleKind (mixKind P w)) a xs := dt_rd ok (.inl e)
end
noncomputable def DGet (H : Hp) (a : Addr) (y : V) (r : Option V) : Prop :=
  (∃ kvs k, Rd H a (.dK kvs) ∧ y = kV k ∧ r = valV kvs k) ∨ ∃ kvs k b, Rd H a (.dT kvs) ∧ y = .ref b ∧ H b = some (.tup (k.map kV)) ∧ r = valV kvs k
noncomputable def DPut (H : Hp) (a : Addr) (y v : V) (H' : Hp) : Prop :=
  (∃ kvs k, H a = some (.dK kvs) ∧ y = kV k ∧ kvs.length < sizeLine ∧ H' = upd H a (.dK (putK kvs k v))) ∨
  ∃ kvs k b, H a = some (.dT kvs) ∧ y = .ref b ∧ H b = some (.tup (k.map kV)) ∧ kvs.length < sizeLine ∧ H' = upd H a (.dT (putK kvs k v))
theorem DGet.k {H : Hp} {a : Addr} {kvs : List (Key × V)} {k : Key} (e : H a = some (.dK kvs)) : DGet H a (kV k) (valV kvs k) := .inl ⟨kvs, k, .inl e, rfl, rfl⟩
theorem DGet.t {H : Hp} {a b : Addr} {kvs : List (List Key × V)} {k : List Key} (e : H a = some (.dT kvs)) (eb : H b = some (.tup (k.map kV))) : DGet H a (.ref b) (valV kvs k) := .inr ⟨kvs, k, b, .inl e, rfl, eb, rfl⟩
theorem DPut.k {H : Hp} {a : Addr} {kvs : List (Key × V)} {k : Key} {v : V} (e : H a = some (.dK kvs)) (hl : kvs.length < sizeLine) : DPut H a (kV k) v (upd H a (.dK (putK kvs k v))) := .inl ⟨kvs, k, e, rfl, hl, rfl⟩
theorem DPut.t {H : Hp} {a b : Addr} {kvs : List (List Key × V)} {k : List Key} {v : V} (e : H a = some (.dT kvs)) (eb : H b = some (.tup (k.map kV))) (hl : kvs.length < sizeLine) :
    DPut H a (.ref b) v (upd H a (.dT (putK kvs k v))) := .inr ⟨kvs, k, b, e, rfl, eb, hl, rfl⟩
section
variable {X : Cx} {pins : List (Addr × Obj)} {σ : St} {H : Hp} {s : Shared} {a : Addr} {y v : V} {u r : Value} {o : Option V} {A : Around} {E : Value → Shared → Prop}
theorem Inv.big (I : Inv X pins σ H s) : sysModules < s.heap.objs.size := by
  have h : mainGlobals < s.heap.objs.size := (I.mod.glob.keeps I.bk).lt
  exact Nat.lt_trans (by decide) h
theorem d_getItem {Q : Value → Shared → Prop} (hu : A.units + 1 < cLine) (I : Inv X pins σ H s) (g : DGet H a y (some v)) (ry : RelV y u) (h : ∀ w' s', Inv X pins σ H s' → RelV v w' → Q w' s') :
    wpAny (model X.prog X.w) A (getItem (.ref a) u) Q E s := by
  rcases g with ⟨kvs, k, e, ey, l⟩ | ⟨kvs, k, b, e, ey, eb, l⟩
  · subst ey
    obtain ⟨z, hd, vs, rel, dd⟩ := dk_rd I.hok e
    obtain ⟨w', hw, rw'⟩ := RelO.some_of (v := v) (o := valueAt vs k) (by rw [l]; exact rel.val k)
    exact wpAny_getItem_of (kV_is ry) dd.mapOf hw (h w' _ (I.tok _) rw')
  · subst ey
    cases (show u = Value.ref b from ry)
    obtain ⟨z, hd, xs, rel, dd⟩ := dt_rd I.hok e
    obtain ⟨w', hw, rw'⟩ := RelO.some_of (v := v) (o := (atKey xs k).map (·.2)) (by rw [l]; exact rel.val k)
    obtain ⟨p, hp, hp2⟩ := Option.map_eq_some_iff.mp hw
    refine wpAny_getItem_heap (tupleKind_room_in1 hu) (key_of I.hok eb) dd hp ?_
    rw [hp2]
    exact h w' _ (I.tok _) rw'
theorem d_in {Q : Value → Shared → Prop} (hu : A.units + 1 < cLine) (I : Inv X pins σ H s) (g : DGet H a y o) (ry : RelV y u) (h : ∀ s', Inv X pins σ H s' → Q (.bool o.isSome) s') :
    wpAny (model X.prog X.w) A (compareOp .In u (.ref a)) Q E s := by
  rcases g with ⟨kvs, k, e, ey, l⟩ | ⟨kvs, k, b, e, ey, eb, l⟩
  · subst ey
    obtain ⟨z, hd, vs, rel, dd⟩ := dk_rd I.hok e
    refine wpAny_in_of (kV_is ry) hd dd.mapOf ?_
    rw [← (rel.val k).isSome_eq, ← l]
    exact h _ (I.tok _)
  · subst ey
    cases (show u = Value.ref b from ry)
    obtain ⟨z, hd, xs, rel, dd⟩ := dt_rd I.hok e
    refine wpAny_in_heap (tupleKind_room_in1 hu) (key_of I.hok eb) hd dd ?_
    have q := (rel.val k).isSome_eq
    rw [Option.isSome_map] at q
    rw [← q, ← l]
    exact h _ (I.tok _)
theorem d_notIn {Q : Value → Shared → Prop} (hu : A.units + 1 < cLine) (I : Inv X pins σ H s) (g : DGet H a y o) (ry : RelV y u) (h : ∀ s', Inv X pins σ H s' → Q (.bool (!o.isSome)) s') :
    wpAny (model X.prog X.w) A (compareOp .NotIn u (.ref a)) Q E s := by
  rcases g with ⟨kvs, k, e, ey, l⟩ | ⟨kvs, k, b, e, ey, eb, l⟩
  · subst ey
    obtain ⟨z, hd, vs, rel, dd⟩ := dk_rd I.hok e
    refine wpAny_notIn_of (kV_is ry) hd dd.mapOf ?_
    rw [← (rel.val k).isSome_eq, ← l]
    exact h _ (I.tok _)
  · subst ey
    cases (show u = Value.ref b from ry)
    obtain ⟨z, hd, xs, rel, dd⟩ := dt_rd I.hok e
    refine wpAny_notIn_heap (tupleKind_room_in1 hu) (key_of I.hok eb) hd dd ?_
    have q := (rel.val k).isSome_eq
    rw [Option.isSome_map] at q
    rw [← q, ← l]
    exact h _ (I.tok _)
theorem d_write {h' : Heap} {t' : Nat} {ob : HO} (I : Inv X pins σ H s) (mu : Mut (H a)) (hs : Heap.SameBut a s.heap h') (he : ∃ q, h'.get? a = some q) (new : ObjOk X.prog X.w (upd H a ob) h' a ob) :
    Inv X pins σ (upd H a ob) { s with heap := h', toks := t' } :=
  I.write (x := a) (e := a) mu (.inl rfl) (fun b q hb z => (hs.2 b hb).trans z) he new
theorem dk_new {P : Program} {w : World} {H' : Hp} {h' : Heap} {kvs : List (Key × V)} {vs : List (Key × Value)} (z : kvs.length ≤ sizeLine) (hd : (a == sysModules) = false) (rel : KV kvs vs) (dd : h'.DictOf (mixKind P w) a vs) :
    ObjOk P w H' h' a (.dK kvs) := ⟨z, hd, vs, rel, dd⟩
theorem d_setItem {H' : Hp} {Q : Unit → Shared → Prop} (hu : A.units + 1 < cLine) (I : Inv X pins σ H s) (g : DPut H a y v H') (ry : RelV y u) (rv : RelV v r) (h : ∀ s', Inv X pins σ H' s' → Q () s') :
    wpAny (model X.prog X.w) A (setItem (.ref a) u r) Q E s := by
  rcases g with ⟨kvs, k, e, ey, l, eH⟩ | ⟨kvs, k, b, e, ey, eb, l, eH⟩
  · subst ey eH
    obtain ⟨z, hd, vs, rel, dd⟩ := dk_of I.hok e
    have hz : vs.length ≤ sizeLine := by rw [← rel.length]; exact z
    have hl : (putK kvs k v).length ≤ sizeLine := by have := length_putK kvs k v; omega
    refine wpAny_setItem_pairs (hsz := hz) (kV_is ry) dd fun h' dd' hs => h _ ?_
    have he : ∃ q, h'.get? a = some q := let ⟨q, _, _, hq, _⟩ := dd'; ⟨q, hq⟩
    exact d_write I (by rw [e]; exact True.intro) hs he (dk_new hl hd (rel.put k rv) dd')
  · subst ey eH
    cases (show u = Value.ref b from ry)
    obtain ⟨z, hd, xs, rel, dd⟩ := dt_of I.hok e
    have hz : xs.length ≤ sizeLine := by rw [← Paired.length rel]; exact z
    have hl : (putK kvs k v).length ≤ sizeLine := by have := length_putK kvs k v; omega
    refine wpAny_setItem_heap (hsz := hz) (tupleKind_room_in1 hu) (key_of I.hok eb) dd fun h' dd' hs => h _ ?_
    obtain ⟨q, es, ep, hq, h2, h3, h4, _, h5⟩ := dd'
    refine d_write I (by rw [e]; exact True.intro) hs ⟨q, hq⟩ ⟨hl, hd, _, (rel.put k eb rv).keeps fun c ys ec => ?_, q, es, ep, hq, h2, h3, h4, h5⟩
    rw [upd_ne (ne_of ec e (fun z => nomatch z))]
    exact ec
end
section
variable {X : Cx} {pins : List (Addr × Obj)} {σ : St} {H : Hp} {s : Shared} {a : Addr} {kvs : List (Key × V)} {k : Key} {u : Value} {A : Around} {E : Value → Shared → Prop}
theorem d_len {Q : Value → Shared → Prop} (I : Inv X pins σ H s) (e : Rd H a (.dK kvs)) (h : ∀ t s', Inv X pins σ H s' → Q (.int kvs.length t) s') : wpAny (model X.prog X.w) A (call (.builtin "len") [.ref a]) Q E s := by
  obtain ⟨z, hd, vs, rel, dd⟩ := dk_rd I.hok e
  refine call_len_dict hd dd (by rw [← rel.length]; rw [sizeLine_eq] at z; omega) ?_
  rw [← rel.length]
  exact h _ _ (I.tok _)
end
theorem dict_typeIs {X : Cx} {pins : List (Addr × Obj)} {σ : St} {H : Hp} {s : Shared} {a : Addr} {y : V} {o : Option V} (I : Inv X pins σ H s) (g : DGet H a y o) : s.TypeIs (.ref a) "dict" := by
  rcases g with ⟨kvs, k, e, _, _⟩ | ⟨kvs, k, b, e, _, _, _⟩
  · obtain ⟨_, _, vs, _, dd⟩ := dk_rd I.hok e
    exact dd.typeIs
  · obtain ⟨_, _, xs, _, dd⟩ := dt_rd I.hok e
    exact dd.typeIs
theorem dk_empty {P : Program} {w : World} {H : Hp} (h : Heap) (hb : sysModules < h.objs.size) : ObjOk P w H (h.push { cls := .type "dict", data := .dict #[] }) h.objs.size (.dK []) :=
  ⟨Nat.zero_le _, beq_eq_false_iff_ne.mpr (Ne.symm (Nat.ne_of_lt hb)), [], .nil, Heap.DictOf.new h⟩
theorem dt_empty {P : Program} {w : World} {H : Hp} (h : Heap) (hb : sysModules < h.objs.size) : ObjOk P w H (h.push { cls := .type "dict", data := .dict #[] }) h.objs.size (.dT []) :=
  ⟨Nat.zero_le _, beq_eq_false_iff_ne.mpr (Ne.symm (Nat.ne_of_lt hb)), [], .nil, _, #[], 0, Heap.get?_push_size _ rfl, ⟨rfl, rfl, rfl⟩, rfl, rfl, List.nodup_nil⟩
noncomputable def tDNewK : TE := fun _ H Q => ∀ p, H p = none → Q (.ref p) (upd H p (.dK []))
noncomputable def tDNewT : TE := fun _ H Q => ∀ p, H p = none → Q (.ref p) (upd H p (.dT []))
section
variable {X : Cx} {pos : Pos}
theorem pe_dnewK : PE X (.Dict [] [] pos) tDNewK := fun pins s σ H Q I h =>
  wpAny_Dict_empty ⟨.ref s.heap.objs.size, _, I.laid (a := s.heap.objs.size) (o := .dK []) (t' := s.toks) (fun _ _ q => Heap.get?_push_of_some _ q) (Nat.le_refl _) (dk_empty s.heap I.big), rfl, h _ (I.hok.fresh (Nat.le_refl _))⟩
theorem pe_dnewT : PE X (.Dict [] [] pos) tDNewT := fun pins s σ H Q I h =>
  wpAny_Dict_empty ⟨.ref s.heap.objs.size, _, I.laid (a := s.heap.objs.size) (o := .dT []) (t' := s.toks) (fun _ _ q => Heap.get?_push_of_some _ q) (Nat.le_refl _) (dt_empty s.heap I.big), rfl, h _ (I.hok.fresh (Nat.le_refl _))⟩
end
end L2
namespace Att
open PySem PySem.W PySem.Calls PyProof.Rows
theorem ints_of_wellAll {P : Params} {h : Heap} : ∀ (ns : List Int) (vs : List Value), WellAll P h vs (ns.map WData.int) → IntsAre vs ns := by
  intro ns
  induction ns with
  | nil =>
    intro vs w
    rw [List.map_nil] at w
    cases w
    exact .nil
  | cons n ns ih =>
    intro vs w
    rw [List.map_cons] at w
    cases w with
    | cons a b =>
      cases a
      exact .cons _ _ (ih _ b)
theorem script_of {l : OpenLaw} {n : Nat} (hn : l.most = some n) {P : Params} {h : Heap} {args : List WData} {vals : List Value}
    (hpre : l.row.toRowW.claim.pre args = true) (hwl : WellAll P h vals args) :
    ∃ a vs ns, vals = [Value.ref a] ∧ args = [WData.list (ns.map WData.int)] ∧ h.get? a = some { cls := .type "list", data := .seq vs.toArray } ∧ IntsAre vs ns ∧ ns.length ≤ n := by
  have hsh : WShape.hasAll [] args [.list .int] = true := (pre_splitW hpre).1
  have hc : l.pre.holds [] { args := args } = true := (pre_splitW hpre).2
  obtain ⟨d, r, rfl, h1, h2⟩ := hasAllW_cons hsh
  obtain rfl := hasAllW_nil h2
  obtain ⟨xs, rfl, h3⟩ := hasW_list h1
  obtain ⟨ns, rfl⟩ := items_int h3
  have hlen : ns.length ≤ n := by
    unfold OpenLaw.pre at hc
    have h4 : (WTm.not (.lt (.lit (.int (n : Int))) (.len (.arg 0)))).holds [] { args := [.list (ns.map .int)] } = true := by
      have h4 := (holds_andW hc).1
      rw [hn] at h4
      exact h4
    have h5 := condW_of h4 (w_not (w_lt w_lit (w_len_list (w_arg rfl))))
    rw [List.length_map] at h5
    refine Nat.le_of_not_lt fun q => ?_
    have q' : (n : Int) < ((ns.length : Nat) : Int) := by omega
    first
      | (rw [decide_eq_true q'] at h5; exact absurd h5 (by decide))
      | (simp at h5; omega)
  cases hwl with
  | cons w1 w2 =>
    cases w2
    cases w1 with
    | list ho hall => exact ⟨_, _, ns, rfl, rfl, ho, ints_of_wellAll ns _ hall, hlen⟩
theorem post_true (l : OpenLaw) (args : List WData) : l.row.toRowW.claim.post args (.bool true) args = true :=
  postW_of (r := l.row.toRowW) (X := (true == true))
    (show WShape.has [] (.bool true) .bool = true by first | rfl | decide | simp [WShape.has, WShape.arms, WShape.armsAll])
    (show (WTm.eq .res (.lit (.bool true))).value [] { args := args, res := some (.bool true), after := args } = some (.bool (true == true)) from w_eq_bool (w_res rfl) w_lit) rfl
theorem attach_call {l : OpenLaw} {n : Nat} {q : Program} {loose : List Str} {XP : (Str → Option Value) → Heap → Prop} {YP : World → Heap → Prop} {d : DefRec}
    (hn : l.most = some n) (hdf : d.params.defaults = [])
    (call : ∀ (w : World) (s₀ s₁ : Shared) (mg mb : Str → Option Value) (fa : Addr) (o : Obj) (pm cd doc : Value) (a : Addr) (vs : List Value) (ns : List Int),
      Ground q loose [] XP w s₀ mg mb s₁.heap → YP w s₁.heap →
      s₁.heap.get? fa = some o → o.data = .func (docDef d.name d.params d.body d.scope pm cd doc) → s₁.heap.CodeRec cd d.name → mg d.name = some (.ref fa) →
      s₁.heap.get? a = some { cls := .type "list", data := .seq vs.toArray } → IntsAre vs ns → ns.length ≤ n → s₁.gens = #[] →
      codeAny (model l.prog w) callerA (.call (.ref fa) ⟨[.ref a], []⟩) (fun r s' => r = .ok (.ret (.bool true)) ∧ OldK s₁.heap s'.heap ∧ s'.os = s₁.os ∧ AllBare s'.gens) s₁) :
    WalkO q loose XP YP l.row.toRowW d [] (fun f vs => PySem.call f vs) := by
  intro w s₀ s₁ mg mb G Y fa o pm cd doc dV kV ho hd hcd hD hmg hg args vals as hpre hlay hrd hwl hlo
  obtain rfl : dV = .none := Dflts.none hD hdf
  obtain rfl : kV = .none := Dflts.noKw hD
  obtain ⟨a, vs, ns, rfl, rfl, hobj, hints, hlen⟩ := script_of hn hpre hwl
  refine enter_call (codeAny_mono (call w s₀ s₁ mg mb fa o pm cd doc a vs ns G Y ho (fd_plain hd) hcd hmg hobj hints hlen hg) fun r s' hq => ?_)
  obtain ⟨rfl, h2, h3, h4⟩ := hq
  exact ⟨.inl ⟨.bool true, .bool true, [], rfl, fun _ => rfl, .bool true, post_true l _, fun _ => ⟨List.Pairwise.nil, fun _ hm => (nomatch hm)⟩⟩, h2, h3, h4⟩
end Att
namespace L2
open PySem PySem.Spec PyProof.Rows
theorem vals_ints : ∀ {vs : List Value} {ns : List Int}, IntsAre vs ns → Vals (ns.map V.int) vs
  | _, _, .nil => .nil
  | _, _, .cons n t h => .cons ⟨t, rfl⟩ (vals_ints h)
noncomputable def Only (H : Hp) : Prop := ∀ b, H b = none ∨ ∃ o xs, H b = some (.frz o (.lst xs))
theorem law_call {P : Program} {w : World} {K : PySem.W.Frag} {mg mb : Str → Option Value} {CX : CXT} {k : Nat} {fa a : Addr} {fd : FuncData} {x : Str} {sp : Sp} {s₁ : Shared} {vs : List Value} {ns : List Int}
    (KX : K.In s₁.heap) (hns : s₁.heap.Ns mainGlobals mg) (hb : s₁.heap.Ns builtinsNs mb) (hbb : ∀ x : Str, x ≠ "__name__" → mb x = bootBuiltins x) (hlim : s₁.heap.NoLimit) (hg : s₁.gens = #[])
    (ha : s₁.heap.get? a = some { cls := .type "list", data := .seq vs.toArray }) (hi : IntsAre vs ns) (hl : ns.length ≤ sizeLine) (hr : Room k callerA)
    (F : ∀ base : Heap, K.In base → base.Ns mainGlobals mg → FnOk P w K mg base CX k fa fd [x] sp) (hbind : ∀ (s : Shared) (u : Value), BindsTo s fd ⟨[u], []⟩ [(x, u)])
    (hsp : ∀ H : Hp, Only H → SqL K H a (ns.map V.int) → sp [.ref a] H (fun v _ => v = .bl true) fun _ _ _ => False)
    (hCX : ∀ H e s', CX [] H s₁ (fun _ _ _ => False) e s' → False) :
    codeAny (model P w) callerA (.call (.ref fa) ⟨[.ref a], []⟩) (fun r s' => r = .ok (.ret (.bool true)) ∧ OldK s₁.heap s'.heap ∧ s'.os = s₁.os ∧ AllBare s'.gens) s₁ := by
  have rv := vals_ints hi
  have lenV := hi.length
  have core : ∀ H : Hp, Only H → SqL K H a (ns.map V.int) → HOk P w H s₁.heap → (∀ b, H b ≠ none → b = a) → (H a ≠ none → K.lookup a = none) →
      codeAny (model P w) callerA (.call (.ref fa) ⟨[.ref a], []⟩) (fun r s' => r = .ok (.ret (.bool true)) ∧ OldK s₁.heap s'.heap ∧ s'.os = s₁.os ∧ AllBare s'.gens) s₁ := by
    intro H hO hS hok hA hK
    have base_of : ∀ {b : Addr} {o : Obj}, s₁.heap.get? b = some o → H b = none → (hidT s₁.heap H).get? b = some o := fun e n => hidT_get e n
    have noA : ∀ {b : Addr} {o : Obj} {es : Array DictEntry} {ep : Nat}, s₁.heap.get? b = some o → o.data = .dict es ep → H b = none := fun {b o es ep} e d => by
      cases q : H b with
      | none => rfl
      | some u =>
        have e' : b = a := hA b (by rw [q]; simp)
        subst e'
        rw [ha] at e; cases e
        have d' : Data.seq vs.toArray _ = Data.dict es ep := d
        cases d'
    have nsK : ∀ {b : Addr} {m : Str → Option Value}, s₁.heap.Ns b m → (hidT s₁.heap H).Ns b m := fun {b m} ⟨o, es, ep, e, d, r⟩ => ⟨o, es, ep, base_of e (noA e d), d, r⟩
    have hKb : K.In (hidT s₁.heap H) := fun b o e => base_of (KX b o e) (by
      cases q : H b with
      | none => rfl
      | some u =>
        have e' : b = a := hA b (by rw [q]; simp)
        subst e'
        rw [hK (by rw [q]; simp)] at e; cases e)
    have hM : Mod K mg (hidT s₁.heap H) := ⟨hKb, nsK hns, ⟨mb, nsK hb, hbb⟩, let ⟨mc, h1, h2⟩ := hlim; ⟨mc, nsK h1, h2⟩⟩
    have e0 : Env0 P w K mg (hidT s₁.heap H) callerA [] s₁ H := ⟨rfl, hM, fun b o e => of_hidT e, Nat.le_of_eq (hidT_size _ _), trivial, fun b hb => absurd (show b ∈ ([] : List Addr) from hb) (by simp), hok, .of_eq hg⟩
    refine codeAny_mono ((F _ hKb (nsK hns)).run callerA [] s₁ H ⟨[.ref a], []⟩ [.ref a] [.ref a] _ _ hr e0 (hbind s₁ (.ref a)) (.cons rfl .nil) (hsp H hO hS)) fun r s' h => ?_
    cases r with
    | error e => exact (hCX H e s' h).elim
    | ok fl =>
      cases fl with
      | next => exact False.elim h
      | brk => exact False.elim h
      | cont => exact False.elim h
      | ret u =>
        obtain ⟨v, H', os, bare, un, hok', r', q⟩ := h
        have q' : v = .bl true := q
        subst q'
        obtain rfl : u = Value.bool true := r'
        refine ⟨rfl, OldK.of_keep fun b o e => ?_, os, bare⟩
        cases q : H b with
        | none => exact un.keep b o e q (by intro z; exact absurd (show b ∈ ([] : List Addr) from z) (by simp)) (by simp)
        | some u =>
          rcases hO b with z | ⟨ob, xs, z⟩
          · rw [q] at z; cases z
          · have z2 := un.frzs b ob _ z
            obtain ⟨e1, _⟩ := hok b _ z
            obtain ⟨e2, _⟩ := hok' b _ z2
            rw [e] at e1; cases e1
            exact e2
  cases hk : K.lookup a with
  | some o =>
    have e := KX a o hk
    rw [ha] at e
    cases e
    refine core (fun _ => none) (fun _ => .inl rfl) (.inr ⟨_, vs.toArray, _, hk, rfl, rfl, rfl, by rw [List.size_toArray, lenV]; exact hl, by simpa using rv⟩) (fun b u z => by have z' : (none : Option HO) = some u := z; cases z') (fun b z => absurd rfl z) fun z => absurd rfl z
  | none =>
    refine core (fun b => if b = a then some (.frz { cls := .type "list", data := .seq vs.toArray } (.lst (ns.map V.int))) else none) (fun b => ?_) (.inl (.inr ⟨{ cls := .type "list", data := .seq vs.toArray }, if_pos rfl⟩)) (fun b u z => ?_) (fun b z => ?_) fun _ => hk
    · by_cases hb : b = a
      · exact .inr ⟨_, _, if_pos hb⟩
      · exact .inl (if_neg hb)
    · by_cases hb : b = a
      · have z' := (if_pos hb).symm.trans z
        cases z'
        subst hb
        exact ⟨ha, by rw [List.length_map]; exact hl, vs, _, rv, ha⟩
      · have z' := (if_neg hb).symm.trans z
        cases z'
    · by_cases hb : b = a
      · exact hb
      · exact absurd (if_neg hb) z
end L2
namespace L2
open PySem PySem.Spec PyProof.Rows
theorem walk_of {l : PySem.W.OpenLaw} {n k : Nat} {q : Program} {loose : List Str} {XP : (Str → Option Value) → Heap → Prop} {YP : World → Heap → Prop} {d : DefRec} {K : Params → PySem.W.Frag} {CX : World → CXT} {sp : World → Sp} {x : Str}
    (hn : l.most = some n) (hn2 : n ≤ sizeLine) (hdf : d.params.defaults = []) (hr : Room k callerA)
    (hY : ∀ (w : World) (h : Heap), YP w h → (K w.params).In h)
    (F : ∀ (w : World) (mg : Str → Option Value) (fa : Addr) (h : Heap), (K w.params).In h → h.Ns mainGlobals mg → mg d.name = some (.ref fa) →
      ∃ fd : FuncData, (∀ (s : Shared) (u : Value), BindsTo s fd ⟨[u], []⟩ [(x, u)]) ∧
        ∀ base : Heap, (K w.params).In base → base.Ns mainGlobals mg → FnOk l.prog w (K w.params) mg base (CX w) k fa fd [x] (sp w))
    (hsp : ∀ (w : World) (H : Hp) (a : Addr) (ns : List Int), ns.length ≤ n → Only H → SqL (K w.params) H a (ns.map V.int) → sp w [.ref a] H (fun v _ => v = .bl true) fun _ _ _ => False)
    (hCX : ∀ (w : World) (H : Hp) (s : Shared) (e : Value) (s' : Shared), CX w [] H s (fun _ _ _ => False) e s' → False) :
    PySem.W.WalkO q loose XP YP l.row.toRowW d [] (fun f vs => PySem.call f vs) := by
  refine Att.attach_call hn hdf fun w s₀ s₁ mg mb fa o pm cd doc a vs ns G Y ho hd hcd hmg hobj hints hlen hg => ?_
  have KX := hY w _ Y
  obtain ⟨fd, hb, hF⟩ := F w mg fa _ KX G.T.g hmg
  exact law_call KX G.T.g G.T.b G.T.builtins G.T.nolimit hg hobj hints (Nat.le_trans hlen hn2) hr hF hb (fun H hO hS => hsp w H a ns hlen hO hS) fun H e s' => hCX w H s₁ e s'
end L2
namespace L2
open PySem PySem.Spec PyProof.Rows
noncomputable def defArgs (s : Stmt) : Arguments := match s with
  | .FunctionDef _ a _ _ _ _ _ _ _ _ => a
  | _ => { posonlyargs := [], args := [], vararg := none, kwonlyargs := [], kw_defaults := [], kwarg := none, defaults := [] }
noncomputable def defBody (s : Stmt) : List Stmt := match s with
  | .FunctionDef _ _ b _ _ _ _ _ _ _ => b
  | _ => []
noncomputable def defScope (s : Stmt) : Scope := match s with
  | .FunctionDef _ _ _ _ _ _ sc _ _ _ => sc
  | _ => { kind := .function, names := [], isGenerator := false, isCoroutine := false }
noncomputable abbrev CX0 : CXT := fun _ _ _ _ _ _ => False
noncomputable abbrev E0 : XK := fun _ _ _ => False
theorem pass0 {X : Cx} : Passes CX0 X E0 := fun _ _ _ _ _ _ _ h => h.elim
structure Fun (K : PySem.W.Frag) (x qual : Str) (st : Stmt) (f : Addr) (fd : FuncData) : Prop where
  ex : ∃ (oc : Value) (od : Option Addr) (kV doc pm : Value) (an : Option Addr) (cdv ct : Value) (osl : Array (Option Value)),
    fd = PySem.W.fnOf x qual (defArgs st) (defBody st) (defScope st) .none kV doc pm an cdv ct ∧ K.lookup f = some ⟨oc, od, .func fd, osl⟩ ∧ PySem.W.codeIn K cdv qual = true
  kp : PySem.W.keepIn K (.ref f) = true
section
variable {P : Program} {w : World} {K : PySem.W.Frag} {mg : Str → Option Value} {base : Heap}
theorem Fun.ok {x qual : Str} {st : Stmt} {f : Addr} {fd : FuncData} {N ps : List Str} {k : Nat} {sp : Sp} (F : Fun K x qual st f fd) (S : FnScope N ps (defScope st)) (len : ∀ vs H Q E, sp vs H Q E → vs.length = ps.length)
    (hbody : ∀ (cdv : Value) (A : Around) (outer : List Env) (s : Shared) (H : Hp) (vs : List V) (Q : VK) (E : XK), Room k (A.deeper (envOfC qual (defScope st) s.heap.objs.size f cdv)) → sp vs H Q E →
      ∃ t, PSs (cxOf CX0 P w K mg base N qual (defScope st) f cdv A outer s H E).nox (defBody st) t ∧ t { nx := fun _ H' => Q .non H', rt := Q } (start N vs) H) : FnOk P w K mg base CX0 (k + 1) f fd ps sp := by
  obtain ⟨oc, od, kV, doc, pm, an, cdv, ct, osl, rfl, lk, hcd⟩ := F.ex
  refine fn_of lk hcd S len fun A outer s H vs Q E hr hsp => ?_
  obtain ⟨t, h, q⟩ := hbody cdv A outer s H vs Q E hr hsp
  exact ⟨t, h.nox, q⟩
theorem Fun.binds {x qual : Str} {st : Stmt} {f : Addr} {fd : FuncData} {ps : List Str} (F : Fun K x qual st f fd)
    (h : ∀ (kV doc pm : Value) (an : Option Addr) (cdv ct : Value) (us : List Value), us.length = ps.length → bindArgs (PySem.W.fnOf x qual (defArgs st) (defBody st) (defScope st) .none kV doc pm an cdv ct) ⟨us, []⟩ = pure (ps.zip us)) : Binds K fd ps [] := by
  obtain ⟨oc, od, kV, doc, pm, an, cdv, ct, osl, rfl, lk, hcd⟩ := F.ex
  exact .all (h kV doc pm an cdv ct)
theorem fun_mk {x qual : Str} {st : Stmt} {f : Addr} {oc : Value} {od an : Option Addr} {osl : Array (Option Value)} {kV doc pm cdv ct : Value} (l : K.lookup f = some ⟨oc, od, .func (PySem.W.fnOf x qual (defArgs st) (defBody st) (defScope st) .none kV doc pm an cdv ct), osl⟩)
    (c : PySem.W.codeIn K cdv qual = true) (k : PySem.W.keepIn K (.ref f) = true) : Fun K x qual st f (PySem.W.fnOf x qual (defArgs st) (defBody st) (defScope st) .none kV doc pm an cdv ct) := ⟨⟨oc, od, kV, doc, pm, an, cdv, ct, osl, rfl, l, c⟩, k⟩
end
theorem small1000 {n : Nat} (h : n ≤ 1000) : n < sizeLine := Nat.lt_of_le_of_lt h (by decide)
section
variable {X : Cx}
theorem pv (i : Nat) {x : Str} {pos : Pos} (hN : X.N[i]? = some x := by rfl) (hv : Vis X.env.scope x := by first | exact Or.inl rfl | exact Or.inr (Or.inl rfl) | exact Or.inr (Or.inr rfl)) (hd : (x == ("__debug__" : Str)) = false := by decide)
    (hcd : (x == ("__classdict__" : Str)) = false := by decide) : PE X (.Name x pos) (tVar i) := pe_var hN hv hd hcd
theorem call_lenD : CallR X (.builtin "len") (fun xs H Q => ∃ a kvs, xs = [V.ref a] ∧ H a = some (.dK kvs) ∧ Q (.int kvs.length) H) := by
  intro pins s σ H xs us Q I r h
  obtain ⟨a, kvs, rfl, ha, q⟩ := h
  obtain ⟨u, rfl, ru⟩ := vals1 r
  cases ru
  exact d_len I (.inl ha) fun t s' I' => ⟨.int kvs.length, H, I', ⟨t, rfl⟩, q⟩
end
theorem iteF {A B : Prop} (h : B) : if false = true then A else B := by
  rw [if_neg Bool.false_ne_true]
  exact h
theorem iteT {A B : Prop} (h : A) : if true = true then A else B := by
  rw [if_pos rfl]
  exact h
theorem ite2 {c A B : Prop} [Decidable c] (h1 : c → A) (h2 : ¬ c → B) : if c then A else B := by
  by_cases h : c
  · rw [if_pos h]
    exact h1 h
  · rw [if_neg h]
    exact h2 h
noncomputable def Same (H H' : Hp) : Prop := ∀ b o, H b = some o → H' b = some o
theorem Same.refl (H : Hp) : Same H H := fun _ _ h => h
theorem Same.trans {H H1 H2 : Hp} (a : Same H H1) (b : Same H1 H2) : Same H H2 := fun c o h => b c o (a c o h)
section
variable {κ : Type} [DecidableEq κ]
theorem valV_not {kvs : List (κ × V)} {k : κ} (h : valV kvs k = none) : ¬ k ∈ kvs.map (·.1) := by
  intro m
  obtain ⟨p, hp, e⟩ := List.mem_map.mp m
  have q : (kvs.any fun kv => decide (kv.1 = k)) = true := List.any_eq_true.mpr ⟨p, hp, decide_eq_true e⟩
  rw [valV_any, h] at q
  exact absurd q (by simp)
theorem valV_in {kvs : List (κ × V)} {k : κ} {v : V} (h : valV kvs k = some v) : k ∈ kvs.map (·.1) := by
  have q : (kvs.any fun kv => decide (kv.1 = k)) = true := by
    rw [valV_any, h]
    all_goals rfl
  obtain ⟨p, hp, e⟩ := List.any_eq_true.mp q
  exact List.mem_map.mpr ⟨p, hp, of_decide_eq_true e⟩
theorem nd_snoc : ∀ {l : List κ} {k : κ}, l.Nodup → ¬ k ∈ l → (l ++ [k]).Nodup
  | [], k, _, _ => by simp
  | a :: r, k, h, hk => by
    obtain ⟨h1, h2⟩ := List.nodup_cons.mp h
    show (a :: (r ++ [k])).Nodup
    refine List.nodup_cons.mpr ⟨fun m => ?_, nd_snoc h2 fun m => hk (List.mem_cons.mpr (Or.inr m))⟩
    rcases List.mem_append.mp m with q | q
    · exact h1 q
    · exact hk (List.mem_cons.mpr (Or.inl (List.mem_singleton.mp q).symm))
theorem nd_putK {kvs : List (κ × V)} {k : κ} (v : V) (hn : (kvs.map (·.1)).Nodup) (h : valV kvs k = none) : ((putK kvs k v).map (·.1)).Nodup := by
  rw [putK_new v h, List.map_append]
  exact nd_snoc hn (valV_not h)
end
end L2
set_option maxHeartbeats 4000000
namespace L2
open PySem PySem.Spec PyProof.Rows
theorem clos_go {env : Env} {f : Str × NameKind → List (Str × Addr) → Sem (ForInStep (List (Str × Addr)))}
    (f1 : ∀ n k r, k ≠ NameKind.free → f (n, k) r = pure (.yield r))
    (f2 : ∀ n c r, env.cells.lookup n = some c → f (n, NameKind.free) r = pure (.yield ((n, c) :: r))) :
    ∀ (names : List (Str × NameKind)) (acc : List (Str × Addr)),
    (∀ y ∈ names, y.2 = NameKind.free → ∃ c, env.cells.lookup y.1 = some c) →
    (∀ x c, acc.lookup x = some c → env.cells.lookup x = some c) →
    ∃ cl, forIn names acc f = (pure cl : Sem (List (Str × Addr))) ∧ (∀ x c, cl.lookup x = some c → env.cells.lookup x = some c) ∧
      (∀ x, (acc.lookup x).isSome = true → (cl.lookup x).isSome = true) ∧ ∀ y ∈ names, y.2 = NameKind.free → (cl.lookup y.1).isSome = true
  | [], acc, _, h => ⟨acc, by rw [List.forIn_nil], h, fun _ q => q, fun y hy => nomatch hy⟩
  | (n, k) :: r, acc, hn, h => by
    by_cases hk : k = NameKind.free
    · subst hk
      obtain ⟨c, hc⟩ := hn (n, .free) List.mem_cons_self rfl
      have hc' : env.cells.lookup n = some c := hc
      obtain ⟨cl, e, a, b, d⟩ := clos_go f1 f2 r ((n, c) :: acc) (fun y hy => hn y (List.mem_cons_of_mem _ hy)) (fun x c' q => by
        rw [List.lookup_cons] at q
        cases e : x == n with
        | true =>
          rw [e] at q
          cases q
          rw [show x = n from LawfulBEq.eq_of_beq e]
          exact hc'
        | false =>
          rw [e] at q
          exact h x c' q)
      refine ⟨cl, ?_, a, fun x q => b x ?_, fun y hy hf => ?_⟩
      · rw [List.forIn_cons, f2 n c acc hc', pure_bind]
        exact e
      · rw [List.lookup_cons]
        cases x == n with
        | true => rfl
        | false => exact q
      · rcases List.mem_cons.mp hy with rfl | hy
        · refine b _ ?_
          rw [List.lookup_cons]
          simp
        · exact d y hy hf
    · obtain ⟨cl, e, a, b, d⟩ := clos_go f1 f2 r acc (fun y hy => hn y (List.mem_cons_of_mem _ hy)) h
      refine ⟨cl, ?_, a, b, fun y hy hf => ?_⟩
      · rw [List.forIn_cons, f1 n k acc hk, pure_bind]
        exact e
      · rcases List.mem_cons.mp hy with rfl | hy
        · exact absurd hf hk
        · exact d y hy hf
theorem clos_ok {scope : Scope} {env : Env} (hf : ∀ y ∈ scope.names, y.2 = NameKind.free → ∃ c, env.cells.lookup y.1 = some c) :
    ∃ cl, closureFor scope env = pure cl ∧ (∀ x c, cl.lookup x = some c → env.cells.lookup x = some c) ∧
      ∀ y ∈ scope.names, y.2 = NameKind.free → ∃ c, cl.lookup y.1 = some c := by
  have go := clos_go (env := env) (f := fun (x : Str × NameKind) (r : List (Str × Addr)) => match x with
      | (name, kind) => if (kind == NameKind.free) = true then do let c ← cellOf env name; pure (ForInStep.yield ((name, c) :: r)) else pure (ForInStep.yield r))
    (fun n k r hk => by
      have z : (k == NameKind.free) = false := by simpa using hk
      simp only [z, Bool.false_eq_true, if_false])
    (fun n c r hc => by
      simp only [beq_self_eq_true, if_true, cellOf, hc, pure_bind])
    scope.names [] hf (fun x c q => by cases q)
  obtain ⟨cl, e, a, _, d⟩ := go
  refine ⟨cl, ?_, a, fun y hy z => Option.isSome_iff_exists.mp (d y hy z)⟩
  simp only [closureFor]
  first
    | exact e
    | (simp only [bind_pure]; exact e)
    | (refine Eq.trans ?_ e; simp only [bind_pure])
noncomputable def cxC (X : Cx) (scope : Scope) (N : List Str) (cl : List (Str × Addr)) (C : Addr) (s₀ : Shared) (H₀ : Hp) (ex : List Addr) : Cx where
  prog := X.prog
  w := X.w
  K := X.K
  mg := X.mg
  base := X.base
  A := X.A
  N := N
  s₀ := s₀
  H₀ := H₀
  env := compEnvC scope cl C X.env
  outer := X.stack
  stack := X.stack
  ex := ex
  fn := fun _ => false
  calm := X.calm
  pn := []
  xe := fun _ _ => False
noncomputable def inSt (k : Nat) (fr : List Nat) (σ : St) : St := List.replicate k none ++ fr.map fun i => (σ[i]?).join
noncomputable def frOk (osc scope : Scope) (NX : List Str) (fr : List Nat) : Bool := fr.all fun i => match NX[i]? with
  | some x => (decide (osc.names.lookup x = some .cell) || decide (osc.names.lookup x = some .free)) && decide (scope.names.lookup x = some .free)
  | none => false
structure CompSc (osc scope : Scope) (NX own : List Str) (fr : List Nat) (N : List Str) : Prop where
  kind : scope.kind = .function
  nocell : ∀ y ∈ scope.names, y.2 ≠ NameKind.cell
  loc : ∀ y ∈ scope.names, y.2 = NameKind.local → scope.names.lookup y.1 = some .local
  free : ∀ y ∈ scope.names, y.2 = NameKind.free → osc.names.lookup y.1 = some .cell ∨ osc.names.lookup y.1 = some .free
  names : N.map some = own.map some ++ fr.map fun i => NX[i]?
  outer : frOk osc scope NX fr = true
noncomputable def compOk (osc scope : Scope) (NX own : List Str) (fr : List Nat) (N : List Str) : Bool :=
  decide (scope.kind = .function) && (scope.names.all (fun y => decide (y.2 ≠ NameKind.cell)) && (scope.names.all (fun y => decide (y.2 = NameKind.local → scope.names.lookup y.1 = some .local)) &&
    (scope.names.all (fun y => decide (y.2 = NameKind.free → (osc.names.lookup y.1 = some .cell ∨ osc.names.lookup y.1 = some .free))) && (decide (N.map some = own.map some ++ fr.map fun i => NX[i]?) && frOk osc scope NX fr))))
theorem CompSc.of {osc scope : Scope} {NX own : List Str} {fr : List Nat} {N : List Str} (h : compOk osc scope NX own fr N = true) : CompSc osc scope NX own fr N := by
  unfold compOk at h
  simp only [Bool.and_eq_true, decide_eq_true_eq, List.all_eq_true] at h
  obtain ⟨h1, h2, h3, h4, h5, h6⟩ := h
  exact ⟨h1, h2, h3, h4, h5, h6⟩
theorem CompSc.len {osc scope : Scope} {NX own : List Str} {fr : List Nat} {N : List Str} (S : CompSc osc scope NX own fr N) : N.length = own.length + fr.length := by
  have h := congrArg List.length S.names
  simpa using h
theorem lookup_relabel_free {env : Env} : ∀ {names : List (Str × NameKind)} {x : Str}, names.lookup x = some .free →
    (names.map fun (n, k) => if (k == NameKind.free && env.scope.kind == .function && env.kindOf n == some .cell) then (n, NameKind.cell) else (n, k)).lookup x = some .cell ∨
    (names.map fun (n, k) => if (k == NameKind.free && env.scope.kind == .function && env.kindOf n == some .cell) then (n, NameKind.cell) else (n, k)).lookup x = some .free
  | [], _, h => by simp at h
  | (n, k) :: r, x, h => by
    have ih := @lookup_relabel_free env r x
    cases hx : x == n with
    | true =>
      simp only [List.lookup_cons, hx] at h
      cases h
      simp only [List.map_cons]
      split
      · left; simp [List.lookup_cons, hx]
      · right; simp [List.lookup_cons, hx]
    | false =>
      simp only [List.lookup_cons, hx] at h
      simp only [List.map_cons]
      split
      · simp only [List.lookup_cons, hx]; exact ih h
      · simp only [List.lookup_cons, hx]; exact ih h
theorem of_relabel {env : Env} : ∀ {names : List (Str × NameKind)} {x : Str} {k' : NameKind},
    (names.map fun (n, k) => if (k == NameKind.free && env.scope.kind == .function && env.kindOf n == some .cell) then (n, NameKind.cell) else (n, k)).lookup x = some k' →
    k' = .cell ∨ k' = .free → (∀ y ∈ names, y.2 ≠ NameKind.cell) → ∃ y ∈ names, y.1 = x ∧ y.2 = .free
  | [], _, _, h, _, _ => by simp at h
  | (n, k) :: r, x, k', h, hk, nc => by
    have ih := @of_relabel env r x k'
    simp only [List.map_cons] at h
    cases hx : x == n with
    | true =>
      have ex : x = n := LawfulBEq.eq_of_beq hx
      refine ⟨(n, k), List.mem_cons_self, ex.symm, ?_⟩
      have nck : k ≠ .cell := nc (n, k) List.mem_cons_self
      by_cases z : k = .free
      · exact z
      · have zb : (k == NameKind.free) = false := by simpa using z
        simp only [zb, Bool.false_and, Bool.false_eq_true, if_false, List.lookup_cons, hx] at h
        cases h
        rcases hk with q | q
        · exact absurd q nck
        · exact absurd q z
    | false =>
      have h' : (r.map fun (n, k) => if (k == NameKind.free && env.scope.kind == .function && env.kindOf n == some .cell) then (n, NameKind.cell) else (n, k)).lookup x = some k' := by
        split at h
        · simpa only [List.lookup_cons, hx] using h
        · simpa only [List.lookup_cons, hx] using h
      obtain ⟨y, hy, a, b⟩ := ih h' hk fun z hz => nc z (List.mem_cons_of_mem _ hz)
      exact ⟨y, List.mem_cons_of_mem _ hy, a, b⟩
section
variable {X : Cx} {pins : List (Addr × Obj)} {σ : St} {H : Hp} {s : Shared}
noncomputable def PTs (X : Cx) (ifs : List Expr) (t : TT) : Prop :=
  ∀ (pins : List (Addr × Obj)) (s : Shared) (σ : St) (H : Hp) (Q : Bool → Hp → Prop), Inv X pins σ H s → t σ H Q →
    wpAny (model X.prog X.w) X.A (forIn ifs true fun c r => if r = true then do let ok ← isTrue c X.env (eval c X.env); pure (ForInStep.yield ok) else pure (ForInStep.yield r)) (TP X pins σ Q) X.xe s
noncomputable def tYes : TT := fun _ H Q => Q true H
theorem pts_nil : PTs X [] tYes := fun _ _ _ H _ I h => wpAny_tests_nil ⟨H, I, h⟩
theorem nx {α : Type} {t : Sem α} {Q Q' : α → Shared → Prop} {M : Model} {A : Around} {E : Value → Shared → Prop} {s : Shared} (h : wpAny M A t Q (fun _ _ => False) s) (hQ : ∀ a s, Q a s → Q' a s) : wpAny M A t Q' E s :=
  wpAny_mono h hQ fun _ _ f => f.elim
theorem inv_block {scope : Scope} {own : List Str} {fr : List Nat} {N : List Str} {cl : List (Str × Addr)} {s3 s4 : Shared} {H3 : Hp} {fp : List Addr} {m : Str → Option Value}
    (hc : X.calm = true) (S : CompSc X.env.scope scope X.N own fr N)
    (c1 : ∀ x c, cl.lookup x = some c → X.env.cells.lookup x = some c) (c2 : ∀ y ∈ scope.names, y.2 = NameKind.free → ∃ c, cl.lookup y.1 = some c)
    (I3 : Inv X pins σ H3 s3) (f3 : ∀ b ∈ fp, FpOk X pins H3 b ∧ b < s3.heap.objs.size)
    (hk : ∀ b o, s3.heap.get? b = some o → s4.heap.get? b = some o) (hn : s4.heap.Ns s3.heap.objs.size m) (ho : s4.os = s3.os) (hg : s4.gens = s3.gens) :
    Inv (cxC X scope N cl s3.heap.objs.size s3 H3 fp) [] (inSt own.length fr σ) H3 s4 := by
  have kindF : (compEnvC scope cl s3.heap.objs.size X.env).scope.kind = .function := by
    show (relabel scope X.env).kind = .function
    exact S.kind
  refine ⟨⟨I3.ok.mod, kindF, I3.ok.glob, I3.ok.blt, Nat.le_refl _, ?_, ?_, ?_, I3.ok.hd, I3.ok.frames, .inl rfl, ?_, ?_, ?_, ?_, ?_, I3.stack, I3.stkFree⟩, ho, ?_, Un.kept hk, ⟨m, hn, ?_⟩, ?_, ?_, ?_, ?_, I3.hok.kept hk, ?_⟩
  · exact fun x y c h1 h2 => I3.ok.inj x y c (c1 x c h1) (c1 y c h2)
  · intro x hx
    have hx' : (relabel scope X.env).names.lookup x = some .cell ∨ (relabel scope X.env).names.lookup x = some .free := hx
    obtain ⟨k', hk', hkk⟩ : ∃ k', (relabel scope X.env).names.lookup x = some k' ∧ (k' = NameKind.cell ∨ k' = NameKind.free) := by
      rcases hx' with q | q
      · exact ⟨_, q, .inl rfl⟩
      · exact ⟨_, q, .inr rfl⟩
    obtain ⟨y, hy, e, hf⟩ := of_relabel (env := X.env) hk' hkk S.nocell
    subst e
    exact c2 y hy hf
  · exact fun x c h => by cases h
  · intro b hb
    obtain ⟨f, hl⟩ := f3 b hb
    refine ⟨Nat.ne_of_lt hl, fun x c h => f.2.2.2.2.1 x c (c1 x c h)⟩
  · exact fun b o e => I3.bs b o e
  · exact Nat.le_trans I3.ok.bsz I3.sz
  · intro b o e hb
    obtain ⟨f, hl⟩ := f3 b hb
    rcases f.2.2.2.1 with z | z
    · exact I3.ok.noex b o e z
    · exact absurd (Nat.lt_of_lt_of_le (Heap.lt_size e) (Nat.le_trans I3.ok.bsz z)) (Nat.lt_irrefl _)
  · intro b hb
    obtain ⟨f, hl⟩ := f3 b hb
    show b ∉ frs X.stack
    intro z
    rcases List.mem_cons.mp (I3.stkSub b z) with q | q
    · exact f.2.1 q
    · exact f.2.2.1 q
  · rw [hg]; exact I3.bare
  · intro i x v h1 h2 h3
    have h1 : N[i]? = some x := h1
    obtain ⟨m0, hn0, hl0⟩ := I3.loc
    have hi : own.length ≤ i := by
      refine Nat.le_of_not_lt fun q => ?_
      unfold inSt at h2
      rw [List.getElem?_append_left (by simpa using q), List.getElem?_replicate] at h2
      split at h2 <;> cases h2
    obtain ⟨j, rfl⟩ := Nat.exists_eq_add_of_le hi
    have h2' : (fr.map fun i => (σ[i]?).join)[j]? = some (some v) := by
      unfold inSt at h2
      rw [List.getElem?_append_right (by simp)] at h2
      simpa using h2
    rw [List.getElem?_map] at h2'
    cases ej : fr[j]? with
    | none => rw [ej] at h2'; cases h2'
    | some k =>
      rw [ej] at h2'
      have e2 : (σ[k]?).join = some v := Option.some.inj h2'
      have eσ : σ[k]? = some (some v) := by
        cases q : σ[k]? with
        | none => rw [q] at e2; cases e2
        | some o => rw [q] at e2; exact congrArg some e2
      have eN : X.N[k]? = some x := by
        have q := congrArg (fun l => l[own.length + j]?) S.names
        simp only [List.getElem?_map, h1, List.getElem?_append_right (show (own.map some).length ≤ own.length + j by simp), List.length_map, Nat.add_sub_cancel_left, ej, Option.map_some] at q
        exact (Option.some.inj q).symm
      have ok := List.all_eq_true.mp S.outer k (List.mem_of_getElem? ej)
      rw [eN] at ok
      simp only [Bool.and_eq_true, Bool.or_eq_true, decide_eq_true_eq] at ok
      obtain ⟨ok1, ok2⟩ := ok
      have vis : Vis X.env.scope x := .inr ok1
      obtain ⟨u, r, l⟩ := hl0 k x v eN eσ vis
      refine ⟨u, r, ?_⟩
      rcases l with ⟨l, _⟩ | ⟨_, c, e, z⟩
      · have l : X.env.scope.names.lookup x = some .local := l
        rcases ok1 with q | q
        · rw [l] at q; cases q
        · rw [l] at q; cases q
      · obtain ⟨c', e'⟩ := c2 (x, .free) (PySem.mem_of_lookup ok2) rfl
        have e' : cl.lookup x = some c' := e'
        have ec : c' = c := Option.some.inj ((c1 x c' e').symm.trans e)
        subst ec
        refine .inr ⟨lookup_relabel_free (env := X.env) ok2, c', e', ?_⟩
        obtain ⟨o, h1, h2⟩ := z
        exact ⟨o, hk _ _ h1, h2⟩
  · intro x c e
    obtain ⟨v, o, h1, h2⟩ := I3.cell x c (c1 x c e)
    exact ⟨v, o, hk _ _ h1, h2⟩
  · exact I3.hok.fresh (Nat.le_refl _)
  · exact fun x c e => I3.freeC x c (c1 x c e)
  · intro p hp
    exact absurd hp (by simp [cxC])
  · show (inSt own.length fr σ).length = N.length
    rw [S.len]
    simp [inSt]
end
section
variable {prog : Program} {w : World} {A : Around} {R : Result → Shared → Prop} {s : Shared}
theorem comp_loop {elt tg iter : Expr} {ifs : List Expr} {scope : Scope} {pos : Pos} {it acc : Value} {env : Env} (J : Nat → Shared → Prop)
    (turn : ∀ k s, J k s → ∀ E : Value → Shared → Prop, wpAny (model prog w) A (pyNext it) (fun r s1 => match r with
      | none => R (.ok .next) s1
      | some v => wpAny (model prog w) A (letOwnedTupleGo tg it v) (fun _ s2 => wpAny (model prog w) A (assign tg env v) (fun _ s3 =>
          wpAny (model prog w) A (forIn ifs true fun c r => if r = true then do let ok ← isTrue c env (eval c env); pure (ForInStep.yield ok) else pure (ForInStep.yield r)) (fun ok s4 =>
            if ok = true then wpAny (model prog w) A (eval elt env) (fun x s5 => wpAny (model prog w) A (call (.builtin "list.append") [acc, x]) (fun _ s6 => ∃ m, m < k ∧ J m s6) E s5) E s4
            else ∃ m, m < k ∧ J m s4) E s3) E s2) E s1) E s)
    (k : Nat) (h : J k s) : codeAny (model prog w) A (.compLoop (.ListComp elt [⟨tg, iter, ifs, 0⟩] scope pos) 0 it acc env) R s := by
  refine codeAny_loop rfl J (fun k s hJ => ?_) k h
  show wpAny _ A ((compTurn (.ListComp elt [⟨tg, iter, ifs, 0⟩] scope pos) 0 it acc env).onRaise (fun e => do noteFrame e env; theTreesLotGoes e)) _ _ s
  refine wpAny_noted ?_
  rw [compTurn_list]
  refine wpAny_bind (wpAny_standAt (wpAny_bind (thn (turn k s hJ _) fun r s1 h1 => ?_)))
  cases r with
  | none => exact wpAny_pure h1
  | some v =>
    refine wpAny_bind (thn h1 fun _ s2 h2 => wpAny_bind (thn h2 fun _ s3 h3 => wpAny_bind (thn h3 fun ok s4 h4 => ?_)))
    cases ok with
    | false => exact wpAny_pure ⟨rfl, h4⟩
    | true => exact wpAny_bind (wpAny_bind (thn h4 fun x s5 h5 => wpAny_bind (thn h5 fun _ s6 h6 => wpAny_pure (wpAny_pure ⟨rfl, h6⟩))))
end
noncomputable def tCompW (k : Nat) (fr : List Nat) (g : TG) (tc : TT) (te : TE) (J : It) (σ : St) (H1 : Hp) (Q : VK) : Prop :=
  ∀ D, H1 D = none → ∃ W : Nat → Nat → List V → St → Hp → Prop, (∃ m, W 0 m [] (inSt k fr σ) (upd H1 D (.lst []))) ∧ ∀ i m acc σ' H', W i m acc σ' H' → H' D = some (.lst acc) →
    (J.stop i H' ∧ Q (.ref D) H') ∨ (J.go i H' ∧ ∃ N : List V → St → Hp → Prop, (∀ acc' σ2 H2, N acc' σ2 H2 → ∃ m', m' < m ∧ W (i + 1) m' acc' σ2 H2) ∧ ∀ x H2, J.yld i H' x H2 → g x σ' H2 fun σ2 H3 => tc σ2 H3 fun b H4 =>
      if b = true then te σ2 H4 fun y H5 => H5 D = some (.lst acc) ∧ acc.length < sizeLine ∧ N (acc ++ [y]) σ2 (upd H5 D (.lst (acc ++ [y])))
      else H4 D = some (.lst acc) ∧ N acc σ2 H4)
noncomputable def tComp (k : Nat) (fr : List Nat) (wi : TI) (g : TG) (tc : TT) (te : TE) : TE := fun σ H Q => wi σ H fun J H1 => tCompW k fr g tc te J σ H1 Q
section
variable {X : Cx} {pins : List (Addr × Obj)} {σ : St} {H : Hp} {s : Shared} {tg elt iter : Expr} {ifs : List Expr} {scope : Scope} {pos : Pos}
theorem comp_block {own : List Str} {fr : List Nat} {N : List Str} {cl : List (Str × Addr)} {H2 : Hp} {s2 : Shared} {fp : List Addr} {it : Addr} {J : It} {tn : Nat → Heap → Prop} {g : TG} {tc : TT} {te : TE} {Q : VK} {E : Value → Shared → Prop} {POST : Value → Addr → Result → Shared → Prop}
    (hc : X.calm = true) (S : CompSc X.env.scope scope X.N own fr N)
    (c1 : ∀ x c, cl.lookup x = some c → X.env.cells.lookup x = some c) (c2 : ∀ y ∈ scope.names, y.2 = NameKind.free → ∃ c, cl.lookup y.1 = some c)
    (hg : ∀ C s₀ H₀ ex, PG (cxC X scope N cl C s₀ H₀ ex) tg g) (ht : ∀ C s₀ H₀ ex, PTs (cxC X scope N cl C s₀ H₀ ex) ifs tc) (he : ∀ C s₀ H₀ ex, PE (cxC X scope N cl C s₀ H₀ ex) elt te)
    (I2 : Inv X pins σ H2 s2) (T : Turn X.prog X.w X.K tg J fp it tn) (t2 : tn 0 s2.heap) (f2 : ∀ b ∈ fp, FpOk X pins H2 b) (q : tCompW own.length fr g tc te J σ H2 Q)
    (fin : ∀ D C s' H' m, Inv X pins σ H' s' → FpOk X pins H' C → s'.heap.Ns C m → Q (.ref D) H' → POST (.ref D) C (.ok .next) s') :
    wpAny (model X.prog X.w) X.A (newList []) (fun acc s3 => wpAny (model X.prog X.w) X.A (newFunctionEnv scope X.env.globals cl [] X.env.qual none .none (some X.env)) (fun cenv s4 =>
      codeAny (model X.prog X.w) X.A (.compStart (.ListComp elt [⟨tg, iter, ifs, 0⟩] scope pos) 0 (.ref it) acc { cenv with scope := relabel scope X.env }) (POST acc cenv.locals) s4) E s3) E s2 := by
  refine wpAny_newObj_type (wpAny_newFunctionEnv S.nocell (by intro y hy; simp at hy) (fun h4 ns4 sb4 => ?_) S.kind)
  dsimp only at ns4 sb4 ⊢
  have hD : H2 s2.heap.objs.size = none := I2.hok.fresh (Nat.le_refl _)
  obtain ⟨W, ⟨m0, w0⟩, turn⟩ := q s2.heap.objs.size hD
  have I3 : Inv X pins σ (upd H2 s2.heap.objs.size (.lst [])) { s2 with heap := s2.heap.push { cls := .type "list", dict := none, data := .seq ([] : List Value).toArray }, toks := s2.toks } :=
    I2.laid (fun b u q => Heap.get?_push_of_some _ q) (Nat.le_refl _) ⟨Nat.zero_le _, [], _, .nil, Heap.get?_push_size _ rfl⟩
  generalize hh3 : s2.heap.push { cls := .type "list", dict := none, data := .seq ([] : List Value).toArray } = h3 at *
  have z3 : h3.objs.size = s2.heap.objs.size + 1 := by rw [← hh3, Heap.size_push]
  have k23 : ∀ b o, s2.heap.get? b = some o → h3.get? b = some o := fun b o e => by rw [← hh3]; exact Heap.get?_push_of_some _ e
  have k34 : ∀ b o, h3.get? b = some o → h4.get? b = some o := fun b o e => sb4.extBut b o (Nat.ne_of_lt (Heap.lt_size e)) (Heap.get?_push_of_some _ e)
  have fpl : ∀ b ∈ fp, b < s2.heap.objs.size := fun b hb => by
    obtain ⟨o, e, _⟩ := T.obj _ _ t2 b hb
    exact Heap.lt_size e
  have f3 : ∀ b ∈ fp, FpOk X pins (upd H2 s2.heap.objs.size (.lst [])) b ∧ b < h3.objs.size := fun b hb => by
    refine ⟨⟨?_, (f2 b hb).2⟩, by rw [z3]; exact Nat.lt_succ_of_lt (fpl b hb)⟩
    rw [upd_ne (Nat.ne_of_lt (fpl b hb))]
    exact (f2 b hb).1
  generalize hs3 : ({ s2 with heap := h3, toks := s2.toks } : Shared) = s3 at I3
  have es3 : s3.heap = h3 := by rw [← hs3]
  have hs3' : ({ s2 with heap := h3 } : Shared) = s3 := hs3
  have I4 := inv_block (s3 := s3) (s4 := { s3 with heap := h4, toks := s3.toks + ([] : List (Str × Value)).length }) hc S c1 c2 I3 (by rw [es3]; exact f3) (by rw [es3]; exact k34) (m := fun x => ([] : List (Str × Value)).reverse.lookup x) (by rw [es3]; exact ns4) rfl rfl
  rw [es3] at I4
  have stat : ∀ {H' : Hp} {s' : Shared} {σ' : St} {pl : List (Addr × Obj)}, Inv (cxC X scope N cl h3.objs.size s3 (upd H2 s2.heap.objs.size (.lst [])) fp) pl σ' H' s' → (∀ p ∈ pl, p.1 ∉ fp) → (∀ b ∈ fp, H' b = none) → ∀ b ∈ fp, FpOk (cxC X scope N cl h3.objs.size s3 (upd H2 s2.heap.objs.size (.lst [])) fp) pl H' b := fun {H' s' σ' pl} I' hpl hn b hb => by
    refine ⟨hn b hb, Nat.ne_of_lt (f3 b hb).2, I'.ok.exfs b hb, .inl hb, fun x c e => (f2 b hb).2.2.2.2.1 x c (c1 x c e), fun p hp => ?_⟩
    intro z
    exact hpl p (by simpa [cxC] using hp) (z ▸ hb)
  have loop : ∀ s4 : Shared, s4 = { s3 with heap := h4, toks := s3.toks + ([] : List (Str × Value)).length } →
      codeAny (model X.prog X.w) X.A (.compLoop (.ListComp elt [⟨tg, iter, ifs, 0⟩] scope pos) 0 (.ref it) (.ref s2.heap.objs.size) (compEnvC scope cl h3.objs.size X.env)) (POST (.ref s2.heap.objs.size) h3.objs.size) s4 := by
    rintro s4 rfl
    refine comp_loop (fun n s' => ∃ i acc σ' H', Inv (cxC X scope N cl h3.objs.size s3 (upd H2 s2.heap.objs.size (.lst [])) fp) [] σ' H' s' ∧ tn i s'.heap ∧ (∀ b ∈ fp, H' b = none) ∧ H' s2.heap.objs.size = some (.lst acc) ∧ W i n acc σ' H') ?_ m0
      ⟨0, [], _, _, I4, T.keep _ _ _ t2 fun b hb o e => k34 b o (k23 b o e), fun b hb => (f3 b hb).1.1, upd_same, w0⟩
    rintro n s5 ⟨i, acc, σ5, H5, I5, t5, fr5, d5, w5⟩ E'
    rcases turn i n acc σ5 H5 w5 d5 with ⟨stop, qn⟩ | ⟨go, NN, hNN, step⟩
    · refine thn (T.done (cxC X scope N cl h3.objs.size s3 (upd H2 s2.heap.objs.size (.lst [])) fp) rfl rfl rfl hc i [] s5 σ5 H5 E' I5 (stat I5 (by simp) fr5) t5 stop) fun r s6 ⟨hr, I6⟩ => ?_
      subst hr
      obtain ⟨m6, n6, _⟩ := id I6.loc
      have J6 : Inv X pins σ H5 s6 := I3.call' (ch := fp) I6.os I6.base I6.hok I6.bare fun b hb => ⟨(f2 b hb).2.2.2.1, (f2 b hb).2.1, (f2 b hb).2.2.2.2.1, (f2 b hb).2.2.2.2.2⟩
      exact fin _ _ s6 H5 m6 J6 (I2.fpOk (by rw [z3]; exact Nat.le_succ _) I6.free) n6 qn
    · refine thn (T.item (cxC X scope N cl h3.objs.size s3 (upd H2 s2.heap.objs.size (.lst [])) fp) rfl rfl rfl hc i [] s5 σ5 H5 E' I5 (stat I5 (by simp) fr5) t5 go) fun r s6 ⟨u, hr, h6⟩ => ?_
      subst hr
      refine thn h6 fun _ s7 ⟨x, H7, I7, r7, y7, t7, fr7⟩ => ?_
      have I7' := I7.pinned (stat I7 (by simp) fr7) (T.obj _ _ t7)
      have backTn : ∀ {s' : Shared} {H' : Hp} {σ' : St}, Inv (cxC X scope N cl h3.objs.size s3 (upd H2 s2.heap.objs.size (.lst [])) fp) ([] ++ pinsAt fp s7.heap) σ' H' s' → tn (i + 1) s'.heap ∧ ∀ b ∈ fp, H' b = none := fun {s' H' σ'} I' => by
        refine ⟨T.keep _ _ _ t7 fun b hb o e => (I'.pin (b, o) (List.mem_append_right _ (List.mem_append_right _ (mem_pinsAt hb e)))).1, fun b hb => ?_⟩
        obtain ⟨o, e, _⟩ := T.obj _ _ t7 b hb
        exact (I'.pin (b, o) (List.mem_append_right _ (List.mem_append_right _ (mem_pinsAt hb e)))).2.1
      refine nx (hg _ _ _ _ _ s7 σ5 H7 x u _ I7' r7 (step x H7 y7)) fun _ s8 ⟨σ8, H8, I8, q8⟩ => ?_
      refine nx (ht _ _ _ _ _ s8 σ8 H8 _ I8 q8) fun ok s9 ⟨H9, I9, q9⟩ => ?_
      cases ok with
      | false =>
        obtain ⟨d9, n9⟩ := q9
        obtain ⟨m', hm, w9⟩ := hNN _ _ _ n9
        obtain ⟨a1, a2⟩ := backTn I9
        exact ⟨m', hm, i + 1, acc, σ8, H9, I9.unpinned, a1, a2, d9, w9⟩
      | true =>
        rw [if_pos rfl]
        refine nx (he _ _ _ _ _ s9 σ8 H9 _ I9 q9) fun y s10 ⟨v, H10, I10, r10, d10, l10, n10⟩ => ?_
        obtain ⟨m', hm, w10⟩ := hNN _ _ _ n10
        refine nx (mt_append _ s10 σ8 H10 (.ref s2.heap.objs.size) [v] (.ref s2.heap.objs.size) [y] (fun _ H' => H' = upd H10 s2.heap.objs.size (.lst (acc ++ [v]))) I10 rfl (.cons r10 .nil) ⟨_, acc, v, rfl, rfl, d10, l10, rfl⟩) fun _ s11 ⟨_, H11, I11, _, e11⟩ => ?_
        subst e11
        obtain ⟨a1, a2⟩ := backTn I11
        exact ⟨m', hm, i + 1, _, σ8, _, I11.unpinned, a1, a2, upd_same, w10⟩
  exact codeAny_compStart_list (loop _ (by rw [← hs3])) (T.self _ 0 _ _ _ (T.keep _ _ _ t2 fun b hb o e => k34 b o (k23 b o e)) (loop _ (by rw [← hs3])))
theorem pe_comp (osc : Scope) (NX own : List Str) (fr : List Nat) (N : List Str) {wi : TI} {g : TG} {tc : TT} {te : TE} (hc : X.calm = true)
    (hi : PI X tg iter wi) (hg : ∀ cl C s₀ H₀ ex, PG (cxC X scope N cl C s₀ H₀ ex) tg g) (ht : ∀ cl C s₀ H₀ ex, PTs (cxC X scope N cl C s₀ H₀ ex) ifs tc) (he : ∀ cl C s₀ H₀ ex, PE (cxC X scope N cl C s₀ H₀ ex) elt te)
    (hs : ∀ x, foldedSetIterable iter X.env x = pure x := by intro _; rfl) (hosc : X.env.scope = osc := by rfl) (hNX : X.N = NX := by rfl) (hS : compOk osc scope NX own fr N = true := by decide +kernel) :
    PE X (.ListComp elt [⟨tg, iter, ifs, 0⟩] scope pos) (tComp own.length fr wi g tc te) := by
  intro pins s σ H Q I h
  have S : CompSc X.env.scope scope X.N own fr N := by rw [hosc, hNX]; exact CompSc.of hS
  obtain ⟨cl, ecl, c1, c2⟩ := clos_ok (scope := scope) (env := X.env) fun y hy hf => I.ok.has y.1 (S.free y hy hf)
  rw [eval_ListComp]
  refine wpAny_comprehension_free (use := none) rfl hs ecl S.kind S.loc (thn (hi pins s σ H _ I h) fun v s1 h1 => thn h1 fun itv s2 h2 => ?_)
  obtain ⟨it, fp, tn, J, H2, e, I2, T, t2, f2, q⟩ := h2
  subst e
  refine comp_block (POST := fun acc C => compPost (model X.prog X.w) X.A X.xe none (EP X pins σ Q) acc C) hc S c1 c2 (hg cl) (ht cl) (he cl) I2 T t2 f2 q fun D C s' H' m I' fC ns q' => ?_
  refine ⟨m, ns, fun h' sb => ⟨.ref D, H', ?_, rfl, q'⟩⟩
  obtain ⟨g0, g1, _, g3, g4, g5⟩ := fC
  exact I'.turned (t' := s'.toks) (fun b o hb e => (sb.2 b hb).trans e) g0 g1 g3 g4 g5
theorem ps_setC {wi : TI} {g : TG} {tc : TT} {te : TE} {i : Nat} {x : Str} {px spos : Pos} (hN : X.N.Nodup) (hi' : X.N[i]? = some x) (hx : X.env.scope.names.lookup x = some .local)
    (hsw : swapsWith (.ListComp elt [⟨tg, iter, ifs, 0⟩] scope pos) (some (.Name x px)) spos.line X.env = pure true)
    (osc : Scope) (NX own : List Str) (fr : List Nat) (N : List Str) (hc : X.calm = true)
    (hi : PI X tg iter wi) (hg : ∀ cl C s₀ H₀ ex, PG (cxC X scope N cl C s₀ H₀ ex) tg g) (ht : ∀ cl C s₀ H₀ ex, PTs (cxC X scope N cl C s₀ H₀ ex) ifs tc) (he : ∀ cl C s₀ H₀ ex, PE (cxC X scope N cl C s₀ H₀ ex) elt te)
    (hs : ∀ x, foldedSetIterable iter X.env x = pure x := by intro _; rfl) (hosc : X.env.scope = osc := by rfl) (hNX : X.N = NX := by rfl) (hS : compOk osc scope NX own fr N = true := by decide +kernel) :
    PS X (.Assign [.Name x px] (.ListComp elt [⟨tg, iter, ifs, 0⟩] scope pos) spos) (tAsg (tComp own.length fr wi g tc te) (gName i)) := by
  intro pins s σ H D I h
  have S : CompSc X.env.scope scope X.N own fr N := by rw [hosc, hNX]; exact CompSc.of hS
  obtain ⟨cl, ecl, c1, c2⟩ := clos_ok (scope := scope) (env := X.env) fun y hy hf => I.ok.has y.1 (S.free y hy hf)
  rw [exec_Assign_Name_used _ _ _ _ hsw]
  refine wpAny_bind (wpAny_standAt (wpAny_bind ?_))
  show wpAny _ X.A (do let _ ← comprehension (.ListComp elt [⟨tg, iter, ifs, 0⟩] scope pos) scope X.env _ (newList []) false (eval iter X.env) (some (assign (.Name x px) X.env))) _ _ s
  refine wpAny_bind (thn (wpAny_comprehension_free (use := some (assign (.Name x px) X.env)) (Q := fun _ s' => SP X pins D .next s') rfl hs ecl S.kind S.loc (thn (hi pins s σ H _ I h) fun v s1 h1 => thn h1 fun itv s2 h2 => ?_)) fun _ s' hq => wpAny_pure (wpAny_pure hq))
  obtain ⟨it, fp, tn, J, H2, e, I2, T, t2, f2, q⟩ := h2
  subst e
  refine comp_block (POST := fun acc C => compPost (model X.prog X.w) X.A X.xe (some (assign (.Name x px) X.env)) (fun _ s' => SP X pins D .next s') acc C) hc S c1 c2 (hg cl) (ht cl) (he cl) I2 T t2 f2 q fun D' C s' H' m I' fC ns q' => ?_
  show wpAny _ X.A (assign (.Name x px) X.env (.ref D')) _ _ s'
  refine wpAny_assign_Name (store_ok2 I' hN hi' (.inl hx) (show RelV (.ref D') (.ref D') from rfl) (fun s3 I3 sb => ?_) (.inr hx))
  obtain ⟨a, sb, ha⟩ := sb
  obtain ⟨g0, g1, g2, g3, g4, g5⟩ := fC
  have aC : C ≠ a := by
    rcases ha with z | z
    · rw [z]; exact g1
    · exact fun w => g4 x a z w.symm
  refine ⟨m, ns.sameBut sb aC, fun h' sb' => ⟨_, H', ?_, q'⟩⟩
  exact I3.turned (t' := s3.toks) (fun b o hb e => (sb'.2 b hb).trans e) g0 g1 g3 g4 g5
end
end L2
namespace L2
open PySem PySem.Spec PyProof.Rows
noncomputable def sgV (x : Str) (i : Nat) : Option V := (x.cps[i]?).map fun c => V.str ⟨#[c]⟩
noncomputable def Its (x : Str) : It := ⟨fun i _ => i < x.cps.size, fun i H v H' => H' = H ∧ sgV x i = some v, fun i _ => x.cps.size ≤ i⟩
theorem turn_signs {P : Program} {w : World} {K : PySem.W.Frag} {tg : Expr} (T : String) (it : Addr) (x : Str) (t : Tok)
    (hn : ["enumerate", "zip", "dict_itemiterator", "dict_reverseitemiterator", "odict_iterator", "itertools.zip_longest", "itertools.pairwise"].contains T = false)
    (W : ∀ A : Around, A.handled = none → Walks P w A it [it] [it] x.cps.size (SignAt x) (fun i h => h.IsStrIter it T x t i))
    (hs : ∀ (A : Around) (i : Nat) (s : Shared) (Q : Value → Shared → Prop) (E : Value → Shared → Prop), s.heap.IsStrIter it T x t i → Q (.ref it) s → wpAny (model P w) A (pyIter (.ref it)) Q E s) :
    Turn P w K tg (Its x) [it] it (fun i h => h.IsStrIter it T x t i ∧ i ≤ x.cps.size) where
  mem := by simp
  obj := fun i h st b hb => by
    have e : b = it := by simpa using hb
    subst e
    obtain ⟨o, e, c, d⟩ := st.1
    exact ⟨o, e, fun v z => by rw [d] at z; cases z⟩
  keep := fun i h h' st k => ⟨by
    obtain ⟨o, e, c⟩ := st.1
    exact ⟨o, k it (by simp) o e, c⟩, st.2⟩
  item := by
    intro X hP hw hK hc i pins s σ H E I hf st hg
    subst hP hw hK
    obtain ⟨f0, f1, f2, f3, f4, f5⟩ := hf it (by simp)
    refine (W X.A (I.ok.hd hc)).item i s _ _ hg st.1 fun v h' tk hv st' kk => ?_
    obtain ⟨c, u, hcp, rfl⟩ := hv
    have I1 : Inv X pins σ H { s with heap := h', toks := tk } := I.turned (fun b o hb e => kk b o (by simpa using hb) e) f0 f1 f3 f4 f5
    obtain ⟨o, e, cc, d⟩ := id st'
    refine ⟨_, rfl, go_of (s := { s with heap := h', toks := tk }) e cc d hn ⟨.str ⟨#[c]⟩, H, I1, ⟨u, rfl⟩, ⟨rfl, ?_⟩, ⟨st', ?_⟩, fun b hb => (hf b hb).1⟩⟩
    · unfold sgV; rw [hcp]; rfl
    · exact hg
  done := by
    intro X hP hw hK hc i pins s σ H E I hf st hg
    subst hP hw hK
    obtain ⟨f0, f1, f2, f3, f4, f5⟩ := hf it (by simp)
    have e : i = x.cps.size := Nat.le_antisymm st.2 hg
    subst e
    exact (W X.A (I.ok.hd hc)).done s _ _ st.1 fun h' tk kk => ⟨rfl, I.turned (fun b o hb e => kk b o (by simpa using hb) e) f0 f1 f3 f4 f5⟩
  self := fun A i s Q E st h => hs A i s Q E st.1 h
noncomputable def iStr (tl : TE) : TI := fun σ H R => tl σ H fun x H1 => ∃ z, x = .str z ∧ R (Its z) H1
theorem pi_str {X : Cx} {tg l : Expr} {tl : TE} (hl : PE X l tl) : PI X tg l (iStr tl) := by
  intro pins s σ H R I h
  refine thn (hl pins s σ H _ I h) fun v s1 ⟨x, H1, I1, r1, q1⟩ => ?_
  obtain ⟨z, e, q⟩ := q1
  subst e
  obtain ⟨t, rfl⟩ := r1
  have fin : ∀ (T : String), ["enumerate", "zip", "dict_itemiterator", "dict_reverseitemiterator", "odict_iterator", "itertools.zip_longest", "itertools.pairwise"].contains T = false →
      (∀ A : Around, A.handled = none → Walks X.prog X.w A s1.heap.objs.size [s1.heap.objs.size] [s1.heap.objs.size] z.cps.size (SignAt z) (fun i h => h.IsStrIter s1.heap.objs.size T z t i)) →
      (∀ (A : Around) (i : Nat) (s : Shared) (Q : Value → Shared → Prop) (E : Value → Shared → Prop), s.heap.IsStrIter s1.heap.objs.size T z t i → Q (.ref s1.heap.objs.size) s → wpAny (model X.prog X.w) A (pyIter (.ref s1.heap.objs.size)) Q E s) →
      PIE X pins σ tg R (.ref s1.heap.objs.size) { s1 with heap := s1.heap.push { cls := .type T, data := .fields #[.str z t, .int 0 0] } } := fun T hn W hs => by
    refine ⟨_, [s1.heap.objs.size], _, _, H1, rfl, I1.kept (t' := s1.toks) fun b o e => Heap.get?_push_of_some _ e, turn_signs T _ z t hn W hs, ⟨⟨_, Heap.get?_push_size _ rfl, rfl, rfl⟩, Nat.zero_le _⟩, fun b hb => ?_, q⟩
    have e : b = s1.heap.objs.size := by simpa using hb
    subst e
    exact I1.fpOk (Nat.le_refl _) (I1.hok.fresh (Nat.le_refl _))
  cases ha : z.cps.all (· < 128)
  · exact wpAny_pyIter_wide ha (fin "str_iterator" (by decide) (fun A hA => Walks.strWide hA _ z t) fun A i s Q E st h => wpAny_pyIter_striter_wide st h)
  · exact wpAny_pyIter_ascii ha (fin "str_ascii_iterator" (by decide) (fun A hA => Walks.strAscii hA _ z t) fun A i s Q E st h => wpAny_pyIter_striter_ascii st h)
noncomputable def Ite (K : PySem.W.Frag) (a : Addr) : It :=
  ⟨fun i H => ∃ xs x, SqL K H a xs ∧ xs[i]? = some x, fun i H v H' => ∃ p x, H p = none ∧ v = .ref p ∧ (∀ xs, SqL K H a xs → xs[i]? = some x) ∧ H' = upd H p (.tup [.int i, x]), fun i H => ∃ xs, SqL K H a xs ∧ xs.length ≤ i⟩
theorem turn_enum {P : Program} {w : World} {K : PySem.W.Frag} {elts : List Expr} {k : Nat} {tp : Pos} (a e it : Addr) (hne : e ≠ it) :
    Turn P w K (.Tuple elts k tp) (Ite K a) [e, it] e (fun i h => (∃ old, IsEnum h e it i old) ∧ h.IsListIter it a i) where
  mem := by simp
  obj := fun i h st b hb => by
    obtain ⟨⟨old, he⟩, hit⟩ := st
    have hb : b = e ∨ b = it := by simpa using hb
    rcases hb with z | z
    · subst z
      exact ⟨_, he, fun v z => by cases z⟩
    · subst z
      obtain ⟨o, e1, c, d⟩ := hit
      exact ⟨o, e1, fun v z => by rw [d] at z; cases z⟩
  keep := fun i h h' st kk => by
    obtain ⟨⟨old, he⟩, hit⟩ := st
    exact ⟨⟨old, kk e (by simp) _ he⟩, hit.at fun o q => kk it (by simp) o q⟩
  item := by
    intro X hP hw hK hc i pins s σ H E I hf st hg
    subst hP hw hK
    obtain ⟨⟨old, he⟩, hit⟩ := st
    obtain ⟨xs, x, hq, hx⟩ := hg
    obtain ⟨its, rv, p, hz⟩ := I.list hq
    obtain ⟨u, hu, ru⟩ := rv.get hx
    obtain ⟨f0, f1, f2, f3, f4, f5⟩ := hf e (by simp)
    obtain ⟨g0, g1, g2, g3, g4, g5⟩ := hf it (by simp)
    refine wpAny_pyNext_enum_item he hit p.isList (x := u) (by simpa using hu) hne fun h1 ho hit1 ht1 hz1 k1 => ?_
    have hel : e < s.heap.objs.size := Heap.lt_size he
    have hil : it < s.heap.objs.size := by obtain ⟨o, q, _⟩ := hit; exact Heap.lt_size q
    refine ⟨_, rfl, wpAny_letOwnedTupleGo_enum ho fun h2 he2 sb2 => ?_⟩
    have sb2 : Heap.SameBut e h1 h2 := sb2
    have T2 : h2.get? s.heap.objs.size = some { cls := .type "tuple", data := .seq #[.int i s.toks, u] } := (sb2.2 _ (Nat.ne_of_gt hel)).trans ht1
    have hp : H s.heap.objs.size = none := I.hok.fresh (Nat.le_refl _)
    have nit : ∀ b v, H b = some v → b ≠ e ∧ b ≠ it := fun b v q => ⟨fun z => (by rw [z, f0] at q; cases q), fun z => (by rw [z, g0] at q; cases q)⟩
    have kk : ∀ b o, b ≠ e → b ≠ it → s.heap.get? b = some o → h2.get? b = some o := fun b o n1 n2 q => (sb2.2 b n1).trans (k1 b o n1 n2 q)
    have up : ∀ b v, H b = some v → upd H s.heap.objs.size (.tup [.int i, x]) b = some v := fun b v q => by rw [upd_ne (ne_of_none q hp)]; exact q
    have I1 : Inv X pins σ (upd H s.heap.objs.size (.tup [.int i, x])) { s with heap := h2, gens := s.gens, drawn := s.drawn, toks := s.toks + 1 } := by
      refine I.step (g' := s.gens) (d' := s.drawn) (ch := [e, it]) (fun b hb => ?_) (fun b o _ _ hb q _ => kk b o (fun z => hb (by simp [z])) (fun z => hb (by simp [z])) q) (fun b o _ _ hb q _ => ⟨o.slots, kk b o (fun z => hb (by simp [z])) (fun z => hb (by simp [z])) q⟩) (fun b o _ q n => ?_)
        (fun b o hb q => ⟨o, kk b o (fun z => hb (by simp [z])) (fun z => hb (by simp [z])) q⟩) (fun b ys q => up b _ q) (fun b o v q => up b _ q) (fun b ps q => ⟨#[], by rw [up b _ q]; simp⟩) (fun m hm => ?_) (fun b v q => ?_) I.bare
      · have hb : b = e ∨ b = it := by simpa using hb
        rcases hb with z | z
        · subst z; exact ⟨f3, f1, f4, f5⟩
        · subst z; exact ⟨g3, g1, g4, g5⟩
      · rw [upd_ne (Nat.ne_of_lt (Heap.lt_size q))]; exact n
      · obtain ⟨o, es, ep, ho, r⟩ := hm
        exact ⟨o, es, ep, kk _ o (Ne.symm f1) (Ne.symm g1) ho, r⟩
      · by_cases hb : b = s.heap.objs.size
        · subst hb
          rw [upd_same] at q
          have q' : HO.tup [V.int i, x] = v := Option.some.inj q
          subst q'
          exact ⟨by show 2 ≤ sizeLine; decide, [.int i s.toks, u], .cons ⟨_, rfl⟩ (.cons ru .nil), ⟨_, T2, rfl, _, rfl, rfl⟩⟩
        · rw [upd_ne hb] at q
          refine (I.hok b v q).stay (fun c v' hc q' => ?_) (fun c q => up c _ q) fun c ys q => up c _ q
          rcases hc with z | z
          · rw [z] at q' ⊢; exact kk b v' (nit b v q).1 (nit b v q).2 q'
          · exact kk c v' (nit c _ z).1 (nit c _ z).2 q'
    refine ⟨.ref s.heap.objs.size, upd H s.heap.objs.size (.tup [.int i, x]), I1, rfl, ⟨_, x, hp, rfl, fun ys hy => by rw [I.list_inj hy hq]; exact hx, rfl⟩, ⟨⟨u, ?_⟩, ?_⟩, fun b hb => ?_⟩
    · exact (by simpa using he2)
    · exact hit1.at fun o q => (sb2.2 it (Ne.symm hne)).trans q
    · have hb : b = e ∨ b = it := by simpa using hb
      rcases hb with z | z
      · rw [z, upd_ne (Nat.ne_of_lt hel)]; exact f0
      · rw [z, upd_ne (Nat.ne_of_lt hil)]; exact g0
  done := by
    intro X hP hw hK hc i pins s σ H E I hf st hg
    subst hP hw hK
    obtain ⟨⟨old, he⟩, hit⟩ := st
    obtain ⟨xs, hq, hx⟩ := hg
    obtain ⟨its, rv, p, hz⟩ := I.list hq
    obtain ⟨g0, g1, g2, g3, g4, g5⟩ := hf it (by simp)
    have hl := rv.length
    exact wpAny_pyNext_enum_end (I.ok.hd hc) he hit p.isList (by simp; omega) fun h' eb => ⟨rfl, I.turned (t' := s.toks) (fun b o hb q => eb b o hb q) g0 g1 g3 g4 g5⟩
  self := fun _ _ _ _ _ st h => by
    obtain ⟨⟨old, he⟩, _⟩ := st
    exact wpAny_pyIter_enum he h
end L2
namespace L2
open PySem PySem.Spec PyProof.Rows
mutual
inductive Rep (H : Hp) : V → PyData → Prop
  | non : Rep H .non .none
  | bl (b : Bool) : Rep H (.bl b) (.bool b)
  | int (i : Int) : Rep H (.int i) (.int i)
  | str (x : Str) : Rep H (.str x) (.str x)
  | lst {a : Addr} {xs : List V} {ds : List PyData} : H a = some (.lst xs) → RepAll H xs ds → Rep H (.ref a) (.list ds)
  | tup {a : Addr} {xs : List V} {ds : List PyData} : H a = some (.tup xs) → RepAll H xs ds → Rep H (.ref a) (.tuple ds)
inductive RepAll (H : Hp) : List V → List PyData → Prop
  | nil : RepAll H [] []
  | cons {x : V} {xs : List V} {d : PyData} {ds : List PyData} : Rep H x d → RepAll H xs ds → RepAll H (x :: xs) (d :: ds)
end
mutual
theorem Rep.reads {P : Program} {w : World} {H : Hp} {h : Heap} (ok : HOk P w H h) : ∀ {v : V} {d : PyData} {u : Value}, Rep H v d → RelV v u → ∃ as, Reads h u d as
  | _, _, _, .non, r => by cases r; exact ⟨_, .none⟩
  | _, _, _, .bl b, r => by cases r; exact ⟨_, .bool b⟩
  | _, _, _, .int i, r => by obtain ⟨t, rfl⟩ := r; exact ⟨_, .int i t⟩
  | _, _, _, .str x, r => by obtain ⟨t, rfl⟩ := r; exact ⟨_, .str x t⟩
  | _, _, _, .lst (a := a) (xs := xs) e rs, r => by
    cases r
    obtain ⟨_, its, n, rv, eh⟩ := (show ObjOk P w H h a (.lst xs) from ok a _ e)
    obtain ⟨as, z⟩ := RepAll.reads ok rs rv
    exact ⟨_, .list eh rfl rfl (by simpa using z)⟩
  | _, _, _, .tup (a := a) (xs := xs) e rs, r => by
    cases r
    obtain ⟨_, its, rv, o, eh, hc, n, hd, _⟩ := (show ObjOk P w H h a (.tup xs) from ok a _ e)
    obtain ⟨as, z⟩ := RepAll.reads ok rs rv
    exact ⟨_, .tuple eh hc hd (by simpa using z)⟩
theorem RepAll.reads {P : Program} {w : World} {H : Hp} {h : Heap} (ok : HOk P w H h) : ∀ {vs : List V} {ds : List PyData} {us : List Value}, RepAll H vs ds → Vals vs us → ∃ as, ReadsAll h us ds as
  | _, _, _, .nil, r => by cases r; exact ⟨_, .nil⟩
  | _, _, _, .cons q qs, r => by
    cases r with
    | cons r1 r2 =>
      obtain ⟨as, z⟩ := Rep.reads ok q r1
      obtain ⟨bs, zs⟩ := RepAll.reads ok qs r2
      exact ⟨_, .cons z zs⟩
end
mutual
theorem Rep.same {H H' : Hp} (s : Same H H') : ∀ {v : V} {d : PyData}, Rep H v d → Rep H' v d
  | _, _, .non => .non
  | _, _, .bl b => .bl b
  | _, _, .int i => .int i
  | _, _, .str x => .str x
  | _, _, .lst e rs => .lst (s _ _ e) (rs.same s)
  | _, _, .tup e rs => .tup (s _ _ e) (rs.same s)
theorem RepAll.same {H H' : Hp} (s : Same H H') : ∀ {vs : List V} {ds : List PyData}, RepAll H vs ds → RepAll H' vs ds
  | _, _, .nil => .nil
  | _, _, .cons q qs => .cons (q.same s) (qs.same s)
end
section
variable {X : Cx}
noncomputable def shp (d : PyData) : Prop := SeqAt.shaped d = true
noncomputable def rEqD : R2 := fun x y H Q => ∃ da db, Rep H x da ∧ Rep H y db ∧ shp da ∧ shp db ∧ Q (.bl (PyData.eqv da db)) H
noncomputable def rNeD : R2 := fun x y H Q => ∃ da db, Rep H x da ∧ Rep H y db ∧ shp da ∧ shp db ∧ Q (.bl (!PyData.eqv da db)) H
theorem op_eqD (hu : X.A.units + 64 < cLine) : OpR X (compareOp .Eq) rEqD := by
  intro pins s σ H x y v u Q I rx ry h
  obtain ⟨da, db, ra, rb, sa, sb, q⟩ := h
  obtain ⟨as, za⟩ := ra.reads I.hok rx
  obtain ⟨bs, zb⟩ := rb.reads I.hok ry
  exact eq_dataH za zb sa sb hu ⟨.bl _, H, I, rfl, q⟩
theorem op_neD (hu : X.A.units + 64 < cLine) : OpR X (compareOp .NotEq) rNeD := by
  intro pins s σ H x y v u Q I rx ry h
  obtain ⟨da, db, ra, rb, sa, sb, q⟩ := h
  obtain ⟨as, za⟩ := ra.reads I.hok rx
  obtain ⟨bs, zb⟩ := rb.reads I.hok ry
  exact ne_dataH za zb sa sb hu ⟨.bl _, H, I, rfl, q⟩
theorem op_le_str : OpR X (compareOp .LtE) (fun x y H Q => ∃ i j, x = .str i ∧ y = .str j ∧ Q (.bl (!decide (j.cps.toList < i.cps.toList))) H) := by
  intro pins s σ H x y v u Q I rx ry h
  obtain ⟨i, j, rfl, rfl, q⟩ := h
  obtain ⟨t, rfl⟩ := rx
  obtain ⟨t', rfl⟩ := ry
  exact PySem.P.le_str (fin_bl I q (by simp))
theorem all_range (bs : List Bool) : ((List.range bs.length).all fun i => bs.getD i false) = bs.all id := by
  rw [Bool.eq_iff_iff, List.all_eq_true, List.all_eq_true]
  constructor
  · intro h b hb
    obtain ⟨i, hi, rfl⟩ := List.mem_iff_getElem.mp hb
    have := h i (by simpa using hi)
    simpa [List.getD_eq_getElem?_getD, hi] using this
  · intro h i hi
    have hi : i < bs.length := by simpa using hi
    have := h bs[i] (List.getElem_mem hi)
    simpa [List.getD_eq_getElem?_getD, hi] using this
theorem vals_bl {bs : List Bool} {its : List Value} (r : Vals (bs.map V.bl) its) {i : Nat} {v : Value} (e : its[i]? = some v) : v = .bool (bs.getD i false) := by
  have hl := r.length
  rw [List.length_map] at hl
  have hi : i < bs.length := by rw [hl]; exact (List.getElem?_eq_some_iff.mp e).1
  obtain ⟨u, hu, ru⟩ := r.get (i := i) (x := V.bl (bs.getD i false)) (by rw [List.getElem?_map]; simp [List.getD_eq_getElem?_getD, hi])
  rw [e] at hu
  cases hu
  exact ru
theorem call_all_bl (hc : X.calm = true) : CallR X (.builtin "all") (fun xs H Q => ∃ p bs, xs = [.ref p] ∧ H p = some (.lst (List.map V.bl bs)) ∧ Q (.bl (bs.all id)) H) := by
  intro pins s σ H xs us Q I r h
  obtain ⟨p, bs, rfl, e, q⟩ := h
  obtain ⟨u, rfl, ru⟩ := vals1 r
  cases ru
  obtain ⟨hz, its, n, rv, eh⟩ := (show ObjOk X.prog X.w H s.heap p (.lst (List.map V.bl bs)) from I.hok p _ e)
  have hl : s.heap.IsList p its.toArray := ⟨_, eh, rfl, n, rfl⟩
  have hlen : its.length = bs.length := by have := rv.length; rw [List.length_map] at this; exact this.symm
  have hpl : p < s.heap.objs.size := Heap.lt_size eh
  refine call_all_walk (wpAny_pyIter_list hl ?_)
  refine ⟨s.heap.objs.size, [s.heap.objs.size, p], [s.heap.objs.size], its.toArray.size, _, _, fun i => bs.getD i false, rfl,
    Walks.list (A := X.A.in1) (I.ok.hd hc) _ p (Nat.ne_of_lt hpl) its.toArray, ⟨⟨_, Heap.get?_push_size _ rfl, rfl, rfl⟩, ⟨_, Heap.get?_push_of_some _ eh, rfl, n, rfl⟩⟩, ?_, fun h' tk hk => ?_⟩
  · intro i v s' Q' E' hv hQ'
    have hv : its[i]? = some v := by simpa using hv
    rw [vals_bl rv hv]
    exact wpAny_pure hQ'
  · refine ⟨.bl _, H, I.kept fun b o eb => hk b o (by simpa using Nat.ne_of_lt (Heap.lt_size eb)) (Heap.get?_push_of_some _ eb), rfl, ?_⟩
    rw [List.size_toArray, hlen, all_range]
    exact q
theorem strs_of : ∀ {ys : List Str} {us : List Value}, Vals (ys.map V.str) us → StrsAre us ys
  | [], us, r => by cases r; exact .nil
  | y :: ys, us, r => by
    cases r with
    | cons r1 r2 =>
      obtain ⟨t, rfl⟩ := r1
      exact .cons y t (strs_of r2)
noncomputable def rJoin : V → List V → Hp → VK → Prop := fun x xs H Q => ∃ z p ys, x = .str z ∧ xs = [.ref p] ∧ H p = some (.lst (List.map V.str ys)) ∧ (ys.map (·.length)).sum + ys.length * z.length ≤ 16777216 ∧ Q (.str (Txt.join z ys)) H
theorem mt_join : MtR X "str.join" rJoin := by
  intro pins s σ H x xs v us Q I rx rv h
  obtain ⟨z, p, ys, rfl, rfl, e, hz, q⟩ := h
  obtain ⟨t, rfl⟩ := rx
  obtain ⟨u, rfl, ru⟩ := vals1 rv
  cases ru
  obtain ⟨_, its, n, rv, eh⟩ := (show ObjOk X.prog X.w H s.heap p (.lst (List.map V.str ys)) from I.hok p _ e)
  exact join_list (D := p) (items := its.toArray) ⟨_, eh, rfl, n, rfl⟩ (by simpa using strs_of rv) hz fun t' k => ⟨.str _, H, I.tok k, ⟨t', rfl⟩, q⟩
noncomputable def rSlS : V → Option Int → Option Int → Hp → VK → Prop := fun x lo hi H Q => ∃ z, x = .str z ∧ z.length ≤ sizeLine ∧ Q (.str (Txt.slice z lo hi)) H
theorem sl_str : SlR X rSlS := by
  intro pins s σ H x v vl vu lo hi sl Q I rx hs pl pu h
  obtain ⟨z, rfl, hz, q⟩ := h
  obtain ⟨t, rfl⟩ := rx
  refine ⟨"str", _, PySem.F.slot_str_getitem.lookup, typeIs_str _ _ _, ?_⟩
  obtain ⟨o, h1, h2, h3⟩ := hs
  have fin : ∀ t' k, EP X pins σ Q (.str (Txt.slice z lo hi) t') { s with toks := k } := fun t' k => ⟨.str _, H, I.tok k, ⟨t', rfl⟩, q⟩
  cases pl with
  | none => cases pu with
    | none => exact wpAny_getItem_str_slice (l := none) (u := none) (st := none) ⟨o, h1, h2, h3⟩ rfl (post_val_or_str ⟨Nat.le_trans (Txt.slice_le z _ _) hz, fin⟩)
    | int j tj => exact wpAny_getItem_str_slice (l := none) (u := some (j, tj)) (st := none) ⟨o, h1, h2, h3⟩ rfl (post_val_or_str ⟨Nat.le_trans (Txt.slice_le z _ _) hz, fin⟩)
  | int i ti => cases pu with
    | none => exact wpAny_getItem_str_slice (l := some (i, ti)) (u := none) (st := none) ⟨o, h1, h2, h3⟩ rfl (post_val_or_str ⟨Nat.le_trans (Txt.slice_le z _ _) hz, fin⟩)
    | int j tj => exact wpAny_getItem_str_slice (l := some (i, ti)) (u := some (j, tj)) (st := none) ⟨o, h1, h2, h3⟩ rfl (post_val_or_str ⟨Nat.le_trans (Txt.slice_le z _ _) hz, fin⟩)
noncomputable def rIsi (K : PySem.W.Frag) (c : String) : List V → Hp → VK → Prop := fun xs H Q => ∃ x t b, xs = [x, .ty c] ∧ TyOf K H x t ∧ PySem.W.kitOne K t (.type c) = some b ∧ Q (.bl b) H
theorem call_isi (c : String) : CallR X (.builtin "isinstance") (rIsi X.K c) := by
  intro pins s σ H xs us Q I r h
  obtain ⟨x, t, b, rfl, ty, e, q⟩ := h
  obtain ⟨u, w', rfl, ru, rw'⟩ := vals2 r
  cases rw'
  exact isinst_ok I ru ty e fun tk => ⟨.bl b, H, I.tok tk, rfl, q⟩
noncomputable def rRepr : List V → Hp → VK → Prop := fun xs H Q => ∃ x d, xs = [x] ∧ Rep H x d ∧ d.showable = true ∧ d.hasDict = false ∧ d.depth ≤ 16 ∧ d.shown.length ≤ sizeLine ∧ Q (.str d.shown) H
theorem call_repr_tree (hg : X.A.guards = some []) (hu : X.A.units + 64 < cLine) : CallR X (.builtin "repr") rRepr := by
  intro pins s σ H xs us Q I r h
  obtain ⟨x, d, rfl, rep, hs, hd, hdp, hz, q⟩ := h
  obtain ⟨u, rfl, ru⟩ := vals1 r
  have rd := rep.reads I.hok ru
  have byRef : ∀ a, u = .ref a → wpAny (model X.prog X.w) X.A (call (.builtin "repr") [.ref a]) (EP X pins σ Q) X.xe s := fun a e => by
    subst e
    obtain ⟨as, rd⟩ := rd
    exact repr_of_reads' rd hs (PyData.noDict_hsm hd) hg (by omega) (fun _ _ e => e) (fun h' u' tk hk => ⟨.str _, H, I.kept hk, ⟨u', rfl⟩, q⟩) hz
  cases rep with
  | non => cases ru; exact PySem.P.repr_of_none ⟨.str _, H, I.tok _, ⟨_, rfl⟩, q⟩
  | bl b => cases ru; exact PySem.P.repr_of_bool ⟨.str _, H, I.tok _, ⟨_, rfl⟩, q⟩
  | int i =>
    obtain ⟨t, rfl⟩ := ru
    exact PySem.P.repr_of_int (by simpa [PyData.showable] using hs) ⟨.str _, H, I.tok _, ⟨_, rfl⟩, q⟩
  | str y =>
    obtain ⟨t, rfl⟩ := ru
    exact PySem.P.repr_of_str ⟨.str _, H, I.tok _, ⟨_, rfl⟩, q⟩ hz
  | lst e rs => cases ru; exact byRef _ rfl
  | tup e rs => cases ru; exact byRef _ rfl
noncomputable def isFl : V → Bool
  | .non | .bl _ | .int _ | .str _ => true
  | _ => false
noncomputable def flD : V → PyData
  | .bl b => .bool b
  | .int i => .int i
  | .str x => .str x
  | _ => .none
theorem fl_reads {h : Heap} {v : V} {u : Value} (f : isFl v = true) (r : RelV v u) : Reads h u (flD v) [] := by
  cases v with
  | non => cases r; exact .none
  | bl b => cases r; exact .bool b
  | int i => obtain ⟨t, rfl⟩ := r; exact .int i t
  | str x => obtain ⟨t, rfl⟩ := r; exact .str x t
  | _ => cases f
theorem fl_pairs {P : Program} {w : World} {h : Heap} : ∀ {kvs : List (Key × V)} {vs : List (Key × Value)} {es : List DictEntry}, KV kvs vs → Pairs (mixKind P w) es vs → kvs.all (fun p => isFl p.2) = true →
    ReadsAll h (es.map (·.key)) ((kvs.map fun p => (flD (kV p.1), flD p.2)).map (·.1)) [] ∧ ReadsAll h (es.map (·.val)) ((kvs.map fun p => (flD (kV p.1), flD p.2)).map (·.2)) []
  | [], _, _, r, q, _ => by
    cases r
    cases q
    exact ⟨.nil, .nil⟩
  | p :: kvs, vs, es, r, q, f => by
    cases r with
    | @cons _ b _ vs' r1 r2 =>
      cases q with
      | cons qk qv q2 =>
        rw [List.all_cons, Bool.and_eq_true] at f
        obtain ⟨a1, a2⟩ := fl_pairs r2 q2 f.2
        rename_i en es'
        have k1 : Reads h en.key (flD (kV p.1)) [] := by
          have hk := qk
          rw [← r1.1] at hk
          rcases keyIs_shape hk with ⟨i, t, e1, e2⟩ | ⟨x, t, e1, e2⟩
          · rw [e1, e2]; exact .int i t
          · rw [e1, e2]; exact .str x t
        have v1 : Reads h en.val (flD p.2) [] := by
          rw [qv]
          exact fl_reads f.1 r1.2
        exact ⟨.cons k1 a1, .cons v1 a2⟩
noncomputable def dictD (kvs : List (Key × V)) : PyData := .dict (kvs.map fun p => (flD (kV p.1), flD p.2))
inductive ReprR (H : Hp) : V → VK → Prop
  | tr {x : V} {d : PyData} {Q : VK} : Rep H x d → d.showable = true → d.hasDict = false → d.depth ≤ 16 → d.shown.length ≤ sizeLine → Q (.str d.shown) H → ReprR H x Q
  | dc {a : Addr} {kvs : List (Key × V)} {Q : VK} : H a = some (.dK kvs) → kvs.all (fun p => isFl p.2) = true → (dictD kvs).showable = true → (dictD kvs).depth ≤ 16 → (dictD kvs).shown.length ≤ sizeLine → Q (.str (dictD kvs).shown) H → ReprR H (.ref a) Q
noncomputable def rReprX : List V → Hp → VK → Prop := fun xs H Q => ∃ x, xs = [x] ∧ ReprR H x Q
theorem call_reprX (hg : X.A.guards = some []) (hu : X.A.units + 64 < cLine) : CallR X (.builtin "repr") rReprX := by
  intro pins s σ H xs us Q I r h
  obtain ⟨x, rfl, h⟩ := h
  cases h with
  | tr rep hs hd hdp hz q => exact call_repr_tree hg hu pins s σ H _ us Q I r ⟨_, _, rfl, rep, hs, hd, hdp, hz, q⟩
  | @dc a kvs _ e f hs hdp hz q =>
    obtain ⟨u, rfl, ru⟩ := vals1 r
    cases ru
    obtain ⟨_, hsys, vs, rv, o, es, ep, h1, h2, h3, _, h5, _⟩ := (show ObjOk X.prog X.w H s.heap a (.dK kvs) from I.hok a _ e)
    obtain ⟨k1, k2⟩ := fl_pairs (h := s.heap) rv h5 f
    have rd : Reads s.heap (.ref a) (dictD kvs) (a :: [] ++ []) := .dict h1 h2.1 h3 k1 k2
    refine repr_of_reads' rd hs (fun _ hm => ?_) hg (by omega) (fun _ _ e => e) (fun h' u' tk hk => ⟨.str _, H, I.kept hk, ⟨u', rfl⟩, q⟩) hz
    have : sysModules = a := by simpa using hm
    rw [this] at hsys
    simp at hsys
theorem any_readOf {P : Program} {w : World} {H : Hp} {h : Heap} (ok : HOk P w H h) {d : PyData} : ∀ {xs : List V} {ds : List PyData} {us : List Value}, RepAll H xs ds → Vals xs us → PyData.canLayAll0 ds = true → us.any (fun u => PyData.eqv (SeqAt.readOf h u) d) = ds.any fun e => PyData.eqv e d
  | _, _, _, .nil, r, _ => by cases r; rfl
  | _, _, _, .cons q qs, r, hl => by
    cases r with
    | cons r1 r2 =>
      have hl' := Bool.and_eq_true_iff.mp (show (PyData.canLay0 _ && PyData.canLayAll0 _) = true from hl)
      obtain ⟨as, z⟩ := q.reads ok r1
      rw [List.any_cons, List.any_cons, SeqAt.readOf_eq hl'.1 z, any_readOf ok qs r2 hl'.2]
theorem mem_readOf {P : Program} {w : World} {H : Hp} {A : Around} {s : Shared} (ok : HOk P w H s.heap) {d : PyData} {x : V} {v : Value} {bs : List Addr} (zx : Reads s.heap v d bs) (hd : d.canLay0 = true) (hu : A.units + d.depth < cLine) :
    ∀ {xs : List V} {ds : List PyData} {us : List Value}, RepAll H xs ds → Vals xs us → PyData.canLayAll0 ds = true → ∀ u ∈ us, SeqAt.EqAt A s u v (PyData.eqv (SeqAt.readOf s.heap u) d)
  | _, _, _, .nil, r, _ => by cases r; intro u hu; cases hu
  | _, _, _, .cons q qs, r, hl => by
    cases r with
    | cons r1 r2 =>
      have hl' := Bool.and_eq_true_iff.mp (show (PyData.canLay0 _ && PyData.canLayAll0 _) = true from hl)
      intro u hm
      rcases List.mem_cons.mp hm with rfl | hm
      · obtain ⟨as, z⟩ := q.reads ok r1
        rw [SeqAt.readOf_eq hl'.1 z]
        exact SeqAt.eqAt_reads _ _ _ _ _ _ _ _ z zx hl'.1 hd (Nat.lt_of_le_of_lt (Nat.add_le_add_left (Nat.min_le_right _ _) _) hu)
      · exact mem_readOf (x := x) ok zx hd hu qs r2 hl'.2 u hm
noncomputable def rInD (neg : Bool) : R2 := fun x y H Q => ∃ p xs ds d, y = .ref p ∧ H p = some (.lst xs) ∧ RepAll H xs ds ∧ Rep H x d ∧ PyData.canLayAll0 ds = true ∧ d.canLay0 = true ∧ d.depth ≤ 16 ∧
  Q (.bl (if neg then !(ds.any fun e => PyData.eqv e d) else ds.any fun e => PyData.eqv e d)) H
theorem op_inD (hu : X.A.units + 64 < cLine) : OpR X (compareOp .In) (rInD false) := by
  intro pins s σ H x y v u Q I rx ry h
  obtain ⟨p, xs, ds, d, rfl, e, rs, r, cs, c, dp, q⟩ := h
  cases ry
  obtain ⟨_, its, n, rv, eh⟩ := (show ObjOk X.prog X.w H s.heap p (.lst xs) from I.hok p _ e)
  obtain ⟨bs, zx⟩ := r.reads I.hok rx
  refine SeqAt.in_listAt (fun u => PyData.eqv (SeqAt.readOf s.heap u) d) ⟨_, eh, rfl, n, rfl⟩ (fun w hw => mem_readOf (x := x) I.hok zx c (by show X.A.units + 1 + d.depth < cLine; omega) rs rv cs w (by simpa using hw)) ⟨.bl _, H, I, rfl, ?_⟩
  rw [show its.toArray.any (fun u => PyData.eqv (SeqAt.readOf s.heap u) d) = its.any (fun u => PyData.eqv (SeqAt.readOf s.heap u) d) by simp, any_readOf I.hok rs rv cs]
  exact q
theorem op_notInD (hu : X.A.units + 64 < cLine) : OpR X (compareOp .NotIn) (rInD true) := by
  intro pins s σ H x y v u Q I rx ry h
  obtain ⟨p, xs, ds, d, rfl, e, rs, r, cs, c, dp, q⟩ := h
  cases ry
  obtain ⟨_, its, n, rv, eh⟩ := (show ObjOk X.prog X.w H s.heap p (.lst xs) from I.hok p _ e)
  obtain ⟨bs, zx⟩ := r.reads I.hok rx
  refine SeqAt.notIn_listAt (fun u => PyData.eqv (SeqAt.readOf s.heap u) d) ⟨_, eh, rfl, n, rfl⟩ (fun w hw => mem_readOf (x := x) I.hok zx c (by show X.A.units + 1 + d.depth < cLine; omega) rs rv cs w (by simpa using hw)) ⟨.bl _, H, I, rfl, ?_⟩
  rw [show its.toArray.any (fun u => PyData.eqv (SeqAt.readOf s.heap u) d) = its.any (fun u => PyData.eqv (SeqAt.readOf s.heap u) d) by simp, any_readOf I.hok rs rv cs]
  exact q
end
end L2
namespace L2
open PySem PySem.Spec PyProof.Rows
structure Cal (P : Program) (w : World) (K : PySem.W.Frag) (mg : Str → Option Value) (base : Heap) (k : Nat) (x : Str) (ps : List Str) (sp : Sp) : Prop where
  ex : ∃ (f : Addr) (fd : FuncData), FnOk P w K mg base CX0 k f fd ps sp ∧ mg x = some (.ref f) ∧ PySem.W.keepIn K (.ref f) = true ∧ Binds K fd ps []
section
variable {X : Cx} {x : Str} {ps : List Str} {sp : Sp} {k j : Nat} {p pos : Pos} {e : Expr} {es : List Expr} {t : TA}
theorem pe_cal (c : Cal X.prog X.w X.K X.mg X.base k x ps sp) (hr : Room k X.A) (hg : Gl X x) (ha : PA X (e :: es) t)
    (hs : starEach (e :: es) X.env = (false, eval e X.env) :: starEach es X.env := by rfl) (hpl : (backTo pos (starEach es X.env)).any (·.1) = false := by rfl) (hdb : (x == ("__debug__" : Str)) = false := by decide) :
    PE X (.Call (.Name x p) (e :: es) [] pos) (tCall sp [] E0 t) := by
  obtain ⟨f, fd, G, mf, kp, b⟩ := c.ex
  exact pe_call G hr hg mf kp b .nil pass0 ha (hdb := hdb) (he := hs) (hpl := hpl)
end
section
variable {X : Cx}
inductive AddR (H : Hp) : V → V → VK → Prop
  | int {i j : Int} {Q : VK} : Q (.int (i + j)) H → AddR H (.int i) (.int j) Q
  | str {i j : Str} {Q : VK} : i.length + j.length ≤ sizeLine → Q (.str (i ++ j)) H → AddR H (.str i) (.str j) Q
  | lst {l b : Addr} {xs zs : List V} {Q : VK} : H l = some (.lst xs) → H b = some (.lst zs) → xs.length + zs.length ≤ sizeLine → (∀ p, H p = none → Q (.ref p) (upd H p (.lst (xs ++ zs)))) → AddR H (.ref l) (.ref b) Q
theorem op_addX : OpR X (binaryOp .Add) (fun x y H Q => AddR H x y Q) := by
  intro pins s σ H x y v u Q I rx ry h
  cases h with
  | int q => exact op_add pins s σ H _ _ v u Q I rx ry ⟨_, _, rfl, rfl, q⟩
  | str hz q => exact op_add_str pins s σ H _ _ v u Q I rx ry ⟨_, _, rfl, rfl, hz, q⟩
  | lst h1 h2 hz q => exact op_cat pins s σ H _ _ v u Q I rx ry ⟨_, _, _, _, rfl, rfl, h1, h2, hz, q⟩
inductive EqR (neg : Bool) (H : Hp) : V → V → VK → Prop
  | sc {x y : V} {Q : VK} : scal x y = true → Q (.bl (if neg then !decide (x = y) else decide (x = y))) H → EqR neg H x y Q
  | tr {x y : V} {da db : PyData} {Q : VK} : Rep H x da → Rep H y db → shp da → shp db → Q (.bl (if neg then !PyData.eqv da db else PyData.eqv da db)) H → EqR neg H x y Q
theorem op_eqX (hu : X.A.units + 64 < cLine) : OpR X (compareOp .Eq) (fun x y H Q => EqR false H x y Q) := by
  intro pins s σ H x y v u Q I rx ry h
  cases h with
  | sc h q => exact op_eq pins s σ H _ _ v u Q I rx ry ⟨h, q⟩
  | tr ra rb sa sb q => exact op_eqD hu pins s σ H _ _ v u Q I rx ry ⟨_, _, ra, rb, sa, sb, q⟩
theorem op_neX (hu : X.A.units + 64 < cLine) : OpR X (compareOp .NotEq) (fun x y H Q => EqR true H x y Q) := by
  intro pins s σ H x y v u Q I rx ry h
  cases h with
  | sc h q => exact op_ne pins s σ H _ _ v u Q I rx ry ⟨h, q⟩
  | tr ra rb sa sb q => exact op_neD hu pins s σ H _ _ v u Q I rx ry ⟨_, _, ra, rb, sa, sb, q⟩
inductive SlX (K : PySem.W.Frag) (H : Hp) : V → Option Int → Option Int → VK → Prop
  | str {z : Str} {lo hi : Option Int} {Q : VK} : z.length ≤ sizeLine → Q (.str (Txt.slice z lo hi)) H → SlX K H (.str z) lo hi Q
  | lst {a : Addr} {xs : List V} {lo hi : Option Int} {Q : VK} : SqL K H a xs → (∀ p, H p = none → Q (.ref p) (upd H p (.lst (cutV xs lo hi)))) → SlX K H (.ref a) lo hi Q
theorem sl_X : SlR X (fun x lo hi H Q => SlX X.K H x lo hi Q) := by
  intro pins s σ H x v vl vu lo hi sl Q I rx hs pl pu h
  cases h with
  | str hz q => exact sl_str pins s σ H _ v vl vu lo hi sl Q I rx hs pl pu ⟨_, rfl, hz, q⟩
  | lst h1 q => exact sl_list pins s σ H _ v vl vu lo hi sl Q I rx hs pl pu ⟨_, _, rfl, h1, q⟩
end
section
variable {X : Cx}
inductive CmR (f : Int → Int → Bool) (g : Str → Str → Bool) (H : Hp) : V → V → VK → Prop
  | int {i j : Int} {Q : VK} : Q (.bl (f i j)) H → CmR f g H (.int i) (.int j) Q
  | str {i j : Str} {Q : VK} : Q (.bl (g i j)) H → CmR f g H (.str i) (.str j) Q
theorem op_leX : OpR X (compareOp .LtE) (fun x y H Q => CmR (fun i j => decide (i ≤ j)) (fun i j => !decide (j.cps.toList < i.cps.toList)) H x y Q) := by
  intro pins s σ H x y v u Q I rx ry h
  cases h with
  | int q => exact op_le pins s σ H _ _ v u Q I rx ry ⟨_, _, rfl, rfl, q⟩
  | str q => exact op_le_str pins s σ H _ _ v u Q I rx ry ⟨_, _, rfl, rfl, q⟩
theorem op_ltX : OpR X (compareOp .Lt) (fun x y H Q => CmR (fun i j => decide (i < j)) (fun i j => decide (i.cps.toList < j.cps.toList)) H x y Q) := by
  intro pins s σ H x y v u Q I rx ry h
  cases h with
  | int q => exact op_lt pins s σ H _ _ v u Q I rx ry ⟨_, _, rfl, rfl, q⟩
  | str q => exact op_lt_str pins s σ H _ _ v u Q I rx ry ⟨_, _, rfl, rfl, q⟩
inductive IsB (neg : Bool) (H : Hp) : V → V → VK → Prop
  | int {i : Int} {b : Bool} {Q : VK} : Q (.bl neg) H → IsB neg H (.int i) (.bl b) Q
  | bl {c b : Bool} {Q : VK} : Q (.bl (if neg then !decide (c = b) else decide (c = b))) H → IsB neg H (.bl c) (.bl b) Q
  | non {x : V} {Q : VK} : Q (.bl (if neg then !decide (x = .non) else decide (x = .non))) H → IsB neg H x .non Q
theorem op_isNotX : OpR X (compareOp .IsNot) (fun x y H Q => IsB true H x y Q) := by
  intro pins s σ H x y v u Q I rx ry h
  cases h with
  | int q =>
    obtain ⟨t, rfl⟩ := rx
    cases ry
    exact wpAny_isNot_other (by rfl) (by intro z; cases z) ⟨.bl _, H, I, rfl, q⟩
  | @bl c b _ q =>
    cases rx
    cases ry
    exact wpAny_isNot_plain (by rfl) (fin_bl I q (by cases c <;> cases b <;> rfl))
  | non q => exact op_notN pins s σ H _ _ v u Q I rx ry ⟨rfl, q⟩
theorem op_isX : OpR X (compareOp .Is) (fun x y H Q => IsB false H x y Q) := by
  intro pins s σ H x y v u Q I rx ry h
  cases h with
  | int q =>
    obtain ⟨t, rfl⟩ := rx
    cases ry
    exact wpAny_is_other (by rfl) (by intro z; cases z) ⟨.bl _, H, I, rfl, q⟩
  | @bl c b _ q =>
    cases rx
    cases ry
    exact wpAny_is_plain (by rfl) (fin_bl I q (by cases c <;> cases b <;> rfl))
  | non q => exact op_isN pins s σ H _ _ v u Q I rx ry ⟨rfl, q⟩
theorem m_join (K : PySem.W.Frag) {o e : Expr} {to : TE} {t : TA} {apos cpos : Pos} (ho : PE X o to) (ha : PA X [e] t)
    (hbase : attributeBase o "join" X.env (eval o X.env) = eval o X.env := by rfl)
    (hfew : ((backTo cpos (starEach [e] X.env)).all (fun x => !x.1) && (backToKw cpos (keywordEach [] X.env)).all (fun x => x.1.isSome)
      && decide ([e].length + ([] : List Keyword).length + (if ([] : List Keyword).isEmpty then 0 else 1) < 30)) = true := by rfl)
    (hline : (apos.endLine == cpos.line) = true := by rfl) (hs : starEach [e] X.env = (false, eval e X.env) :: starEach [] X.env := by rfl) (hplain : (backTo cpos (starEach [] X.env)).any (·.1) = false := by rfl) (hK : X.K = K := by rfl) :
    PE X (.Call (.Attribute o "join" apos) [e] [] cpos) (tBM K "str" rJoin to t) := hK ▸ pe_bm PySem.F.plainAttrs_str PySem.F.slot_str_join PySem.F.type_str_join mt_join ho ha hbase hfew hline hs hplain
theorem m_append (K : PySem.W.Frag) {o e : Expr} {to : TE} {t : TA} {apos cpos : Pos} (ho : PE X o to) (ha : PA X [e] t)
    (hbase : attributeBase o "append" X.env (eval o X.env) = eval o X.env := by rfl)
    (hfew : ((backTo cpos (starEach [e] X.env)).all (fun x => !x.1) && (backToKw cpos (keywordEach [] X.env)).all (fun x => x.1.isSome)
      && decide ([e].length + ([] : List Keyword).length + (if ([] : List Keyword).isEmpty then 0 else 1) < 30)) = true := by rfl)
    (hline : (apos.endLine == cpos.line) = true := by rfl) (hs : starEach [e] X.env = (false, eval e X.env) :: starEach [] X.env := by rfl) (hplain : (backTo cpos (starEach [] X.env)).any (·.1) = false := by rfl) (hK : X.K = K := by rfl) :
    PE X (.Call (.Attribute o "append" apos) [e] [] cpos) (tBM K "list" rAppend to t) := hK ▸ pe_bm PySem.F.plainAttrs_list PySem.F.slot_list_append PySem.F.type_list_append mt_append ho ha hbase hfew hline hs hplain
theorem sl_K (K : PySem.W.Frag) (hK : X.K = K := by rfl) : SlR X (fun x lo hi H Q => SlX K H x lo hi Q) := hK ▸ sl_X
theorem pi_listK (K : PySem.W.Frag) {tg l : Expr} {tl : TE} (hl : PE X l tl) (hK : X.K = K := by rfl) : PI X tg l (iList K tl) := hK ▸ pi_list hl
theorem pi_tupK (K : PySem.W.Frag) {tg l : Expr} {tl : TE} (hl : PE X l tl) (hK : X.K = K := by rfl) : PI X tg l (iTup K tl) := hK ▸ pi_tup hl
end
theorem gYes {i : Nat} {v : V} {σ : St} {H : Hp} {A B : St → Hp → Prop} (h : A (σ.set i (some v)) H) : gName i v σ H fun σ2 H3 => tYes σ2 H3 fun b H4 => if b = true then A σ2 H4 else B σ2 H4 := by
  show (if true = true then A (σ.set i (some v)) H else B (σ.set i (some v)) H)
  rw [if_pos rfl]
  exact h
section
variable {K : PySem.W.Frag} {k : Nat} {fr : List Nat} {g : TG} {tc : TT} {te : TE} {σ : St} {H1 : Hp} {Q : VK}
theorem comp_items {J : It} (xs : List V) (Ok : Hp → Prop) (hgo : ∀ i H, Ok H → i < xs.length → J.go i H) (hyl : ∀ i H x H', Ok H → i < xs.length → J.yld i H x H' → H' = H ∧ xs[i]? = some x) (hst : ∀ H, Ok H → J.stop xs.length H)
    (Pv : Addr → Nat → List V → St → Hp → Prop)
    (h : ∀ D, H1 D = none → Pv D 0 [] (inSt k fr σ) (upd H1 D (.lst [])) ∧ (∀ i acc σ' H', i ≤ xs.length → Pv D i acc σ' H' → H' D = some (.lst acc) → Ok H') ∧
      (∀ i acc σ' H' x, xs[i]? = some x → Pv D i acc σ' H' → H' D = some (.lst acc) → g x σ' H' fun σ2 H3 => tc σ2 H3 fun b H4 =>
        if b = true then te σ2 H4 fun y H5 => H5 D = some (.lst acc) ∧ acc.length < sizeLine ∧ Pv D (i + 1) (acc ++ [y]) σ2 (upd H5 D (.lst (acc ++ [y]))) else H4 D = some (.lst acc) ∧ Pv D (i + 1) acc σ2 H4) ∧
      ∀ acc σ' H', Pv D xs.length acc σ' H' → H' D = some (.lst acc) → Q (.ref D) H') : tCompW k fr g tc te J σ H1 Q := by
  intro D hD
  obtain ⟨h0, hok, hs, hd⟩ := h D hD
  refine ⟨fun i m acc σ' H' => m = xs.length - i ∧ i ≤ xs.length ∧ Pv D i acc σ' H', ⟨xs.length, by simp, Nat.zero_le _, h0⟩, ?_⟩
  rintro i m acc σ' H' ⟨rfl, hi, p⟩ hacc
  have ok := hok i acc σ' H' hi p hacc
  by_cases hlt : i < xs.length
  · refine .inr ⟨hgo i H' ok hlt, Pv D (i + 1), fun acc' σ2 H2 p' => ⟨xs.length - (i + 1), by omega, rfl, hlt, p'⟩, fun x H2 y => ?_⟩
    obtain ⟨e, hx⟩ := hyl i H' x H2 ok hlt y
    subst e
    exact hs i acc σ' H2 x hx p hacc
  · have e : i = xs.length := by omega
    subst e
    exact .inl ⟨hst H' ok, hd acc σ' H' p hacc⟩
noncomputable def rngV (n : Nat) : List V := (List.range n).map fun i => V.int (0 + (i : Nat))
theorem comp_range {n : Nat} (Pv : Addr → Nat → List V → St → Hp → Prop)
    (h : ∀ D, H1 D = none → Pv D 0 [] (inSt k fr σ) (upd H1 D (.lst [])) ∧
      (∀ i acc σ' H', i < n → Pv D i acc σ' H' → H' D = some (.lst acc) → g (.int (0 + (i : Nat))) σ' H' fun σ2 H3 => tc σ2 H3 fun b H4 =>
        if b = true then te σ2 H4 fun y H5 => H5 D = some (.lst acc) ∧ acc.length < sizeLine ∧ Pv D (i + 1) (acc ++ [y]) σ2 (upd H5 D (.lst (acc ++ [y]))) else H4 D = some (.lst acc) ∧ Pv D (i + 1) acc σ2 H4) ∧
      ∀ acc σ' H', Pv D n acc σ' H' → H' D = some (.lst acc) → Q (.ref D) H') : tCompW k fr g tc te (Itr 0 n) σ H1 Q := by
  have hl : (rngV n).length = n := by simp [rngV]
  refine comp_items (rngV n) (fun _ => True) (fun i H _ hi => by rw [hl] at hi; exact hi) (fun i H x H' _ hi y => ⟨y.1, ?_⟩) (fun H _ => by show n ≤ (rngV n).length; rw [hl]; exact Nat.le_refl _) Pv fun D hD => ?_
  · rw [hl] at hi
    rw [y.2]
    simp [rngV, hi]
  · obtain ⟨a, b, c⟩ := h D hD
    refine ⟨a, fun _ _ _ _ _ _ _ => trivial, fun i acc σ' H' x hx p hacc => ?_, by rw [hl]; exact c⟩
    have hi : i < n := by rw [← hl]; exact (List.getElem?_eq_some_iff.mp hx).1
    have e : x = V.int (0 + (i : Nat)) := by
      simp [rngV, hi] at hx
      rw [← hx]; simp
    subst e
    exact b i acc σ' H' hi p hacc
theorem comp_list {a : Addr} (xs : List V) (Pv : Addr → Nat → List V → St → Hp → Prop)
    (h : ∀ D, H1 D = none → Pv D 0 [] (inSt k fr σ) (upd H1 D (.lst [])) ∧ (∀ i acc σ' H', i ≤ xs.length → Pv D i acc σ' H' → H' D = some (.lst acc) → SqL K H' a xs) ∧
      (∀ i acc σ' H' x, xs[i]? = some x → Pv D i acc σ' H' → H' D = some (.lst acc) → g x σ' H' fun σ2 H3 => tc σ2 H3 fun b H4 =>
        if b = true then te σ2 H4 fun y H5 => H5 D = some (.lst acc) ∧ acc.length < sizeLine ∧ Pv D (i + 1) (acc ++ [y]) σ2 (upd H5 D (.lst (acc ++ [y]))) else H4 D = some (.lst acc) ∧ Pv D (i + 1) acc σ2 H4) ∧
      ∀ acc σ' H', Pv D xs.length acc σ' H' → H' D = some (.lst acc) → Q (.ref D) H') : tCompW k fr g tc te (Itl K a) σ H1 Q :=
  comp_items xs (fun H => SqL K H a xs) (fun i H q hi => ⟨xs, xs[i], q, by simp [hi]⟩) (fun i H x H' q hi y => ⟨y.1, y.2 xs q⟩) (fun H q => ⟨xs, q, Nat.le_refl _⟩) Pv h
theorem comp_tup {a : Addr} (xs : List V) (Pv : Addr → Nat → List V → St → Hp → Prop)
    (h : ∀ D, H1 D = none → Pv D 0 [] (inSt k fr σ) (upd H1 D (.lst [])) ∧ (∀ i acc σ' H', i ≤ xs.length → Pv D i acc σ' H' → H' D = some (.lst acc) → SqT K H' a xs) ∧
      (∀ i acc σ' H' x, xs[i]? = some x → Pv D i acc σ' H' → H' D = some (.lst acc) → g x σ' H' fun σ2 H3 => tc σ2 H3 fun b H4 =>
        if b = true then te σ2 H4 fun y H5 => H5 D = some (.lst acc) ∧ acc.length < sizeLine ∧ Pv D (i + 1) (acc ++ [y]) σ2 (upd H5 D (.lst (acc ++ [y]))) else H4 D = some (.lst acc) ∧ Pv D (i + 1) acc σ2 H4) ∧
      ∀ acc σ' H', Pv D xs.length acc σ' H' → H' D = some (.lst acc) → Q (.ref D) H') : tCompW k fr g tc te (Itt K a) σ H1 Q :=
  comp_items xs (fun H => SqT K H a xs) (fun i H q hi => ⟨xs, xs[i], q, by simp [hi]⟩) (fun i H x H' q hi y => ⟨y.1, y.2 xs q⟩) (fun H q => ⟨xs, q, Nat.le_refl _⟩) Pv h
noncomputable def signsV (z : Str) : List V := z.cps.toList.map fun c => V.str ⟨#[c]⟩
theorem comp_str {z : Str} (Pv : Addr → Nat → List V → St → Hp → Prop)
    (h : ∀ D, H1 D = none → Pv D 0 [] (inSt k fr σ) (upd H1 D (.lst [])) ∧
      (∀ i acc σ' H' c, z.cps.toList[i]? = some c → Pv D i acc σ' H' → H' D = some (.lst acc) → g (.str ⟨#[c]⟩) σ' H' fun σ2 H3 => tc σ2 H3 fun b H4 =>
        if b = true then te σ2 H4 fun y H5 => H5 D = some (.lst acc) ∧ acc.length < sizeLine ∧ Pv D (i + 1) (acc ++ [y]) σ2 (upd H5 D (.lst (acc ++ [y]))) else H4 D = some (.lst acc) ∧ Pv D (i + 1) acc σ2 H4) ∧
      ∀ acc σ' H', Pv D z.cps.toList.length acc σ' H' → H' D = some (.lst acc) → Q (.ref D) H') : tCompW k fr g tc te (Its z) σ H1 Q := by
  have hl : (signsV z).length = z.cps.toList.length := by simp [signsV]
  refine comp_items (signsV z) (fun _ => True) (fun i H _ hi => by rw [hl] at hi; show i < z.cps.size; simpa using hi) (fun i H x H' _ hi y => ⟨y.1, ?_⟩) (fun H _ => by show z.cps.size ≤ (signsV z).length; rw [hl]; simp) Pv fun D hD => ?_
  · have y2 := y.2
    unfold sgV at y2
    simp only [signsV, List.getElem?_map, Array.getElem?_toList]
    exact y2
  · obtain ⟨a, b, c⟩ := h D hD
    refine ⟨a, fun _ _ _ _ _ _ _ => trivial, fun i acc σ' H' x hx p hacc => ?_, by rw [hl]; exact c⟩
    simp only [signsV, List.getElem?_map] at hx
    cases e : z.cps.toList[i]? with
    | none => rw [e] at hx; cases hx
    | some cc =>
      rw [e] at hx
      cases hx
      exact b i acc σ' H' cc e p hacc
end
noncomputable def But (p : Addr) (H H' : Hp) : Prop := ∀ b o, b ≠ p → H b = some o → H' b = some o
theorem But.refl (p : Addr) (H : Hp) : But p H H := fun _ _ _ h => h
theorem But.trans {p : Addr} {H H1 H2 : Hp} (a : But p H H1) (b : But p H1 H2) : But p H H2 := fun c o n h => b c o n (a c o n h)
theorem But.upd {p : Addr} {H : Hp} {o : HO} : But p H (upd H p o) := fun b o' n h => by rw [upd_ne n]; exact h
theorem But.of_same {p : Addr} {H H' : Hp} (s : Same H H') : But p H H' := fun b o _ h => s b o h
theorem Same.new {H : Hp} {p : Addr} {o : HO} (h : H p = none) : Same H (upd H p o) := fun b o' e => by rw [upd_ne (ne_of_none e h)]; exact e
theorem Rd.but {p : Addr} {H H' : Hp} (b : But p H H') {a : Addr} {u : HO} (n : a ≠ p) (h : Rd H a u) : Rd H' a u := by
  rcases h with h | ⟨o, h⟩
  · exact .inl (b _ _ n h)
  · exact .inr ⟨o, b _ _ n h⟩
theorem SqL.but {K : PySem.W.Frag} {p : Addr} {H H' : Hp} (b : But p H H') {a : Addr} {xs : List V} (n : a ≠ p) (h : SqL K H a xs) : SqL K H' a xs := by
  rcases h with h | h
  · exact .inl (h.but b n)
  · exact .inr h
structure Blt (mg : Str → Option Value) : Prop where
  len : mg "len" = none
  range : mg "range" = none
  abs : mg "abs" = none
  all : mg "all" = none
  repr : mg "repr" = none
  isinstance : mg "isinstance" = none
  str : mg "str" = none
  int : mg "int" = none
  bool : mg "bool" = none
  enumerate : mg "enumerate" = none
  list : mg "list" = none
  tuple : mg "tuple" = none
  dict : mg "dict" = none
  min : mg "min" = none
  max : mg "max" = none
section
variable {X : Cx} {p pos : Pos} {e f : Expr} {t : TA}
noncomputable def rLen (K : PySem.W.Frag) : List V → Hp → VK → Prop := fun xs H Q => ∃ x n, xs = [x] ∧ LenV K x H n ∧ Q (.int n) H
noncomputable def rAbs : List V → Hp → VK → Prop := fun xs H Q => ∃ i, xs = [.int i] ∧ Q (.int (if i < 0 then -i else i)) H
noncomputable def rAll : List V → Hp → VK → Prop := fun xs H Q => ∃ p bs, xs = [.ref p] ∧ H p = some (.lst (List.map V.bl bs)) ∧ Q (.bl (bs.all id)) H
theorem b_len (K : PySem.W.Frag) (B : Blt X.mg) (ha : PA X [e] t) (hg : Gl X "len" := by rfl) (he : starEach [e] X.env = (false, eval e X.env) :: starEach [] X.env := by rfl) (hpl : (backTo pos (starEach [] X.env)).any (·.1) = false := by rfl) (hK : X.K = K := by rfl) : PE X (.Call (.Name "len" p) [e] [] pos) (tCB (rLen K) t) :=
  hK ▸ pe_callB call_len hg B.len PySem.boot_len ha (by decide) (by decide) he hpl
theorem b_abs (B : Blt X.mg) (ha : PA X [e] t) (hg : Gl X "abs" := by rfl) (he : starEach [e] X.env = (false, eval e X.env) :: starEach [] X.env := by rfl) (hpl : (backTo pos (starEach [] X.env)).any (·.1) = false := by rfl) : PE X (.Call (.Name "abs" p) [e] [] pos) (tCB rAbs t) :=
  pe_callB call_abs hg B.abs boot_abs ha (by decide) (by decide) he hpl
theorem b_all (hc : X.calm = true) (B : Blt X.mg) (ha : PA X [e] t) (hg : Gl X "all" := by rfl) (he : starEach [e] X.env = (false, eval e X.env) :: starEach [] X.env := by rfl) (hpl : (backTo pos (starEach [] X.env)).any (·.1) = false := by rfl) : PE X (.Call (.Name "all" p) [e] [] pos) (tCB rAll t) :=
  pe_callB (call_all_bl hc) hg B.all boot_all ha (by decide) (by decide) he hpl
theorem b_repr (gd : X.A.guards = some []) (hu : X.A.units + 64 < cLine) (B : Blt X.mg) (ha : PA X [e] t) (hg : Gl X "repr" := by rfl) (he : starEach [e] X.env = (false, eval e X.env) :: starEach [] X.env := by rfl) (hpl : (backTo pos (starEach [] X.env)).any (·.1) = false := by rfl) : PE X (.Call (.Name "repr" p) [e] [] pos) (tCB rReprX t) :=
  pe_callB (call_reprX gd hu) hg B.repr boot_repr ha (by decide) (by decide) he hpl
theorem b_isi (K : PySem.W.Frag) (c : String) (B : Blt X.mg) (ha : PA X [e, f] t) (hg : Gl X "isinstance" := by rfl) (he : starEach [e, f] X.env = (false, eval e X.env) :: starEach [f] X.env := by rfl) (hpl : (backTo pos (starEach [f] X.env)).any (·.1) = false := by rfl) (hK : X.K = K := by rfl) : PE X (.Call (.Name "isinstance" p) [e, f] [] pos) (tCB (rIsi K c) t) :=
  hK ▸ pe_callB (call_isi c) hg B.isinstance boot_isinstance ha (by decide) (by decide) he hpl
theorem g_str (B : Blt X.mg) (hg : Gl X "str" := by rfl) : PE X (.Name "str" p) (tC (.ty "str")) := pe_bltn hg B.str PyProof.Rows.boot_str rfl
theorem g_int (B : Blt X.mg) (hg : Gl X "int" := by rfl) : PE X (.Name "int" p) (tC (.ty "int")) := pe_bltn hg B.int PyProof.Rows.boot_int rfl
theorem g_bool (B : Blt X.mg) (hg : Gl X "bool" := by rfl) : PE X (.Name "bool" p) (tC (.ty "bool")) := pe_bltn hg B.bool PyProof.Rows.boot_bool rfl
theorem g_list (B : Blt X.mg) (hg : Gl X "list" := by rfl) : PE X (.Name "list" p) (tC (.ty "list")) := pe_bltn hg B.list (show bootBuiltins "list" = some (.type "list") by decide +kernel) rfl
end
end L2
namespace L2
open PySem PySem.Spec PyProof.Rows PySem.Builtin PySem.Builtin.Str
noncomputable def Asc (z : Str) : Prop := ∀ c ∈ z.cps.toList, c < 128
theorem len_app (x y : Str) : (x ++ y).length = x.length + y.length := by
  show (x.cps ++ y.cps).size = x.cps.size + y.cps.size
  rw [Array.size_append]
theorem len_join (sep : Str) (ys : List Str) : (Txt.join sep ys).length ≤ (ys.map (·.length)).sum + ys.length * sep.length := by
  unfold Txt.join
  rw [size_glued]
  exact Nat.add_le_add_left (Nat.mul_le_mul_right _ (Nat.sub_le _ _)) _
theorem sum_le {ys : List Str} {n : Nat} (h : ∀ y ∈ ys, y.length ≤ n) : (ys.map (·.length)).sum ≤ ys.length * n := by
  induction ys with
  | nil => simp
  | cons y r ih =>
    have h1 := h y (by simp)
    have h2 := ih fun z hz => h z (List.mem_cons_of_mem _ hz)
    simp only [List.map_cons, List.sum_cons, List.length_cons]
    rw [Nat.succ_mul]
    omega
theorem at_ok {α : Type} {xs : List α} {j : Int} (h0 : 0 ≤ j) (h1 : j < xs.length) : ∃ v, atI xs j = some v ∧ v ∈ xs := by
  obtain ⟨k, rfl⟩ := Int.eq_ofNat_of_zero_le h0
  have hk : k < xs.length := by omega
  exact ⟨xs[k], atI_nat (by simp [hk]), List.getElem_mem hk⟩
theorem at_int {ns : List Int} {j : Int} (h0 : 0 ≤ j) (h1 : j < (ns.map V.int).length) : ∃ c, atI (ns.map V.int) j = some (.int c) := by
  obtain ⟨v, e, m⟩ := at_ok h0 h1
  obtain ⟨c, _, rfl⟩ := List.mem_map.mp m
  exact ⟨c, e⟩
theorem fst_small (x : Int) : -(2 ^ 64) < x % 2147483647 ∧ x % 2147483647 < 2 ^ 64 := by
  have h1 := Int.emod_nonneg x (show (2147483647 : Int) ≠ 0 by decide)
  have h2 := Int.emod_lt_of_pos x (show (0 : Int) < 2147483647 by decide)
  omega
noncomputable def PenV (H : Hp) (p a : Addr) : Prop := ∃ (i n : Int), H p = some (.lst [.ref a, .int i, .int n]) ∧ 0 ≤ i ∧ 0 ≤ n
noncomputable def Pen (K : PySem.W.Frag) (H : Hp) (p a : Addr) : Prop := (∃ ns : List Int, ∀ H', But p H H' → SqL K H' a (ns.map V.int)) ∧ PenV H p a
theorem Pen.but {K : PySem.W.Frag} {H H' : Hp} {p a : Addr} (h : Pen K H p a) (b : But p H H') (v : PenV H' p a) : Pen K H' p a := ⟨let ⟨ns, q⟩ := h.1; ⟨ns, fun H2 b2 => q H2 (b.trans b2)⟩, v⟩
theorem Pen.new {K : PySem.W.Frag} {H : Hp} {p a : Addr} {ns : List Int} {o : HO} (h : SqL K H a (ns.map V.int)) (hp : H p = none) (v : PenV (upd H p o) p a) : Pen K (upd H p o) p a := by
  refine ⟨⟨ns, fun H' b => ?_⟩, v⟩
  rcases h with h | h
  · have n : a ≠ p := by
      rcases h with h | ⟨ob, h⟩
      · exact ne_of_none h hp
      · exact ne_of_none h hp
    have s : Same H (upd H p o) := Same.new hp
    exact SqL.but (fun c o' n' e => b c o' n' (s c o' e)) n (.inl h)
  · exact .inr h
theorem PenV.upd {H : Hp} {p a D : Addr} {o : HO} (h : PenV H p a) (n : p ≠ D) : PenV (L2.upd H D o) p a := let ⟨i, m, e, q⟩ := h; ⟨i, m, by rw [upd_ne n]; exact e, q⟩
theorem PenV.ne {H : Hp} {p a D : Addr} (h : PenV H p a) (e : H D = none) : p ≠ D := let ⟨_, _, q, _⟩ := h; ne_of_none q e
theorem But.at {p D : Addr} {H H' : Hp} {o : HO} (b : But p H H') (hD : H D = none) : But p H (L2.upd H' D o) := fun c o' n h => by rw [upd_ne (ne_of_none h hD)]; exact b c o' n h
theorem But.of_eq {p : Addr} {H H' : Hp} (h : ∀ b, b ≠ p → H' b = H b) : But p H H' := fun b o n e => (h b n).trans e
theorem But.free {p D : Addr} {H H' : Hp} (b : But p H H') (n : D ≠ p) (h : H' D = none) : H D = none := by
  cases e : H D with
  | none => rfl
  | some o => rw [b D o n e] at h; cases h
noncomputable def spDraw (K : PySem.W.Frag) : Sp := fun vs H Q _ => ∃ (p a : Addr) (m : Int), vs = [.ref p, .int m] ∧ Pen K H p a ∧ 0 < m ∧ m < 1073741824 ∧ ∀ r H', 0 ≤ r → r < m → PenV H' p a → (∀ b, b ≠ p → H' b = H b) → Q (.int r) H'
end L2
namespace L2
open PySem PySem.Spec PyProof.Rows
section
variable {X : Cx}
inductive InR (K : PySem.W.Frag) (neg : Bool) (H : Hp) : V → V → VK → Prop
  | dic {a : Addr} {y : V} {o : Option V} {Q : VK} : DGet H a y o → Q (.bl (if neg then !o.isSome else o.isSome)) H → InR K neg H y (.ref a) Q
  | seq {p : Addr} {x : V} {xs : List V} {Q : VK} : (SqL K H p xs ∨ SqT K H p xs) → flatV x = true → xs.all flatV = true → Q (.bl (if neg then !inV x xs else inV x xs)) H → InR K neg H x (.ref p) Q
  | tr {p : Addr} {x : V} {xs : List V} {ds : List PyData} {d : PyData} {Q : VK} : H p = some (.lst xs) → RepAll H xs ds → Rep H x d → PyData.canLayAll0 ds = true → d.canLay0 = true → d.depth ≤ 16 →
      Q (.bl (if neg then !(ds.any fun e => PyData.eqv e d) else ds.any fun e => PyData.eqv e d)) H → InR K neg H x (.ref p) Q
theorem op_inX (K : PySem.W.Frag) (hu : X.A.units + 64 < cLine) (hK : X.K = K := by rfl) : OpR X (compareOp .In) (fun x y H Q => InR K false H x y Q) := by
  subst hK
  intro pins s σ H x y v u Q I rx ry h
  cases h with
  | dic g q =>
    cases ry
    exact d_in (by omega) I g rx fun s' I' => ⟨.bl _, H, I', rfl, q⟩
  | seq hq fx fs q => exact op_in_seq pins s σ H _ _ v u Q I rx ry ⟨_, _, rfl, hq, fx, fs, q⟩
  | tr e rs r cs c dp q => exact op_inD hu pins s σ H _ _ v u Q I rx ry ⟨_, _, _, _, rfl, e, rs, r, cs, c, dp, q⟩
theorem op_notInX (K : PySem.W.Frag) (hu : X.A.units + 64 < cLine) (hK : X.K = K := by rfl) : OpR X (compareOp .NotIn) (fun x y H Q => InR K true H x y Q) := by
  subst hK
  intro pins s σ H x y v u Q I rx ry h
  cases h with
  | dic g q =>
    cases ry
    exact d_notIn (by omega) I g rx fun s' I' => ⟨.bl _, H, I', rfl, q⟩
  | seq hq fx fs q => exact op_notIn_seq pins s σ H _ _ v u Q I rx ry ⟨_, _, rfl, hq, fx, fs, q⟩
  | tr e rs r cs c dp q => exact op_notInD hu pins s σ H _ _ v u Q I rx ry ⟨_, _, _, _, rfl, e, rs, r, cs, c, dp, q⟩
inductive IxX (K : PySem.W.Frag) (H : Hp) : V → V → VK → Prop
  | lst {p : Addr} {xs : List V} {i : Int} {v : V} {Q : VK} : SqL K H p xs → atI xs i = some v → Q v H → IxX K H (.ref p) (.int i) Q
  | tup {p : Addr} {xs : List V} {i : Int} {v : V} {Q : VK} : SqT K H p xs → atI xs i = some v → Q v H → IxX K H (.ref p) (.int i) Q
  | str {z : Str} {i : Int} {c : Nat} {Q : VK} : z.length ≤ sizeLine → atI z.cps.toList i = some c → Q (.str ⟨#[c]⟩) H → IxX K H (.str z) (.int i) Q
  | dic {a : Addr} {y v : V} {Q : VK} : DGet H a y (some v) → Q v H → IxX K H (.ref a) y Q
theorem ix_X (K : PySem.W.Frag) (hu : X.A.units + 64 < cLine) (hK : X.K = K := by rfl) : IxR X (fun x y H Q => IxX K H x y Q) := by
  subst hK
  intro value slice pins s σ H x y v u Q I rx ry h hs
  cases h with
  | lst hq e q => exact ix_list value slice pins s σ H _ _ v u Q I rx ry ⟨_, _, _, _, rfl, rfl, hq, e, q⟩ hs
  | tup hq e q => exact ix_tup value slice pins s σ H _ _ v u Q I rx ry ⟨_, _, _, _, rfl, rfl, hq, e, q⟩ hs
  | str hz e q => exact ix_str value slice pins s σ H _ _ v u Q I rx ry ⟨_, _, _, rfl, rfl, hz, e, q⟩ hs
  | dic g q =>
    cases rx
    exact tail_any (dict_typeIs I g) PySem.F.slot_dict_getitem.lookup (d_getItem (by omega) I g ry fun w' s3 I3 rw' => ⟨_, H, I3, rw', q⟩) hs
inductive SetX (H : Hp) : V → V → V → (Hp → Prop) → Prop
  | lst {p : Addr} {xs : List V} {k : Int} {j : Nat} {v : V} {Q : Hp → Prop} : H p = some (.lst xs) → ixN xs.length k = some j → Q (upd H p (.lst (xs.set j v))) → SetX H (.ref p) (.int k) v Q
  | dic {a : Addr} {y v : V} {H' : Hp} {Q : Hp → Prop} : DPut H a y v H' → Q H' → SetX H (.ref a) y v Q
theorem set_X (hu : X.A.units + 64 < cLine) : PSet X (fun o i v H Q => SetX H o i v Q) := by
  intro pins s σ H o i v ov iv u Q I ro ri rv h
  cases h with
  | lst e ej q => exact set_list pins s σ H _ _ _ ov iv u Q I ro ri rv ⟨_, _, _, _, rfl, rfl, e, ej, q⟩
  | dic g q =>
    cases ro
    exact d_setItem (by omega) I g ri rv fun s4 I4 => ⟨_, I4, q⟩
theorem pg_tupK (K : PySem.W.Frag) {es : List Expr} {k : Nat} {pos : Pos} {t : TGs} {n : Nat} (hc : X.calm = true) (h : PGs X es t)
    (hn : (assignEach es X.env).length = n := by rfl) (hst : (assignEach es X.env).findIdx? (·.1) = none := by rfl) (hK : X.K = K := by rfl) : PG X (.Tuple es k pos) (gTup K n t) := hK ▸ pg_tup hc h hn hst
variable {p pos p2 pos2 : Pos} {e f : Expr} {t : TA}
end
end L2
namespace L2
open PySem PySem.Spec PyProof.Rows
section
variable {X : Cx} {p pos p2 pos2 : Pos} {e f : Expr} {t : TA}
noncomputable def rTupL (K : PySem.W.Frag) : List V → Hp → VK → Prop := fun xs H Q => ∃ a ys, xs = [.ref a] ∧ SqL K H a ys ∧ ∀ l, H l = none → Q (.ref l) (upd H l (.tup ys))
theorem b_tuple (K : PySem.W.Frag) (B : Blt X.mg) (ha : PA X [e] t) (hg : Gl X "tuple" := by rfl) (he : starEach [e] X.env = (false, eval e X.env) :: starEach [] X.env := by rfl) (hpl : (backTo pos (starEach [] X.env)).any (·.1) = false := by rfl) (hK : X.K = K := by rfl) :
    PE X (.Call (.Name "tuple" p) [e] [] pos) (tCB (rTupL K) t) := by
  subst hK
  refine pe_callTy (r := rTupL X.K) (fun pins s σ H xs us Q I r h => ?_) hg B.tuple (show bootBuiltins "tuple" = some (.type "tuple") by decide +kernel) ha (by decide) (by decide) he hpl
  obtain ⟨a, ys, rfl, hq, q⟩ := h
  exact call_tuple_of pins s σ H _ us Q I r ⟨a, ys, rfl, .inl ⟨hq, q⟩⟩
inductive LstR (K : PySem.W.Frag) (H : Hp) : V → VK → Prop
  | seq {a : Addr} {ys : List V} {Q : VK} : (SqL K H a ys ∨ SqT K H a ys) → (∀ l, H l = none → Q (.ref l) (upd H l (.lst ys))) → LstR K H (.ref a) Q
  | rng {a : Addr} {n : Nat} {Q : VK} : H a = some (.rng 0 (n : Int)) → n ≤ 1000 → (∀ l, H l = none → Q (.ref l) (upd H l (.lst (rngV n)))) → LstR K H (.ref a) Q
noncomputable def rLst (K : PySem.W.Frag) : List V → Hp → VK → Prop := fun xs H Q => ∃ x, xs = [x] ∧ LstR K H x Q
theorem vals_rng {n : Nat} {its : List Value} (hl : its.length = n) (h : ∀ i v, its[i]? = some v → ∃ t, v = Value.int (0 + (i : Nat) * 1) t) : Vals (rngV n) its := by
  subst hl
  have key : ∀ (its : List Value) (k : Nat), (∀ i v, its[i]? = some v → ∃ t, v = Value.int (0 + ((k + i : Nat) : Int)) t) → Vals ((List.range' k its.length).map fun i => V.int (0 + (i : Nat))) its := by
    intro its
    induction its with
    | nil => intro k _; exact .nil
    | cons u r ih =>
      intro k h
      rw [List.length_cons, List.range'_succ, List.map_cons]
      refine .cons ?_ (ih (k + 1) fun i v e => ?_)
      · obtain ⟨t, e⟩ := h 0 u rfl
        exact ⟨t, by rw [e, Nat.add_zero]⟩
      · obtain ⟨t, e'⟩ := h (i + 1) v (by simpa using e)
        exact ⟨t, by rw [e', show ((k + (i + 1) : Nat) : Int) = ((k + 1 + i : Nat) : Int) by omega]⟩
  have := key its 0 fun i v e => by
    obtain ⟨t, e'⟩ := h i v e
    exact ⟨t, by rw [e', Int.mul_one, Nat.zero_add]⟩
  rw [rngV, List.range_eq_range']
  exact this
theorem b_list (K : PySem.W.Frag) (hc : X.calm = true) (B : Blt X.mg) (ha : PA X [e] t) (hg : Gl X "list" := by rfl) (he : starEach [e] X.env = (false, eval e X.env) :: starEach [] X.env := by rfl) (hpl : (backTo pos (starEach [] X.env)).any (·.1) = false := by rfl) (hK : X.K = K := by rfl) :
    PE X (.Call (.Name "list" p) [e] [] pos) (tCB (rLst K) t) := by
  subst hK
  refine pe_callTy (r := rLst X.K) (fun pins s σ H xs us Q I r h => ?_) hg B.list (show bootBuiltins "list" = some (.type "list") by decide +kernel) ha (by decide) (by decide) he hpl
  obtain ⟨x, rfl, h⟩ := h
  cases h with
  | seq hq q => exact call_list_of pins s σ H _ us Q I r ⟨_, _, rfl, hq, q⟩
  | @rng a n _ ea hn q =>
    obtain ⟨u, rfl, ru⟩ := vals1 r
    cases ru
    obtain ⟨t1, t2, t3, eh⟩ := (show ObjOk X.prog X.w H s.heap a (.rng 0 (n : Int)) from I.hok a _ ea)
    refine call_list_range (n := n) (I.ok.hd hc) eh (small_one (by decide) (by decide) (by omega) (by omega)) (by rw [rangeSize_one]; split <;> omega) (by omega) fun h' tk acc' c' hk hl hi => ?_
    have hv : Vals (rngV n) acc'.toList := vals_rng (by simpa using hi.1) fun i v e => hi.2 i v (by simpa using e)
    refine ⟨.ref _, _, I.laid (o := .lst (rngV n)) hk (Nat.le_refl _) ⟨?_, acc'.toList, c', hv, by simpa using hl⟩, rfl, q _ (I.hok.fresh (Nat.le_refl _))⟩
    have : (rngV n).length = n := by simp [rngV]
    rw [this]
    exact Nat.le_of_lt (small1000 hn)
theorem b_min (hc : X.calm = true) (B : Blt X.mg) (ha : PA X [e, f] t) (hg : Gl X "min" := by rfl) (he : starEach [e, f] X.env = (false, eval e X.env) :: starEach [f] X.env := by rfl) (hpl : (backTo pos (starEach [f] X.env)).any (·.1) = false := by rfl) :
    PE X (.Call (.Name "min" p) [e, f] [] pos) (tCB (fun xs H Q => ∃ i j, xs = [.int i, .int j] ∧ Q (.int (if j < i then j else i)) H) t) :=
  pe_callB (call_min2 hc) hg B.min (show bootBuiltins "min" = some (.builtin "min") by decide +kernel) ha (by decide) (by decide) he hpl
end
end L2
namespace L2
open PySem PySem.Spec PyProof.Rows
noncomputable def Nm (s : Str) : Prop := 1 ≤ s.length ∧ s.length ≤ 8 ∧ ∀ c ∈ s.cps.toList, 97 ≤ c ∧ c ≤ 122
theorem Nm.asc {s : Str} (h : Nm s) : Asc s := fun c hc => by have := h.2.2 c hc; omega
noncomputable def pairD (e : Str × Str) : PyData := .tuple [.str e.1, .str e.2]
noncomputable def webD (ss : List Str) (ts : List (Str × Str)) : PyData := .tuple [.tuple (ss.map .str), .tuple (ts.map pairD)]
section
variable {H H' : Hp}
theorem Rep.tupI {v : V} {ds : List PyData} (h : Rep H v (.tuple ds)) : ∃ a xs, v = .ref a ∧ H a = some (.tup xs) ∧ RepAll H xs ds := by
  cases h with
  | tup e r => exact ⟨_, _, rfl, e, r⟩
theorem Rep.strI {v : V} {s : Str} (h : Rep H v (.str s)) : v = .str s := by cases h; rfl
theorem RepAll.nilI {xs : List V} (h : RepAll H xs []) : xs = [] := by cases h; rfl
theorem RepAll.consI {xs : List V} {d : PyData} {ds : List PyData} (h : RepAll H xs (d :: ds)) : ∃ y ys, xs = y :: ys ∧ Rep H y d ∧ RepAll H ys ds := by
  cases h with
  | cons a b => exact ⟨_, _, rfl, a, b⟩
theorem RepAll.strs : ∀ {xs : List V} {ss : List Str}, RepAll H xs (ss.map PyData.str) → xs = ss.map V.str
  | _, [], h => by rw [h.nilI]; rfl
  | _, s :: ss, h => by
    obtain ⟨y, ys, rfl, a, b⟩ := RepAll.consI h
    rw [a.strI, RepAll.strs b]; rfl
theorem RepAll.of_strs : ∀ (ss : List Str), RepAll H (ss.map V.str) (ss.map PyData.str)
  | [] => .nil
  | s :: ss => .cons (.str s) (RepAll.of_strs ss)
theorem RepAll.len {xs : List V} {ds : List PyData} (h : RepAll H xs ds) : xs.length = ds.length := by
  induction ds generalizing xs with
  | nil => rw [h.nilI]; rfl
  | cons d ds ih =>
    obtain ⟨y, ys, rfl, a, b⟩ := h.consI
    simp [ih b]
theorem RepAll.get {xs : List V} {ds : List PyData} (h : RepAll H xs ds) {i : Nat} {x : V} (e : xs[i]? = some x) : ∃ d, ds[i]? = some d ∧ Rep H x d := by
  induction ds generalizing xs i with
  | nil => rw [h.nilI] at e; simp at e
  | cons d ds ih =>
    obtain ⟨y, ys, rfl, a, b⟩ := h.consI
    cases i with
    | zero => simp at e; subst e; exact ⟨d, rfl, a⟩
    | succ i => simpa using ih b (by simpa using e)
theorem RepAll.append {xs ys : List V} {ds es : List PyData} (h : RepAll H xs ds) (g : RepAll H ys es) : RepAll H (xs ++ ys) (ds ++ es) := by
  induction ds generalizing xs with
  | nil => rw [h.nilI]; exact g
  | cons d ds ih =>
    obtain ⟨y, zs, rfl, a, b⟩ := h.consI
    exact .cons a (ih b)
theorem pair_at {v : V} {e : Str × Str} (h : Rep H v (pairD e)) : ∃ a, v = .ref a ∧ H a = some (.tup [.str e.1, .str e.2]) := by
  obtain ⟨a, xs, rfl, ha, r⟩ := Rep.tupI h
  obtain ⟨y, ys, rfl, r1, r⟩ := r.consI
  obtain ⟨z, zs, rfl, r2, r⟩ := r.consI
  have e1 := RepAll.nilI r
  subst e1
  rw [r1.strI, r2.strI] at ha
  exact ⟨a, rfl, ha⟩
theorem pair_rep {a : Addr} {s t : Str} (h : H a = some (.tup [.str s, .str t])) : Rep H (.ref a) (pairD (s, t)) := .tup h (.cons (.str _) (.cons (.str _) .nil))
theorem web_at {v : V} {ss : List Str} {ts : List (Str × Str)} (h : Rep H v (webD ss ts)) : ∃ q a b xs, v = .ref q ∧ H q = some (.tup [.ref a, .ref b]) ∧ H a = some (.tup (ss.map V.str)) ∧ H b = some (.tup xs) ∧ RepAll H xs (ts.map pairD) := by
  obtain ⟨q, ws, rfl, hq, r0⟩ := Rep.tupI h
  obtain ⟨y, ys, rfl, r1, r3⟩ := r0.consI
  obtain ⟨z, zs, rfl, r2, r4⟩ := r3.consI
  obtain ⟨a, xa, rfl, ha, ra⟩ := Rep.tupI r1
  obtain ⟨b, xb, rfl, hb, rb⟩ := Rep.tupI r2
  have e1 := RepAll.nilI r4
  subst e1
  have e2 := RepAll.strs ra
  subst e2
  exact ⟨q, a, b, xb, rfl, hq, ha, hb, rb⟩
end
end L2
set_option autoImplicit false
namespace MG
variable {α : Type}
variable {R : α → α → Prop} {x : α}
end MG
namespace MG
variable {α : Type} {R : α → α → Prop} {x : α}
end MG
namespace L2
open PySem PySem.Spec PyProof.Rows
theorem canLay_nm {s : Str} (h : Nm s) : PyData.canLay0 (.str s) = true := by
  show (s.cps.all (· < 0x110000)) = true
  rw [← Array.all_toList, List.all_eq_true]
  intro c hc
  have := h.2.2 c hc
  exact decide_eq_true (by omega)
theorem textFrom_le {n : Nat} : ∀ (ts : List Str) (k : Nat) (acc : Str), (∀ t ∈ ts, t.length ≤ n) → (textFrom k acc ts).length ≤ acc.length + ts.length * (n + 2)
  | [], k, acc, _ => by show acc.length ≤ acc.length + 0 * _; omega
  | t :: r, k, acc, h => by
    have h1 := textFrom_le r (k + 1) (acc ++ (if k > 0 then ", " else "" : String) ++ t) fun u hu => h u (List.mem_cons_of_mem _ hu)
    have h2 := h t (by simp)
    have e : (acc ++ (if k > 0 then ", " else "" : String) ++ t).length ≤ acc.length + 2 + t.length := by
      rw [len_app, len_app]
      have : (Str.ofString (if k > 0 then ", " else "" : String)).length ≤ 2 := by split <;> decide
      show acc.length + (Str.ofString (if k > 0 then ", " else "" : String)).length + t.length ≤ _
      omega
    show (textFrom (k + 1) (acc ++ (if k > 0 then ", " else "" : String) ++ t) r).length ≤ acc.length + (r.length + 1) * (n + 2)
    rw [Nat.succ_mul]
    omega
theorem Nm.repr {s : Str} (h : Nm s) : (reprText s).length ≤ 82 := by
  have := StrLaws.reprText_len s fun c hc => Nat.lt_trans (h.asc c hc) (by decide)
  have := h.2.1
  omega
structure Shw (d : PyData) : Prop where
  sh : shp d
  sb : d.showable = true
  hd : d.hasDict = false
  dp : d.depth ≤ 16
  ln : d.shown.length ≤ sizeLine
theorem for_enum {K : PySem.W.Frag} {a : Addr} {xs : List V} {g : TG} {tb : TS} {D : Ends} {σ : St} {H : Hp} (Pv : Nat → St → Hp → Prop) (h0 : Pv 0 σ H) (hl : ∀ i σ H, i ≤ xs.length → Pv i σ H → SqL K H a xs)
    (hs : ∀ i x σ H p, xs[i]? = some x → Pv i σ H → H p = none → g (.ref p) σ (upd H p (.tup [.int i, x])) fun σ2 H2 => tb { D with nx := Pv (i + 1), ct := Pv (i + 1), bk := D.nx } σ2 H2) (hd : ∀ σ H, Pv xs.length σ H → D.nx σ H) :
    ∃ W : Nat → Nat → St → Hp → Prop, (∃ m, W 0 m σ H) ∧ ∀ i m σ H, W i m σ H →
      ((Ite K a).stop i H ∧ D.nx σ H) ∨ ((Ite K a).go i H ∧ ∃ N : St → Hp → Prop, (∀ σ' H', N σ' H' → ∃ m', m' < m ∧ W (i + 1) m' σ' H') ∧ ∀ x H', (Ite K a).yld i H x H' → g x σ H' fun σ2 H2 => tb { D with nx := N, ct := N, bk := D.nx } σ2 H2) := by
  refine ⟨fun i m σ H => m = xs.length - i ∧ i ≤ xs.length ∧ Pv i σ H, ⟨xs.length, by simp, Nat.zero_le _, h0⟩, ?_⟩
  rintro i m σ H ⟨rfl, hi, p⟩
  have q := hl i σ H hi p
  by_cases hlt : i < xs.length
  · refine .inr ⟨⟨xs, xs[i], q, by simp [hlt]⟩, Pv (i + 1), fun σ' H' p' => ⟨xs.length - (i + 1), by omega, rfl, hlt, p'⟩, fun x H' y => ?_⟩
    obtain ⟨r, z, hr, rfl, hz, rfl⟩ := y
    exact hs i z σ H r (hz xs q) p hr
  · have e : i = xs.length := by omega
    subst e
    exact .inl ⟨⟨xs, q, Nat.le_refl _⟩, hd σ H p⟩
structure Web (H : Hp) (v : V) (ss : List Str) (ts : List (Str × Str)) : Prop where
  rep : Rep H v (webD ss ts)
  nd : ss.Nodup
  nm : ∀ s ∈ ss, Nm s
  len : ss.length ≤ 60
  few : ts.length ≤ 401
  inn : ∀ e ∈ ts, e.1 ∈ ss ∧ e.2 ∈ ss
end L2
namespace MG
variable {α : Type} {R : α → α → Prop} {x : α}
variable {es : List (Nat × Nat)} {goal : Nat}
end MG
namespace MG
variable {es : List (Nat × Nat)}
end MG
namespace L2
open PySem PySem.Spec PyProof.Rows
theorem same_free {H H' : Hp} {b : Addr} (s : Same H H') (h : H' b = none) : H b = none := by
  cases q : H b with
  | none => rfl
  | some o => rw [s _ _ q] at h; cases h
theorem same_at {H H' : Hp} {b : Addr} {o : HO} (s : Same H H') (h : H b = none) : Same H (upd H' b o) := fun c o' hc => by
  rw [upd_ne (ne_of_none hc h)]; exact s _ _ hc
theorem penSame {H H' : Hp} {p a : Addr} (s : Same H H') (v : PenV H p a) : PenV H' p a := let ⟨i, m, e, q⟩ := v; ⟨i, m, s _ _ e, q⟩
end L2
namespace MG
section
variable {α : Type} [DecidableEq α]
noncomputable def ix : List α → α → Nat
  | [], _ => 0
  | a :: r, x => if a = x then 0 else ix r x + 1
end
variable {es : List (Nat × Nat)}
end MG
namespace L2
open PySem PySem.Spec PyProof.Rows
theorem canLay_prs : ∀ ts : List (Str × Str), (∀ e ∈ ts, Nm e.1 ∧ Nm e.2) → PyData.canLayAll0 (ts.map pairD) = true
  | [], _ => rfl
  | e :: ts, h => by
    show (PyData.canLay0 (pairD e) && PyData.canLayAll0 (ts.map pairD)) = true
    rw [canLay_prs ts fun x hx => h x (List.mem_cons_of_mem _ hx)]
    have := h e (by simp)
    show ((PyData.canLay0 (.str e.1) && (PyData.canLay0 (.str e.2) && true)) && true) = true
    rw [canLay_nm this.1, canLay_nm this.2]; rfl
end L2
namespace L2
open PySem PySem.Spec PyProof.Rows
open PySem.AutoSeq1 (wpAny_loadPart')
section
variable {prog : Program} {w : World} {A : Around} {E : Value → Shared → Prop} {s : Shared}
theorem nextT_item {jt tt : Addr} {i : Nat} {its : Array Value} {y : Value} {Q : Value → Shared → Prop} (hj : s.heap.IsTupleIter jt tt i) (htt : s.heap.IsTuple tt its) (hy : its[i]? = some y)
    (hQ : ∀ h', h'.IsTupleIter jt tt (i + 1) → Heap.SameBut jt s.heap h' → Q y { s with heap := h' }) : wpAny (model prog w) A (Builtin.SmallTypes.nextOf (.ref jt)) Q E s := by
  obtain ⟨oj, hoj, cj, dj⟩ := id hj
  obtain ⟨ot, hot, _, nt, dt⟩ := htt
  unfold Builtin.SmallTypes.nextOf
  refine wpAny_bind (wpAny_callSpecial?_slot (name := Str.ofString "__next__") hj.typeIs F.slot_tuple_iterator_next (wpAny_call_entry F.slot_tuple_iterator_next hj.typeIs F.entry_tuple_iterator_next ?_ (F.args_tuple_iterator_next_1 _)))
  show wpAny _ _ (field (.ref jt) 0 >>= _) _ _ s
  refine wpAny_bind (wpAny_field hoj dj (x := .ref tt) rfl ?_)
  show wpAny _ _ (if (Value.ref tt == Value.none) = true then _ else _) _ _ s
  rw [if_neg (show ¬ ((Value.ref tt == Value.none) = true) from Bool.false_ne_true)]
  show wpAny _ _ (field (.ref jt) 1 >>= _) _ _ s
  refine wpAny_bind (wpAny_field hoj dj (x := .int i 0) rfl (wpAny_bind (wpAny_seqItems hot dt ?_)))
  simp only [Int.toNat_natCast, hy]
  refine wpAny_bind (wpAny_setField hoj dj (by simp) (wpAny_pure ⟨y, rfl, wpAny_pure (hQ _ ?_ (Heap.SameBut.update ..))⟩))
  exact ⟨_, Heap.get?_update_self _ hoj (Obj.isFreed_of_fields (Obj.data_mapFields dj _)), (Obj.cls_mapFields ..).trans cj, by rw [Obj.data_mapFields dj]; simp [rawInt]⟩
theorem nextT_end {jt tt : Addr} {i : Nat} {its : Array Value} {Q : Value → Shared → Prop} (hh : A.handled = none) (hj : s.heap.IsTupleIter jt tt i) (htt : s.heap.IsTuple tt its) (hy : its[i]? = none)
    (hE : ∀ h' e, Heap.ExtBut jt s.heap h' → (∃ o, h'.get? e = some o ∧ o.cls = .type "StopIteration") → E (.ref e) { s with heap := h' }) : wpAny (model prog w) A (Builtin.SmallTypes.nextOf (.ref jt)) Q E s := by
  obtain ⟨oj, hoj, cj, dj⟩ := id hj
  obtain ⟨ot, hot, _, nt, dt⟩ := htt
  unfold Builtin.SmallTypes.nextOf
  refine wpAny_bind (wpAny_callSpecial?_slot (name := Str.ofString "__next__") hj.typeIs F.slot_tuple_iterator_next (wpAny_call_entry F.slot_tuple_iterator_next hj.typeIs F.entry_tuple_iterator_next ?_ (F.args_tuple_iterator_next_1 _)))
  show wpAny _ _ (field (.ref jt) 0 >>= _) _ _ s
  refine wpAny_bind (wpAny_field hoj dj (x := .ref tt) rfl ?_)
  show wpAny _ _ (if (Value.ref tt == Value.none) = true then _ else _) _ _ s
  rw [if_neg (show ¬ ((Value.ref tt == Value.none) = true) from Bool.false_ne_true)]
  show wpAny _ _ (field (.ref jt) 1 >>= _) _ _ s
  refine wpAny_bind (wpAny_field hoj dj (x := .int i 0) rfl (wpAny_bind (wpAny_seqItems hot dt ?_)))
  simp only [Int.toNat_natCast, hy]
  refine wpAny_bind (wpAny_rule (wpAny_bind (wpAny_setField hoj dj (by simp) ?_)))
  show wpAny _ _ (newExc (.type "StopIteration") [] >>= _) _ _ _
  refine wpAny_bind ?_
  simp only [newExc, newTuple]
  refine wpAny_bind (wpAny_newObj_type (wpAny_bind (m := firstArgMember _ _) (wpAny_of_eq (a := Value.none) (by first | rfl | (simp only [firstArgMember]; rfl)) ?_)) (by size_fits))
  refine wpAny_newObj_type ?_ (by size_fits)
  simp only [raiseNew]
  refine wpAny_bind (wpAny_handled ?_)
  first | rw [show A.in1.handled = none from hh] | rw [hh]
  refine wpAny_bind (wpAny_pure (wpAny_throw (hE _ _ (((Heap.SameBut.update ..).extBut.push _).push _) ⟨_, Heap.get?_push_size _ rfl, rfl⟩)))
theorem drawsT {prog : Program} {w : World} {A : Around} (hh : A.handled = none) (jt tt : Addr) (hne : tt ≠ jt) (its : Array Value) :
    Draws prog w A jt [jt, tt] its.size (fun i y => its[i]? = some y) (fun i h => h.IsTupleIter jt tt i ∧ h.IsTuple tt its) where
  live := fun i h st => let ⟨o, e, _⟩ := st.1; ⟨o, e⟩
  frame := fun i h h' st k => ⟨let ⟨o, e, r⟩ := st.1; ⟨o, k jt (by simp) o e, r⟩, let ⟨o, e, r⟩ := st.2; ⟨o, k tt (by simp) o e, r⟩⟩
  item := fun i s Q E hi st hQ => nextT_item st.1 st.2 (y := its[i]) (by simp [hi]) fun h' j' sb => hQ _ h' s.toks (by simp [hi]) ⟨j', st.2.extBut sb.extBut hne⟩ sb
  done := fun s Q E st hE => nextT_end hh st.1 st.2 (by simp) hE
set_option maxHeartbeats 1000000 in
theorem meets_enumT (l : Addr) (its : Array Value) (n : Nat) (dct : Option Addr) (sl : Array (Option Value)) :
    Meets (Builtin.«enumerate.__new__» ⟨[.type "enumerate", .ref l], []⟩) (fun _ R s => s.heap.get? l = some { cls := .type "tuple", dict := dct, data := .seq its n, slots := sl } ∧
      R (.ok (.ret (.ref (s.heap.push { cls := .type "tuple_iterator", data := .fields #[.ref l, .int 0 0] }).objs.size)))
        { s with heap := (s.heap.push { cls := .type "tuple_iterator", data := .fields #[.ref l, .int 0 0] }).push { cls := .type "enumerate", data := .fields #[.none, .bool false, .ref s.heap.objs.size, rawInt 0, .none, .none] } }) :=
  .of_wp fun prog w A R s h => by
    obtain ⟨h0, g0, d0, t0, os0⟩ := s
    obtain ⟨hl, h⟩ := h
    have hsub := sub_enumerate
    have hT : Heap.IsTuple (Shared.heap ⟨h0, g0, d0, t0, os0⟩) l its := ⟨_, hl, rfl, n, rfl⟩
    wp_walk using wpAny_loadPart' hl
    refine wpAny_stack_any fun st => wpAny_pure ?_
    split
    · rename_i c _ _ _ _ _
      cases (c == Value.type "enumerate")
      · wp_walk using wpAny_loadPart' hl, wpAny_pyIter_tuple hT
        exact ⟨_, rfl, h⟩
      · wp_walk using wpAny_loadPart' hl, wpAny_pyIter_tuple hT
        exact ⟨_, rfl, h⟩
    · wp_walk using wpAny_loadPart' hl, wpAny_pyIter_tuple hT
      exact ⟨_, rfl, h⟩
theorem call_enumT {l : Addr} {its : Array Value} {Q : Value → Shared → Prop} (hT : s.heap.IsTuple l its)
    (h : ∀ h', IsEnum h' (s.heap.objs.size + 1) s.heap.objs.size 0 .none → h'.IsTupleIter s.heap.objs.size l 0 → (∀ b o, s.heap.get? b = some o → h'.get? b = some o) → Q (.ref (s.heap.objs.size + 1)) { s with heap := h' }) :
    wpAny (model prog w) A (call (.type "enumerate") [.ref l]) Q E s := by
  obtain ⟨⟨c, dct, dt, sl⟩, hl, hc, n, hd⟩ := hT
  replace hc : c = .type "tuple" := hc
  replace hd : dt = .seq its n := hd
  subst hc hd
  refine callType_new F.called_enumerate (by decide) (F.typeCall_enumerate_1 _) (F.newCall_enumerate_1 _) (fun obj => F.args_object_init_2 obj _) F.entry_enumerate_new (meets_enumT l its n dct sl) ⟨hl, ?_⟩
  have hz : (s.heap.push { cls := .type "tuple_iterator", data := .fields #[.ref l, .int 0 0] }).objs.size = s.heap.objs.size + 1 := Heap.size_push ..
  show _ ∧ _
  rw [hz]
  have he : IsEnum ((s.heap.push { cls := .type "tuple_iterator", data := .fields #[.ref l, .int 0 0] }).push { cls := .type "enumerate", data := .fields #[.none, .bool false, .ref s.heap.objs.size, rawInt 0, .none, .none] }) (s.heap.objs.size + 1) s.heap.objs.size 0 .none := by
    have := Heap.get?_push_size (s.heap.push { cls := .type "tuple_iterator", data := .fields #[.ref l, .int 0 0] }) (o := { cls := .type "enumerate", data := .fields #[.none, .bool false, .ref s.heap.objs.size, rawInt 0, .none, .none] }) rfl
    rw [hz] at this; exact this
  exact ⟨⟨_, he, rfl⟩, h _ he ⟨_, Heap.get?_push_of_some _ (Heap.get?_push_size _ rfl), rfl, rfl⟩ fun b o x => Heap.get?_push_of_some _ (Heap.get?_push_of_some _ x)⟩
end
noncomputable def IteT (K : PySem.W.Frag) (a : Addr) : It :=
  ⟨fun i H => ∃ xs x, SqT K H a xs ∧ xs[i]? = some x, fun i H v H' => ∃ p x, H p = none ∧ v = .ref p ∧ (∀ xs, SqT K H a xs → xs[i]? = some x) ∧ H' = upd H p (.tup [.int i, x]), fun i H => ∃ xs, SqT K H a xs ∧ xs.length ≤ i⟩
theorem turn_enumT {P : Program} {w : World} {K : PySem.W.Frag} {elts : List Expr} {k : Nat} {tp : Pos} (a e it : Addr) (hne : e ≠ it) :
    Turn P w K (.Tuple elts k tp) (IteT K a) [e, it] e (fun i h => (∃ old, IsEnum h e it i old) ∧ h.IsTupleIter it a i) where
  mem := by simp
  obj := fun i h st b hb => by
    obtain ⟨⟨old, he⟩, hit⟩ := st
    have hb : b = e ∨ b = it := by simpa using hb
    rcases hb with z | z
    · subst z
      exact ⟨_, he, fun v z => by cases z⟩
    · subst z
      obtain ⟨o, e1, c, d⟩ := hit
      exact ⟨o, e1, fun v z => by rw [d] at z; cases z⟩
  keep := fun i h h' st kk => by
    obtain ⟨⟨old, he⟩, hit⟩ := st
    exact ⟨⟨old, kk e (by simp) _ he⟩, let ⟨o, q, r⟩ := hit; ⟨o, kk it (by simp) o q, r⟩⟩
  item := by
    intro X hP hw hK hc i pins s σ H E I hf st hg
    subst hP hw hK
    obtain ⟨⟨old, he⟩, hit⟩ := st
    obtain ⟨xs, x, hq, hx⟩ := hg
    obtain ⟨its, rv, p, hz⟩ := I.tuple hq
    obtain ⟨u, hu, ru⟩ := rv.get hx
    obtain ⟨f0, f1, f2, f3, f4, f5⟩ := hf e (by simp)
    obtain ⟨g0, g1, g2, g3, g4, g5⟩ := hf it (by simp)
    have hel : e < s.heap.objs.size := Heap.lt_size he
    have hil : it < s.heap.objs.size := by obtain ⟨o, q, _⟩ := hit; exact Heap.lt_size q
    have hae : a ≠ e := fun z => by
      obtain ⟨o, q, c, _⟩ := p
      rw [z, he] at q; cases q; simp at c
    have hai : a ≠ it := fun z => by
      obtain ⟨o, q, c, _⟩ := p
      obtain ⟨o', q', c', _⟩ := hit
      rw [z, q'] at q; cases q; rw [c] at c'; simp at c'
    have hul := (List.getElem?_eq_some_iff.mp hu).1
    refine wpAny_pyNext_enum_itemD (drawsT (A := X.A.in1) (show X.A.in1.handled = none from I.ok.hd hc) it a hai its.toArray) he ⟨hit, p⟩ (by simpa using hul) hne (by simp [hne, Ne.symm hae]) fun u' h1 tk hu' ho hit1 ht1 hz1 k1 => ?_
    have eu : u' = u := by
      have : its[i]? = some u' := by simpa using hu'
      rw [hu] at this
      exact (Option.some.inj this).symm
    subst eu
    refine ⟨_, rfl, wpAny_letOwnedTupleGo_enum ho fun h2 he2 sb2 => ?_⟩
    have sb2 : Heap.SameBut e h1 h2 := sb2
    have T2 : h2.get? s.heap.objs.size = some { cls := .type "tuple", data := .seq #[.int i tk, u'] } := (sb2.2 _ (Nat.ne_of_gt hel)).trans ht1
    have hp : H s.heap.objs.size = none := I.hok.fresh (Nat.le_refl _)
    have nit : ∀ b v, H b = some v → b ≠ e ∧ b ≠ it := fun b v q => ⟨fun z => (by rw [z, f0] at q; cases q), fun z => (by rw [z, g0] at q; cases q)⟩
    have kk : ∀ b o, b ≠ e → b ≠ it → s.heap.get? b = some o → h2.get? b = some o := fun b o n1 n2 q => (sb2.2 b n1).trans (k1 b o n1 n2 q)
    have up : ∀ b v, H b = some v → upd H s.heap.objs.size (.tup [.int i, x]) b = some v := fun b v q => by rw [upd_ne (ne_of_none q hp)]; exact q
    have I1 : Inv X pins σ (upd H s.heap.objs.size (.tup [.int i, x])) { s with heap := h2, gens := s.gens, drawn := s.drawn, toks := tk + 1 } := by
      refine I.step (g' := s.gens) (d' := s.drawn) (ch := [e, it]) (fun b hb => ?_) (fun b o _ _ hb q _ => kk b o (fun z => hb (by simp [z])) (fun z => hb (by simp [z])) q) (fun b o _ _ hb q _ => ⟨o.slots, kk b o (fun z => hb (by simp [z])) (fun z => hb (by simp [z])) q⟩) (fun b o _ q n => ?_)
        (fun b o hb q => ⟨o, kk b o (fun z => hb (by simp [z])) (fun z => hb (by simp [z])) q⟩) (fun b ys q => up b _ q) (fun b o v q => up b _ q) (fun b ps q => ⟨#[], by rw [up b _ q]; simp⟩) (fun m hm => ?_) (fun b v q => ?_) I.bare
      · have hb : b = e ∨ b = it := by simpa using hb
        rcases hb with z | z
        · subst z; exact ⟨f3, f1, f4, f5⟩
        · subst z; exact ⟨g3, g1, g4, g5⟩
      · rw [upd_ne (Nat.ne_of_lt (Heap.lt_size q))]; exact n
      · obtain ⟨o, es, ep, ho, r⟩ := hm
        exact ⟨o, es, ep, kk _ o (Ne.symm f1) (Ne.symm g1) ho, r⟩
      · by_cases hb : b = s.heap.objs.size
        · subst hb
          rw [upd_same] at q
          have q' : HO.tup [V.int i, x] = v := Option.some.inj q
          subst q'
          exact ⟨by show 2 ≤ sizeLine; decide, [.int i tk, u'], .cons ⟨_, rfl⟩ (.cons ru .nil), ⟨_, T2, rfl, _, rfl, rfl⟩⟩
        · rw [upd_ne hb] at q
          refine (I.hok b v q).stay (fun c v' hc q' => ?_) (fun c q => up c _ q) fun c ys q => up c _ q
          rcases hc with z | z
          · rw [z] at q' ⊢; exact kk b v' (nit b v q).1 (nit b v q).2 q'
          · exact kk c v' (nit c _ z).1 (nit c _ z).2 q'
    refine ⟨.ref s.heap.objs.size, upd H s.heap.objs.size (.tup [.int i, x]), I1, rfl, ⟨_, x, hp, rfl, fun ys hy => by rw [I.tuple_inj hy hq]; exact hx, rfl⟩, ⟨⟨u', ?_⟩, ?_⟩, fun b hb => ?_⟩
    · exact (by simpa using he2)
    · obtain ⟨o, q, r⟩ := hit1.1
      exact ⟨o, (sb2.2 it (Ne.symm hne)).trans q, r⟩
    · have hb : b = e ∨ b = it := by simpa using hb
      rcases hb with z | z
      · rw [z, upd_ne (Nat.ne_of_lt hel)]; exact f0
      · rw [z, upd_ne (Nat.ne_of_lt hil)]; exact g0
  done := by
    intro X hP hw hK hc i pins s σ H E I hf st hg
    subst hP hw hK
    obtain ⟨⟨old, he⟩, hit⟩ := st
    obtain ⟨xs, hq, hx⟩ := hg
    obtain ⟨its, rv, p, hz⟩ := I.tuple hq
    obtain ⟨g0, g1, g2, g3, g4, g5⟩ := hf it (by simp)
    have hl := rv.length
    have hT : s.TypeIs (.ref e) "enumerate" := ⟨_, he, rfl⟩
    unfold pyNext
    refine wpAny_bind (wpAny_attempt (wpAny_callSpecial?_slot (name := Str.ofString "__next__") hT F.slot_enumerate_next (wpAny_call_entry F.slot_enumerate_next hT F.entry_enumerate_next ?_ (F.args_enumerate_next_1 _))))
    show wpAny _ _ (field (.ref e) 2 >>= _) _ _ _
    refine wpAny_bind (wpAny_field he rfl (x := .ref it) rfl (wpAny_bind (nextT_end (I.ok.hd hc) hit p (by simp; omega) fun h' x he' hx' => ?_)))
    obtain ⟨o, ho, hc'⟩ := hx'
    refine wpAny_bind (wpAny_isInstance (T := "StopIteration") (b := true) ⟨o, ho, hc'⟩ isSubtype_stop ?_)
    exact wpAny_pure ⟨rfl, I.turned (t' := s.toks) (fun b o hb q => he' b o hb q) g0 g1 g3 g4 g5⟩
  self := fun _ _ _ _ _ st h => by
    obtain ⟨⟨old, he⟩, _⟩ := st
    exact wpAny_pyIter_enum he h
inductive EnmR (K : PySem.W.Frag) (H : Hp) : V → (It → Hp → Prop) → Prop
  | lst {a : Addr} {xs : List V} {R : It → Hp → Prop} : SqL K H a xs → R (Ite K a) H → EnmR K H (.ref a) R
  | tup {a : Addr} {xs : List V} {R : It → Hp → Prop} : SqT K H a xs → R (IteT K a) H → EnmR K H (.ref a) R
noncomputable def iEnumX (K : PySem.W.Frag) (ta : TA) : TI := fun σ H R => ta σ H fun vs H1 => ∃ x, vs = [x] ∧ EnmR K H1 x R
theorem pi_enumX (K : PySem.W.Frag) {X : Cx} {elts : List Expr} {k : Nat} {tp : Pos} {a : Expr} {ta : TA} {p pos : Pos} (hg : Gl X "enumerate") (hm : X.mg "enumerate" = none) (ha : PA X [a] ta) (hs : starEach [a] X.env = [(false, eval a X.env)] := by rfl) (hK : X.K = K := by rfl) :
    PI X (.Tuple elts k tp) (.Call (.Name "enumerate" p) [a] [] pos) (iEnumX K ta) := by
  subst hK
  intro pins s σ H R I h
  refine Call_ (ld_blt I hg hm boot_enumerate (PyProof.Rows.callWith_type1 (thn (ha pos pins s σ H _ I h) fun us s1 ⟨vs, H1, I1, r1, q1⟩ => ?_) hs rfl))
  obtain ⟨x, e, q⟩ := q1
  subst e
  obtain ⟨u, rfl, ru⟩ := vals1 r1
  have fin : ∀ b, b = s1.heap.objs.size + 1 ∨ b = s1.heap.objs.size → FpOk X pins H1 b := fun b hb => by
    rcases hb with z | z
    · subst z; exact I1.fpOk (Nat.le_succ _) (I1.hok.fresh (Nat.le_succ _))
    · subst z; exact I1.fpOk (Nat.le_refl _) (I1.hok.fresh (Nat.le_refl _))
  cases q with
  | lst hq q =>
    cases ru
    obtain ⟨its, rv, pl, hz⟩ := I1.list hq
    refine call_enumerate_list pl.isList fun h' he hit hz' k' => wpAny_pyIter_enum (s := { s1 with heap := h' }) he ?_
    exact ⟨_, [s1.heap.objs.size + 1, s1.heap.objs.size], _, _, H1, rfl, I1.kept (t' := s1.toks) k', turn_enum _ _ _ (Nat.succ_ne_self _), ⟨⟨_, he⟩, hit⟩, fun b hb => fin b (by simpa using hb), q⟩
  | tup hq q =>
    cases ru
    obtain ⟨its, rv, pl, hz⟩ := I1.tuple hq
    refine call_enumT pl fun h' he hit k' => wpAny_pyIter_enum (s := { s1 with heap := h' }) he ?_
    exact ⟨_, [s1.heap.objs.size + 1, s1.heap.objs.size], _, _, H1, rfl, I1.kept (t' := s1.toks) k', turn_enumT _ _ _ (Nat.succ_ne_self _), ⟨⟨_, he⟩, hit⟩, fun b hb => fin b (by simpa using hb), q⟩
theorem for_enumT {K : PySem.W.Frag} {a : Addr} {xs : List V} {g : TG} {tb : TS} {D : Ends} {σ : St} {H : Hp} (Pv : Nat → St → Hp → Prop) (h0 : Pv 0 σ H) (hl : ∀ i σ H, i ≤ xs.length → Pv i σ H → SqT K H a xs)
    (hs : ∀ i x σ H p, xs[i]? = some x → Pv i σ H → H p = none → g (.ref p) σ (upd H p (.tup [.int i, x])) fun σ2 H2 => tb { D with nx := Pv (i + 1), ct := Pv (i + 1), bk := D.nx } σ2 H2) (hd : ∀ σ H, Pv xs.length σ H → D.nx σ H) :
    ∃ W : Nat → Nat → St → Hp → Prop, (∃ m, W 0 m σ H) ∧ ∀ i m σ H, W i m σ H →
      ((IteT K a).stop i H ∧ D.nx σ H) ∨ ((IteT K a).go i H ∧ ∃ N : St → Hp → Prop, (∀ σ' H', N σ' H' → ∃ m', m' < m ∧ W (i + 1) m' σ' H') ∧ ∀ x H', (IteT K a).yld i H x H' → g x σ H' fun σ2 H2 => tb { D with nx := N, ct := N, bk := D.nx } σ2 H2) := by
  refine ⟨fun i m σ H => m = xs.length - i ∧ i ≤ xs.length ∧ Pv i σ H, ⟨xs.length, by simp, Nat.zero_le _, h0⟩, ?_⟩
  rintro i m σ H ⟨rfl, hi, p⟩
  have q := hl i σ H hi p
  by_cases hlt : i < xs.length
  · refine .inr ⟨⟨xs, xs[i], q, by simp [hlt]⟩, Pv (i + 1), fun σ' H' p' => ⟨xs.length - (i + 1), by omega, rfl, hlt, p'⟩, fun x H' y => ?_⟩
    obtain ⟨r, z, hr, rfl, hz, rfl⟩ := y
    exact hs i z σ H r (hz xs q) p hr
  · have e : i = xs.length := by omega
    subst e
    exact .inl ⟨⟨xs, q, Nat.le_refl _⟩, hd σ H p⟩
end L2
namespace L2
open PySem PySem.Spec PyProof.Rows
inductive Thg (H : Hp) : V → Prop
  | non : Thg H .non
  | bl (b : Bool) : Thg H (.bl b)
  | int (i : Int) : Thg H (.int i)
  | str {z : Str} : z.length ≤ sizeLine → Thg H (.str z)
  | lst {a : Addr} {xs : List V} : H a = some (.lst xs) → Thg H (.ref a)
  | tup {a : Addr} {xs : List V} : H a = some (.tup xs) → Thg H (.ref a)
  | dK {a : Addr} {kvs : List (Key × V)} : H a = some (.dK kvs) → Thg H (.ref a)
  | dT {a : Addr} {kvs : List (List Key × V)} : H a = some (.dT kvs) → Thg H (.ref a)
theorem Thg.same {H H' : Hp} {x : V} (h : Thg H x) (s : Same H H') : Thg H' x := by
  cases h with
  | non => exact .non
  | bl b => exact .bl b
  | int i => exact .int i
  | str z => exact .str z
  | lst e => exact .lst (s _ _ e)
  | tup e => exact .tup (s _ _ e)
  | dK e => exact .dK (s _ _ e)
  | dT e => exact .dT (s _ _ e)
noncomputable def isS : V → Bool
  | .str _ => true
  | _ => false
noncomputable def isI : V → Bool
  | .int _ | .bl _ => true
  | _ => false
noncomputable def isB : V → Bool
  | .bl _ => true
  | _ => false
noncomputable def isL (H : Hp) : V → Bool
  | .ref a => match H a with
    | some (.lst _) => true
    | _ => false
  | _ => false
noncomputable def isT (H : Hp) : V → Bool
  | .ref a => match H a with
    | some (.tup _) => true
    | _ => false
  | _ => false
theorem isL_of {H : Hp} {a : Addr} {xs : List V} (e : H a = some (.lst xs)) : isL H (.ref a) = true := by show (match H a with | some (.lst _) => true | _ => false) = true; rw [e]
theorem isT_of {H : Hp} {a : Addr} {xs : List V} (e : H a = some (.tup xs)) : isT H (.ref a) = true := by show (match H a with | some (.tup _) => true | _ => false) = true; rw [e]
theorem isL_not {H : Hp} {a : Addr} {o : HO} (e : H a = some o) (n : ∀ xs, o ≠ .lst xs) : isL H (.ref a) = false := by
  show (match H a with | some (.lst _) => true | _ => false) = false
  rw [e]; split
  · rename_i xs q; exact absurd (Option.some.inj q) (n xs)
  · rfl
theorem isT_not {H : Hp} {a : Addr} {o : HO} (e : H a = some o) (n : ∀ xs, o ≠ .tup xs) : isT H (.ref a) = false := by
  show (match H a with | some (.tup _) => true | _ => false) = false
  rw [e]; split
  · rename_i xs q; exact absurd (Option.some.inj q) (n xs)
  · rfl
theorem ty_thg {K : PySem.W.Frag} {H : Hp} {x : V} (h : Thg H x) : ∃ t, TyOf K H x t ∧ PySem.W.kitOne K t (.type "str") = some (isS x) ∧ PySem.W.kitOne K t (.type "int") = some (isI x) ∧ PySem.W.kitOne K t (.type "bool") = some (isB x) ∧
    PySem.W.kitOne K t (.type "list") = some (isL H x) ∧ PySem.W.kitOne K t (.type "tuple") = some (isT H x) := by
  cases h with
  | non => exact ⟨_, .non, by rfl, by rfl, by rfl, by rfl, by rfl⟩
  | bl b => exact ⟨_, .bl b, by rfl, by rfl, by rfl, by rfl, by rfl⟩
  | int i => exact ⟨_, .int i, by rfl, by rfl, by rfl, by rfl, by rfl⟩
  | str z => exact ⟨_, .str _, by rfl, by rfl, by rfl, by rfl, by rfl⟩
  | lst e => exact ⟨_, .lst e, by rfl, by rfl, by rfl, by rw [isL_of e]; rfl, by rw [isT_not e (fun _ z => by cases z)]; rfl⟩
  | tup e => exact ⟨_, .tup e, by rfl, by rfl, by rfl, by rw [isL_not e (fun _ z => by cases z)]; rfl, by rw [isT_of e]; rfl⟩
  | dK e => exact ⟨_, .dK e, by rfl, by rfl, by rfl, by rw [isL_not e (fun _ z => by cases z)]; rfl, by rw [isT_not e (fun _ z => by cases z)]; rfl⟩
  | dT e => exact ⟨_, .dT e, by rfl, by rfl, by rfl, by rw [isL_not e (fun _ z => by cases z)]; rfl, by rw [isT_not e (fun _ z => by cases z)]; rfl⟩
noncomputable def isLow (c : Nat) : Bool := decide (97 ≤ c) && decide (c ≤ 122)
noncomputable def isNm : V → Bool
  | .str z => decide (1 ≤ z.length) && (decide (z.length ≤ 8) && z.cps.toList.all isLow)
  | _ => false
theorem isNm_iff {z : Str} : isNm (.str z) = true ↔ Nm z := by
  show (decide (1 ≤ z.length) && (decide (z.length ≤ 8) && z.cps.toList.all isLow)) = true ↔ _
  rw [Bool.and_eq_true, Bool.and_eq_true, decide_eq_true_iff, decide_eq_true_iff, List.all_eq_true]
  unfold Nm
  constructor
  · rintro ⟨h1, h2, h3⟩
    refine ⟨h1, h2, fun c hc => ?_⟩
    have h := h3 c hc
    unfold isLow at h
    rw [Bool.and_eq_true, decide_eq_true_iff, decide_eq_true_iff] at h
    exact h
  · rintro ⟨h1, h2, h3⟩
    refine ⟨h1, h2, fun c hc => ?_⟩
    unfold isLow
    rw [Bool.and_eq_true, decide_eq_true_iff, decide_eq_true_iff]
    exact h3 c hc
theorem lt_one (c d : Nat) : decide ([c] < [d]) = decide (c < d) := by
  by_cases h : c < d
  · rw [decide_eq_true h]; exact decide_eq_true (List.Lex.rel h)
  · rw [decide_eq_false h]
    refine decide_eq_false fun z => ?_
    cases z with
    | rel z => exact h z
    | cons z => cases z
noncomputable def spIsName : Sp := fun vs H Q _ => ∃ x, vs = [x] ∧ Thg H x ∧ ∀ H', Same H H' → Q (.bl (isNm x)) H'
noncomputable def pK (e : Str × Str) : List Key := [.inr e.1, .inr e.2]
theorem pK_inj {e f : Str × Str} (h : pK e = pK f) : e = f := by
  unfold pK at h
  have h1 := List.cons.inj h
  have h2 := List.cons.inj h1.2
  exact Prod.ext (Sum.inr.inj h1.1) (Sum.inr.inj h2.1)
inductive PlR (H : Hp) : V → VK → Prop
  | nm {a : Addr} {xs : List Str} {Q : VK} : (H a = some (.lst (List.map V.str xs)) ∨ H a = some (.tup (List.map V.str xs))) → xs.length ≤ 1000 →
      (∀ d kvs H', Same H H' → H d = none → H' d = some (.dK kvs) → (∀ s, (valV kvs (.inr s)).isSome = true ↔ s ∈ xs) → (∀ s v, valV kvs (.inr s) = some v → ∃ j : Nat, v = .int j ∧ xs[j]? = some s) → (kvs.map (·.1)).Nodup → (∀ k ∈ kvs.map (·.1), ∃ s ∈ xs, k = Sum.inr s) → Q (.ref d) H') → PlR H (.ref a) Q
  | pr {a : Addr} {refs : List V} {ps : List (Str × Str)} {Q : VK} : (H a = some (.lst refs) ∨ H a = some (.tup refs)) → RepAll H refs (ps.map pairD) → ps.length ≤ 1000 →
      (∀ d kvs H', Same H H' → H d = none → H' d = some (.dT kvs) → (∀ e : Str × Str, (valV kvs (pK e)).isSome = true ↔ e ∈ ps) → Q (.ref d) H') → PlR H (.ref a) Q
noncomputable def spPlacesX : Sp := fun vs H Q _ => ∃ x, vs = [x] ∧ PlR H x Q
section
variable {X : Cx} {p pos p2 pos2 : Pos} {e f : Expr} {t : TA}
inductive IntR (H : Hp) : V → VK → Prop
  | int {i : Int} {Q : VK} : Q (.int i) H → IntR H (.int i) Q
  | bl {b : Bool} {Q : VK} : Q (.int (if b then 1 else 0)) H → IntR H (.bl b) Q
theorem b_int (B : Blt X.mg) (ha : PA X [e] t) (hg : Gl X "int" := by rfl) (he : starEach [e] X.env = (false, eval e X.env) :: starEach [] X.env := by rfl) (hpl : (backTo pos (starEach [] X.env)).any (·.1) = false := by rfl) :
    PE X (.Call (.Name "int" p) [e] [] pos) (tCB (fun xs H Q => ∃ x, xs = [x] ∧ IntR H x Q) t) := by
  refine pe_callTy (r := fun xs H Q => ∃ x, xs = [x] ∧ IntR H x Q) (fun pins s σ H xs us Q I r h => ?_) hg B.int PyProof.Rows.boot_int ha (by decide) (by decide) he hpl
  obtain ⟨x, rfl, h⟩ := h
  cases h with
  | int q => exact call_int1 pins s σ H _ us Q I r (.inl ⟨_, rfl, q⟩)
  | bl q => exact call_int1 pins s σ H _ us Q I r (.inr ⟨_, rfl, q⟩)
theorem g_tuple (B : Blt X.mg) (hg : Gl X "tuple" := by rfl) : PE X (.Name "tuple" p) (tC (.ty "tuple")) := pe_bltn hg B.tuple (show bootBuiltins "tuple" = some (.type "tuple") by decide +kernel) rfl
noncomputable def rIsi2 (K : PySem.W.Frag) (c d : String) : List V → Hp → VK → Prop := fun xs H Q => ∃ x a t b, xs = [x, .ref a] ∧ H a = some (.tup [.ty c, .ty d]) ∧ TyOf K H x t ∧ PySem.W.kitAny K t [.type c, .type d] = some b ∧ Q (.bl b) H
theorem isinst_tup {pins : List (Addr × Obj)} {σ : St} {H : Hp} {s : Shared} {A : Around} {E : Value → Shared → Prop} {Q : Value → Shared → Prop} {x : V} {u t : Value} {tp : Addr} {dd : Option Addr} {its : List Value} {n : Nat} {sl : Array (Option Value)} {b : Bool}
    (I : Inv X pins σ H s) (rx : RelV x u) (ty : TyOf X.K H x t) (htp : s.heap.get? tp = some ⟨.type "tuple", dd, .seq its.toArray n, sl⟩) (e : PySem.W.kitAny X.K t its = some b) (h : ∀ tk, Q (.bool b) { s with toks := tk }) :
    wpAny (model X.prog X.w) A (call (.builtin "isinstance") [u, .ref tp]) Q E s := by
  cases ty with
  | non => cases (show u = Value.none from rx); exact PySem.W.kia_tup PySem.W.kitx_none I.kIn True.intro htp e (fun z => nomatch z) h
  | bl y => cases (show u = Value.bool y from rx); exact PySem.W.kia_tup PySem.W.kitx_bool I.kIn True.intro htp e (fun z => nomatch z) h
  | int i => obtain ⟨t, q⟩ := (show ∃ t, u = Value.int i t from rx); cases q; exact PySem.W.kia_tup PySem.W.kitx_int I.kIn True.intro htp e (fun z => nomatch z) h
  | str y => obtain ⟨t, q⟩ := (show ∃ t, u = Value.str y t from rx); cases q; exact PySem.W.kia_tup PySem.W.kitx_str I.kIn True.intro htp e (fun z => nomatch z) h
  | flt y => obtain ⟨t, q⟩ := (show ∃ t, u = Value.float y t from rx); cases q; exact PySem.W.kia_tup PySem.W.kitx_float I.kIn True.intro htp e (fun z => nomatch z) h
  | @lst a xs ea =>
    cases (show u = Value.ref a from rx)
    obtain ⟨_, _, n, _, h1⟩ := (show ObjOk X.prog X.w H s.heap a (.lst xs) from I.hok a _ ea)
    exact PySem.W.kia_tup PySem.W.kitx_list I.kIn ⟨_, h1, rfl⟩ htp e (fun z => nomatch z) h
  | @frz a ob xs ea =>
    cases (show u = Value.ref a from rx)
    obtain ⟨_, _, _, n, _, h1⟩ := (show ObjOk X.prog X.w H s.heap a (.frz ob (.lst xs)) from I.hok a _ ea)
    exact PySem.W.kia_tup PySem.W.kitx_list I.kIn ⟨_, h1, rfl⟩ htp e (fun z => nomatch z) h
  | @tup a xs ea =>
    cases (show u = Value.ref a from rx)
    obtain ⟨_, _, _, p⟩ := (show ObjOk X.prog X.w H s.heap a (.tup xs) from I.hok a _ ea)
    obtain ⟨o, h1, h2, _⟩ := p
    exact PySem.W.kia_tup PySem.W.kitx_tuple I.kIn ⟨o, h1, h2⟩ htp e (fun z => nomatch z) h
  | @dK a kvs ea =>
    cases (show u = Value.ref a from rx)
    obtain ⟨_, _, vs, _, p⟩ := (show ObjOk X.prog X.w H s.heap a (.dK kvs) from I.hok a _ ea)
    obtain ⟨o, es, ep, h1, h2, _⟩ := p
    exact PySem.W.kia_tup PySem.W.kitx_dict I.kIn ⟨o, h1, h2.1⟩ htp e (fun z => nomatch z) h
  | @dT a kvs ea =>
    cases (show u = Value.ref a from rx)
    obtain ⟨_, _, xs, _, o, es, ep, h1, h2, _⟩ := (show ObjOk X.prog X.w H s.heap a (.dT kvs) from I.hok a _ ea)
    exact PySem.W.kia_tup PySem.W.kitx_dict I.kIn ⟨o, h1, h2.1⟩ htp e (fun z => nomatch z) h
  | @ins a C dx fs ea cl ha hn htk hm =>
    cases (show u = Value.ref a from rx)
    obtain ⟨mA, O, _⟩ := ins_get I.hok ea
    obtain ⟨od, J, _⟩ := O.look
    exact PySem.W.kia_tup (PySem.W.kitx_own (cl.get _) cl.hd ha hn htk hm) I.kIn J htp e (fun z => nomatch z) h
theorem call_isi2 (c d : String) : CallR X (.builtin "isinstance") (rIsi2 X.K c d) := by
  intro pins s σ H xs us Q I r h
  obtain ⟨x, a, t, b, rfl, ea, ty, e, q⟩ := h
  obtain ⟨u, w', rfl, ru, rw'⟩ := vals2 r
  cases rw'
  obtain ⟨_, its, rv, ⟨oc, od, odt, osl⟩, h1, h2, n, h3, _⟩ := (show ObjOk X.prog X.w H s.heap a (.tup [.ty c, .ty d]) from I.hok a _ ea)
  have h2 : oc = .type "tuple" := h2
  have h3 : odt = .seq its.toArray n := h3
  subst h2 h3
  obtain ⟨u1, u2, rfl, r1, r2⟩ := vals2 rv
  cases r1
  cases r2
  exact isinst_tup I ru ty h1 e fun tk => ⟨.bl b, H, I.tok tk, rfl, q⟩
theorem b_isi2 (K : PySem.W.Frag) (c d : String) (B : Blt X.mg) (ha : PA X [e, f] t) (hg : Gl X "isinstance" := by rfl) (he : starEach [e, f] X.env = (false, eval e X.env) :: starEach [f] X.env := by rfl) (hpl : (backTo pos (starEach [f] X.env)).any (·.1) = false := by rfl) (hK : X.K = K := by rfl) : PE X (.Call (.Name "isinstance" p) [e, f] [] pos) (tCB (rIsi2 K c d) t) :=
  hK ▸ pe_callB (call_isi2 c d) hg B.isinstance boot_isinstance ha (by decide) (by decide) he hpl
end
theorem kit_lt {K : PySem.W.Frag} {H : Hp} {x : V} {t : Value} (h1 : PySem.W.kitOne K t (.type "list") = some (isL H x)) (h2 : PySem.W.kitOne K t (.type "tuple") = some (isT H x)) : PySem.W.kitAny K t [.type "list", .type "tuple"] = some (isL H x || isT H x) := by
  unfold PySem.W.kitAny
  rw [h1]
  cases isL H x with
  | true => rfl
  | false =>
    show PySem.W.kitAny K t [.type "tuple"] = _
    unfold PySem.W.kitAny
    rw [h2]
    cases isT H x <;> rfl
end L2
namespace MG
variable {es : List (Nat × Nat)} {goal : Nat}
end MG
namespace L2
open PySem PySem.Spec PyProof.Rows
section
variable {X : Cx} {p pos : Pos} {e : Expr} {t : TA}
noncomputable def rLenD : List V → Hp → VK → Prop := fun xs H Q => ∃ a kvs, xs = [V.ref a] ∧ H a = some (.dK kvs) ∧ Q (.int kvs.length) H
theorem b_lenD (B : Blt X.mg) (ha : PA X [e] t) (hg : Gl X "len" := by rfl) (he : starEach [e] X.env = (false, eval e X.env) :: starEach [] X.env := by rfl) (hpl : (backTo pos (starEach [] X.env)).any (·.1) = false := by rfl) : PE X (.Call (.Name "len" p) [e] [] pos) (tCB rLenD t) :=
  pe_callB call_lenD hg B.len PySem.boot_len ha (by decide) (by decide) he hpl
end
theorem eqv_str (x y : Str) : PyData.eqv (.str x) (.str y) = decide (x = y) := by
  show (x == y) = _
  by_cases h : x = y
  · subst h; simp
  · rw [decide_eq_false h]; simpa using h
theorem twice_of {α : Type} [DecidableEq α] : ∀ {l : List α}, ¬ l.Nodup → ∃ l1 a l2, l = l1 ++ a :: l2 ∧ a ∈ l2
  | [], h => absurd List.nodup_nil h
  | x :: l, h => by
    by_cases q : x ∈ l
    · exact ⟨[], x, l, rfl, q⟩
    · have h : ¬ l.Nodup := fun z => h (List.nodup_cons.mpr ⟨q, z⟩)
      obtain ⟨l1, a, l2, e, m⟩ := twice_of h
      exact ⟨x :: l1, a, l2, by rw [e]; rfl, m⟩
theorem len_keys {α : Type} [DecidableEq α] {ks ws : List α} (nd : ks.Nodup) (h1 : ∀ k ∈ ks, k ∈ ws) (h2 : ∀ w ∈ ws, w ∈ ks) : ks.length = ws.length ↔ ws.Nodup := by
  constructor
  · intro hl
    refine Classical.byContradiction fun hn => ?_
    obtain ⟨l1, a, l2, e, m⟩ := twice_of hn
    have := nd.length_le_of_subset (l₂ := l1 ++ l2) fun k hk => by
      have := h1 k hk
      rw [e] at this
      rcases List.mem_append.mp this with q | q
      · exact List.mem_append_left _ q
      · rcases List.mem_cons.mp q with q | q
        · rw [q]; exact List.mem_append_right _ m
        · exact List.mem_append_right _ q
    rw [hl, e, List.length_append, List.length_append, List.length_cons] at this
    omega
  · intro hw
    exact Nat.le_antisymm (nd.length_le_of_subset h1) (hw.length_le_of_subset h2)
theorem len_kvs {kvs : List (Key × V)} {ws : List Str} (nd : (kvs.map (·.1)).Nodup) (ks : ∀ k ∈ kvs.map (·.1), ∃ s ∈ ws, k = Sum.inr s) (hin : ∀ s, (valV kvs (.inr s)).isSome = true ↔ s ∈ ws) : kvs.length = ws.length ↔ ws.Nodup := by
  have h := len_keys (ks := kvs.map (·.1)) (ws := ws.map (Sum.inr : Str → Key)) nd (fun k hk => by
      obtain ⟨s, hs, rfl⟩ := ks k hk
      exact List.mem_map.mpr ⟨s, hs, rfl⟩) (fun k hk => by
      obtain ⟨s, hs, rfl⟩ := List.mem_map.mp hk
      obtain ⟨v, hv⟩ := Option.isSome_iff_exists.mp ((hin s).mpr hs)
      exact valV_in hv)
  rw [List.length_map, List.length_map] at h
  rw [h]
  constructor
  · intro q
    exact List.Pairwise.of_map (Sum.inr : Str → Key) (fun a b n e => n (by rw [e])) q
  · intro q
    exact List.Pairwise.map _ (fun a b n e => n (Sum.inr.inj e)) q
end L2
namespace L2
open PySem PySem.Spec PyProof.Rows PySem.Builtin PySem.Builtin.Str
theorem idx_len (i j n : Nat) : (strSliceIndices (some (i : Int)) (some (j : Int)) 1 n).length ≤ j - i := by
  unfold strSliceIndices sliceRange
  simp only [show (1 : Int) > 0 by decide, if_true, List.length_map, List.length_range]
  split <;> (try simp only [Int.ediv_one]) <;> (repeat' split) <;> (try simp only [List.length_map, List.length_range, Int.ediv_one, List.length_nil]) <;> omega
theorem slice_len (z : Str) (i j : Nat) : (Txt.slice z (some (i : Int)) (some (j : Int))).length ≤ j - i := by
  unfold Txt.slice
  have h := idx_len i j z.length
  split
  · rename_i q
    have q : (strSliceIndices (some (i : Int)) (some (j : Int)) 1 z.length).length = z.length := by simpa using q
    omega
  · show (List.filterMap _ _).toArray.size ≤ _
    rw [List.size_toArray]
    exact Nat.le_trans (List.length_filterMap_le _ _) h
theorem slice_to {z : Str} {j : Nat} (h : j ≤ z.length) : (Txt.slice z none (some (j : Int))).length = j := by
  have e : Txt.slice z none (some (j : Int)) = StrLaws.sliceText z none (some (j : Int)) := rfl
  rw [e, StrLaws.sliceText_to ⟨by omega, by simp [Str.length] at h ⊢; omega⟩]
  show (List.take _ _).toArray.size = j
  rw [List.size_toArray]
  simp [Str.length] at h ⊢
  omega
theorem slice_toL (z : Str) (j : Nat) : (Txt.slice z none (some (j : Int))).length ≤ j := by
  by_cases h : j ≤ z.length
  · exact Nat.le_of_eq (slice_to h)
  · exact Nat.le_trans (Txt.slice_le z _ _) (by omega)
theorem mid_inj {x y : Str} {c d : Nat} (h : (x ++ ⟨#[c]⟩ ++ y : Str) = x ++ ⟨#[d]⟩ ++ y) : c = d := by
  have h : (x.cps ++ #[c] ++ y.cps).toList = (x.cps ++ #[d] ++ y.cps).toList := congrArg (fun s : Str => s.cps.toList) h
  simp only [Array.toList_append, List.append_assoc, List.append_cancel_left_eq] at h
  simpa using h
theorem mid2_inj {x y : Str} {c d c' d' : Nat} (h : (x ++ ⟨#[c]⟩ ++ ⟨#[d]⟩ ++ y : Str) = x ++ ⟨#[c']⟩ ++ ⟨#[d']⟩ ++ y) : c = c' ∧ d = d' := by
  have h : (x.cps ++ #[c] ++ #[d] ++ y.cps).toList = (x.cps ++ #[c'] ++ #[d'] ++ y.cps).toList := congrArg (fun s : Str => s.cps.toList) h
  simp only [Array.toList_append, List.append_assoc, List.append_cancel_left_eq] at h
  simpa using h
noncomputable def Lo (t : Str) : Prop := ∀ x ∈ t.cps.toList, 97 ≤ x ∧ x ≤ 122
theorem Lo.nil : Lo "" := fun c hc => by
  have hc : c ∈ ("" : Str).cps.toList := hc
  rw [show ("" : Str).cps.toList = [] by decide +kernel] at hc
  cases hc
theorem Lo.one {c : Nat} (h : 97 ≤ c ∧ c ≤ 122) : Lo ⟨#[c]⟩ := fun d hd => by
  have : d = c := by simpa using hd
  omega
theorem Lo.app {x y : Str} (hx : Lo x) (hy : Lo y) : Lo (x ++ y) := fun c hc => by
  have hc : c ∈ (x.cps ++ y.cps).toList := hc
  rw [Array.toList_append] at hc
  rcases List.mem_append.mp hc with h | h
  · exact hx c h
  · exact hy c h
theorem Lo.slice {x : Str} (h : Lo x) (l u : Option Int) : Lo (Txt.slice x l u) := by
  unfold Txt.slice
  split
  · exact h
  · intro c hc
    have hc : c ∈ (List.filterMap (x.cps[·]?) (strSliceIndices l u 1 x.length)).toArray.toList := hc
    rw [List.toList_toArray] at hc
    obtain ⟨i, _, e⟩ := List.mem_filterMap.mp hc
    exact h c (by simpa using Array.mem_of_getElem? e)
theorem Lo.joinS {sep : Str} (hs : Lo sep) : ∀ {ys : List Str}, (∀ y ∈ ys, Lo y) → Lo (Str.join sep ys)
  | [], _ => fun c hc => by
    have hc : c ∈ (#[] : Array Nat).toList := hc
    simp at hc
  | [y], h => h y (by simp)
  | y :: z :: r, h => by
    show Lo (y ++ sep ++ Str.join sep (z :: r))
    exact ((h y (by simp)).app hs).app (Lo.joinS hs fun x hx => h x (List.mem_cons_of_mem _ hx))
theorem Lo.join {sep : Str} {ys : List Str} (hs : Lo sep) (h : ∀ y ∈ ys, Lo y) : Lo (Txt.join sep ys) := by
  unfold Txt.join
  rw [StrLaws.glued_eq_join]
  exact Lo.joinS hs h
theorem Lo.nm {z : Str} (h : Lo z) (h1 : 1 ≤ z.length) (h2 : z.length ≤ 8) : Nm z := ⟨h1, h2, h⟩
noncomputable def abc (j : Int) : Str := ⟨#[97 + j.toNat]⟩
theorem abc_lo {j : Int} (h0 : 0 ≤ j) (h1 : j < 26) : Lo (abc j) := Lo.one (by omega)
theorem abc_len (j : Int) : (abc j).length = 1 := rfl
theorem abc_at {j : Int} (h0 : 0 ≤ j) (h1 : j < 26) : atI ("abcdefghijklmnopqrstuvwxyz" : Str).cps.toList j = some (97 + j.toNat) := by
  obtain ⟨k, rfl⟩ := Int.eq_ofNat_of_zero_le h0
  have hk : k < 26 := by omega
  exact (by decide +kernel : ∀ k : Nat, k < 26 → atI ("abcdefghijklmnopqrstuvwxyz" : Str).cps.toList (k : Int) = some (97 + (k : Int).toNat)) k hk
theorem join_len {ys : List Str} (h : ∀ y ∈ ys, y.length = 1) : (Txt.join "" ys).length = ys.length := by
  have e0 : ("" : Str).length = 0 := by decide +kernel
  unfold Txt.join
  rw [size_glued, e0, Nat.mul_zero, Nat.add_zero]
  induction ys with
  | nil => rfl
  | cons y r ih =>
    have h1 := h y (by simp)
    have h2 := ih fun z hz => h z (List.mem_cons_of_mem _ hz)
    simp only [List.map_cons, List.sum_cons, List.length_cons]
    omega
theorem nodup_by {α : Type} (f : Nat → α) (m : Nat) (h : ∀ i j, i < j → j < m → f i ≠ f j) : ((List.range m).map f).Nodup := by
  rw [List.nodup_iff_pairwise_ne, List.pairwise_map]
  refine List.Pairwise.imp_of_mem ?_ (List.pairwise_lt_range (n := m))
  intro a b ha hb hab
  exact h a b hab (List.mem_range.mp hb)
theorem range_snoc {α : Type} (f : Nat → α) (i : Nat) : (List.range (i + 1)).map f = (List.range i).map f ++ [f i] := by rw [List.range_succ, List.map_append]; rfl
theorem mem_by {α : Type} {f : Nat → α} {m : Nat} {x : α} (h : x ∈ (List.range m).map f) : ∃ i, i < m ∧ x = f i := by
  obtain ⟨i, hi, e⟩ := List.mem_map.mp h
  exact ⟨i, List.mem_range.mp hi, e.symm⟩
theorem words_nd (ws : List Str) (hw : ws.Nodup) {i j : Nat} (hi : i < ws.length) (hj : j < ws.length) (h : ws.getD i "" = ws.getD j "") : i = j := by
  rw [List.getD_eq_getElem?_getD, List.getD_eq_getElem?_getD, List.getElem?_eq_getElem hi, List.getElem?_eq_getElem hj] at h
  exact (List.getElem_inj hw).mp h
theorem step_inj {M st c i j : Nat} (hc : Nat.Coprime st M) (hij : i < j) (hj : j < M) : (c + i * st) % M ≠ (c + j * st) % M := by
  intro h
  have h2 : M ∣ (c + j * st) - (c + i * st) := Nat.dvd_of_mod_eq_zero (Nat.sub_mod_eq_zero_of_mod_eq h.symm)
  have h3 : (c + j * st) - (c + i * st) = (j - i) * st := by rw [Nat.sub_mul]; omega
  rw [h3] at h2
  have h4 : M ∣ j - i := (Nat.Coprime.symm hc).dvd_of_dvd_mul_right h2
  have := Nat.le_of_dvd (by omega) h4
  omega
theorem cop_steps : ∀ m : Nat, m < 61 → 0 < m → ∀ st ∈ [61, 67, 71, 73, 79, 83], Nat.Coprime st (m * m) := by decide +kernel
theorem div_mod_inj {m c d : Nat} (h1 : c / m = d / m) (h2 : c % m = d % m) : c = d := by
  rw [← Nat.div_add_mod c m, ← Nat.div_add_mod d m, h1, h2]
theorem star_c {c : Const} {j : Nat} {p : Pos} {es : List Expr} {env : Env} : starEach (.Constant c j p :: es) env = (false, eval (.Constant c j p) env) :: starEach es env := rfl
end L2
namespace L2
open PySem PySem.Spec PyProof.Rows
noncomputable def SqA (H : Hp) (a : Addr) (xs : List V) : Prop := H a = some (.lst xs) ∨ H a = some (.tup xs)
theorem SqA.same {H H' : Hp} {a : Addr} {xs : List V} (h : SqA H a xs) (s : Same H H') : SqA H' a xs := by
  rcases h with h | h
  · exact .inl (s _ _ h)
  · exact .inr (s _ _ h)
theorem SqA.len {K : PySem.W.Frag} {H : Hp} {a : Addr} {xs : List V} (h : SqA H a xs) : LenV K (.ref a) H xs.length := by
  rcases h with h | h
  · exact .inl ⟨xs, .of h, rfl⟩
  · exact .inr ⟨xs, .of h, rfl⟩
theorem SqA.thg {H : Hp} {a : Addr} {xs : List V} (h : SqA H a xs) : Thg H (.ref a) := by
  rcases h with h | h
  · exact .lst h
  · exact .tup h
theorem SqA.lt {H : Hp} {a : Addr} {xs : List V} (h : SqA H a xs) : (isL H (.ref a) || isT H (.ref a)) = true := by
  rcases h with h | h
  · rw [isL_of h]; rfl
  · rw [isT_of h, Bool.or_true]
section
variable {X : Cx} {p pos p2 pos2 : Pos} {e f : Expr} {t : TA}
inductive TupR (K : PySem.W.Frag) (H : Hp) : V → VK → Prop
  | lst {a : Addr} {ys : List V} {Q : VK} : SqL K H a ys → (∀ l, H l = none → Q (.ref l) (upd H l (.tup ys))) → TupR K H (.ref a) Q
  | tup {a : Addr} {ys : List V} {Q : VK} : SqT K H a ys → Q (.ref a) H → TupR K H (.ref a) Q
theorem b_tupX (K : PySem.W.Frag) (B : Blt X.mg) (ha : PA X [e] t) (hg : Gl X "tuple" := by rfl) (he : starEach [e] X.env = (false, eval e X.env) :: starEach [] X.env := by rfl) (hpl : (backTo pos (starEach [] X.env)).any (·.1) = false := by rfl) (hK : X.K = K := by rfl) :
    PE X (.Call (.Name "tuple" p) [e] [] pos) (tCB (fun xs H Q => ∃ x, xs = [x] ∧ TupR K H x Q) t) := by
  subst hK
  refine pe_callTy (r := fun xs H Q => ∃ x, xs = [x] ∧ TupR X.K H x Q) (fun pins s σ H xs us Q I r h => ?_) hg B.tuple (show bootBuiltins "tuple" = some (.type "tuple") by decide +kernel) ha (by decide) (by decide) he hpl
  obtain ⟨x, rfl, h⟩ := h
  cases h with
  | lst h1 q => exact call_tuple_of pins s σ H _ us Q I r ⟨_, _, rfl, .inl ⟨h1, q⟩⟩
  | tup h1 q => exact call_tuple_of pins s σ H _ us Q I r ⟨_, _, rfl, .inr ⟨h1, q⟩⟩
end
end L2
namespace L2
open PySem PySem.Spec PyProof.Rows
theorem shownAll_map : ∀ ds : List PyData, PyData.shownAll ds = ds.map PyData.shown
  | [] => rfl
  | d :: ds => by
    show PyData.shown d :: PyData.shownAll ds = _
    rw [shownAll_map ds]; rfl
structure Sw (d : PyData) (n k : Nat) : Prop where
  lay : d.canLay0 = true
  sb : d.showable = true
  dp : d.depth ≤ k
  ln : d.shown.length ≤ n
theorem Sw.mono {d : PyData} {n k n' k' : Nat} (h : Sw d n k) (hn : n ≤ n') (hk : k ≤ k') : Sw d n' k' := ⟨h.lay, h.sb, Nat.le_trans h.dp hk, Nat.le_trans h.ln hn⟩
theorem Sw.all {n k : Nat} : ∀ {ds : List PyData}, (∀ d ∈ ds, Sw d n k) → PyData.canLayAll0 ds = true ∧ PyData.showableAll ds = true ∧ PyData.depthAll ds ≤ k
  | [], _ => ⟨rfl, rfl, Nat.zero_le _⟩
  | d :: ds, h => by
    obtain ⟨a, b, c⟩ := Sw.all fun x hx => h x (List.mem_cons_of_mem _ hx)
    have q := h d (by simp)
    refine ⟨?_, ?_, ?_⟩
    · show (PyData.canLay0 d && PyData.canLayAll0 ds) = true
      rw [q.lay, a]; rfl
    · show (PyData.showable d && PyData.showableAll ds) = true
      rw [q.sb, b]; rfl
    · show max (PyData.depth d) (PyData.depthAll ds) ≤ k
      have := q.dp
      omega
theorem Sw.list {n k : Nat} {ds : List PyData} (h : ∀ d ∈ ds, Sw d n k) : Sw (.list ds) (2 + ds.length * (n + 2)) (k + 1) := by
  obtain ⟨a, b, c⟩ := Sw.all h
  refine ⟨a, b, (by show PyData.depthAll ds + 1 ≤ k + 1; omega), ?_⟩
  show (listText (PyData.shownAll ds)).length ≤ _
  rw [shownAll_map]
  have h1 := textFrom_le (n := n) (ds.map PyData.shown) 0 "[" fun t ht => by
    obtain ⟨e, he, rfl⟩ := List.mem_map.mp ht
    exact (h e he).ln
  rw [List.length_map] at h1
  have h3 : (Str.ofString "[").length = 1 := rfl
  have h4 : (Str.ofString "]").length = 1 := rfl
  have h1 : (textFrom 0 (Str.ofString "[") (ds.map PyData.shown)).length ≤ (Str.ofString "[").length + ds.length * (n + 2) := h1
  show (textFrom 0 "[" (ds.map PyData.shown) ++ "]").length ≤ _
  rw [len_app]
  show (textFrom 0 (Str.ofString "[") (ds.map PyData.shown)).length + (Str.ofString "]").length ≤ _
  omega
theorem Sw.shw {d : PyData} {n k : Nat} (h : Sw d n k) (hk : k ≤ 16) (hn : n ≤ sizeLine) : Shw d := by
  have sh : shp d := by
    show (PyData.canLay0 d && decide (PyData.depth d ≤ 64)) = true
    have := h.dp
    rw [h.lay, decide_eq_true (by omega)]; rfl
  exact ⟨sh, h.sb, PyData.hasDict_of_canLay _ (SeqAt.canLay_of_shaped sh), Nat.le_trans h.dp hk, Nat.le_trans h.ln hn⟩
theorem Sw.nm {s : Str} (h : Nm s) : Sw (.str s) 82 0 := ⟨canLay_nm h, rfl, Nat.le_refl 0, h.repr⟩
theorem join_le {n : Nat} : ∀ (ts : List Str), (∀ t ∈ ts, t.length ≤ n) → (Str.join ", " ts).length ≤ ts.length * (n + 2)
  | [], _ => Nat.zero_le _
  | [y], h => by
    have := h y (by simp)
    show y.length ≤ 1 * (n + 2)
    omega
  | y :: z :: r, h => by
    have h1 := join_le (z :: r) fun t ht => h t (List.mem_cons_of_mem _ ht)
    have h2 := h y (by simp)
    have h3 : (Str.ofString ", ").length = 2 := rfl
    show (y ++ ", " ++ Str.join ", " (z :: r)).length ≤ ((z :: r).length + 1) * (n + 2)
    rw [len_app, len_app, Nat.succ_mul]
    show y.length + (Str.ofString ", ").length + _ ≤ _
    omega
theorem Sw.tuple {n k : Nat} {ds : List PyData} (h : ∀ d ∈ ds, Sw d n k) : Sw (.tuple ds) (3 + ds.length * (n + 2)) (k + 1) := by
  obtain ⟨a, b, c⟩ := Sw.all h
  refine ⟨a, b, (by show PyData.depthAll ds + 1 ≤ k + 1; omega), ?_⟩
  show (tupleText (PyData.shownAll ds)).length ≤ _
  rw [shownAll_map]
  have h1 := join_le (n := n) (ds.map PyData.shown) fun t ht => by
    obtain ⟨e, he, rfl⟩ := List.mem_map.mp ht
    exact (h e he).ln
  rw [List.length_map] at h1
  have h3 : (Str.ofString "(").length = 1 := rfl
  have h4 : ∀ b : Bool, (Str.ofString (if b then ",)" else ")" : String)).length ≤ 2 := by intro b; cases b <;> decide
  show (("(" : Str) ++ Str.join ", " (ds.map PyData.shown) ++ (if (ds.map PyData.shown).length == 1 then ",)" else ")" : String)).length ≤ _
  rw [len_app, len_app]
  have h5 := h4 ((ds.map PyData.shown).length == 1)
  show (Str.ofString "(").length + _ + (Str.ofString (if (ds.map PyData.shown).length == 1 then ",)" else ")" : String)).length ≤ _
  omega
theorem Sw.pair {e : Str × Str} (h1 : Nm e.1) (h2 : Nm e.2) : Sw (pairD e) 171 1 := Sw.tuple (n := 82) (k := 0) (ds := [.str e.1, .str e.2]) (fun d hd => by
  rcases List.mem_cons.mp hd with rfl | hd
  · exact Sw.nm h1
  · rw [List.mem_singleton.mp hd]; exact Sw.nm h2)
noncomputable def seqD (b : Bool) (ds : List PyData) : PyData := if b then .list ds else .tuple ds
theorem Sw.seq {n k m : Nat} {ds : List PyData} (b : Bool) (h : ∀ d ∈ ds, Sw d n k) (hm : ds.length ≤ m) : Sw (seqD b ds) (3 + m * (n + 2)) (k + 1) := by
  have := Nat.mul_le_mul_right (n + 2) hm
  cases b with
  | true => exact (Sw.list h).mono (by omega) (Nat.le_refl _)
  | false => exact (Sw.tuple h).mono (by omega) (Nat.le_refl _)
end L2
namespace L2
open PySem PySem.Spec PyProof.Rows
theorem cutV_to (xs : List V) (k : Nat) (h : k ≤ xs.length) : cutV xs none (some (k : Int)) = xs.take k := by
  unfold cutV
  rw [HT.sIx_nat, HT.sIx_none, Nat.min_eq_left h, List.drop_zero, Nat.sub_zero]
end L2
namespace MG
variable {α : Type}
end MG
namespace L2
open PySem PySem.Spec PyProof.Rows
namespace SP
open PySem.Builtin PySem.Builtin.Str PySem.StrLaws
noncomputable abbrev one (c : Nat) : Str := ⟨#[c]⟩
theorem sub_one (x : Str) (c i : Nat) : (i + (one c).length ≤ x.length ∧ subAt x (one c) i = true) ↔ x.cps.toList[i]? = some c := by
  rw [subAt_eq]
  have hn : x.cps.toList.length = x.length := by simp [Str.length]
  have h1 : (one c).length = 1 := rfl
  have h2 : (one c).cps.toList = [c] := rfl
  rw [h1, h2, ← hn]
  constructor
  · rintro ⟨a, b⟩
    have hi : i < x.cps.toList.length := by omega
    have b := eq_of_beq b
    rw [List.drop_eq_getElem_cons hi] at b
    have b : [x.cps.toList[i]] = [c] := by simpa using b
    rw [List.getElem?_eq_getElem hi, List.cons.inj b |>.1]
  · intro h
    obtain ⟨hi, e⟩ := List.getElem?_eq_some_iff.mp h
    refine ⟨by omega, ?_⟩
    rw [List.drop_eq_getElem_cons hi, e]
    simp
theorem occ_all (x : Str) (c limit : Nat) : ∀ (l : List Nat) (st : Array Nat × Nat), l.Pairwise (· < ·) → (∀ i ∈ l, st.snd ≤ i) → st.fst.size + l.length ≤ limit →
    ∀ j, j ∈ (forIn l st (occBody x (one c) x.length limit)).run.fst.toList ↔ j ∈ st.fst.toList ∨ (j ∈ l ∧ x.cps.toList[j]? = some c)
  | [], st, _, _, _, j => by
    have e : (forIn ([] : List Nat) st (occBody x (one c) x.length limit)).run = st := by simp [pure, Id.run]
    rw [e]
    simp
  | a :: l, st, hp, hf, hl, j => by
    rw [List.forIn_cons]
    unfold occBody
    have hp' := List.pairwise_cons.mp hp
    have ha : st.snd ≤ a := hf a (List.mem_cons_self ..)
    rw [List.length_cons] at hl
    by_cases hc : x.cps.toList[a]? = some c
    · obtain ⟨h1, h2⟩ := (sub_one x c a).mpr hc
      rw [if_pos ⟨⟨⟨by omega, ha⟩, h1⟩, h2⟩]
      have ih := occ_all x c limit l (st.fst.push a, a + (one c).length) hp'.2 (fun i hi => by have := hp'.1 i hi; show a + 1 ≤ i; omega) (by rw [Array.size_push]; omega) j
      refine ih.trans ?_
      rw [Array.toList_push, List.mem_append, List.mem_singleton, List.mem_cons]
      constructor
      · rintro ((h | rfl) | h)
        · exact .inl h
        · exact .inr ⟨.inl rfl, hc⟩
        · exact .inr ⟨.inr h.1, h.2⟩
      · rintro (h | ⟨rfl | h, h'⟩)
        · exact .inl (.inl h)
        · exact .inl (.inr rfl)
        · exact .inr ⟨h, h'⟩
    · rw [if_neg (fun h => hc ((sub_one x c a).mp ⟨h.1.2, h.2⟩))]
      have ih := occ_all x c limit l (st.fst, st.snd) hp'.2 (fun i hi => hf i (List.mem_cons_of_mem _ hi)) (by show st.fst.size + l.length ≤ limit; omega) j
      refine ih.trans ?_
      rw [List.mem_cons]
      constructor
      · rintro (h | h)
        · exact .inl h
        · exact .inr ⟨.inr h.1, h.2⟩
      · rintro (h | ⟨rfl | h, h'⟩)
        · exact .inl h
        · exact absurd h' hc
        · exact .inr ⟨h, h'⟩
theorem occ_mem (x : Str) (c j : Nat) : j ∈ occurrences x (one c) 0 x.length (x.length + 1) ↔ x.cps.toList[j]? = some c := by
  rw [occ_eq]
  have h := occ_all x c (x.length + 1) (List.range' 0 (x.length + 1 - 0)) (#[], 0) (List.pairwise_lt_range') (fun _ _ => Nat.zero_le _) (by simp) j
  refine h.trans ?_
  constructor
  · rintro (h | h)
    · simp at h
    · exact h.2
  · intro h
    refine .inr ⟨?_, h⟩
    have hn : x.cps.toList.length = x.length := by simp [Str.length]
    have := (List.getElem?_eq_some_iff.mp h).1
    rw [List.mem_range'_1]
    omega
theorem chain_ge {s sub : Str} {hi : Nat} (hs : 1 ≤ sub.length) : ∀ {a : Nat} {cuts : List Nat} {f : Nat}, ChainTo s sub hi a cuts f → ∀ j ∈ cuts, a ≤ j
  | a, [], f, _, j, hj => by cases hj
  | a, c :: r, f, h, j, hj => by
    rcases List.mem_cons.mp hj with rfl | hj
    · exact h.1
    · have h1 := chain_ge hs h.2.2 j hj
      have h2 := h.1
      omega
theorem sub_free (x : Str) (c a b : Nat) (h : ∀ i, a ≤ i → i < b → x.cps.toList[i]? ≠ some c) : c ∉ (strSub x a b).cps.toList := by
  rw [strSub_toList]
  intro hm
  obtain ⟨i, hi⟩ := List.getElem?_of_mem hm
  have hb : i < b - a := Classical.byContradiction fun z => by
    have := (List.getElem?_eq_some_iff.mp hi).1
    rw [List.length_take] at this
    omega
  rw [List.getElem?_take_of_lt hb, List.getElem?_drop] at hi
  exact h (a + i) (by omega) (by omega) hi
theorem parts_free (x : Str) (c : Nat) : ∀ (cuts : List Nat) (a f : Nat), ChainTo x (one c) x.length a cuts f → (∀ i, a ≤ i → x.cps.toList[i]? = some c → i ∈ cuts) → ∀ p ∈ partsFrom x 1 a cuts, c ∉ p.cps.toList
  | [], a, f, h, hall, p, hp => by
    rw [List.mem_singleton.mp hp]
    exact sub_free x c a _ fun i hi _ hc => by cases hall i hi hc
  | k :: r, a, f, h, hall, p, hp => by
    rcases List.mem_cons.mp hp with rfl | hp
    · refine sub_free x c a k fun i hi hk hc => ?_
      rcases List.mem_cons.mp (hall i hi hc) with e | e
      · omega
      · have := chain_ge (show 1 ≤ (one c).length from Nat.le_refl 1) h.2.2 i e
        have : (one c).length = 1 := rfl
        omega
    · refine parts_free x c r (k + 1) f h.2.2 (fun i hi hc => ?_) p hp
      rcases List.mem_cons.mp (hall i (by have := h.1; omega) hc) with e | e
      · omega
      · exact e
theorem split_free (x : Str) (c : Nat) (hc : c < 256) : ∀ p ∈ Txt.split x (one c), c ∉ p.cps.toList := by
  unfold Txt.split
  split
  · rename_i h
    rw [Bool.or_eq_true, decide_eq_true_iff, decide_eq_true_iff] at h
    intro p hp
    rw [List.mem_singleton.mp hp]
    rcases h with h | h
    · have h : x.length < 1 := h
      have hn : x.cps.toList.length = x.length := by simp [Str.length]
      intro hm
      have := List.length_pos_of_mem hm
      omega
    · have e : Builtin.Str.strKind (one c) = 1 := by
        unfold Builtin.Str.strKind
        rw [if_pos (by simp; exact hc)]
      rw [e] at h
      unfold Builtin.Str.strKind at h
      split at h
      · omega
      · split at h <;> omega
  · split
    · rename_i h1 h
      intro p hp
      rw [List.mem_singleton.mp hp]
      intro hm
      obtain ⟨i, hi⟩ := List.getElem?_of_mem hm
      have := (occ_mem x c i).mpr hi
      rw [List.isEmpty_iff.mp h] at this
      cases this
    · obtain ⟨f, h⟩ := occ_chain x (one c) (x.length + 1)
      rw [partsBetween_eq]
      exact parts_free x c _ 0 f h fun i _ hi => (occ_mem x c i).mpr hi
theorem split_ne (x y : Str) : Txt.split x y ≠ [] := by
  unfold Txt.split
  split
  · simp
  · split
    · simp
    · rw [partsBetween_eq]
      obtain ⟨p, r, e⟩ := partsFrom_ne x y.length 0 (occurrences x y 0 x.length (x.length + 1))
      rw [e]
      simp
theorem cut_inj {c : Nat} : ∀ {w v A B : List Nat}, c ∉ w → c ∉ v → w ++ c :: A = v ++ c :: B → w = v ∧ A = B
  | [], [], A, B, _, _, h => ⟨rfl, (List.cons.inj h).2⟩
  | [], y :: v, A, B, _, hv, h => absurd (List.mem_cons.mpr (.inl (List.cons.inj h).1)) hv
  | x :: w, [], A, B, hw, _, h => absurd (List.mem_cons.mpr (.inl (List.cons.inj h).1.symm)) hw
  | x :: w, y :: v, A, B, hw, hv, h => by
    obtain ⟨e, h⟩ := List.cons.inj h
    obtain ⟨e1, e2⟩ := cut_inj (fun z => hw (List.mem_cons_of_mem _ z)) (fun z => hv (List.mem_cons_of_mem _ z)) h
    exact ⟨by rw [e, e1], e2⟩
theorem str_eq {a b : Str} (h : a.cps.toList = b.cps.toList) : a = b := Str.ext' (Array.toList_inj.mp h)
theorem join_signs (c : Nat) (x y : Str) (r : List Str) : (Str.join (one c) (x :: y :: r)).cps.toList = x.cps.toList ++ c :: (Str.join (one c) (y :: r)).cps.toList := by
  show (x ++ one c ++ Str.join (one c) (y :: r)).cps.toList = _
  rw [cps_toList_append, cps_toList_append, List.append_assoc]
  rfl
theorem join_inj (c : Nat) : ∀ (ws vs : List Str), ws ≠ [] → vs ≠ [] → (∀ w ∈ ws, c ∉ w.cps.toList) → (∀ v ∈ vs, c ∉ v.cps.toList) → Str.join (one c) ws = Str.join (one c) vs → ws = vs
  | [], _, h, _, _, _, _ => absurd rfl h
  | _, [], _, h, _, _, _ => absurd rfl h
  | [w], [v], _, _, _, _, h => by
    have h : w = v := h
    rw [h]
  | [w], v :: z :: r, _, _, hw, _, h => by
    have h : w = Str.join (one c) (v :: z :: r) := h
    have := hw w (by simp)
    rw [h, join_signs] at this
    exact absurd (by simp) this
  | w :: z :: r, [v], _, _, _, hv, h => by
    have h : Str.join (one c) (w :: z :: r) = v := h
    have := hv v (by simp)
    rw [← h, join_signs] at this
    exact absurd (by simp) this
  | w :: z :: r, v :: z' :: r', _, _, hw, hv, h => by
    have h := congrArg (fun s : Str => s.cps.toList) h
    simp only [join_signs] at h
    obtain ⟨e1, e2⟩ := cut_inj (hw w (by simp)) (hv v (by simp)) h
    have := join_inj c (z :: r) (z' :: r') (by simp) (by simp) (fun x hx => hw x (List.mem_cons_of_mem _ hx)) (fun x hx => hv x (List.mem_cons_of_mem _ hx)) (str_eq e2)
    rw [str_eq e1, this]
theorem split_join (c : Nat) (hc : c < 256) (ws : List Str) (hne : ws ≠ []) (hw : ∀ w ∈ ws, c ∉ w.cps.toList) : Txt.split (Str.join (one c) ws) (one c) = ws :=
  join_inj c _ ws (split_ne _ _) hne (split_free _ c hc) hw (join_split _ _)
theorem split_len (x : Str) (y : Str) : (partsBetween x (occurrences x y 0 x.length (x.length + 1)) y.length).length ≤ x.length + 2 := by
  rw [length_partsBetween]
  have := occ_length_le x y 0 x.length (x.length + 1)
  omega
end SP
end L2
namespace L2
open PySem PySem.Spec PyProof.Rows
section
variable {X : Cx}
theorem vals_strsFrom : ∀ (ps : List Str) (k : Nat), Vals (ps.map V.str) (strsFrom k ps)
  | [], _ => .nil
  | p :: r, k => .cons ⟨_, rfl⟩ (vals_strsFrom r (k + 1))
noncomputable def rSplit : V → List V → Hp → VK → Prop := fun x xs H Q => ∃ z y, x = .str z ∧ xs = [.str y] ∧ (y.length == 0) = false ∧ z.length + 2 ≤ sizeLine ∧ ∀ l, H l = none → Q (.ref l) (upd H l (.lst (List.map V.str (Txt.split z y))))
theorem mt_split : MtR X "str.split" rSplit := by
  intro pins s σ H x xs v us Q I rx rv h
  obtain ⟨z, y, rfl, rfl, hy, hz, q⟩ := h
  obtain ⟨t, rfl⟩ := rx
  obtain ⟨u, rfl, ru⟩ := vals1 rv
  obtain ⟨t', rfl⟩ := ru
  have hfr : H s.heap.objs.size = none := I.hok.fresh (Nat.le_refl _)
  have hpl := SP.split_len z y
  have fin : ∀ (ps : List Str) (its : List Value) (k : Nat), ps = Txt.split z y → ps.length ≤ sizeLine → Vals (ps.map V.str) its → EP X pins σ Q (.ref s.heap.objs.size) { s with heap := s.heap.push { cls := .type "list", data := .seq its.toArray }, toks := k } := fun ps its k e hl r => by
    subst e
    exact ⟨.ref _, _, I.laid (a := s.heap.objs.size) (o := .lst (List.map V.str (Txt.split z y))) (t' := k) (fun _ _ q => Heap.get?_push_of_some _ q) (Nat.le_refl _) ⟨by rw [List.length_map]; exact hl, its, _, r, Heap.get?_push_size _ rfl⟩, rfl, q _ hfr⟩
  cases h1 : (decide (z.length < y.length) || decide (Builtin.Str.strKind z < Builtin.Str.strKind y))
  · cases hf : (Builtin.Str.occurrences z y 0 z.length (z.length + 1)).isEmpty
    · refine call_meets F.slot_str_split (typeIs_str _ _ _) F.entry_str_split (F.args_str_split_2 _ _) (meets_str_split_sep z y t t' h1 hy hf (by omega) (by omega)) ?_
      refine fin _ _ _ ?_ (by omega) (vals_strsFrom _ _)
      exact ((if_neg (ne_true_of_eq_false h1)).trans (if_neg (ne_true_of_eq_false hf))).symm
    · refine call_meets F.slot_str_split (typeIs_str _ _ _) F.entry_str_split (F.args_str_split_2 _ _) (meets_str_split_not_found z y t t' h1 hy hf) ?_
      exact fin [z] _ _ ((if_neg (ne_true_of_eq_false h1)).trans (if_pos hf)).symm (by show 1 ≤ sizeLine; decide) (.cons ⟨t, rfl⟩ .nil)
  · refine call_meets F.slot_str_split (typeIs_str _ _ _) F.entry_str_split (F.args_str_split_2 _ _) (meets_str_split_cannot_occur z y t t' h1) ?_
    exact fin [z] _ _ (if_pos h1).symm (by show 1 ≤ sizeLine; decide) (.cons ⟨t, rfl⟩ .nil)
theorem m_split (K : PySem.W.Frag) {o e : Expr} {to : TE} {t : TA} {apos cpos : Pos} (ho : PE X o to) (ha : PA X [e] t)
    (hbase : attributeBase o "split" X.env (eval o X.env) = eval o X.env := by rfl)
    (hfew : ((backTo cpos (starEach [e] X.env)).all (fun x => !x.1) && (backToKw cpos (keywordEach [] X.env)).all (fun x => x.1.isSome)
      && decide ([e].length + ([] : List Keyword).length + (if ([] : List Keyword).isEmpty then 0 else 1) < 30)) = true := by rfl)
    (hline : (apos.endLine == cpos.line) = true := by rfl) (hs : starEach [e] X.env = (false, eval e X.env) :: starEach [] X.env := by rfl) (hplain : (backTo cpos (starEach [] X.env)).any (·.1) = false := by rfl) (hK : X.K = K := by rfl) :
    PE X (.Call (.Attribute o "split" apos) [e] [] cpos) (tBM K "str" rSplit to t) := hK ▸ pe_bm PySem.F.plainAttrs_str PySem.F.slot_str_split PySem.F.type_str_split mt_split ho ha hbase hfew hline hs hplain
noncomputable def rJoinT (K : PySem.W.Frag) : V → List V → Hp → VK → Prop := fun x xs H Q => ∃ z p ys, x = .str z ∧ xs = [.ref p] ∧ SqT K H p (List.map V.str ys) ∧ (ys.map (·.length)).sum + ys.length * z.length ≤ 16777216 ∧ Q (.str (Txt.join z ys)) H
theorem mt_joinT : MtR X "str.join" (rJoinT X.K) := by
  intro pins s σ H x xs v us Q I rx rv h
  obtain ⟨z, p, ys, rfl, rfl, e, hz, q⟩ := h
  obtain ⟨t, rfl⟩ := rx
  obtain ⟨u, rfl, ru⟩ := vals1 rv
  cases ru
  obtain ⟨its, rv, pt, _⟩ := I.tuple e
  exact join_tuple (D := p) (items := its.toArray) pt (by simpa using strs_of rv) hz fun t' k => ⟨.str _, H, I.tok k, ⟨t', rfl⟩, q⟩
theorem m_joinT (K : PySem.W.Frag) {o e : Expr} {to : TE} {t : TA} {apos cpos : Pos} (ho : PE X o to) (ha : PA X [e] t)
    (hbase : attributeBase o "join" X.env (eval o X.env) = eval o X.env := by rfl)
    (hfew : ((backTo cpos (starEach [e] X.env)).all (fun x => !x.1) && (backToKw cpos (keywordEach [] X.env)).all (fun x => x.1.isSome)
      && decide ([e].length + ([] : List Keyword).length + (if ([] : List Keyword).isEmpty then 0 else 1) < 30)) = true := by rfl)
    (hline : (apos.endLine == cpos.line) = true := by rfl) (hs : starEach [e] X.env = (false, eval e X.env) :: starEach [] X.env := by rfl) (hplain : (backTo cpos (starEach [] X.env)).any (·.1) = false := by rfl) (hK : X.K = K := by rfl) :
    PE X (.Call (.Attribute o "join" apos) [e] [] cpos) (tBM K "str" (rJoinT K) to t) := hK ▸ pe_bm PySem.F.plainAttrs_str PySem.F.slot_str_join PySem.F.type_str_join mt_joinT ho ha hbase hfew hline hs hplain
end
theorem sumN_le {n : Nat} : ∀ (ys : List Str), (∀ y ∈ ys, y.length ≤ n) → (ys.map (·.length)).sum ≤ ys.length * n
  | [], _ => by simp
  | y :: r, h => by
    have h1 := sumN_le r fun t ht => h t (List.mem_cons_of_mem _ ht)
    have h2 := h y (by simp)
    rw [List.map_cons, List.sum_cons, List.length_cons, Nat.succ_mul]
    omega
noncomputable def headT (ss : List Str) : Str := Txt.join " " ("things" :: ss)
noncomputable def lineT (e : Str × Str) : Str := Txt.join " > " [e.1, e.2]
noncomputable def linesT (ss : List Str) (ts : List (Str × Str)) : List Str := headT ss :: ts.map lineT
noncomputable def webT (ss : List Str) (ts : List (Str × Str)) : Str := Txt.join "\n" (linesT ss ts)
theorem Nm.free {s : Str} (h : Nm s) {c : Nat} (hc : c < 97) : c ∉ s.cps.toList := fun z => by have := h.2.2 c z; omega
theorem join_eq (z : Str) (ys : List Str) : Txt.join z ys = Str.join z ys := StrLaws.glued_eq_join z ys
theorem line_eq (e : Str × Str) : lineT e = e.1 ++ (" > " : Str) ++ e.2 := by unfold lineT; rw [join_eq]; rfl
theorem sp_one : (" " : Str) = SP.one 32 := by decide
theorem nl_one : ("\n" : Str) = SP.one 10 := by decide
theorem line_words (e : Str × Str) : lineT e = Str.join (SP.one 32) [e.1, ">", e.2] := by
  rw [line_eq]
  apply SP.str_eq
  rw [SP.join_signs, SP.join_signs, cps_toList_append, cps_toList_append, List.append_assoc]
  rfl
theorem line_split {e : Str × Str} (h : Nm e.1 ∧ Nm e.2) : Txt.split (lineT e) " " = [e.1, ">", e.2] := by
  rw [line_words, sp_one]
  refine SP.split_join 32 (by decide) _ (by simp) fun w hw => ?_
  rcases List.mem_cons.mp hw with rfl | hw
  · exact h.1.free (by decide)
  · rcases List.mem_cons.mp hw with rfl | hw
    · decide
    · rw [List.mem_singleton.mp hw]; exact h.2.free (by decide)
theorem head_split {ss : List Str} (h : ∀ s ∈ ss, Nm s) : Txt.split (headT ss) " " = ("things" : Str) :: ss := by
  unfold headT
  rw [join_eq, sp_one]
  refine SP.split_join 32 (by decide) _ (by simp) fun w hw => ?_
  rcases List.mem_cons.mp hw with rfl | hw
  · decide
  · exact (h w hw).free (by decide)
theorem web_split {ss : List Str} {ts : List (Str × Str)} (h : ∀ s ∈ ss, Nm s) (ht : ∀ e ∈ ts, Nm e.1 ∧ Nm e.2) : Txt.split (webT ss ts) "\n" = linesT ss ts := by
  unfold webT linesT
  rw [join_eq, nl_one]
  refine SP.split_join 10 (by decide) _ (by simp) fun w hw => ?_
  rcases List.mem_cons.mp hw with rfl | hw
  · unfold headT
    rw [join_eq, mem_join]
    rintro (⟨t, hm, hc⟩ | ⟨_, hc⟩)
    · rcases List.mem_cons.mp hm with rfl | hm
      · exact absurd hc (by decide)
      · exact (h t hm).free (by decide) hc
    · exact absurd hc (by decide)
  · obtain ⟨e, he, rfl⟩ := List.mem_map.mp hw
    unfold lineT
    rw [join_eq, mem_join]
    rintro (⟨t, hm, hc⟩ | ⟨_, hc⟩)
    · rcases List.mem_cons.mp hm with rfl | hm
      · exact (ht e he).1.free (by decide) hc
      · rw [List.mem_singleton.mp hm] at hc
        exact (ht e he).2.free (by decide) hc
    · exact absurd hc (by decide)
theorem line_len {e : Str × Str} (h : Nm e.1 ∧ Nm e.2) : (lineT e).length ≤ 22 := by
  rw [line_eq, Str.length_append, Str.length_append]
  have h1 := h.1.2.1
  have h2 := h.2.2.1
  have h3 : (" > " : Str).length = 3 := by decide
  omega
theorem head_sum {ss : List Str} (h : ∀ s ∈ ss, Nm s) (hl : ss.length ≤ 60) : ((("things" : Str) :: ss).map (·.length)).sum + ((("things" : Str) :: ss)).length * (" " : Str).length ≤ 1000 := by
  have h1 := sumN_le (n := 8) (("things" : Str) :: ss) fun y hy => by
    rcases List.mem_cons.mp hy with rfl | hy
    · decide
    · exact (h y hy).2.1
  have h3 : (" " : Str).length = 1 := by decide
  rw [h3]
  have h4 : (("things" : Str) :: ss).length = ss.length + 1 := List.length_cons
  rw [h4] at h1 ⊢
  omega
theorem head_len {ss : List Str} (h : ∀ s ∈ ss, Nm s) (hl : ss.length ≤ 60) : (headT ss).length ≤ 1000 := Nat.le_trans (len_join _ _) (head_sum h hl)
theorem lines_sum {ss : List Str} {ts : List (Str × Str)} (h : ∀ s ∈ ss, Nm s) (hl : ss.length ≤ 60) (ht : ∀ e ∈ ts, Nm e.1 ∧ Nm e.2) (few : ts.length ≤ 401) : ((linesT ss ts).map (·.length)).sum + (linesT ss ts).length * ("\n" : Str).length ≤ 100000 := by
  have h0 := head_len h hl
  have h1 := sumN_le (n := 22) (ts.map lineT) fun y hy => by
    obtain ⟨e, he, rfl⟩ := List.mem_map.mp hy
    exact line_len (ht e he)
  have h3 : ("\n" : Str).length = 1 := by decide
  unfold linesT
  rw [h3, List.map_cons, List.sum_cons, List.length_cons, List.length_map]
  rw [List.length_map] at h1
  omega
theorem web_len {ss : List Str} {ts : List (Str × Str)} (h : ∀ s ∈ ss, Nm s) (hl : ss.length ≤ 60) (ht : ∀ e ∈ ts, Nm e.1 ∧ Nm e.2) (few : ts.length ≤ 401) : (webT ss ts).length ≤ 100000 := Nat.le_trans (len_join _ _) (lines_sum h hl ht few)
end L2
namespace MG
variable {es : List (Nat × Nat)} {goal : Nat}
end MG
set_option maxHeartbeats 400000
set_option maxHeartbeats 4000000
namespace L2
open PySem PySem.Spec PyProof.Rows
noncomputable def Mono (G : Hp → V → Prop) : Prop := ∀ H H' x, Same H H' → G H x → G H' x
end L2
namespace L2
open PySem PySem.Spec PyProof.Rows
theorem once {G T : Prop} (m : T → G) (t : T) : G := m t
end L2
namespace MG
noncomputable def mx : List Int → Int
  | [] => 0
  | x :: l => max x (mx l)
noncomputable def dp (es : List (Nat × Nat)) (W : Nat → Int) : Nat → Nat → Int
  | 0, _ => 0
  | k + 1, v => W v + mx ((es.filter fun e => decide (e.2 = v)).map fun e => dp es W k e.1)
end MG
namespace L2
open PySem PySem.Spec PyProof.Rows
noncomputable def XF (B : Heap) (l : List Env) (a : Addr) (c : Value) (dd : Option Addr) (fl : Value) (h : Heap) : Prop :=
  B.StaysIn h ∧ B.get? a = none ∧ h.FunFrames B l ∧ ∃ o vs T p ts, h.get? a = some o ∧ o.cls = c ∧ o.dict = dd ∧ o.data = .fields vs ∧ vs[1]? = some (.ref T) ∧ B.get? T = none ∧ T ≠ a ∧ h.get? T = some p ∧ p.data = .fields ts ∧ ts[3]? = some fl
theorem XF.there {B : Heap} {l : List Env} {a : Addr} {c fl : Value} {dd : Option Addr} {h : Heap} (x : XF B l a c dd fl h) : ∃ o, h.get? a = some o ∧ o.cls = c ∧ o.dict = dd := by
  obtain ⟨_, _, _, o, _, _, _, _, e, k1, k2, _⟩ := x
  exact ⟨o, e, k1, k2⟩
theorem XF.rec {B : Heap} {l : List Env} {a : Addr} {c fl : Value} {dd : Option Addr} {h : Heap} (x : XF B l a c dd fl h) : ∃ o vs, h.get? a = some o ∧ o.data = .fields vs := by
  obtain ⟨_, _, _, o, vs, _, _, _, e, _, _, k, _⟩ := x
  exact ⟨o, vs, e, k⟩
theorem XF.out {B : Heap} {e0 : Env} {l : List Env} {a : Addr} {c fl : Value} {dd : Option Addr} {h : Heap} (x : XF B (e0 :: l) a c dd fl h) : XF B l a c dd fl h := ⟨x.1, x.2.1, x.2.2.1.2.2, x.2.2.2⟩
theorem dict_map (f : Array Value → Array Value) (o : Obj) : (Obj.mapFields f o).dict = o.dict := by
  unfold Obj.mapFields
  split <;> rfl
section
variable {M : Model} {A : Around} {E : Value → Shared → Prop} {s : Shared} {B : Heap} {e0 : Env} {out : List Env} {a L : Addr} {Q : Unit → Shared → Prop}
theorem entryX {o : Obj} {vs : Array Value} {hd : Value} {b0 : Bool} (fr : A.frames = some (e0 :: out)) (ff : s.heap.FunFrames B (e0 :: out)) (fL : e0.frame = some L) (ea : s.heap.get? a = some o) (st : B.StaysIn s.heap) (na : B.get? a = none) (dv : o.data = .fields vs) (n1 : 1 < vs.size)
    (k : ∀ h', XF B (e0 :: out) a o.cls o.dict (rawInt L) h' → s.heap.UpToSlots h' → Q () { s with heap := h' }) :
    wpAny M A (do let f ← frameOf e0; let pl ← entryPlaceOf L b0; let b ← EntryCells.newEntry hd f .none (rawInt L) .none pl; setField (.ref a) 1 b) Q E s := by
  have nf : a ∉ (e0 :: out).filterMap (·.frame) := fun z => by
    obtain ⟨_, p, ep, q⟩ := ff.mem z
    exact q vs (Option.some.inj (ea.symm.trans ep) ▸ dv)
  refine wpAny_bind (wpAny_frameOf_fun fr ff fL fun g1 so => wpAny_bind (wpAny_entryPlaceOf fun pl ip => ?_))
  unfold EntryCells.newEntry newFields
  refine wpAny_bind (wpAny_newObj_type ?_ (ip.sizeOk5 _ _ _ _ _))
  generalize ep : ([hd, Value.ref L, Value.none, rawInt L, Value.none] ++ (if pl.isEmpty then List.replicate 6 Value.none else pl)).toArray = tv
  have t3 : tv[3]? = some (rawInt L) := by rw [← ep]; first | (simp; done) | (rcases ip with rfl | ⟨_, _, _, _, _, _, _, rfl⟩ <;> simp)
  have e1 : g1.get? a = some o := (so.2.1 a nf).trans ea
  have e2 := Heap.get?_push_of_some (h := g1) { cls := .type "traceback", dict := none, data := .fields tv } e1
  have nT : g1.objs.size ≠ a := Nat.ne_of_gt (Heap.lt_size e1)
  have dm := Obj.data_mapFields dv (·.setIfInBounds 1 (Value.ref g1.objs.size))
  have ot : ∀ b p, b ≠ a → g1.get? b = some p → ((g1.push { cls := .type "traceback", dict := none, data := .fields tv }).update a (Obj.mapFields (·.setIfInBounds 1 (Value.ref g1.objs.size)))).get? b = some p := fun b p nb eb => by
    rw [Heap.get?_update_other _ _ (Ne.symm nb)]
    exact Heap.get?_push_of_some _ eb
  have up : s.heap.UpToSlots ((g1.push { cls := .type "traceback", dict := none, data := .fields tv }).update a (Obj.mapFields (·.setIfInBounds 1 (Value.ref g1.objs.size)))) := fun b p eb q => by
    obtain ⟨sl, es⟩ := so.2.2 b p eb
    exact ⟨sl, ot b _ (fun z => q vs (Option.some.inj (ea.symm.trans (z ▸ eb)) ▸ dv)) es⟩
  refine wpAny_setField e2 dv n1 (k _ ?_ ?_)
  · have sg : B.StaysIn g1 := fun b p eb => (so.2.1 b fun z => by have := (ff.mem z).1; rw [eb] at this; cases this).trans (st b p eb)
    refine ⟨fun b p eb => ot b p (fun z => by rw [z, na] at eb; cases eb) (sg b p eb), na, ff.of_keeps fun b p eb q => ?_, _, _, g1.objs.size, { cls := .type "traceback", dict := none, data := .fields tv }, tv, Heap.get?_update_self _ e2 (Obj.isFreed_of_fields dm), Obj.cls_mapFields _ _, dict_map _ _, dm, by simp [n1], sg.fresh, nT, ?_, rfl, t3⟩
    · obtain ⟨sl, es⟩ := up b p eb q
      exact ⟨_, es, rfl⟩
    · rw [Heap.get?_update_other _ _ (Ne.symm nT)]
      exact Heap.get?_push_size g1 rfl
  · exact up
theorem flightX {c fl x : Value} {dd : Option Addr} {l : List Env} (X : XF B l a c dd fl s.heap) : ∃ T p ts, (∀ h', h' = s.heap.update T (Obj.mapFields (·.setIfInBounds 3 x)) → XF B l a c dd x h' ∧ s.heap.UpToSlots h') ∧
    s.heap.get? T = some p ∧ p.data = .fields ts ∧ ts[3]? = some fl ∧ ∃ o vs, s.heap.get? a = some o ∧ o.data = .fields vs ∧ vs[1]? = some (.ref T) := by
  obtain ⟨st, na, ff, o, vs, T, p, ts, ea, k1, k2, dv, v1, nT, ne, eT, dT, t3⟩ := X
  have l3 : 3 < ts.size := (Array.getElem?_eq_some_iff.mp t3).1
  refine ⟨T, p, ts, fun h' e => ?_, eT, dT, t3, o, vs, ea, dv, v1⟩
  have ot : ∀ b, b ≠ T → h'.get? b = s.heap.get? b := fun b nb => by rw [e]; exact Heap.get?_update_other _ _ (Ne.symm nb)
  have up : s.heap.UpToSlots h' := fun b u eb q => ⟨u.slots, (ot b fun z => q ts (Option.some.inj (eT.symm.trans (z ▸ eb)) ▸ dT)).trans eb⟩
  refine ⟨⟨fun b u eb => (ot b fun z => by rw [z, nT] at eb; cases eb).trans (st b u eb), na, ff.of_keeps fun b u eb q => ?_, o, vs, T, Obj.mapFields (·.setIfInBounds 3 x) p, ts.setIfInBounds 3 x, (ot a (Ne.symm ne)).trans ea, k1, k2, dv, v1, nT, ne, ?_, Obj.data_mapFields dT _, by simp [l3]⟩, up⟩
  · obtain ⟨sl, es⟩ := up b u eb q
    exact ⟨_, es, rfl⟩
  · rw [e]
    exact Heap.get?_update_self _ eT (Obj.isFreed_of_fields (Obj.data_mapFields dT _))
theorem landX {c fl : Value} {dd : Option Addr} {l : List Env} (X : XF B l a c dd fl s.heap) (k : ∀ h', XF B l a c dd .none h' → s.heap.UpToSlots h' → Q () { s with heap := h' }) : wpAny M A (setFlight (.ref a) none) Q E s := by
  obtain ⟨T, p, ts, z, eT, dT, t3, o, vs, ea, dv, v1⟩ := flightX (x := .none) X
  unfold setFlight
  refine wpAny_bind (wpAny_field ea dv v1 ?_)
  rw [if_pos (show (Value.ref T != Value.none) = true by simp)]
  obtain ⟨z1, z2⟩ := z _ rfl
  exact wpAny_setField eT dT (Array.getElem?_eq_some_iff.mp t3).1 (k _ z1 z2)
theorem noteX {c : Value} {dd : Option Addr} (fr : A.frames = some (e0 :: out)) (fL : e0.frame = some L) (X : XF B (e0 :: out) a c dd .none s.heap)
    (k : ∀ h', XF B (e0 :: out) a c dd (rawInt L) h' → s.heap.UpToSlots h' → Q () { s with heap := h' }) : wpAny M A (noteFrame (.ref a) e0) Q E s := by
  obtain ⟨T, p, ts, z, eT, dT, t3, o, vs, ea, dv, v1⟩ := flightX (x := .none) X
  unfold noteFrame
  simp only [fL]
  refine wpAny_bind (wpAny_field ea dv v1 ?_)
  rw [if_pos (show (Value.ref T != Value.none) = true by simp)]
  refine wpAny_bind (wpAny_field eT dT t3 ?_)
  rw [if_neg (show ¬ ((Value.none == rawInt L) = true) by simp [rawInt])]
  obtain ⟨z1, z2⟩ := z _ rfl
  refine wpAny_bind (wpAny_setField eT dT (Array.getElem?_eq_some_iff.mp t3).1 ?_)
  obtain ⟨q1, q2, q3, o', vs', T', p', ts', g1, g2, g3, g4, g5, _⟩ := z1
  subst g2 g3
  exact entryX (s := { s with heap := s.heap.update T (Obj.mapFields (·.setIfInBounds 3 Value.none)) }) fr q3 fL g1 q1 q2 g4 (Array.getElem?_eq_some_iff.mp g5).1 fun h' x y => k h' x (z2.trans y)
theorem leaveX0 {o : Obj} {vs : Array Value} (fr : A.frames = some (e0 :: out)) (ff : s.heap.FunFrames B (e0 :: out)) (fL : e0.frame = some L) (ea : s.heap.get? a = some o) (st : B.StaysIn s.heap) (na : B.get? a = none) (dv : o.data = .fields vs) (v1 : vs[1]? = some .none)
    (k : ∀ h', XF B out a o.cls o.dict .none h' → s.heap.UpToSlots h' → Q () { s with heap := h' }) : wpAny M A (leaving e0 (.ref a)) Q E s := by
  unfold leaving noteFrame
  simp only [fL]
  refine wpAny_bind (wpAny_bind (wpAny_field ea dv v1 ?_))
  rw [if_neg (by decide)]
  refine entryX fr ff fL ea st na dv (Array.getElem?_eq_some_iff.mp v1).1 fun h' x y => ?_
  exact landX (s := { s with heap := h' }) x fun h2 x2 y2 => k h2 x2.out (y.trans y2)
end
end L2
namespace L2
open PySem PySem.Spec PyProof.Rows
theorem ObjOk.obj {P : Program} {w : World} {H : Hp} {h : Heap} {a : Addr} {o : HO} (x : ObjOk P w H h a o) : ∃ ob, h.get? a = some ob := by
  cases o with
  | lst xs => obtain ⟨_, _, _, _, e⟩ := x; exact ⟨_, e⟩
  | tup xs => obtain ⟨_, _, _, ob, e, _⟩ := x; exact ⟨_, e⟩
  | dK kvs => obtain ⟨_, _, _, _, o, _, _, e, _⟩ := x; exact ⟨_, e⟩
  | dT kvs => obtain ⟨_, _, _, _, o, _, _, e, _⟩ := x; exact ⟨_, e⟩
  | set S n => obtain ⟨o, _, _, _, e, _⟩ := x; exact ⟨_, e⟩
  | ins C dx fs => obtain ⟨_, _, _, e, _⟩ := x; exact ⟨_, e⟩
  | own y => obtain ⟨_, e⟩ := x; exact ⟨_, e⟩
  | xd fs => obtain ⟨_, ⟨_, _, _, e, _⟩, _⟩ := x; exact ⟨_, e⟩
  | rng lo hi => obtain ⟨_, _, _, e⟩ := x; exact ⟨_, e⟩
  | frz ob u => obtain ⟨e, _⟩ := x; exact ⟨_, e⟩
  | tbl ps => exact ⟨_, (show h.get? a = some _ from x)⟩
  | met f y => exact ⟨_, (show h.get? a = some _ from x)⟩
  | ext φ => obtain ⟨_, e, _⟩ := x; exact e
noncomputable def CX1 (P : Program) (w : World) : CXT := fun outer H s E e s' =>
  ∃ (a : Addr) (cls : Value) (dd : Option Addr) (B : Heap) (H' : Hp), e = .ref a ∧ s'.os = s.os ∧ AllBare s'.gens ∧ Un (frs outer) [] H H' s.heap s'.heap ∧ HOk P w H' s'.heap ∧ XF B outer a cls dd .none s'.heap ∧ H' a = none ∧
    (∀ b u, H' b = some u → ∃ o, s'.heap.get? b = some o ∧ B.get? b = some o) ∧ (∀ b o, s.heap.get? b = some o → H b = none → b ∉ frs outer → B.get? b = some o) ∧ (∀ b o, s.heap.get? b = some o → b ∉ frs outer → ∃ o', B.get? b = some o') ∧ E cls dd H'
theorem raiseG {P : Program} {w : World} {K : PySem.W.Frag} {mg : Str → Option Value} {base : Heap} {N : List Str} {qual : Str} {scope : Scope} {f : Addr} {cd : Value} {A : Around} {outer : List Env} {s : Shared} {H : Hp} {E : XK} {pins : List (Addr × Obj)} {σ : St} {H1 : Hp} {s1 : Shared} {e : Addr} {oe : Obj} {vs : Array Value}
    (I : Inv (cxOf (CX1 P w) P w K mg base N qual scope f cd A outer s H E) pins σ H1 s1) (he : H1 e = none) (ge : s1.heap.get? e = some oe) (dv : oe.data = .fields vs) (v1 : vs[1]? = some .none) (new : s.heap.get? e = none) (q : E oe.cls oe.dict H1) :
    (cxOf (CX1 P w) P w K mg base N qual scope f cd A outer s H E).xe (.ref e) s1 := by
  show wpAny (model P w) (A.deeper (envOfC qual scope s.heap.objs.size f cd)) (leaving (envOfC qual scope s.heap.objs.size f cd) (.ref e)) (fun _ s'' => CX1 P w outer H s E (.ref e) s'') (fun e' s'' => CX1 P w outer H s E e' s'') s1
  have hin : ∀ env ∈ (envOfC qual scope s.heap.objs.size f cd :: outer), ∀ b, env.frame = some b → b ∈ e :: frs (envOfC qual scope s.heap.objs.size f cd :: outer) := fun env he b hb => List.mem_cons_of_mem _ (List.mem_filterMap.mpr ⟨env, he, hb⟩)
  refine leaveX0 (B := PySem.W.hideAll s1.heap (e :: frs (envOfC qual scope s.heap.objs.size f cd :: outer))) (out := outer) (L := s.heap.objs.size) I.ok.frames (PySem.W.funFrames_hide I.stack hin) rfl ge (fun b o z => PySem.W.of_hideAll _ z) (PySem.W.hideAll_none _ (.head _)) dv v1 fun h2 x1 x4 => ?_
  have trk : ∀ b u, H1 b = some u → ∃ o, s1.heap.get? b = some o ∧ (PySem.W.hideAll s1.heap (e :: frs (envOfC qual scope s.heap.objs.size f cd :: outer))).get? b = some o := fun b u eb => by
    obtain ⟨o, ho⟩ := ObjOk.obj (I.hok b u eb)
    refine ⟨o, ho, PySem.W.hideAll_get _ ho fun z => ?_⟩
    rcases List.mem_cons.mp z with z | z
    · rw [z, he] at eb; cases eb
    · have := I.stkFree b z
      rw [eb] at this; cases this
  have old : ∀ b o, s.heap.get? b = some o → H b = none → b ∉ frs outer → (PySem.W.hideAll s1.heap (e :: frs (envOfC qual scope s.heap.objs.size f cd :: outer))).get? b = some o := fun b o z n hb => by
    have e1 : s1.heap.get? b = some o := I.base.keep b o z n hb (by intro y; cases y)
    refine PySem.W.hideAll_get _ e1 fun y => ?_
    rcases List.mem_cons.mp y with y | y
    · rw [y, new] at z; cases z
    rcases List.mem_cons.mp (I.stkSub b y) with r | r
    · have r : b = s.heap.objs.size := r
      exact absurd (r ▸ Heap.lt_size z) (Nat.lt_irrefl _)
    · exact hb r
  have exi : ∀ b o, s.heap.get? b = some o → b ∉ frs outer → ∃ o', (PySem.W.hideAll s1.heap (e :: frs (envOfC qual scope s.heap.objs.size f cd :: outer))).get? b = some o' := fun b o z hb => by
    obtain ⟨o1, e1⟩ := I.base.there b o z (by intro y; cases y)
    refine ⟨o1, PySem.W.hideAll_get _ e1 fun y => ?_⟩
    rcases List.mem_cons.mp y with y | y
    · rw [y, new] at z; cases z
    rcases List.mem_cons.mp (I.stkSub b y) with r | r
    · have r : b = s.heap.objs.size := r
      exact absurd (r ▸ Heap.lt_size z) (Nat.lt_irrefl _)
    · exact hb r
  refine ⟨e, oe.cls, oe.dict, _, H1, rfl, I.os, I.bare, ?_, fun c o ec => (I.hok c o ec).stay (fun d u hd q' => ?_) (fun _ z => z) fun _ _ z => z, x1, he, fun b u eb => ?_, old, exi, q⟩
  · refine ⟨fun b o z n hb _ => x1.1 b o (old b o z n hb), fun b o z n hb hx' => ?_, fun b o z n hx' => I.base.free b o z n hx', fun b o z hx' => ?_, I.base.tups, I.base.frzs, I.base.tbls⟩
    · obtain ⟨sl, e1⟩ := I.base.slot b o z n hb hx'
      obtain ⟨_, o1, g1, g2⟩ := (I.ok.funs.mem hb)
      have : o1 = o := Option.some.inj (g1.symm.trans z)
      subst this
      obtain ⟨sl2, e2⟩ := x4 b _ e1 (by intro vs y; exact g2 vs y)
      exact ⟨sl2, e2⟩
    · by_cases hb : b ∈ frs outer
      · obtain ⟨_, o1, g1, _⟩ := x1.2.2.1.mem hb
        exact ⟨_, g1⟩
      · obtain ⟨o', e1⟩ := exi b o z hb
        exact ⟨o', x1.1 b o' e1⟩
  · have tr : ∃ z, H1 d = some z := by
      rcases hd with r | r
      · exact ⟨_, r ▸ ec⟩
      · exact ⟨_, r⟩
    obtain ⟨z, hz⟩ := tr
    obtain ⟨o1, e1, e2⟩ := trk d z hz
    have : u = o1 := Option.some.inj (q'.symm.trans e1)
    rw [this]
    exact x1.1 d o1 e2
  · obtain ⟨o1, e1, e2⟩ := trk b u eb
    exact ⟨o1, x1.1 b o1 e2, e2⟩
end L2
namespace L2
open PySem PySem.Spec PyProof.Rows
section
variable {M : Model} {A : Around} {E : Value → Shared → Prop} {nm q nm' q' : Str} {C N D N' : Addr} {bs bm bs' bm' : List Value} {hdct hdct' : Bool} {sn sn' : List Str} {sub sub' : List Value} {ab ab' : Bool} {col col' : Option Bool} {dd dd' : Option Addr} {k0 k1 k2 k3 k5 j0 j1 j2 j3 j5 : Option Value} {newId newId' : String}
theorem matches_own {h : Heap} {g : Array GenState} {d : Drawn} {t : Nat} {os : OsState} {e : Addr} {oe : Obj} {Q : Bool → Shared → Prop}
    (hC : h.get? C = some (excClassObj nm q C N bs bm hdct sn sub ab col dd k0 k1 k2 k3 k5 newId)) (he : h.get? e = some oe) (hcls : oe.cls = .ref C)
    (hD : h.get? D = some (excClassObj nm' q' D N' bs' bm' hdct' sn' sub' ab' col' dd' j0 j1 j2 j3 j5 newId')) (hb : bm'.contains (.type "BaseException") = true)
    (hin : (Value.ref C :: bm).contains (.ref D) = true) (hq : Q true ⟨h, g, d, t, os⟩) : wpAny M A (excMatches (.ref e) (.ref D)) Q E ⟨h, g, d, t, os⟩ := by
  have hcB : (Value.ref D :: bm').contains (.type "BaseException") = true := by rw [List.contains_cons, hb, Bool.or_true]
  have f := tc_notTuple
  unfold excMatches
  repeat first
    | (with_reducible refine wpAny_loadPart_at he ?_
       rw [hcls])
    | with_reducible refine wpAny_loadPart_at hD ?_
    | (with_reducible refine wpAny_isSubtype_exc hD ?_
       rw [hcB])
    | (with_reducible refine wpAny_isSubtype_exc hC ?_
       rw [hin])
    | wp_step
  exact hq
end
theorem inv_fly {X : Cx} {pins : List (Addr × Obj)} {σ : St} {H1 H' : Hp} {s1 s' : Shared} {B h5 : Heap} {a : Addr} {cls fz : Value} {dd : Option Addr} (I : Inv X pins σ H1 s1) (hst : X.stack = X.env :: X.outer) (hfr : X.env.frame = some X.env.locals)
    (os : s'.os = s1.os) (bare : AllBare s'.gens) (un : Un (frs X.stack) [] H1 H' s1.heap s'.heap) (hok : HOk X.prog X.w H' s'.heap) (fl : XF B X.stack a cls dd fz h5) (sm : s'.heap.UpToSlots h5)
    (TB : ∀ b u, H' b = some u → ∃ o, s'.heap.get? b = some o ∧ B.get? b = some o) (KB : ∀ b o, s1.heap.get? b = some o → H1 b = none → b ∉ frs X.stack → B.get? b = some o) (AB : ∀ b o, s1.heap.get? b = some o → b ∉ frs X.stack → ∃ o', B.get? b = some o') :
    Inv X pins σ H' { s' with heap := h5 } := by
  obtain ⟨hh, g, d, tk, os'⟩ := s'
  obtain rfl : os' = s1.os := os
  have efr : frs X.stack = X.env.locals :: X.fs := by rw [hst]; unfold frs; rw [List.filterMap_cons, hfr]; rfl
  have nin : ∀ b, b ≠ X.env.locals → b ∉ X.fs → b ∉ frs X.stack := fun b n1 n2 z => by
    rw [efr] at z
    rcases List.mem_cons.mp z with r | r
    · exact n1 r
    · exact n2 r
  have inn : ∀ b, b ∈ X.fs → b ∈ frs X.stack := fun b hb => by rw [efr]; exact List.mem_cons_of_mem _ hb
  have nof : ∀ {b : Addr} {o : Obj}, b ∈ frs X.stack → s1.heap.get? b = some o → ∀ vs, o.data ≠ .fields vs := fun hb e vs => by
    obtain ⟨_, o1, g1, g2⟩ := I.stack.mem hb
    have := Option.some.inj (g1.symm.trans e)
    exact this ▸ g2 vs
  have slot : ∀ b o, b ∈ frs X.stack → s1.heap.get? b = some o → H1 b = none → ∃ sl, h5.get? b = some { o with slots := sl } := fun b o hb e n => by
    obtain ⟨sl, e1⟩ := un.slot b o e n hb (by intro z; cases z)
    obtain ⟨sl2, e2⟩ := sm b _ e1 (fun vs z => nof hb e vs z)
    exact ⟨sl2, e2⟩
  show Inv X pins σ H' { s1 with heap := h5, gens := g, drawn := d, toks := tk }
  refine Inv.step (s := s1) (h' := h5) (g' := g) (d' := d) (t' := tk) (ch := []) I (fun b hb => by cases hb) (fun b o n1 n2 _ e n => fl.1 b o (KB b o e n (nin b n1 n2))) (fun b o _ hb _ e n => slot b o (inn b hb) e n) (fun b o _ e n => un.free b o e n (by intro z; cases z)) (fun b o _ e => ?_) un.tups un.frzs un.tbls (fun m hn => ?_) (fun c o ec => (hok c o ec).stay (fun d u hd q' => ?_) (fun _ z => z) fun _ _ z => z) bare
  · by_cases hb : b ∈ frs X.stack
    · obtain ⟨_, o1, g1, _⟩ := fl.2.2.1.mem hb
      exact ⟨_, g1⟩
    · obtain ⟨o', e1⟩ := AB b o e hb
      exact ⟨o', fl.1 b o' e1⟩
  · obtain ⟨o, es, ep, ho, hd, r⟩ := hn
    obtain ⟨sl, e1⟩ := slot X.env.locals o (by rw [efr]; simp) ho I.free
    exact ⟨_, es, ep, e1, hd, r⟩
  · have tr : ∃ z, H' d = some z := by
      rcases hd with r | r
      · exact ⟨_, r ▸ ec⟩
      · exact ⟨_, r⟩
    obtain ⟨z, hz⟩ := tr
    obtain ⟨o1, e1, e2⟩ := TB d z hz
    have : u = o1 := Option.some.inj (q'.symm.trans e1)
    rw [this]
    exact fl.1 d o1 e2
end L2
namespace L2
open PySem PySem.Spec PyProof.Rows
noncomputable abbrev Cx.mark (X : Cx) (e : Value) (E : Value → Shared → Prop) : Cx := { X with A := X.A.mark (some e), calm := false, xe := E }
section
variable {X : Cx} {pins : List (Addr × Obj)} {σ : St} {H : Hp} {s : Shared} {e : Value} {E : Value → Shared → Prop}
theorem Cx.Ok.mark (ok : X.Ok) : (X.mark e E).Ok :=
  ⟨ok.mod, ok.kind, ok.glob, ok.blt, ok.above, ok.inj, ok.has, ok.cab, fun z => (by cases z), ok.frames, ok.stk, ok.exf, ok.bs, ok.bsz, ok.noex, ok.exfs, ok.funs, ok.frf⟩
theorem Inv.mark (I : Inv X pins σ H s) : Inv (X.mark e E) pins σ H s := ⟨I.ok.mark, I.os, I.bare, I.base, I.loc, I.cell, I.free, I.freeC, I.pin, I.hok, I.len⟩
theorem Inv.unmark (ok : X.Ok) (I : Inv (X.mark e E) pins σ H s) : Inv X pins σ H s := ⟨ok, I.os, I.bare, I.base, I.loc, I.cell, I.free, I.freeC, I.pin, I.hok, I.len⟩
theorem unname {M : Model} {A : Around} {i : Nat} {n : Str} {pos : Pos} {Q : Unit → Shared → Prop} (I : Inv X pins σ H s) (hN : X.N.Nodup) (hi : X.N[i]? = some n) (hk : X.env.kindOf n = some .local)
    (h : ∀ s', Inv X pins (σ.set i none) H s' → Q () s') : wpAny M A (do bindName X.env n .none; unbindBehindTheSuite X.env n pos) Q E s := by
  obtain ⟨m, hn, hl⟩ := id I.loc
  have hcls : (X.env.scope.kind == .class || (X.env.scope.kind == .module && X.env.locals != X.env.globals)) = false := by rw [I.ok.kind]; rfl
  have hiσ : i < σ.length := by rw [I.len]; exact (List.getElem?_eq_some_iff.mp hi).1
  have cne := I.cne
  refine wpAny_nameGoes_keeps hk hn hcls fun h' v hn' hs => ?_
  obtain ⟨oL, _, _, hoL, _⟩ := id hn
  have tracked : HOk X.prog X.w H h' := fun b ob e => by
    refine (I.hok b ob e).stay (fun c w' hc q => (hs.2 c ?_).trans q) (fun _ q => q) fun _ _ q => q
    rintro rfl
    rcases hc with z | hc
    · have := I.free; rw [z] at this; rw [this] at e; cases e
    · rw [I.free] at hc; cases hc
  refine h _ ⟨I.ok, I.os, I.bare, ⟨fun b o e n hb hx => ?_, fun b o e n hb hx => ?_, I.base.free, fun b o e hx => ?_, I.base.tups, I.base.frzs, I.base.tbls⟩, ⟨_, hn', fun j y v' e1 e2 e3 => ?_⟩, fun y c e => ?_, I.free, I.freeC, fun p hp => ?_, tracked, by simpa using I.len⟩
  · exact (hs.2 b (Nat.ne_of_lt (Nat.lt_of_lt_of_le (Heap.lt_size e) I.ok.above))).trans (I.base.keep b o e n hb hx)
  · obtain ⟨sl, e1⟩ := I.base.slot b o e n hb hx
    exact ⟨sl, (hs.2 b (Nat.ne_of_lt (Nat.lt_of_lt_of_le (Heap.lt_size e) I.ok.above))).trans e1⟩
  · obtain ⟨o', e1⟩ := I.base.there b o e hx
    exact ⟨o', (hs.2 b (Nat.ne_of_lt (Nat.lt_of_lt_of_le (Heap.lt_size e) I.ok.above))).trans e1⟩
  · by_cases hj : j = i
    · subst hj
      rw [List.getElem?_set_self hiσ] at e2
      cases e2
    · rw [List.getElem?_set_ne (Ne.symm hj)] at e2
      obtain ⟨u', r', q⟩ := hl j y v' e1 e2 e3
      refine ⟨u', r', ?_⟩
      rcases q with ⟨k, e⟩ | ⟨k, c, e, z⟩
      · refine .inl ⟨k, ?_⟩
        have : y ≠ n := fun e => hj (nodup_ix hN e1 (e ▸ hi))
        simp [this, e]
      · exact .inr ⟨k, c, e, z.sameBut hs (cne y c e)⟩
  · obtain ⟨w', z⟩ := I.cell y c e
    exact ⟨w', z.sameBut hs (cne y c e)⟩
  · obtain ⟨e, n, ne, nf, d⟩ := I.pin p hp
    exact ⟨(hs.2 p.1 ne).trans e, n, ne, nf, d⟩
theorem Inv.track {σ1 : St} {H1 : Hp} {s1 : Shared} {a : Addr} {o : HO} (I1 : Inv X pins σ1 H1 s1) (I : Inv X pins σ H s) (hn : s1.heap.get? a = none) (ha : H a = none) (new : ObjOk X.prog X.w (upd H a o) s.heap a o) : Inv X pins σ (upd H a o) s := by
  have h0 : ∀ ob, X.s₀.heap.get? a = some ob → a ∈ X.ex := fun ob e => by
    by_cases hx : a ∈ X.ex
    · exact hx
    · obtain ⟨o', e'⟩ := I1.base.there a ob e hx
      rw [hn] at e'; cases e'
  have ne : ∀ {b : Addr} {u : HO}, H b = some u → b ≠ a := fun e z => by rw [z, ha] at e; cases e
  have dif : ∀ {b : Addr} {ob : Obj}, s1.heap.get? b = some ob → b ≠ a := fun e z => by rw [z, hn] at e; cases e
  obtain ⟨m1, hn1, _⟩ := id I1.loc
  obtain ⟨oL, _, _, hoL, _⟩ := hn1
  refine ⟨I.ok, I.os, I.bare, ⟨I.base.keep, I.base.slot, fun b ob e n hx => ?_, I.base.there, fun b xs e => ?_, fun b x y e => ?_, fun b ps e => ?_⟩, I.loc, I.cell, ?_, fun x c e => ?_, fun p hp => ?_, fun b u e => ?_, I.len⟩
  · have : b ≠ a := fun z => hx (z ▸ h0 ob (z ▸ e))
    rw [upd_ne this]; exact I.base.free b ob e n hx
  · have z := I.base.tups b xs e
    rw [upd_ne (ne z)]; exact z
  · have z := I.base.frzs b x y e
    rw [upd_ne (ne z)]; exact z
  · obtain ⟨more, z⟩ := I.base.tbls b ps e
    exact ⟨more, by rw [upd_ne (ne z)]; exact z⟩
  · rw [upd_ne (dif hoL)]; exact I.free
  · obtain ⟨v, oc, z, _⟩ := I1.cell x c e
    rw [upd_ne (dif z)]; exact I.freeC x c e
  · obtain ⟨e1, n1, r⟩ := I.pin p hp
    obtain ⟨e2, _⟩ := I1.pin p hp
    exact ⟨e1, by rw [upd_ne (dif e2)]; exact n1, r⟩
  · by_cases hb : b = a
    · subst hb; rw [upd_same] at e; cases e; exact new
    · rw [upd_ne hb] at e
      exact (I.hok b u e).stay (fun _ _ _ z => z) (fun c q => by rw [upd_ne (ne q)]; exact q) fun c xs q => by rw [upd_ne (ne q)]; exact q
end
noncomputable def XAt (h : Heap) (C : Addr) (bm : List Value) : Prop :=
  ∃ nm q N bs hdct sn sub ab col dd k0 k1 k2 k3 k5 newId, h.get? C = some (excClassObj nm q C N bs bm hdct sn sub ab col dd k0 k1 k2 k3 k5 newId)
noncomputable def xObj (a C : Addr) (dd : Option Addr) : HO := .ext fun h => ∃ o, h.get? a = some o ∧ o.cls = .ref C ∧ o.dict = dd ∧ PySem.W.notCls o = true
noncomputable def tTry1 (base : Heap) (sp : Sp) (dvs : List V) (t : TA) (Dc : Addr) (i : Nat) (tb : TS) : TS := fun D σ H => t σ H fun vs H1 => sp (vs ++ dvs) H1 (fun _ H2 => D.nx σ H2)
  fun cls dd H2 => ∃ C bm, cls = .ref C ∧ XAt base C bm ∧ (Value.ref C :: bm).contains (.ref Dc) = true ∧ ∀ a, H2 a = none →
    tb { nx := fun σ' H' => D.nx (σ'.set i none) H', rt := D.rt, bk := fun σ' H' => D.bk (σ'.set i none) H', ct := fun σ' H' => D.ct (σ'.set i none) H' } (σ.set i (some (.ref a))) (upd H2 a (xObj a C dd))
theorem call_wish {X : Cx} {pins : List (Addr × Obj)} {σ : St} {H : Hp} {s : Shared} {f : Addr} {cpos : Pos} {e : Expr} {es : List Expr} {t : TA} {Q0 : List V → Hp → Prop} {Q : Value → Shared → Prop} {E : Value → Shared → Prop}
    (ha : ∀ xe, PA (X.wish xe) (e :: es) t) (I : Inv X pins σ H s) (hk : PySem.W.keepIn X.K (.ref f) = true) (h : t σ H Q0) (k : ∀ us s1 vs H1, Inv X pins σ H1 s1 → Vals vs us → Q0 vs H1 → wpAny (model X.prog X.w) X.A (call (.ref f) us) Q E s1)
    (he : starEach (e :: es) X.env = (false, eval e X.env) :: starEach es X.env) (hpl : (backTo cpos (starEach es X.env)).any (·.1) = false) :
    wpAny (model X.prog X.w) X.A (callWith cpos (.ref f) [] (backTo cpos (starEach (e :: es) X.env)) (backToKw cpos (keywordEach [] X.env))) Q E s := by
  have key := ha E cpos pins s σ H Q0 (I.wish E) h
  refine PySem.W.callWith_K (h₀ := X.base) I.ok.mod.kin hk (wpAny_mono key (fun us s1 hh => ?_) fun _ _ z => z) he hpl
  obtain ⟨vs, H1, I1', r, q⟩ := hh
  exact ⟨I1'.kIn, k us s1 vs H1 I1'.unwish r q⟩
theorem ps_try1 {X : Cx} {k : Nat} {f Dc : Addr} {fd : FuncData} {ps : List Str} {sp : Sp} {dvs : List V} {ds : List Value} {bmD : List Value} {x Dn n : Str} {i : Nat} {p q cpos epos hpos tpos : Pos} {e : Expr} {es : List Expr} {t : TA} {b₀ : Stmt} {suite : List Stmt} {tb : TS}
    (F : FnOk X.prog X.w X.K X.mg X.base (CX1 X.prog X.w) k f fd ps sp) (hr : Room k X.A) (hg : Gl X x) (hm : X.mg x = some (.ref f)) (hk : PySem.W.keepIn X.K (.ref f) = true) (hb : Binds X.K fd ps ds) (hd : Vals dvs ds) (ha : ∀ xe, PA (X.wish xe) (e :: es) t)
    (hst : X.stack = X.env :: X.outer) (hfr : X.env.frame = some X.env.locals) (hgD : Gl X Dn) (hmD : X.mg Dn = some (.ref Dc)) (hD : XAt X.base Dc bmD) (hDb : bmD.contains (.type "BaseException") = true)
    (hN : X.N.Nodup) (hi : X.N[i]? = some n) (hl : X.env.scope.names.lookup n = some .local) (hs : ∀ a xe, PSs (X.mark (.ref a) xe) (b₀ :: suite) tb)
    (hdb : (x == ("__debug__" : Str)) = false := by decide) (hdD : (Dn == ("__debug__" : Str)) = false := by decide) (he : starEach (e :: es) X.env = (false, eval e X.env) :: starEach es X.env := by rfl) (hpl : (backTo cpos (starEach es X.env)).any (·.1) = false := by rfl)
    (hsw : swapsWith (.Call (.Name x p) (e :: es) [] cpos) none epos.line X.env = pure false := by rfl) :
    PS X (.Try [.Expr (.Call (.Name x p) (e :: es) [] cpos) epos] [.ExceptHandler (some (.Name Dn q)) (some n) (b₀ :: suite) hpos] [] [] tpos) (tTry1 X.base sp dvs t Dc i tb) := by
  intro pins s σ H D I h
  refine wpAny_Try_except (wpAny_execs_cons (wpAny_Expr_any (wpAny_Call_Name_kw (ld_glob I hg hm ?_ hdb)) I.quiet hsw))
  refine call_wish ha I hk h (fun us s1 vs H1 I1 r q => ?_) he hpl
  have r2 : Vals (vs ++ dvs) (us ++ ds) := r.append hd
  have hlen : (us ++ ds).length = ps.length := by rw [← r2.length]; exact F.len _ _ _ _ q
  refine wpAny_call (codeAny_mono (F.run X.A X.stack s1 H1 ⟨us, []⟩ (us ++ ds) (vs ++ dvs) _ _ hr I1.env0 (hb s1 us I1.kIn hlen) r2 q) fun r s' hq => ?_)
  cases r with
  | ok fl =>
    cases fl with
    | ret u =>
      obtain ⟨v, H2, I2, _, q2⟩ := I1.after hq
      exact wpAny_execs_nil (wpAny_execs_nil ⟨σ, H2, I2, q2⟩)
    | next => exact False.elim hq
    | brk => exact False.elim hq
    | cont => exact False.elim hq
  | error ev =>
    obtain ⟨a, cls, dq, B, H', rfl, os, bare, un, hok, fl, hna, TB, KB, AB, C, bm, rfl, hC, hin, hq2⟩ := hq
    have fl' : XF B (X.env :: X.outer) a (.ref C) dq .none s'.heap := hst ▸ fl
    have ne1 : s1.heap.get? a = none := by
      cases z : s1.heap.get? a with
      | none => rfl
      | some ob =>
        by_cases hb : a ∈ frs X.stack
        · obtain ⟨_, o1, g1, g2⟩ := fl.2.2.1.mem hb
          obtain ⟨oe, vs', he', hd'⟩ := fl.rec
          rw [g1] at he'; cases he'
          exact absurd hd' (g2 vs')
        · obtain ⟨o', e'⟩ := AB a ob z hb
          have := fl.2.1
          rw [e'] at this; cases this
    have hfrm : X.A.frames = some (X.env :: X.outer) := hst ▸ I.ok.frames
    refine noteX hfrm hfr fl' fun h4 f4 sm4 => ?_
    refine landX (s := { s' with heap := h4 }) f4 fun h5 f5 sm5 => ?_
    have I5 : Inv X pins σ H' { s' with heap := h5 } := inv_fly I1 hst hfr os bare un hok (hst ▸ f5) (sm4.trans sm5) TB KB AB
    refine wpAny_handleBy_cons (codeAny_handlers_test (ld_glob (X := X.mark (.ref a) (fun _ _ => False)) I5.mark hgD hmD ?_ hdD)) (by intro z; cases z)
    obtain ⟨oe, ge, gc, _⟩ := f5.there
    obtain ⟨nm, qq, NN, bs, hdct, sn, sub, ab, col, dd, k0, k1, k2, k3, k5, newId, gC⟩ := hC
    obtain ⟨nm', qq', NN', bs', hdct', sn', sub', ab', col', dd', j0, j1, j2, j3, j5, newId', gD⟩ := hD
    refine matches_own (I5.bk _ _ gC) ge gc (I5.bk _ _ gD) hDb hin (codeAny_handlers_suite_as (landX (s := { s' with heap := h5 }) f5 fun h6 f6 sm6 => ?_))
    have I6 : Inv X pins σ H' { s' with heap := h6 } := inv_fly I1 hst hfr os bare un hok (hst ▸ f6) ((sm4.trans sm5).trans sm6) TB KB AB
    obtain ⟨o6, g6, c6, d6⟩ := f6.there
    have n6 : PySem.W.notCls o6 = true := by
      obtain ⟨o7, vs7, g7, k7⟩ := f6.rec
      have z7 := Option.some.inj (g7.symm.trans g6)
      rw [← z7]
      unfold PySem.W.notCls
      rw [k7]
    have I7 : Inv X pins σ (upd H' a (xObj a C dq)) { s' with heap := h6 } := Inv.track I1 I6 ne1 hna ⟨⟨o6, g6, c6, d6, n6⟩, ⟨o6, g6⟩, fun h1 h2 ⟨o, e1, e2⟩ z => ⟨o, z o e1, e2⟩⟩
    refine store_ok (v := .ref a) I7 hN hi (.inl hl) rfl (fun s8 I8 => ?_) (.inr hl)
    refine wpAny_mono (hs a _ pins s8 _ _ _ I8.mark (hq2 a hna)) (fun fl s9 h9 => ?_) fun ev s9 h9 => h9
    cases fl with
    | next =>
      obtain ⟨σ', H9, I9, q9⟩ := h9
      exact unname (I9.unmark I.ok) hN hi hl fun s' I' => ⟨_, _, I', q9⟩
    | brk =>
      obtain ⟨σ', H9, I9, q9⟩ := h9
      exact unname (I9.unmark I.ok) hN hi hl fun s' I' => ⟨_, _, I', q9⟩
    | cont =>
      obtain ⟨σ', H9, I9, q9⟩ := h9
      exact unname (I9.unmark I.ok) hN hi hl fun s' I' => ⟨_, _, I', q9⟩
    | ret u =>
      obtain ⟨v, σ', H9, I9, r9, q9⟩ := h9
      exact unname (I9.unmark I.ok) hN hi hl fun s' I' => ⟨v, _, _, I', r9, q9⟩
end L2
namespace L2
open PySem PySem.Spec PyProof.Rows
section
open PySem.W PySem.Calls Builtin Builtin.ObjectAttr Builtin.Getset_descriptor
structure XFacts (K : Frag) (C : Addr) : Prop where
  ga : findIn K (.ref C) "__getattribute__" = some (some (.builtin "BaseException.__getattribute__"))
  gb : findIn K (.ref C) "__getattr__" = some none
  ha : findIn K (.ref C) "__class__" = some (some (.builtin "object.__class__"))
  hn : specialIn K (.builtin "object.__class__") "__get__" = some (some (.builtin "getset_descriptor.__get__"))
  ht : takesIn K (.builtin "object.__class__") = some true
  hm : mroIn K C (.type "object") = some true
  hb : mroIn K C (.type "BaseException") = some true
  cl : (clsIn K C).isSome = true
variable {K : Frag} {x C : Addr} {h : Heap} {M : Model}
variable {prog : Program} {w : World} {A : Around} {E : Value → Shared → Prop} {s : Shared}
end
end L2
namespace L2
open PySem PySem.Spec PyProof.Rows
section
variable {P : Program} {w : World} {K : PySem.W.Frag} {mg : Str → Option Value} {base : Heap}
theorem Fun.okX {x qual : Str} {st : Stmt} {f : Addr} {fd : FuncData} {N ps : List Str} {k : Nat} {sp : Sp} (F : Fun K x qual st f fd) (S : FnScope N ps (defScope st)) (len : ∀ vs H Q E, sp vs H Q E → vs.length = ps.length)
    (hbody : ∀ (cdv : Value) (A : Around) (outer : List Env) (s : Shared) (H : Hp) (vs : List V) (Q : VK) (E : XK), Room k (A.deeper (envOfC qual (defScope st) s.heap.objs.size f cdv)) → sp vs H Q E →
      ∃ t, PSs (cxOf (CX1 P w) P w K mg base N qual (defScope st) f cdv A outer s H E) (defBody st) t ∧ t { nx := fun _ H' => Q .non H', rt := Q } (start N vs) H) : FnOk P w K mg base (CX1 P w) (k + 1) f fd ps sp := by
  obtain ⟨oc, od, kV, doc, pm, an, cdv, ct, osl, rfl, lk, hcd⟩ := F.ex
  exact fn_of lk hcd S len fun A outer s H vs Q E hr hsp => hbody cdv A outer s H vs Q E hr hsp
theorem FnOk.lift {k : Nat} {f : Addr} {fd : FuncData} {ps : List Str} {sp : Sp} (F : FnOk P w K mg base CX0 k f fd ps sp) : FnOk P w K mg base (CX1 P w) k f fd ps sp :=
  ⟨F.len, fun A outer s H args us vs Q E hr he hb hv hs => codeAny_mono (F.run A outer s H args us vs Q E hr he hb hv hs) fun r s' h => by
    cases r with
    | ok fl => cases fl <;> exact h
    | error e => exact False.elim h⟩
structure CalX (P : Program) (w : World) (K : PySem.W.Frag) (mg : Str → Option Value) (base : Heap) (k : Nat) (x : Str) (ps : List Str) (sp : Sp) : Prop where
  ex : ∃ (f : Addr) (fd : FuncData), FnOk P w K mg base (CX1 P w) k f fd ps sp ∧ mg x = some (.ref f) ∧ PySem.W.keepIn K (.ref f) = true ∧ Binds K fd ps []
variable {x : Str} {C N : Addr} {bmB bm bs : List Value} {newId : String} {nm q : Str} {hdct : Bool} {sn : List Str} {sub : List Value} {ab : Bool} {col : Option Bool} {dd : Option Addr} {k0 k1 k2 k3 k5 : Option Value} {h : Heap}
theorem own_mk (X : K.In h) (bound : mg x = some (.ref C)) (lk : K.lookup C = some (excClassObj nm q C N bs bm hdct sn sub ab col dd k0 k1 k2 k3 k5 newId)) (ok : PySem.W.nsOkIn K N = true) (ni : PySem.W.nsIn K N "__init__" = some none)
    (tl : PySem.W.tailIn K bmB bm = true) : OwnCls x C bmB newId mg h :=
  ⟨bound, bm, N, nm, q, bs, hdct, sn, sub, ab, col, dd, k0, k1, k2, k3, k5, _, X _ _ lk, .of_isNs (PySem.W.isNs_of_in X ok), PySem.W.nsMap_none_of_in X ok ni, PySem.W.tail_of_in X tl⟩
theorem xat_mk (X : K.In h) (lk : K.lookup C = some (excClassObj nm q C N bs bm hdct sn sub ab col dd k0 k1 k2 k3 k5 newId)) : XAt h C bm :=
  ⟨nm, q, N, bs, hdct, sn, sub, ab, col, dd, k0, k1, k2, k3, k5, newId, X _ _ lk⟩
end
end L2
namespace L2
open PySem PySem.Spec PyProof.Rows
theorem ps_tryC {X : Cx} {k : Nat} {Dc : Addr} {ps : List Str} {sp : Sp} {bmD : List Value} {x Dn n : Str} {i : Nat} {p q cpos epos hpos tpos : Pos} {e : Expr} {es : List Expr} {t : TA} {b₀ : Stmt} {suite : List Stmt} {tb : TS}
    (c : CalX X.prog X.w X.K X.mg X.base k x ps sp) (hr : Room k X.A) (hg : Gl X x) (ha : ∀ xe, PA (X.wish xe) (e :: es) t)
    (hst : X.stack = X.env :: X.outer) (hfr : X.env.frame = some X.env.locals) (hgD : Gl X Dn) (hmD : X.mg Dn = some (.ref Dc)) (hD : XAt X.base Dc bmD) (hDb : bmD.contains (.type "BaseException") = true)
    (hN : X.N.Nodup) (hi : X.N[i]? = some n) (hl : X.env.scope.names.lookup n = some .local) (hs : ∀ a xe, PSs (X.mark (.ref a) xe) (b₀ :: suite) tb)
    (hdb : (x == ("__debug__" : Str)) = false := by decide) (hdD : (Dn == ("__debug__" : Str)) = false := by decide) (he : starEach (e :: es) X.env = (false, eval e X.env) :: starEach es X.env := by rfl) (hpl : (backTo cpos (starEach es X.env)).any (·.1) = false := by rfl)
    (hsw : swapsWith (.Call (.Name x p) (e :: es) [] cpos) none epos.line X.env = pure false := by rfl) :
    PS X (.Try [.Expr (.Call (.Name x p) (e :: es) [] cpos) epos] [.ExceptHandler (some (.Name Dn q)) (some n) (b₀ :: suite) hpos] [] [] tpos) (tTry1 X.base sp [] t Dc i tb) := by
  obtain ⟨f, fd, G, mf, kp, b⟩ := c.ex
  exact ps_try1 G hr hg mf kp b .nil ha hst hfr hgD hmD hD hDb hN hi hl hs hdb hdD he hpl hsw
structure Errs (K : PySem.W.Frag) (mg : Str → Option Value) (base : Heap) (ec : Str → Addr) (l c : List Str) : Prop where
  b : ∀ x ∈ l, mg x = some (.ref (ec x))
  f : ∀ x ∈ c, XFacts K (ec x)
  ord : ("OrderError" : Str) ∈ c
  kit : ∀ x ∈ c, x ≠ "OrderError" → ∀ y ∈ l, PySem.W.kitOne K (.ref (ec x)) (.ref (ec y)) = some (y == x || y == ("OrderError" : Str))
  val : ∀ x ∈ c, PySem.W.kitOne K (.ref (ec x)) (.type "ValueError") = some true
  at_ : ∀ x ∈ c, ∃ bm, XAt base (ec x) bm ∧ bm.contains (.type "BaseException") = true ∧ (Value.ref (ec x) :: bm).contains (.ref (ec "OrderError")) = true
  nv : mg "ValueError" = none
  own : ∀ x ∈ c, x ∉ (["NoText", "Ring", "NoUnit"] : List Str) → OwnCls x (ec x) [.type "ValueError", .type "Exception", .type "BaseException", .type "object"] "ValueError.__new__" mg base
end L2
namespace L2
open PySem PySem.Spec PyProof.Rows
noncomputable abbrev excO (C : Addr) (dd : Option Addr) (t : Addr) : Obj := { cls := .ref C, dict := dd, data := .fields #[.ref t, .none, .none, .none, .bool false, .none] }
noncomputable abbrev argO (us : List Value) : Obj := { cls := .type "tuple", data := .seq us.toArray }
noncomputable def xNew (a C : Addr) (dd : Option Addr) : HO := .ext fun h => ∃ t, h.get? a = some (excO C dd t)
section
variable {prog : Program} {w : World} {A : Around} {E : Value → Shared → Prop} {h : Heap} {g : Array GenState} {d : Drawn} {tk : Nat} {os : OsState}
variable {nm q : Str} {C N fI : Addr} {oI : Obj} {bs bm bmB bmN : List Value} {hdct : Bool} {sn : List Str} {sub : List Value} {ab : Bool} {col : Option Bool} {dd : Option Addr} {k0 k1 k2 k3 k5 : Option Value} {B Bn newId nid initId inN : String} {mN : Str → Option Value} {us : List Value}
theorem tcall_init {Q : Fin → Shared → Prop} (Fn : ExcBaseFacts Bn newId inN bmN) (hBn : bmB.contains (.type Bn) = true) (F : ExcBaseFacts B nid initId bmB) (T : OwnTail h bmB bm) (hC : h.get? C = some (excClassObj nm q C N bs bm hdct sn sub ab col dd k0 k1 k2 k3 k5 newId)) (hn : h.Ns N mN)
    (hi : mN "__init__" = some (.ref fI)) (gf : h.get? fI = some oI) (cf : oI.cls = .type "function") (lu : us.length ≤ sizeLine)
    (k : ∀ h' e, Heap.MadeExcOf h h' e (.ref C) us → wpAny (model prog w) A (call (.ref fI) (.ref e :: us)) (fun r s' => r = .none ∧ Q (.done (.ret (.ref e))) s') E ⟨h', g, d, tk, os⟩) :
    wpAny (model prog w) A (Builtin.«type.__call__» ⟨.ref C :: us, []⟩) Q E ⟨h, g, d, tk, os⟩ := by
  repeat (first | with_reducible refine wpAny_madeBy_exc hC ?_ | with_reducible refine wpAny_loadPart_at hC ?_ | wp_step)
  refine codeAny_call_builtin_code (Code.quiet_builtin _ Fn.quiet) (wpAny_check_new_subU Fn hBn T hC (codeAny_exc_new_subU Fn hBn F T hC ?_ lu))
  show wpAny _ _ _ _ _ _
  have up : ∀ b o, h.get? b = some o → ((h.push (argO us)).push (excO C none h.objs.size)).get? b = some o := fun b o z => Heap.get?_push_of_some _ (Heap.get?_push_of_some _ z)
  have ge : ((h.push (argO us)).push (excO C none h.objs.size)).get? (h.objs.size + 1) = some (excO C none h.objs.size) := by heap_get
  have gC := up _ _ hC
  have me : (Value.ref C :: bm).contains (.ref C) = true := by simp
  have hn2 : ((h.push (argO us)).push (excO C none h.objs.size)).Ns N mN := hn.keeps up
  unfold isInstance
  repeat (first | with_reducible refine wpAny_loadPart_at ge ?_ | (with_reducible refine wpAny_isSubtype_exc gC ?_; rw [me]) | wp_step)
  show wpAny _ _ (typeLookup (.ref C) "__init__") _ _ _
  refine wpAny_typeLookup_tail gC hn2 (T.keeps up) F.mroIs F.init.lookup ?_
  rw [hi]
  refine wpAny_holding (wpAny_bind ?_)
  unfold bindSpecial
  refine wpAny_bind (wpAny_typeOf (T := "function") ⟨oI, up _ _ gf, cf⟩ ?_)
  rw [if_pos (by decide)]
  refine wpAny_pure (wpAny_bind (wpAny_mono (k _ (h.objs.size + 1) ⟨up, Heap.get?_none_of_le (Nat.le_succ _), h.objs.size, ge, Heap.get?_none_of_le (Nat.le_refl _), Heap.get?_push_of_some _ (Heap.get?_push_at rfl rfl)⟩) (fun r s' z => ?_) fun _ _ x => x))
  obtain ⟨rfl, z⟩ := z
  wp_walk
  exact z
theorem call_init {Q : Value → Shared → Prop} (Fn : ExcBaseFacts Bn newId inN bmN) (hBn : bmB.contains (.type Bn) = true) (F : ExcBaseFacts B nid initId bmB) (T : OwnTail h bmB bm) (hC : h.get? C = some (excClassObj nm q C N bs bm hdct sn sub ab col dd k0 k1 k2 k3 k5 newId)) (hn : h.Ns N mN)
    (hi : mN "__init__" = some (.ref fI)) (gf : h.get? fI = some oI) (cf : oI.cls = .type "function") (lu : us.length ≤ sizeLine)
    (k : ∀ h' e, Heap.MadeExcOf h h' e (.ref C) us → wpAny (model prog w) (A.under (.builtin "type.__call__" ⟨.ref C :: us, []⟩)) (call (.ref fI) (.ref e :: us)) (fun r s' => r = .none ∧ Q (.ref e) s') E ⟨h', g, d, tk, os⟩) :
    wpAny (model prog w) A (call (.ref C) us) Q E ⟨h, g, d, tk, os⟩ := by
  have l1 := tc_lookup
  have l2 := tc_bind (.ref C)
  have ty : (⟨h, g, d, tk, os⟩ : Shared).TypeIs (.ref C) "type" := ⟨_, hC, rfl⟩
  refine wpAny_call (codeAny_of_tree ?_)
  show wpAny _ _ (callAny (.ref C) _) _ _ _
  repeat (any_goals (first | assumption | wp_step | with_reducible refine wpAny_loadPart_at hC ?_))
  refine ⟨rfl, codeAny_call_builtin_at (Code.quiet_builtin _ (by decide +kernel)) entry_typeCall (wpAny_check_type_call_sub hC (tcall_init Fn hBn F T hC hn hi gf cf lu fun h' e hm => ?_))⟩
  exact k h' e hm
end
section
variable {M : Model} {A : Around} {E : Value → Shared → Prop} {env : Env} {s : Shared} {bm : List Value} {C : Addr}
theorem raiseStmtX {x : Sem Value} {Q : Flow → Shared → Prop} (hb : bm.contains (.type "BaseException") = true) (hh : A.handled = none)
    (h : wpAny M A x (fun v s1 => ∃ e t dq, v = .ref e ∧ XAt s1.heap C bm ∧ s1.heap.get? e = some (excO C dq t) ∧ E (.ref e) s1) E s) : wpAny M A (raiseStmt env (some x) none) Q E s := by
  have hc : (Value.ref C :: bm).contains (.type "BaseException") = true := by rw [List.contains_cons, hb, Bool.or_true]
  unfold raiseStmt
  refine wpAny_bind (wpAny_mono h (fun v s1 z => ?_) fun _ _ y => y)
  obtain ⟨e, t, dq, rfl, ⟨nm, q, N, bs, hdct, sn, sub, ab, col, dd, k0, k1, k2, k3, k5, newId, gC⟩, ge, qE⟩ := z
  obtain ⟨hp, g, dr, tk, os⟩ := s1
  repeat (first | (with_reducible refine wpAny_isSubtype_exc gC ?_; rw [hc]) | with_reducible refine wpAny_loadPart_at ge ?_ | with_reducible refine wpAny_loadPart_at gC ?_ | wp_step)
  exact wpAny_raiseNew_none hh qE
end
end L2
namespace L2
open PySem PySem.Spec PyProof.Rows
noncomputable def bmV : List Value := [.type "ValueError", .type "Exception", .type "BaseException", .type "object"]
noncomputable def tailE (l : List Value) : Bool := match l with
  | .ref _ :: .ref _ :: r => r == bmV
  | _ => false
theorem refuse_tail (self : Value) {l : List Value} (e : tailE l = true) : refuseLoop self "__setattr__" l = pure () := by
  unfold tailE at e
  split at e
  · rw [refuseLoop_ref, refuseLoop_ref, beq_iff_eq.mp e]
    exact PySem.F.store_ValueError.passes self
  · cases e
structure XSet (K : PySem.W.Frag) (C : Addr) (f : Str) : Prop where
  sa : PySem.W.findIn K (.ref C) "__setattr__" = some (some (.builtin "object.__setattr__"))
  po : (PySem.W.clsIn K C).any (fun cd => tailE cd.mro) = true
  na : PySem.W.findIn K (.ref C) f = some none
  hd : PySem.W.hasDictIn K C = true
  hm : PySem.W.mroIn K C (.type "object") = some true
section
open PySem.W Builtin Builtin.ObjectAttr
variable {prog : Program} {w : World} {A : Around} {E : Value → Shared → Prop} {s : Shared} {K : Frag} {x C t : Addr} {f : Str} {v : Value}
theorem xinst {h : Heap} (hx : h.get? x = some (excO C none t)) : InstAt h x (excO C none t) C none := ⟨hx, rfl, rfl, True.intro⟩
theorem setX {Q : Unit → Shared → Prop} (X : K.In s.heap) (Z : XSet K C f) (hx : s.heap.get? x = some (excO C none t))
    (k : ∀ h' d, s.heap.objs.size ≤ d → h'.get? x = some (excO C (some d) t) → h'.Ns1 d (fun y => if y = f then some v else none) → (∀ b o, b ≠ x → s.heap.get? b = some o → h'.get? b = some o) → Q () { s with heap := h', toks := s.toks + 2 }) :
    wpAny (model prog w) A (setAttr (.ref x) f v) Q E s := by
  have I := xinst hx
  obtain ⟨cd, hc, ho⟩ := any_some Z.po
  obtain ⟨cd', hc', hd'⟩ := any_some Z.hd
  cases Option.some.inj (hc'.symm.trans hc)
  refine set_plain X I Z.sa ?_
  have G := PySem.F.store_object
  have io : Looks (model prog w) s.heap (isInstance (.ref x) (.type "object")) true := I.type.andThen (looks_mroIn X Z.hm)
  have mr : Looks (model prog w) s.heap (mroOf (.ref C)) cd.mro := (looks_clsIn X hc).andThen .now
  refine codeAny_call_builtin G.slot.plain G.entry (@check_slot (model prog w) _ _ { s with toks := s.toks + 1 } "object.__setattr__" "object" "__setattr__" (.ref x) [.str f s.toks, v] [] _ G.kind G.split io (G.args (.ref x) (.str f s.toks) v) ?_)
  rw [osa_eq, refuse_eq]
  refine wpAny_bind (wpAny_bind (Looks.here (s := { s with toks := s.toks + 1 }) I.type (wpAny_bind (Looks.here (s := { s with toks := s.toks + 1 }) mr ?_))))
  rw [refuse_tail _ ho]
  refine wpAny_pure (wpAny_bind (Looks.here (s := { s with toks := s.toks + 1 }) I.type (wpAny_bind (Looks.here (s := { s with toks := s.toks + 1 }) (looks_findIn X Z.na) (wpAny_bind (wpAny_pure ?_))))))
  have nx : x ≠ s.heap.objs.size := Nat.ne_of_lt (Heap.lt_size hx)
  refine wpAny_bind (wpAny_pure (wpAny_bind (wpAny_bind (wpAny_loadPart hx (wpAny_bind (Looks.here (s := { s with toks := s.toks + 1 }) (looks_clsIn X hc) ?_))))))
  rw [hd']
  show wpAny _ _ (alloc { cls := Value.type "dict", data := Data.dict #[] } >>= _) _ _ _
  have x1 := Heap.get?_push_of_some (h := s.heap) { cls := .type "dict", data := .dict #[] } hx
  refine wpAny_bind (wpAny_alloc' (wpAny_bind (wpAny_update' x1 (wpAny_pure ?_))))
  generalize eg : (s.heap.push { cls := .type "dict", data := .dict #[] }).update x (fun o => { cls := o.cls, dict := some s.heap.objs.size, data := o.data, slots := o.slots }) = g1
  have d1 : g1.get? s.heap.objs.size = some { cls := .type "dict", data := .dict #[] } := by
    rw [← eg]; exact (Heap.get?_update_ne _ _ _ _ (Ne.symm nx)).trans (Heap.get?_push_at rfl rfl)
  have e1 : g1.get? x = some (excO C (some s.heap.objs.size) t) := by rw [← eg]; exact Heap.get?_update_self _ x1 rfl
  have o1 : ∀ b o, b ≠ x → s.heap.get? b = some o → g1.get? b = some o := fun b o nb z => by
    rw [← eg]; exact (Heap.get?_update_ne _ _ _ _ nb).trans (Heap.get?_push_of_some _ z)
  have n1 : g1.Ns s.heap.objs.size (fun _ => none) := ⟨_, #[], _, d1, rfl, (fun e he => absurd he (by simp)), fun _ => rfl⟩
  show wpAny _ _ (storeInDict s.heap.objs.size (.str f s.toks) f v) _ _ _
  unfold storeInDict newKeyGuard
  refine wpAny_bind (wpAny_pure (wpAny_bind (wpAny_nsSet1 (Heap.Ns1.of_empty n1) fun h' n2 sb => ?_)))
  obtain ⟨oD, esD, epD, gD, dD, cD⟩ := n2.count (Within.cons f v Within.nil)
  refine wpAny_bind (wpAny_lookBehind gD (by rw [dD]; exact pastItsLine_dict (Nat.le_trans cD (by rw [List.length_cons, List.length_nil, sizeLine_eq]; omega))) ?_)
  refine wpAny_pure ?_
  exact k h' s.heap.objs.size (Nat.le_refl _) ((sb.2 x nx).trans e1) n2 fun b o nb z => (sb.2 b (Nat.ne_of_lt (Heap.lt_size z))).trans (o1 b o nb z)
end
section
variable {X : Cx} {pins : List (Addr × Obj)} {σ : St} {H : Hp} {s : Shared} {A : Around} {E : Value → Shared → Prop} {a C : Addr} {f : Str}
theorem xnew_at {dd : Option Addr} (I : Inv X pins σ H s) (h : H a = some (xNew a C dd)) : ∃ t, s.heap.get? a = some (excO C dd t) := (show ObjOk X.prog X.w H s.heap a (xNew a C dd) from I.hok a _ h).1
theorem xnew_ok {P : Program} {w : World} {dd : Option Addr} {h : Heap} {t : Addr} (e : h.get? a = some (excO C dd t)) : ObjOk P w H h a (xNew a C dd) :=
  ⟨⟨t, e⟩, ⟨_, e⟩, fun _ _ ⟨u, q⟩ z => ⟨u, z _ q⟩⟩
theorem setX_ok {y : V} {u : Value} {Q : Unit → Shared → Prop} (I : Inv X pins σ H s) (e : H a = some (xNew a C none)) (Z : XSet X.K C f) (ry : RelV y u)
    (k : ∀ d s', H d = none → d ≠ a → Inv X pins σ (upd (upd H d (.xd [(f, y)])) a (xNew a C (some d))) s' → Q () s') : wpAny (model X.prog X.w) A (setAttr (.ref a) f u) Q E s := by
  obtain ⟨t, ge⟩ := xnew_at I e
  refine setX I.kIn Z ge fun h' d sd g1 g2 g3 => ?_
  have nd : H d = none := I.hok.fresh sd
  have da : d ≠ a := fun z => by rw [z, e] at nd; cases nd
  have gd : s.heap.get? d = none := Heap.get?_none_of_le sd
  refine k d _ nd da ?_
  have ne : ∀ {b : Addr} {v : HO}, H b = some v → b ≠ d := fun z1 z2 => by rw [z2, nd] at z1; cases z1
  have na : ∀ {b : Addr}, H b = none → b ≠ a := fun z1 z2 => by rw [z2, e] at z1; cases z1
  have same : ∀ b, b ≠ a → b ≠ d → upd (upd H d (.xd [(f, y)])) a (xNew a C (some d)) b = H b := fun b z1 z2 => by rw [upd_ne z1, upd_ne z2]
  have keepK : ∀ (b : Addr) (v : HO), H b = some v → v ≠ xNew a C none → upd (upd H d (.xd [(f, y)])) a (xNew a C (some d)) b = some v := fun b v z1 z2 => by
    rw [same b (fun z => by rw [z, e] at z1; exact z2 (Option.some.inj z1).symm) (ne z1)]; exact z1
  refine Inv.step (g' := s.gens) (d' := s.drawn) (t' := s.toks + 2) (ch := []) I (fun b hb => by cases hb) (fun b o _ _ _ z n => g3 b o (na n) z) (fun b o _ _ _ z n => ⟨o.slots, g3 b o (na n) z⟩) (fun b o _ z n => ?_) (fun b o _ z => ?_)
    (fun b xs z => keepK b _ z (by intro q; cases q)) (fun b o v z => keepK b _ z (by intro q; cases q)) (fun b ps z => ⟨#[], by rw [Array.append_empty]; exact keepK b _ z (by intro q; cases q)⟩) (fun m hn => ?_) (fun b v z => ?_) I.bare
  · rw [same b (na n) fun q => by rw [q, gd] at z; cases z]; exact n
  · by_cases hb : b = a
    · exact ⟨_, hb ▸ g1⟩
    · exact ⟨o, g3 b o hb z⟩
  · obtain ⟨o, es, ep, ho, r⟩ := hn
    exact ⟨o, es, ep, g3 _ o (na I.free) ho, r⟩
  · by_cases hb : b = a
    · subst hb
      rw [upd_same] at z; cases z
      exact xnew_ok g1
    · by_cases hd : b = d
      · subst hd
        rw [upd_ne hb, upd_same] at z; cases z
        refine ⟨_, g2, fun y' => ?_⟩
        show RelO (List.lookup y' [(f, y)]) (if y' = f then some u else none)
        by_cases q : y' = f
        · subst q
          simp only [List.lookup, beq_self_eq_true, if_pos]
          exact ry
        · have : (y' == f) = false := beq_eq_false_iff_ne.mpr q
          simp only [List.lookup, this, if_neg q]
          exact True.intro
      · rw [same b hb hd] at z
        refine (I.hok b v z).stay (fun c w hc q => g3 c w ?_ q) (fun c q => keepK c _ q (by intro q; cases q)) fun c xs q => keepK c _ q (by intro q; cases q)
        rintro rfl
        rcases hc with r | r
        · exact hb r.symm
        · rw [e] at r; cases r
noncomputable def sFldX (K : PySem.W.Frag) (ta tv : TE) (f : Str) : TS := fun D σ H => tv σ H fun y H1 => ta σ H1 fun x H2 => ∃ a C, x = .ref a ∧ H2 a = some (xNew a C none) ∧ XSet K C f ∧ ∀ d, H2 d = none → d ≠ a → D.nx σ (upd (upd H2 d (.xd [(f, y)])) a (xNew a C (some d)))
theorem ps_fldX {o value : Expr} {pos pos' : Pos} {ta tv : TE} (ha : PE X o ta) (hv : PE X value tv) (hs : swapsWith value (some (.Attribute o f pos')) pos.line X.env = pure false) : PS X (.Assign [.Attribute o f pos'] value pos) (sFldX X.K ta tv f) := by
  intro pins s σ H D I h
  refine plainObj_wpAny_Assign_Attribute (thn (hv pins s σ H _ I h) fun u s1 ⟨y, H1, I1, ry, q⟩ => thn (ha pins s1 σ H1 _ I1 q) fun ov s2 ⟨x, H2, I2, rx, a, C, ex, ea, Z, q2⟩ => ?_) hs
  subst ex
  obtain rfl : ov = Value.ref a := rx
  exact setX_ok I2 ea Z ry fun d s3 hd hda I3 => ⟨σ, _, I3, q2 d hd hda⟩
end
end L2
namespace L2
open PySem PySem.Spec PyProof.Rows
theorem ns_some {K : PySem.W.Frag} {h : Heap} {N : Addr} {mN : Str → Option Value} {n : Str} {v : Value} (X : K.In h) (G : h.Ns N mN) (e : PySem.W.nsIn K N n = some (some v)) : mN n = some v := by
  obtain ⟨o, es, ep, go, de, _, fe⟩ := G
  unfold PySem.W.nsIn at e
  split at e
  · rename_i q
    have z := X _ _ q
    rw [go] at z
    cases z
    cases de
    split at e
    · rename_i en he
      cases e
      rw [← fe]
      unfold nsFind findBy
      rw [← Array.find?_toList, he]; rfl
    · split at e <;> cases e
  · cases e
structure OwnI (x : Str) (C fI : Addr) (mg : Str → Option Value) (h : Heap) : Prop where
  bound : mg x = some (.ref C)
  obj : ∃ tl N nm q bs hdct sn sub ab col dd k0 k1 k2 k3 k5 mN oI, h.get? C = some (excClassObj nm q C N bs tl hdct sn sub ab col dd k0 k1 k2 k3 k5 "ValueError.__new__") ∧ h.Ns N mN ∧ mN "__init__" = some (.ref fI) ∧ OwnTail h bmV tl ∧ h.get? fI = some oI ∧ oI.cls = .type "function"
noncomputable def del (H : Hp) (e : Addr) : Hp := fun b => if b = e then none else H b
theorem del_same {H : Hp} {e : Addr} : del H e e = none := by unfold del; rw [if_pos rfl]
theorem del_ne {H : Hp} {e b : Addr} (h : b ≠ e) : del H e b = H b := by unfold del; rw [if_neg h]
theorem Inv.del {X : Cx} {pins : List (Addr × Obj)} {σ : St} {H : Hp} {s : Shared} {e C : Addr} {dd : Option Addr} (I : Inv X pins σ H s) (he : H e = some (xNew e C dd)) : Inv X pins σ (del H e) s := by
  have kp : ∀ (b : Addr) (v : HO), H b = some v → v ≠ xNew e C dd → L2.del H e b = some v := fun b v z n => by
    rw [del_ne fun q => by rw [q, he] at z; exact n (Option.some.inj z).symm]; exact z
  have fr : ∀ b, H b = none → L2.del H e b = none := fun b z => by
    unfold L2.del; split
    · rfl
    · exact z
  refine ⟨I.ok, I.os, I.bare, ⟨I.base.keep, I.base.slot, fun b o z n hx => fr b (I.base.free b o z n hx), I.base.there, fun b xs z => kp b _ (I.base.tups b xs z) (by intro q; cases q), fun b o u z => kp b _ (I.base.frzs b o u z) (by intro q; cases q), fun b ps z => ?_⟩, I.loc, I.cell, fr _ I.free, fun x c z => fr _ (I.freeC x c z), fun p hp => ?_, fun b v z => ?_, I.len⟩
  · obtain ⟨more, q⟩ := I.base.tbls b ps z
    exact ⟨more, kp b _ q (by intro q; cases q)⟩
  · obtain ⟨g1, g2, g3⟩ := I.pin p hp
    exact ⟨g1, fr _ g2, g3⟩
  · have hb : H b = some v := by
      unfold L2.del at z; split at z
      · cases z
      · exact z
    exact (I.hok b v hb).stay (fun _ _ _ q => q) (fun c q => kp c _ q (by intro q; cases q)) fun c xs q => kp c _ q (by intro q; cases q)
noncomputable def tRaiseI (E : XK) (C : Addr) (sp : Sp) (ta : TA) : TS := fun _ σ H => ta σ H fun vs H1 => vs.length ≤ sizeLine ∧ ∀ e, H1 e = none → sp (.ref e :: vs) (upd H1 e (xNew e C none)) (fun v H2 => v = .non ∧ ∃ dd, H2 e = some (xNew e C dd) ∧ E (.ref C) dd (del H2 e)) E0
theorem ps_raiseI {P : Program} {w : World} {K : PySem.W.Frag} {mg : Str → Option Value} {base : Heap} {N : List Str} {qual : Str} {scope : Scope} {f : Addr} {cd : Value} {A : Around} {outer : List Env} {s : Shared} {H : Hp} {E : XK}
    {x : Str} {C fI : Addr} {fd : FuncData} {ps : List Str} {sp : Sp} {k : Nat} {np cpos pos : Pos} {e₀ : Expr} {rest : List Expr} {ta : TA} (O : OwnI x C fI mg base) (kp : PySem.W.keepIn K (.ref C) = true)
    (F : FnOk P w K mg base CX0 k fI fd ps sp) (hb : Binds K fd ps []) (hr : Room (k + 1) (cxOf (CX1 P w) P w K mg base N qual scope f cd A outer s H E).A)
    (hg : Gl (cxOf (CX1 P w) P w K mg base N qual scope f cd A outer s H E) x) (ha : PA (cxOf (CX1 P w) P w K mg base N qual scope f cd A outer s H E) (e₀ :: rest) ta)
    (he : starEach (e₀ :: rest) (cxOf (CX1 P w) P w K mg base N qual scope f cd A outer s H E).env = (false, eval e₀ (cxOf (CX1 P w) P w K mg base N qual scope f cd A outer s H E).env) :: starEach rest (cxOf (CX1 P w) P w K mg base N qual scope f cd A outer s H E).env := by rfl)
    (hpl : (backTo cpos (starEach rest (cxOf (CX1 P w) P w K mg base N qual scope f cd A outer s H E).env)).any (·.1) = false := by rfl) (hdb : (x == ("__debug__" : Str)) = false := by decide) :
    PS (cxOf (CX1 P w) P w K mg base N qual scope f cd A outer s H E) (.Raise (some (.Call (.Name x np) (e₀ :: rest) [] cpos)) none pos) (tRaiseI E C sp ta) := by
  intro pins s1 σ H1 D I h
  obtain ⟨tl, Nn, nm, q, bs, hdct, sn, sub, ab, col, dd, k0, k1, k2, k3, k5, mN, oI, hC, hN, hi, T, gf, cf⟩ := O.obj
  rw [arm_exec_Raise]
  refine wpAny_bind (wpAny_standAt (raiseStmtX (C := C) (bm := tl) (T.hasType PySem.F.excBase_ValueError.hasBase) (I.ok.hd rfl) ?_))
  show wpAny _ _ (do let v ← eval (.Call (.Name x np) (e₀ :: rest) [] cpos) _; standAt pos; pure v) _ _ _
  refine wpAny_bind (thn (Q := fun v s3 => ∃ e t dq, v = .ref e ∧ XAt s3.heap C tl ∧ s3.heap.get? e = some (excO C dq t) ∧ (cxOf (CX1 P w) P w K mg base N qual scope f cd A outer s H E).xe (.ref e) s3) ?_ fun v s3 z => wpAny_bind (wpAny_standAt (wpAny_pure z)))
  refine wpAny_Call_Name_kw (ld_glob I hg O.bound ?_ hdb)
  refine PySem.W.callWith_K (h₀ := base) I.ok.mod.kin kp (thn (ha cpos pins s1 σ H1 _ I h) fun us s2 ⟨vs, H2, I2, r, hl, q2⟩ => ⟨I2.kIn, ?_⟩) he hpl
  have bk := I2.bk
  obtain ⟨hh, g, d, tk, os⟩ := s2
  refine call_init PySem.F.excBase_ValueError (by decide) PySem.F.excBase_ValueError (T.keeps bk) (bk _ _ hC) (hN.keeps bk) hi (bk _ _ gf) cf (by rw [List.nil_append, ← r.length]; exact hl) fun h' e hm => ?_
  rw [List.nil_append] at hm ⊢
  obtain ⟨t, ge, _, _⟩ := hm.there
  have ne : H2 e = none := by
    cases z : H2 e with
    | none => rfl
    | some u =>
      obtain ⟨o, ho⟩ := ObjOk.obj (I2.hok e u z)
      rw [hm.new] at ho; cases ho
  have n0 : s.heap.get? e = none := by
    cases z : s.heap.get? e with
    | none => rfl
    | some o =>
      obtain ⟨o', e'⟩ := I2.base.there e o z (by intro y; cases y)
      rw [hm.new] at e'; cases e'
  have I3 : Inv (cxOf (CX1 P w) P w K mg base N qual scope f cd A outer s H E) pins σ (upd H2 e (xNew e C none)) ⟨h', g, d, tk, os⟩ :=
    Inv.track I2 (I2.kept (t' := tk) hm.keeps) hm.new ne (xnew_ok ge)
  have hs := q2 e ne
  have r2 : Vals (V.ref e :: vs) (Value.ref e :: us) := .cons rfl r
  have hlen : (Value.ref e :: us ++ []).length = ps.length := by rw [List.append_nil, ← r2.length]; exact F.len _ _ _ _ hs
  refine wpAny_call (codeAny_mono (F.run _ _ _ _ ⟨Value.ref e :: us, []⟩ (Value.ref e :: us ++ []) (V.ref e :: vs) _ _ (hr.make C us []) (I3.env0.make C us []) (hb _ (Value.ref e :: us) I3.kIn hlen) (by rw [List.append_nil]; exact r2) hs) fun r s' hq => ?_)
  cases r with
  | error ev => exact False.elim hq
  | ok fl =>
    cases fl with
    | ret u =>
      obtain ⟨v, H4, I4, rv, rfl, dq, e4, qE⟩ := I3.after hq
      obtain ⟨t4, g4⟩ := xnew_at I4 e4
      refine ⟨rv, e, t4, dq, rfl, ⟨nm, q, Nn, bs, hdct, sn, sub, ab, col, dd, k0, k1, k2, k3, k5, _, I4.bk _ _ hC⟩, g4, ?_⟩
      exact raiseG (I4.del e4) del_same g4 rfl rfl n0 qE
    | next => exact False.elim hq
    | brk => exact False.elim hq
    | cont => exact False.elim hq
end L2
namespace L2
open PySem PySem.Spec PyProof.Rows
structure XGet (K : PySem.W.Frag) (C : Addr) (f : Str) : Prop where
  na : PySem.W.findIn K (.ref C) f = some none
  hd : PySem.W.hasDictIn K C = true
section
open PySem.W PySem.Calls Builtin Builtin.ObjectAttr
variable {K : Frag} {x C : Addr} {h : Heap} {M : Model} {prog : Program} {w : World} {A : Around} {E : Value → Shared → Prop} {s : Shared} {ox od : Obj} {f : Str} {u : Value}
theorem xg_ga {tk : Tok} {R : Result → Shared → Prop} (Z : XFacts K C) (X : K.In s.heap) (I : InstAt s.heap x ox C (some od)) (hf : findObj K C (some od) f = some (.value u)) (h : R (.ok (.ret u)) s) :
    codeAny (model prog w) A (.call (.builtin "BaseException.__getattribute__") ⟨[.ref x, .str f tk], []⟩) R s := by
  have q1 := I.type (M := model prog w)
  have q2 := looks_mroIn (M := model prog w) X Z.hb
  have q3 := looks_find (M := model prog w) X I hf
  have hk : builtinKind "BaseException.__getattribute__" = some .slot := by decide +kernel
  have hs : splitId "BaseException.__getattribute__" = some ("BaseException", "__getattribute__") := by decide +kernel
  have ha := PySem.F.args_bexc_ga (.ref x) (.str f tk)
  obtain ⟨hh, g, dr, t, os⟩ := s
  refine codeAny_call_builtin PySem.F.attr_ValueError.ga.plain PySem.F.entry_bexc_ga ?_
  simp only [checkBuiltinCall, hk, hs]
  refine wpAny_bind ?_
  unfold isInstance
  repeat lk
  exact h
theorem xg_get {b : Bool} {Q : Value → Shared → Prop} (Z : XFacts K C) (X : K.In s.heap) (I : InstAt s.heap x ox C (some od)) (hf : findObj K C (some od) f = some (.value u)) (hu : handedIn u = true) (h : Q u { s with toks := s.toks + 1 }) :
    wpAny (model prog w) A (getAttr (.ref x) f b) Q E s := by
  have q1 := I.type (M := model prog w)
  have q2 := looks_findIn (M := model prog w) X Z.ga
  have q4 := looks_findIn (M := model prog w) X Z.gb
  have f3 := PySem.F.attr_ValueError.ga.bind (.ref x)
  obtain ⟨hh, g, dr, t, os⟩ := s
  simp only [getAttr, getAttrBy]
  refine wpAny_bind (wpAny_mkText (wpAny_holding (wpAny_bind (q1.at (wpAny_bind (q2.at ?_))))))
  show wpAny _ _ (getAttrByItsOwn _ _ _ _ _ _) _ _ _
  refine wpAny_bind ?_
  show wpAny _ _ (typeLookup (.ref C) "__getattr__") _ _ _
  refine q4.at (wpAny_bind (wpAny_attempt (wpAny_holding ?_)))
  unfold callGetattribute
  rw [if_neg (by cases b <;> decide)]
  unfold boundAndCalled
  rw [f3]
  refine wpAny_bind (wpAny_pure ?_)
  show wpAny _ _ (call (.builtin "BaseException.__getattribute__") [.ref x, .str f t]) _ _ _
  refine wpAny_call (xg_ga Z X I hf ?_)
  show wpAny _ _ (handedOut u) _ _ _
  exact handed_on hu (by exact h)
end
section
variable {X : Cx} {e : Expr} {f : Str} {pos : Pos} {ta : TE}
noncomputable def tFldX (K : PySem.W.Frag) (ta : TE) (f : Str) : TE := fun σ H Q => ta σ H fun x H1 => ∃ a C d fs v, x = .ref a ∧ H1 a = some (xObj a C (some d)) ∧ H1 d = some (.xd fs) ∧ fs.lookup f = some v ∧ XFacts K C ∧ XGet K C f ∧ Q v H1
theorem pe_fldX (he : PE X e ta) (hb : attributeBase e f X.env (eval e X.env) = eval e X.env) : PE X (.Attribute e f pos) (tFldX X.K ta f) := by
  intro pins s σ H Q I h
  refine attr_of hb (thn (he pins s σ H _ I h) fun u s1 ⟨x, H1, I1, rx, a, C, d, fs, v, ex, ea, ed, l, Z, G, q⟩ => ?_)
  subst ex
  obtain rfl : u = Value.ref a := rx
  obtain ⟨o, go, oc, dd, nc⟩ := (show ObjOk X.prog X.w H1 s1.heap a (xObj a C (some d)) from I1.hok a _ ea).1
  obtain ⟨mA, ns, r⟩ := (show ObjOk X.prog X.w H1 s1.heap d (.xd fs) from I1.hok d _ ed)
  obtain ⟨od, gd, lk⟩ := lookIn_ns ns
  obtain ⟨u', hu, ru⟩ := RelO.some_of (v := v) (o := mA f) (by rw [← l]; exact r f)
  have J : PySem.W.InstAt s1.heap a o C (some od) := ⟨go, oc, nc, by rw [dd]; exact gd⟩
  exact xg_get Z I1.kIn J (PySem.W.findObj_own G.hd G.na rfl (by rw [lk, hu])) (handed_of ru) ⟨v, H1, I1.tok _, ru, q⟩
end
end L2
namespace L2
open PySem PySem.Spec PyProof.Rows
noncomputable def ecOf (ps : List (Str × Addr)) (x : Str) : Addr := (ps.lookup x).getD 0
theorem ecOf_at : ∀ {ps : List (Str × Addr)}, (ps.map (·.1)).Nodup → ∀ p ∈ ps, ecOf ps p.1 = p.2
  | [], _, p, h => by cases h
  | q :: ps, nd, p, h => by
    rw [List.map_cons, List.nodup_cons] at nd
    unfold ecOf
    rcases List.mem_cons.mp h with rfl | h
    · rw [List.lookup_cons]; simp
    · have ne : p.1 ≠ q.1 := fun z => nd.1 (z ▸ List.mem_map.mpr ⟨p, h, rfl⟩)
      have : (p.1 == q.1) = false := by simpa using ne
      rw [List.lookup_cons, this]
      exact ecOf_at nd.2 p h
theorem fa_nil {α : Type} {P : α → Prop} : ∀ x ∈ ([] : List α), P x := fun x h => by cases h
theorem fa_cons {α : Type} {P : α → Prop} {a : α} {l : List α} (h : P a) (g : ∀ x ∈ l, P x) : ∀ x ∈ a :: l, P x := fun x hx => by
  rcases List.mem_cons.mp hx with rfl | hx
  · exact h
  · exact g x hx
variable {K : PySem.W.Frag} {mg : Str → Option Value} {base : Heap}
theorem errs_mk {ps cs : List (Str × Addr)} (nd : (ps.map (·.1)).Nodup) (sub : ∀ p ∈ cs, p ∈ ps) (b : ∀ p ∈ ps, mg p.1 = some (.ref p.2)) (f : ∀ p ∈ cs, XFacts K p.2) (ord : ("OrderError" : Str) ∈ cs.map (·.1))
    (kit : ∀ p ∈ cs, p.1 ≠ "OrderError" → ∀ q ∈ ps, PySem.W.kitOne K (.ref p.2) (.ref q.2) = some (q.1 == p.1 || q.1 == ("OrderError" : Str))) (val : ∀ p ∈ cs, PySem.W.kitOne K (.ref p.2) (.type "ValueError") = some true)
    (at_ : ∀ p ∈ cs, ∃ bm, XAt base p.2 bm ∧ bm.contains (.type "BaseException") = true ∧ (Value.ref p.2 :: bm).contains (.ref (ecOf ps "OrderError")) = true) (nv : mg "ValueError" = none)
    (own : ∀ p ∈ cs, p.1 ∉ (["NoText", "Ring", "NoUnit"] : List Str) → OwnCls p.1 p.2 [.type "ValueError", .type "Exception", .type "BaseException", .type "object"] "ValueError.__new__" mg base) : Errs K mg base (ecOf ps) (ps.map (·.1)) (cs.map (·.1)) := by
  have e := ecOf_at nd
  have q : ∀ {x : Str}, x ∈ ps.map (·.1) → ∃ p ∈ ps, p.1 = x := fun h => by obtain ⟨p, hp, rfl⟩ := List.mem_map.mp h; exact ⟨p, hp, rfl⟩
  have r : ∀ {x : Str}, x ∈ cs.map (·.1) → ∃ p ∈ cs, p.1 = x := fun h => by obtain ⟨p, hp, rfl⟩ := List.mem_map.mp h; exact ⟨p, hp, rfl⟩
  refine ⟨fun x hx => ?_, fun x hx => ?_, ord, fun x hx hn y hy => ?_, fun x hx => ?_, fun x hx => ?_, nv, fun x hx hn => ?_⟩
  · obtain ⟨p, hp, rfl⟩ := q hx
    rw [e p hp]; exact b p hp
  · obtain ⟨p, hp, rfl⟩ := r hx
    rw [e p (sub p hp)]; exact f p hp
  · obtain ⟨p, hp, rfl⟩ := r hx
    obtain ⟨p2, hp2, rfl⟩ := q hy
    rw [e p (sub p hp), e p2 hp2]; exact kit p hp hn p2 hp2
  · obtain ⟨p, hp, rfl⟩ := r hx
    rw [e p (sub p hp)]; exact val p hp
  · obtain ⟨p, hp, rfl⟩ := r hx
    rw [e p (sub p hp)]; exact at_ p hp
  · obtain ⟨p, hp, rfl⟩ := r hx
    rw [e p (sub p hp)]; exact own p hp hn
end L2
namespace MG
variable {es : List (Nat × Nat)} {goal : Nat}
end MG
namespace MG
variable {es : List (Nat × Nat)} {n : Nat} {ks ls : List Nat}
end MG
namespace L2
open PySem PySem.Spec PyProof.Rows
noncomputable def inCls (s : Stmt) (i : Nat) : Stmt := match s with
  | .ClassDef _ _ _ b _ _ _ _ _ _ _ => b.getD i (.Pass ⟨0, 0, 0, 0⟩)
  | s => s
section
variable {P : Program} {w : World} {K : PySem.W.Frag} {mg : Str → Option Value} {base : Heap}
variable {x : Str} {C N fI : Addr} {bm bs : List Value} {nm q : Str} {hdct : Bool} {sn : List Str} {sub : List Value} {ab : Bool} {col : Option Bool} {dd : Option Addr} {k0 k1 k2 k3 k5 : Option Value} {h : Heap}
theorem ownI_mk {od : Option Addr} {dt : Data} {sl : Array (Option Value)} (X : K.In h) (bound : mg x = some (.ref C)) (lk : K.lookup C = some (excClassObj nm q C N bs bm hdct sn sub ab col dd k0 k1 k2 k3 k5 "ValueError.__new__")) (ok : PySem.W.nsOkIn K N = true)
    (ni : PySem.W.nsIn K N "__init__" = some (some (.ref fI))) (tl : PySem.W.tailIn K bmV bm = true) (lf : K.lookup fI = some ⟨.type "function", od, dt, sl⟩) : OwnI x C fI mg h :=
  ⟨bound, bm, N, nm, q, bs, hdct, sn, sub, ab, col, dd, k0, k1, k2, k3, k5, _, _, X _ _ lk, .of_isNs (PySem.W.isNs_of_in X ok), ns_some X (.of_isNs (PySem.W.isNs_of_in X ok)) ni, PySem.W.tail_of_in X tl, X _ _ lf, rfl⟩
structure MkI (P : Program) (w : World) (K : PySem.W.Frag) (mg : Str → Option Value) (base : Heap) (k : Nat) (x : Str) (C : Addr) (ps : List Str) (sp : Sp) : Prop where
  ex : ∃ (fI : Addr) (fd : FuncData), OwnI x C fI mg base ∧ PySem.W.keepIn K (.ref C) = true ∧ FnOk P w K mg base CX0 k fI fd ps sp ∧ Binds K fd ps []
theorem ps_raiseM {NN : List Str} {qual : Str} {scope : Scope} {f : Addr} {cd : Value} {A : Around} {outer : List Env} {s : Shared} {H : Hp} {E : XK} {ps : List Str} {sp : Sp} {k : Nat} {np cpos pos : Pos} {e₀ : Expr} {rest : List Expr} {ta : TA}
    (m : MkI P w K mg base k x C ps sp) (hr : Room (k + 1) (cxOf (CX1 P w) P w K mg base NN qual scope f cd A outer s H E).A)
    (hg : Gl (cxOf (CX1 P w) P w K mg base NN qual scope f cd A outer s H E) x) (ha : PA (cxOf (CX1 P w) P w K mg base NN qual scope f cd A outer s H E) (e₀ :: rest) ta)
    (he : starEach (e₀ :: rest) (cxOf (CX1 P w) P w K mg base NN qual scope f cd A outer s H E).env = (false, eval e₀ (cxOf (CX1 P w) P w K mg base NN qual scope f cd A outer s H E).env) :: starEach rest (cxOf (CX1 P w) P w K mg base NN qual scope f cd A outer s H E).env := by rfl)
    (hpl : (backTo cpos (starEach rest (cxOf (CX1 P w) P w K mg base NN qual scope f cd A outer s H E).env)).any (·.1) = false := by rfl) (hdb : (x == ("__debug__" : Str)) = false := by decide) :
    PS (cxOf (CX1 P w) P w K mg base NN qual scope f cd A outer s H E) (.Raise (some (.Call (.Name x np) (e₀ :: rest) [] cpos)) none pos) (tRaiseI E C sp ta) := by
  obtain ⟨fI, fd, O, kp, F, b⟩ := m.ex
  exact ps_raiseI O kp F b hr hg ha he hpl hdb
end
end L2
namespace K07
open PySem L2
noncomputable def top (i : Nat) : Stmt := PySem.Challenge.pw_orderkeep_k07_whole_bent_texts_of_webs.main.body.getD i (.Pass ⟨0, 0, 0, 0⟩)
noncomputable abbrev sIsName : Stmt := top 6
noncomputable abbrev sWebOf : Stmt := top 10
noncomputable abbrev sPlaces : Stmt := top 11
noncomputable abbrev sAreThings : Stmt := top 12
noncomputable abbrev sUNm : Stmt := top 13
noncomputable abbrev sUnlike : Stmt := top 14
noncomputable abbrev sWrong : Stmt := top 15
noncomputable abbrev sAmong : Stmt := top 16
noncomputable abbrev sShow : Stmt := top 18
noncomputable abbrev sRead : Stmt := top 19
noncomputable abbrev sTieIn : Stmt := top 20
noncomputable abbrev sPen : Stmt := top 22
noncomputable abbrev sDraw : Stmt := top 23
noncomputable abbrev sNames : Stmt := top 24
noncomputable abbrev sThings : Stmt := top 25
noncomputable abbrev sTies : Stmt := top 26
noncomputable abbrev sText : Stmt := top 27
noncomputable abbrev sSign : Stmt := top 28
noncomputable abbrev sBent : Stmt := top 29
noncomputable abbrev sLine : Stmt := top 30
noncomputable abbrev sRight : Stmt := top 31
noncomputable abbrev sLaw : Stmt := top 32
noncomputable abbrev sNoTextInit : Stmt := inCls (top 3) 0
section
variable {P : Program} {w : World} {K : PySem.W.Frag} {mg : Str → Option Value} {base : Heap}
noncomputable def spNames (K : PySem.W.Frag) : Sp := fun vs H Q _ => ∃ (p a : Addr) (m : Nat), vs = [.ref p, .int (m : Int)] ∧ Pen K H p a ∧ m ≤ 60 ∧
  ∀ l ss H', ss.length = m → ss.Nodup → (∀ s ∈ ss, Nm s) → H' l = some (.lst (List.map V.str ss)) → H l = none → l ≠ p → PenV H' p a → But p H H' → Q (.ref l) H'
noncomputable def spPen (K : PySem.W.Frag) : Sp := fun vs H Q _ => ∃ (a : Addr) (ns : List Int), vs = [.ref a] ∧ SqL K H a (ns.map V.int) ∧ ∀ p H', Pen K H' p a → Q (.ref p) H'
theorem scPen : FnScope ["_law_script"] ["_law_script"] (defScope sPen) := ⟨rfl, rfl, rfl, by decide +kernel, rfl, by decide +kernel, by decide +kernel⟩
theorem ok_pen {f : Addr} {fd : FuncData} (F : Fun K "_law_pen" "_law_pen" sPen f fd) (B : Blt mg) : FnOk P w K mg base CX0 1 f fd ["_law_script"] (spPen K) := by
  refine F.ok scPen (fun vs H Q E h => ?_) (fun cdv A outer s H vs Q E hr h => ?_)
  · obtain ⟨a, ns, rfl, _⟩ := h
    rfl
  · obtain ⟨a, ns, rfl, hS, k⟩ := h
    have nd := scPen.nd
    refine ⟨_, (pss_one (ps_ret (pe_lst (pa_cons (pv 0) (pa_cons pe_int (pa_cons pe_int pa_nil)))))), ?_⟩
    refine ⟨_, rfl, (by show 3 ≤ sizeLine; decide), fun p hp => ?_⟩
    exact k p _ (Pen.new (ns := ns) hS hp ⟨0, 0, upd_same, by decide, by decide⟩)
theorem scDraw : FnScope ["_law_pen_here", "_law_most", "_law_found", "_law_place", "_law_cell", "_law_first", "_law_second"] ["_law_pen_here", "_law_most"] (defScope sDraw) := ⟨rfl, rfl, rfl, by decide +kernel, rfl, by decide +kernel, by decide +kernel⟩
theorem ok_draw {f : Addr} {fd : FuncData} (F : Fun K "_law_draw" "_law_draw" sDraw f fd) (B : Blt mg) : FnOk P w K mg base CX0 1 f fd ["_law_pen_here", "_law_most"] (spDraw K) := by
  refine F.ok scDraw (fun vs H Q E h => ?_) (fun cdv A outer s H vs Q E hr h => ?_)
  · obtain ⟨p, a, m, rfl, _⟩ := h
    rfl
  · obtain ⟨p, a, m, rfl, ⟨⟨ns, hS⟩, i, n, hp, hi, hn⟩, hm, hm2, k⟩ := h
    have ku : ∀ (H1 : Hp) (o : HO), (∀ b, b ≠ p → H1 b = H b) → ∀ b, b ≠ p → (upd H1 p o) b = H b := fun H1 o q b n => by rw [upd_ne n]; exact q b n
    have nd := scDraw.nd
    refine ⟨_, (pss_cons (ps_if (pt_cmpR op_gt (pe_ix (ix_X K hr.units) (pv 0) pe_int (fun _ _ => rfl)) pe_int (nomark _)) (pss_cons (ps_set (i := 2) nd rfl (Or.inl rfl) (pe_op op_mod (pe_ix (ix_X K hr.units) (pv 0) pe_int (fun _ _ => rfl)) (pv 1)))
      (pss_cons (ps_asg (pe_op op_fdiv (pe_ix (ix_X K hr.units) (pv 0) pe_int (fun _ _ => rfl)) (pv 1)) (pg_sub (pv 0) pe_int (set_X hr.units)))
      (pss_one (ps_ret (pv 2))))) pss_nil)
      (pss_cons (ps_set (i := 3) nd rfl (Or.inl rfl) (pe_ix (ix_X K hr.units) (pv 0) pe_int (fun _ _ => rfl)))
      (pss_cons (ps_asg (pe_op op_addX (pv 3) pe_int) (pg_sub (pv 0) pe_int (set_X hr.units)))
      (pss_cons (ps_set (i := 4) nd rfl (Or.inl rfl) pe_int)
      (pss_cons (ps_if (pt_cmpR op_gt (b_len K B (pa_cons (pe_ix (ix_X K hr.units) (pv 0) pe_int (fun _ _ => rfl)) pa_nil)) pe_int (nomark _)) (pss_one (ps_set (i := 4) nd rfl (Or.inl rfl) (pe_ix (ix_X K hr.units) (pe_ix (ix_X K hr.units) (pv 0) pe_int (fun _ _ => rfl)) (pe_op op_mod (pv 3) (b_len K B (pa_cons (pe_ix (ix_X K hr.units) (pv 0) pe_int (fun _ _ => rfl)) pa_nil))) (fun _ _ => rfl)))) pss_nil)
      (pss_cons (ps_if (PW.pt (pw_and (pt_cmpR op_ltX (pv 3) (b_len K B (pa_cons (pe_ix (ix_X K hr.units) (pv 0) pe_int (fun _ _ => rfl)) pa_nil)) (nomark _)) (pw_and1 (pt_cmpR op_ge (b_abs B (pa_cons (pv 4) pa_nil)) (pe_op op_pow pe_int pe_int) (nomark _))))) (pss_cons (ps_asg (pe_op op_fdiv (b_abs B (pa_cons (pv 4) pa_nil)) (pv 1)) (pg_sub (pv 0) pe_int (set_X hr.units)))
      (pss_one (ps_ret (pe_op op_mod (b_abs B (pa_cons (pv 4) pa_nil)) (pv 1))))) pss_nil)
      (pss_cons (ps_set (i := 5) nd rfl (Or.inl rfl) (pe_op op_mod (pe_op op_mul (pe_op op_addX (pe_op op_addX (pe_op op_mod (pv 4) pe_int) (pe_op op_mul pe_int (pv 3))) pe_int) pe_int) pe_int))
      (pss_cons (ps_set (i := 6) nd rfl (Or.inl rfl) (pe_op op_mod (pe_op op_addX (pe_op op_addX (pe_op op_mul (pv 5) (pv 5)) (pe_op op_mul pe_int (pv 3))) pe_int) pe_int))
      (pss_one (ps_ret (pe_op op_mod (pe_op op_fdiv (pv 6) pe_int) (pv 1)))))))))))), ?_⟩
    refine ⟨_, rfl, .lst (.of hp) rfl ⟨_, _, rfl, rfl, _, rfl, ?_⟩⟩
    refine ite2 (fun h => ?_) (fun h => ?_)
    · refine ⟨_, rfl, .lst (.of hp) rfl ⟨_, rfl, _, _, rfl, rfl, hm, ?_⟩⟩
      refine ⟨_, rfl, .lst (.of hp) rfl ⟨_, rfl, _, _, rfl, rfl, ⟨hm, hm2⟩, ?_⟩⟩
      refine ⟨_, rfl, .lst (j := 2) hp rfl ?_⟩
      refine ⟨_, rfl, ?_⟩
      exact k _ _ (Int.emod_nonneg _ (by omega)) (Int.emod_lt_of_pos _ hm) ⟨i, n / m, upd_same, hi, Int.ediv_nonneg hn (by omega)⟩ (ku H _ fun _ _ => rfl)
    · refine ⟨_, rfl, .lst (.of hp) rfl ?_⟩
      refine ⟨_, rfl, .int ?_⟩
      refine ⟨_, rfl, .lst (j := 1) hp rfl ?_⟩
      have hp1 : (upd H p (.lst ([V.ref a, V.int i, V.int n].set 1 (V.int (i + 1))))) p = some (.lst [.ref a, .int (i + 1), .int n]) := upd_same
      have hS1 : SqL K (upd H p (.lst ([V.ref a, V.int i, V.int n].set 1 (V.int (i + 1))))) a (ns.map V.int) := hS _ But.upd
      have b1 : ∀ b, b ≠ p → (upd H p (.lst ([V.ref a, V.int i, V.int n].set 1 (V.int (i + 1))))) b = H b := ku H _ fun _ _ => rfl
      generalize upd H p (.lst ([V.ref a, V.int i, V.int n].set 1 (V.int (i + 1)))) = H1 at hp1 hS1 b1 ⊢
      have fin : ∀ c : Int, 0 ≤ c → Q (.int (c % m)) H1 := fun c hc => k _ _ (Int.emod_nonneg _ (by omega)) (Int.emod_lt_of_pos _ hm) ⟨i + 1, n, hp1, by omega, hn⟩ b1
      refine ⟨_, rfl, .lst (.of hp1) rfl ⟨_, _, rfl, Or.inl ⟨_, hS1, rfl⟩, _, _, rfl, rfl, _, rfl, ?_⟩⟩
      refine ite2 (fun h => ?a) (fun h => ?b)
      case' a =>
        have hl : (0 : Int) < ((ns.map V.int).length : Nat) := of_decide_eq_true h
        obtain ⟨c, hc⟩ := at_int (ns := ns) (j := i % ((ns.map V.int).length : Nat)) (Int.emod_nonneg _ (by omega)) (Int.emod_lt_of_pos _ hl)
        refine ⟨_, rfl, .lst (.of hp1) rfl ⟨_, rfl, _, rfl, .lst (.of hp1) rfl ⟨_, _, rfl, Or.inl ⟨_, hS1, rfl⟩, _, _, rfl, rfl, hl, .lst hS1 hc ?_⟩⟩⟩
      all_goals
        refine ⟨_, rfl, _, rfl, .lst (.of hp1) rfl ⟨_, _, rfl, Or.inl ⟨_, hS1, rfl⟩, .int ⟨_, rfl, ?_⟩⟩⟩
        refine ite2 (fun h1 => ?_) (fun h1 => ?_)
        · refine ⟨_, rfl, _, rfl, _, _, rfl, rfl, ⟨by decide, by decide, by decide⟩, _, _, rfl, rfl, _, rfl, ?_⟩
          refine ite2 (fun h2 => ?_) (fun h2 => ?_)
          · refine ⟨_, rfl, _, rfl, _, rfl, _, _, rfl, rfl, ⟨hm, hm2⟩, ?_⟩
            refine ⟨_, rfl, .lst (j := 2) hp1 rfl ?_⟩
            refine ⟨_, rfl, _, rfl, _, rfl, _, _, rfl, rfl, hm, ?_⟩
            refine k _ _ (Int.emod_nonneg _ (by omega)) (Int.emod_lt_of_pos _ hm) ⟨i + 1, _, upd_same, by omega, Int.ediv_nonneg (by split <;> omega) (by omega)⟩ (ku H1 _ b1)
          · refine ⟨_, rfl, _, _, rfl, rfl, (by show (0 : Int) < _; decide), _, rfl, _, _, rfl, rfl, .inl ⟨by decide, by decide⟩, .int (.int ⟨_, _, rfl, rfl, .inr ⟨by decide, by decide⟩, _, _, rfl, rfl, (by show (0 : Int) < _; decide), ?_⟩)⟩
            refine ⟨_, rfl, _, rfl, _, _, rfl, rfl, .inl (fst_small _), _, rfl, _, _, rfl, rfl, .inl ⟨by decide, by decide⟩, .int (.int ⟨_, _, rfl, rfl, (by show (0 : Int) < _; decide), ?_⟩)⟩
            refine ⟨_, rfl, _, _, rfl, rfl, ⟨by decide, by decide⟩, _, rfl, _, _, rfl, rfl, hm, ?_⟩
            exact fin _ (Int.ediv_nonneg (Int.emod_nonneg _ (by decide)) (by decide))
        · refine ⟨_, rfl, _, _, rfl, rfl, (by show (0 : Int) < _; decide), _, rfl, _, _, rfl, rfl, .inl ⟨by decide, by decide⟩, .int (.int ⟨_, _, rfl, rfl, .inr ⟨by decide, by decide⟩, _, _, rfl, rfl, (by show (0 : Int) < _; decide), ?_⟩)⟩
          refine ⟨_, rfl, _, rfl, _, _, rfl, rfl, .inl (fst_small _), _, rfl, _, _, rfl, rfl, .inl ⟨by decide, by decide⟩, .int (.int ⟨_, _, rfl, rfl, (by show (0 : Int) < _; decide), ?_⟩)⟩
          refine ⟨_, rfl, _, _, rfl, rfl, ⟨by decide, by decide⟩, _, rfl, _, _, rfl, rfl, hm, ?_⟩
          exact fin _ (Int.ediv_nonneg (Int.emod_nonneg _ (by decide)) (by decide))
end
end K07
namespace K07
open PySem L2
section
variable {P : Program} {w : World} {K : PySem.W.Frag} {mg : Str → Option Value} {base : Heap}
noncomputable abbrev letters : Str := "abcdefghijklmnopqrstuvwxyz"
noncomputable def wordsA : List Str := ["things", "thing", "tie", "ties", "web", "one", "other", "order", "a", "aa", "z", "top"]
noncomputable def wordsB : List Str := ["line", "ring", "place", "text", "none"]
noncomputable def wordsL : List Str := wordsA ++ wordsB
theorem words_nm : ∀ s ∈ wordsL, isNm (.str s) = true := by decide +kernel
theorem words_nodup : wordsL.Nodup := by decide +kernel
theorem words_len : wordsL.length = 17 := by decide +kernel
noncomputable def aE : Stmt → Expr
  | .Assign _ e _ => e
  | _ => .Name "" ⟨0, 0, 0, 0⟩
noncomputable def withE : Stmt → Expr → Stmt
  | .Assign ts _ p, e => .Assign ts e p
  | s, _ => s
@[irreducible] noncomputable def bigE : Expr := aE ((defBody sNames).getD 1 (.Pass ⟨0, 0, 0, 0⟩))
theorem body_eq : defBody sNames = (defBody sNames).set 1 (withE ((defBody sNames).getD 1 (.Pass ⟨0, 0, 0, 0⟩)) bigE) := by unfold bigE; rfl
theorem big_sw {t : Option Expr} {l : Nat} {env : Env} : swapsWith bigE t l env = pure false := by unfold bigE; rfl
theorem pe_big {X : Cx} : PE X bigE (tLst (tCons (tC (.str "things")) (tCons (tC (.str "thing")) (tCons (tC (.str "tie")) (tCons (tC (.str "ties")) (tCons (tC (.str "web")) (tCons (tC (.str "one")) (tCons (tC (.str "other")) (tCons (tC (.str "order")) (tCons (tC (.str "a")) (tCons (tC (.str "aa")) (tCons (tC (.str "z")) (tCons (tC (.str "top")) tNil))))))))))))) := by
  have e : ∃ q q1 q2 q3 q4 q5 q6 q7 q8 q9 q10 q11 q12 j1 j2 j3 j4 j5 j6 j7 j8 j9 j10 j11 j12, bigE = .List [.Constant (.str "things") j1 q1, .Constant (.str "thing") j2 q2, .Constant (.str "tie") j3 q3, .Constant (.str "ties") j4 q4, .Constant (.str "web") j5 q5, .Constant (.str "one") j6 q6, .Constant (.str "other") j7 q7, .Constant (.str "order") j8 q8, .Constant (.str "a") j9 q9, .Constant (.str "aa") j10 q10, .Constant (.str "z") j11 q11, .Constant (.str "top") j12 q12] q := by
    unfold bigE
    exact ⟨_, _, _, _, _, _, _, _, _, _, _, _, _, _, _, _, _, _, _, _, _, _, _, _, _, rfl⟩
  obtain ⟨q, q1, q2, q3, q4, q5, q6, q7, q8, q9, q10, q11, q12, j1, j2, j3, j4, j5, j6, j7, j8, j9, j10, j11, j12, e⟩ := e
  rw [e]
  with_reducible exact pe_lst (pa_cons pe_str (pa_cons pe_str (pa_cons pe_str (pa_cons pe_str (pa_cons pe_str (pa_cons pe_str (pa_cons pe_str (pa_cons pe_str (pa_cons pe_str (pa_cons pe_str (pa_cons pe_str (pa_cons pe_str pa_nil star_c) star_c) star_c) star_c) star_c) star_c) star_c) star_c) star_c) star_c) star_c) star_c)
theorem str_at {ss : List Str} {i : Nat} (h : i < ss.length) : atI (List.map V.str ss) (i : Int) = some (.str (ss.getD i "")) := atI_nat (by simp [h, List.getD_eq_getElem?_getD])
theorem getD_by {f : Nat → Str} {m i : Nat} (h : i < m) : ((List.range m).map f).getD i "" = f i := by rw [List.getD_eq_getElem?_getD, List.getElem?_map, List.getElem?_range h]; rfl
theorem scNames : FnScope ["_law_pen_here", "_law_many", "_law_letters", "_law_words", "_law_base", "_law_size", "_law_at", "_law_turn", "_law_manner", "_law_signs", "_law_head", "_law_tail"] ["_law_pen_here", "_law_many"] (defScope sNames) := ⟨rfl, rfl, rfl, by decide +kernel, rfl, by decide +kernel, by decide +kernel⟩
theorem ok_names {f : Addr} {fd : FuncData} (F : Fun K "_law_names" "_law_names" sNames f fd) (B : Blt mg) (c_law_draw : Cal P w K mg base 1 "_law_draw" ["_law_pen_here", "_law_most"] (spDraw K)) : FnOk P w K mg base CX0 2 f fd ["_law_pen_here", "_law_many"] (spNames K) := by
  refine F.ok scNames (fun vs H Q E h => ?_) (fun cdv A outer s H vs Q E hr h => ?_)
  · obtain ⟨p, a, m, rfl, _⟩ := h
    rfl
  · obtain ⟨p, a, m, rfl, hP, hm, k⟩ := h
    have nd := scNames.nd
    have v0 := hP.2
    have lL : letters.length ≤ sizeLine := by decide +kernel
    rw [body_eq]
    refine ⟨_, (pss_cons (ps_set (i := 2) nd rfl (Or.inr rfl) pe_str)
      (pss_cons (ps_set (i := 3) nd rfl (Or.inr rfl) pe_big big_sw)
      (pss_cons (ps_set (i := 3) nd rfl (Or.inr rfl) (pe_op op_addX (pv 3) (pe_lst (pa_cons pe_str (pa_cons pe_str (pa_cons pe_str (pa_cons pe_str (pa_cons pe_str pa_nil star_c) star_c) star_c) star_c) star_c))))
      (pss_cons (ps_set (i := 4) nd rfl (Or.inr rfl) (m_join K pe_str (pa_cons (pe_comp (defScope sNames) ["_law_pen_here", "_law_many", "_law_letters", "_law_words", "_law_base", "_law_size", "_law_at", "_law_turn", "_law_manner", "_law_signs", "_law_head", "_law_tail"] ["_law_k"] [2, 0] ["_law_k", "_law_letters", "_law_pen_here"] rfl (pi_range1 rfl B.range (pa_cons pe_int pa_nil)) (fun _ _ _ _ _ => (pg_name (i := 0) (show (["_law_k", "_law_letters", "_law_pen_here"] : List Str).Nodup by decide) rfl (Or.inl rfl))) (fun _ _ _ _ _ => pts_nil) (fun _ _ _ _ _ => (pe_ix (ix_X K hr.units) (pv 1) (pe_cal c_law_draw (hr.mono (by decide)) rfl (pa_cons (pv 2) (pa_cons pe_int pa_nil))) (fun _ _ => rfl)))) pa_nil)))
      (pss_cons (ps_set (i := 5) nd rfl (Or.inr rfl) (pe_op op_addX pe_int (pe_cal c_law_draw (hr.mono (by decide)) rfl (pa_cons (pv 0) (pa_cons pe_int pa_nil)))))
      (pss_cons (ps_set (i := 6) nd rfl (Or.inr rfl) (pe_cal c_law_draw (hr.mono (by decide)) rfl (pa_cons (pv 0) (pa_cons (pv 5) pa_nil))))
      (pss_cons (ps_set (i := 7) nd rfl (Or.inr rfl) (pe_cal c_law_draw (hr.mono (by decide)) rfl (pa_cons (pv 0) (pa_cons pe_int pa_nil))))
      (pss_cons (ps_set (i := 8) nd rfl (Or.inl rfl) (pe_cal c_law_draw (hr.mono (by decide)) rfl (pa_cons (pv 0) (pa_cons pe_int pa_nil))))
      (pss_cons (ps_if (PW.pt (pw_and (pt_cmpR (op_eqX hr.units) (pv 8) pe_int (nomark _)) (pw_and1 (pt_cmpR op_ltX (pv 1) pe_int (nomark _))))) (pss_one (ps_ret (pe_comp (defScope sNames) ["_law_pen_here", "_law_many", "_law_letters", "_law_words", "_law_base", "_law_size", "_law_at", "_law_turn", "_law_manner", "_law_signs", "_law_head", "_law_tail"] ["_law_k"] [4, 7] ["_law_k", "_law_base", "_law_turn"] rfl (pi_range1 rfl B.range (pa_cons (pv 1) pa_nil)) (fun _ _ _ _ _ => (pg_name (i := 0) (show (["_law_k", "_law_base", "_law_turn"] : List Str).Nodup by decide) rfl (Or.inl rfl))) (fun _ _ _ _ _ => pts_nil) (fun _ _ _ _ _ => (pe_slice (sl_K K) (pv 1) po_none (po_some (pe_op op_addX (pe_op op_mod (pe_op op_addX (pv 2) (pe_op op_mul pe_int (pv 0))) pe_int) pe_int))))))) pss_nil)
      (pss_cons (ps_if (PW.pt (pw_and (pt_cmpR (op_eqX hr.units) (pv 8) pe_int (nomark _)) (pw_and1 (pt_cmpR op_ltX (pv 1) pe_int (nomark _))))) (pss_one (ps_ret (pe_comp (defScope sNames) ["_law_pen_here", "_law_many", "_law_letters", "_law_words", "_law_base", "_law_size", "_law_at", "_law_turn", "_law_manner", "_law_signs", "_law_head", "_law_tail"] ["_law_k"] [3, 7] ["_law_k", "_law_words", "_law_turn"] rfl (pi_range1 rfl B.range (pa_cons (pv 1) pa_nil)) (fun _ _ _ _ _ => (pg_name (i := 0) (show (["_law_k", "_law_words", "_law_turn"] : List Str).Nodup by decide) rfl (Or.inl rfl))) (fun _ _ _ _ _ => pts_nil) (fun _ _ _ _ _ => (pe_ix (ix_X K hr.units) (pv 1) (pe_op op_mod (pe_op op_addX (pv 2) (pv 0)) pe_int) (fun _ _ => rfl)))))) pss_nil)
      (pss_cons (ps_set (i := 9) nd rfl (Or.inr rfl) (pe_comp (defScope sNames) ["_law_pen_here", "_law_many", "_law_letters", "_law_words", "_law_base", "_law_size", "_law_at", "_law_turn", "_law_manner", "_law_signs", "_law_head", "_law_tail"] ["_law_k"] [2, 7] ["_law_k", "_law_letters", "_law_turn"] rfl (pi_range1 rfl B.range (pa_cons (pv 1) pa_nil)) (fun _ _ _ _ _ => (pg_name (i := 0) (show (["_law_k", "_law_letters", "_law_turn"] : List Str).Nodup by decide) rfl (Or.inl rfl))) (fun _ _ _ _ _ => pts_nil) (fun _ _ _ _ _ => (pe_ix (ix_X K hr.units) (pv 1) (pe_op op_mod (pe_op op_addX (pv 2) (pe_op op_mul pe_int (pv 0))) pe_int) (fun _ _ => rfl)))))
      (pss_cons (ps_if (pt_cmpR op_ltX (pv 1) pe_int (nomark _)) (pss_one (ps_ret (pe_comp (defScope sNames) ["_law_pen_here", "_law_many", "_law_letters", "_law_words", "_law_base", "_law_size", "_law_at", "_law_turn", "_law_manner", "_law_signs", "_law_head", "_law_tail"] ["_law_sign_here"] [4, 5, 6] ["_law_sign_here", "_law_base", "_law_size", "_law_at"] rfl (pi_listK K (pv 9)) (fun _ _ _ _ _ => (pg_name (i := 0) (show (["_law_sign_here", "_law_base", "_law_size", "_law_at"] : List Str).Nodup by decide) rfl (Or.inl rfl))) (fun _ _ _ _ _ => pts_nil) (fun _ _ _ _ _ => (pe_op op_addX (pe_op op_addX (pe_slice (sl_K K) (pv 1) po_none (po_some (pv 3))) (pv 0)) (pe_slice (sl_K K) (pv 1) (po_some (pe_op op_addX (pv 3) pe_int)) (po_some (pv 2)))))))) pss_nil)
      (pss_cons (ps_set (i := 10) nd rfl (Or.inr rfl) (pe_slice (sl_K K) (pv 4) po_none (po_some (pe_op op_mod (pv 6) pe_int))))
      (pss_cons (ps_set (i := 11) nd rfl (Or.inr rfl) (pe_slice (sl_K K) (pv 4) (po_some (pe_op op_mod (pv 6) pe_int)) (po_some (pe_op op_mod (pv 5) pe_int))))
      (pss_one (ps_ret (pe_comp (defScope sNames) ["_law_pen_here", "_law_many", "_law_letters", "_law_words", "_law_base", "_law_size", "_law_at", "_law_turn", "_law_manner", "_law_signs", "_law_head", "_law_tail"] ["_law_k"] [11, 10, 2, 9] ["_law_k", "_law_tail", "_law_head", "_law_letters", "_law_signs"] rfl (pi_range1 rfl B.range (pa_cons (pv 1) pa_nil)) (fun _ _ _ _ _ => (pg_name (i := 0) (show (["_law_k", "_law_tail", "_law_head", "_law_letters", "_law_signs"] : List Str).Nodup by decide) rfl (Or.inl rfl))) (fun _ _ _ _ _ => pts_nil) (fun _ _ _ _ _ => (pe_op op_addX (pe_op op_addX (pe_op op_addX (pv 2) (pe_ix (ix_X K hr.units) (pv 4) (pv 0) (fun _ _ => rfl))) (pe_ix (ix_X K hr.units) (pv 3) (pe_op op_fdiv (pv 0) pe_int) (fun _ _ => rfl))) (pv 1)))))))))))))))))))), ?_⟩
    refine ⟨(by show 12 ≤ sizeLine; decide), fun l1 hl1 => ?_⟩
    have n1 := v0.ne hl1
    have b1 := (But.refl p H).at (o := .lst (List.map V.str wordsA)) hl1
    have v1 := v0.upd (o := .lst (List.map V.str wordsA)) n1
    have e1 : upd H l1 (.lst (List.map V.str wordsA)) l1 = some (.lst (List.map V.str wordsA)) := upd_same
    show tSeq _ _ _ _ (upd H l1 (.lst (List.map V.str wordsA)))
    generalize upd H l1 (.lst (List.map V.str wordsA)) = H1 at b1 v1 e1 ⊢
    refine ⟨_, rfl, (by show 5 ≤ sizeLine; decide), fun l2 hl2 => ?_⟩
    have n2 := v1.ne hl2
    have b2 := b1.at (o := .lst ([V.str "line", V.str "ring", V.str "place", V.str "text", V.str "none"])) (b1.free (Ne.symm n2) hl2)
    have v2 := v1.upd (o := .lst ([V.str "line", V.str "ring", V.str "place", V.str "text", V.str "none"])) n2
    refine .lst (by rw [upd_ne (ne_of_none e1 hl2)]; exact e1) upd_same (by show 17 ≤ sizeLine; decide) fun lw hlw => ?_
    have n3 := v2.ne hlw
    have b3 := b2.at (o := .lst (List.map V.str wordsA ++ [V.str "line", V.str "ring", V.str "place", V.str "text", V.str "none"])) (b2.free (Ne.symm n3) hlw)
    have v3 := v2.upd (o := .lst (List.map V.str wordsA ++ [V.str "line", V.str "ring", V.str "place", V.str "text", V.str "none"])) n3
    have e3 : upd (upd H1 l2 (.lst ([V.str "line", V.str "ring", V.str "place", V.str "text", V.str "none"]))) lw (.lst (List.map V.str wordsA ++ [V.str "line", V.str "ring", V.str "place", V.str "text", V.str "none"])) lw = some (.lst (List.map V.str wordsL)) := by rw [upd_same]; rfl
    have hlwp : lw ≠ p := Ne.symm n3
    have hlw0 : H lw = none := b2.free (Ne.symm n3) hlw
    generalize upd (upd H1 l2 (.lst ([V.str "line", V.str "ring", V.str "place", V.str "text", V.str "none"]))) lw (.lst (List.map V.str wordsA ++ [V.str "line", V.str "ring", V.str "place", V.str "text", V.str "none"])) = H3 at b3 v3 e3 ⊢
    refine ⟨rfl, _, rfl, by decide, by decide, ?_⟩
    refine comp_range (fun D i acc σ' H' => ∃ o ys, σ' = [o, some (.str letters), some (.ref p)] ∧ acc = List.map V.str ys ∧ ys.length = i ∧ (∀ y ∈ ys, y.length = 1 ∧ Lo y) ∧ H' lw = some (.lst (List.map V.str wordsL)) ∧ PenV H' p a ∧ But p H H' ∧ H D = none ∧ p ≠ D ∧ lw ≠ D) fun D hD => ⟨?_, ?_, ?_⟩
    · have hDp := v3.ne hD
      have hD0 := b3.free (Ne.symm hDp) hD
      have hwD := ne_of_none e3 hD
      exact ⟨none, [], rfl, rfl, rfl, (fun y hy => by cases hy), by rw [upd_ne hwD]; exact e3, v3.upd hDp, b3.at hD0, hD0, hDp, hwD⟩
    · rintro i acc σ' H' hi ⟨o, ys, rfl, rfl, hl, hys, hw, v, b, hD0, hDp, hwD⟩ hacc
      refine gYes ?_
      refine ⟨_, rfl, _, rfl, p, a, 26, rfl, hP.but b v, by decide, by decide, fun r5 H5 h50 h51 v5 e5 => ?_⟩
      refine .str lL (abc_at h50 h51) ⟨(e5 D (Ne.symm hDp)).trans hacc, ?_, _, ys ++ [abc r5], rfl, by simp [abc], by simp [hl], ?_, ?_, v5.upd hDp, (b.trans (But.of_eq e5)).at hD0, hD0, hDp, hwD⟩
      · rw [List.length_map, hl]; exact small1000 (by simp at hi; omega)
      · intro y hy
        rcases List.mem_append.mp hy with hy | hy
        · exact hys y hy
        · have : y = abc r5 := by simpa using hy
          subst this
          exact ⟨rfl, abc_lo h50 h51⟩
      · rw [upd_ne hwD]; exact (e5 lw hlwp).trans hw
    · rintro acc σ' H5 ⟨o, ys, rfl, rfl, hl, hys, hw5, v5, b5, hD0, hDp, hwD⟩ hacc
      have hj : Lo (Txt.join "" ys) := Lo.join Lo.nil fun y hy => (hys y hy).2
      have hz8 : (Txt.join "" ys).length = 8 := by rw [join_len fun y hy => (hys y hy).1]; simpa using hl
      have e0 : ("" : Str).length = 0 := by decide +kernel
      have hsum := sum_le (n := 1) fun y hy => Nat.le_of_eq (hys y hy).1
      refine ⟨_, D, ys, rfl, rfl, hacc, by rw [e0]; have := hl; simp at this; omega, ?_⟩
      generalize Txt.join "" ys = z at hj hz8 ⊢
      have hz : z.length ≤ sizeLine := Nat.le_of_lt (small1000 (by omega))
      clear hacc hys hl hsum
      refine ⟨_, rfl, p, a, 8, rfl, hP.but b5 v5, by decide, by decide, fun r6 H6 h60 h61 v6 e6 => .int ?_⟩
      have b6 := b5.trans (But.of_eq e6)
      refine ⟨_, rfl, _, rfl, p, a, _, rfl, hP.but b6 v6, by omega, by omega, fun r7 H7 h70 h71 v7 e7 => ?_⟩
      have b7 := b6.trans (But.of_eq e7)
      refine ⟨_, rfl, p, a, 26, rfl, hP.but b7 v7, by decide, by decide, fun r8 H8 h80 h81 v8 e8 => ?_⟩
      have b8 := b7.trans (But.of_eq e8)
      refine ⟨_, rfl, p, a, 4, rfl, hP.but b8 v8, by decide, by decide, fun r9 H9 h90 h91 v9 e9 => ?_⟩
      have b9 := b8.trans (But.of_eq e9)
      have hw9 : H9 lw = some (.lst (List.map V.str wordsL)) := by rw [e9 lw hlwp, e8 lw hlwp, e7 lw hlwp, e6 lw hlwp]; exact hw5
      obtain ⟨sz, rfl⟩ := Int.eq_ofNat_of_zero_le h60
      obtain ⟨at_, rfl⟩ := Int.eq_ofNat_of_zero_le h70
      obtain ⟨tn, rfl⟩ := Int.eq_ofNat_of_zero_le h80
      clear e6 e7 e8 e9 v5 v6 v7 v8 b5 b6 b7 b8 hw5
      have fin : ∀ (D : Addr) (ss : List Str) (H' : Hp), H' D = some (.lst (List.map V.str ss)) → ss.length = m → ss.Nodup → (∀ s ∈ ss, Nm s) → H D = none → p ≠ D → PenV H' p a → But p H H' → Q (.ref D) H' := fun D ss H' h1 h2 h3 h4 h5 h6 h7 h8 => k D ss H' h2 h3 h4 h1 h5 (Ne.symm h6) h7 h8
      have wlen := words_len
      have rest : ∀ (H9 : Hp), PenV H9 p a → But p H H9 → ∀ σ : St, σ = [some (.ref p), some (.int (m : Int)), some (.str letters), some (.ref lw), some (.str z), some (.int (1 + (sz : Int))), some (.int (at_ : Int)), some (.int (tn : Int)), some (.int r9), none, none, none] → True := fun _ _ _ _ _ => trivial
      refine ⟨_, rfl, .sc rfl ⟨_, rfl, ?_⟩⟩
      refine ite2 (fun hm0 => ?a) (fun hm0 => ?b)
      case' a =>
        refine ⟨_, rfl, .int ⟨_, rfl, ?_⟩⟩
        refine ite2 (fun h9 => ?c) (fun h9 => ?d)
        case c =>
          have h9 : (m : Int) < 9 := of_decide_eq_true h9
          refine ⟨_, rfl, _, rfl, by omega, by omega, ?_⟩
          refine comp_range (fun D i acc σ' H' => ∃ o, σ' = [o, some (.str z), some (.int (tn : Int))] ∧ acc = List.map V.str ((List.range i).map fun k => Txt.slice z none (some (((tn + 3 * k) % 8 + 1 : Nat) : Int))) ∧ PenV H' p a ∧ But p H H' ∧ H D = none ∧ p ≠ D) fun D hD => ⟨?_, ?_, ?_⟩
          · have hDp := v9.ne hD
            have hD0 := b9.free (Ne.symm hDp) hD
            exact ⟨none, rfl, rfl, v9.upd hDp, b9.at hD0, hD0, hDp⟩
          · rintro i acc σ' H' hi ⟨o, rfl, rfl, v, b, hD0, hDp⟩ hacc
            refine gYes ?_
            refine ⟨_, rfl, _, rfl, _, rfl, _, _, rfl, rfl, .inl ⟨by decide, by decide⟩, .int ⟨_, _, rfl, rfl, (by show (0 : Int) < _; decide), .int ⟨_, rfl, .str hz ?_⟩⟩⟩
            rw [show ((tn : Int) + 3 * (0 + (i : Nat) : Int)) % 8 + 1 = (((tn + 3 * i) % 8 + 1 : Nat) : Int) by omega]
            refine ⟨hacc, ?_, _, rfl, ?_, v.upd hDp, b.at hD0, hD0, hDp⟩
            · rw [List.length_map, List.length_map, List.length_range]; exact small1000 (by simp at hi; omega)
            · rw [range_snoc, List.map_append]; rfl
          · rintro acc σ' H' ⟨o, rfl, rfl, v, b, hD0, hDp⟩ hacc
            have hmm : ((m : Int) - 0).toNat = m := by omega
            refine fin D _ H' hacc (by simp) (nodup_by _ _ fun i j hij hj e => ?_) (fun s hs => ?_) hD0 hDp v b
            · have e := congrArg Str.length e
              rw [slice_to (by omega), slice_to (by omega)] at e
              simp at hj
              omega
            · obtain ⟨i, hi, rfl⟩ := mem_by hs
              have hl := slice_to (z := z) (j := (tn + 3 * i) % 8 + 1) (by omega)
              exact (hj.slice _ _).nm (by rw [hl]; omega) (by rw [hl]; omega)
      all_goals
        refine ⟨_, rfl, .sc rfl ⟨_, rfl, ?_⟩⟩
        refine ite2 (fun hm1 => ?_) (fun hm1 => ?_)
        refine ⟨_, rfl, .int ⟨_, rfl, ?_⟩⟩
        refine ite2 (fun h18 => ?_) (fun h18 => ?_)
        ·   have h18 : (m : Int) < 18 := of_decide_eq_true h18
            refine ⟨_, rfl, _, rfl, by omega, by omega, ?_⟩
            refine comp_range (fun D i acc σ' H' => ∃ o, σ' = [o, some (.ref lw), some (.int (tn : Int))] ∧ acc = List.map V.str ((List.range i).map fun k => wordsL.getD ((tn + k) % 17) "") ∧ H' lw = some (.lst (List.map V.str wordsL)) ∧ PenV H' p a ∧ But p H H' ∧ H D = none ∧ p ≠ D ∧ lw ≠ D) fun D hD => ⟨?_, ?_, ?_⟩
            · have hDp := v9.ne hD
              have hD0 := b9.free (Ne.symm hDp) hD
              have hwD := ne_of_none hw9 hD
              exact ⟨none, rfl, rfl, by rw [upd_ne hwD]; exact hw9, v9.upd hDp, b9.at hD0, hD0, hDp, hwD⟩
            · rintro i acc σ' H' hi ⟨o, rfl, rfl, hw, v, b, hD0, hDp, hwD⟩ hacc
              refine gYes ?_
              refine ⟨_, rfl, _, rfl, _, rfl, .int ⟨_, _, rfl, rfl, (by show (0 : Int) < _; decide), ?_⟩⟩
              refine .lst (.of hw) (show atI _ (((tn : Int) + (0 + (i : Nat) : Int)) % 17) = some (.str (wordsL.getD ((tn + i) % 17) "")) from by
                rw [show ((tn : Int) + (0 + (i : Nat) : Int)) % 17 = (((tn + i) % 17 : Nat) : Int) by omega]
                exact str_at (by omega)) ⟨hacc, ?_, _, rfl, ?_, by rw [upd_ne hwD]; exact hw, v.upd hDp, b.at hD0, hD0, hDp, hwD⟩
              · rw [List.length_map, List.length_map, List.length_range]; exact small1000 (by simp at hi; omega)
              · rw [range_snoc, List.map_append]; rfl
            · rintro acc σ' H' ⟨o, rfl, rfl, hw, v, b, hD0, hDp, hwD⟩ hacc
              refine fin D _ H' hacc (by simp) (nodup_by _ _ fun i j hij hj e => ?_) (fun s hs => ?_) hD0 hDp v b
              · have e := words_nd wordsL words_nodup (by omega) (by omega) e
                simp at hj
                omega
              · obtain ⟨i, hi, rfl⟩ := mem_by hs
                have hlt : (tn + i) % 17 < wordsL.length := by omega
                have hmem : wordsL.getD ((tn + i) % 17) "" ∈ wordsL := by
                  rw [List.getD_eq_getElem?_getD, List.getElem?_eq_getElem hlt]
                  exact List.getElem_mem hlt
                exact isNm_iff.mp (words_nm _ hmem)
        all_goals
          refine ⟨_, rfl, _, rfl, by omega, by omega, ?_⟩
          refine comp_range (fun D i acc σ' H' => ∃ o, σ' = [o, some (.str letters), some (.int (tn : Int))] ∧ acc = List.map V.str ((List.range i).map fun k => abc (((tn + 5 * k) % 26 : Nat) : Int)) ∧ PenV H' p a ∧ But p H H' ∧ H D = none ∧ p ≠ D) fun D hD => ⟨?_, ?_, ?_⟩
          · have hDp := v9.ne hD
            have hD0 := b9.free (Ne.symm hDp) hD
            exact ⟨none, rfl, rfl, v9.upd hDp, b9.at hD0, hD0, hDp⟩
          · rintro i acc σ' H' hi ⟨o, rfl, rfl, v, b, hD0, hDp⟩ hacc
            refine gYes ?_
            refine ⟨_, rfl, _, rfl, _, rfl, _, _, rfl, rfl, .inl ⟨by decide, by decide⟩, .int ⟨_, _, rfl, rfl, (by show (0 : Int) < _; decide), ?_⟩⟩
            refine .str lL (show atI _ (((tn : Int) + 5 * (0 + (i : Nat) : Int)) % 26) = some (97 + (((tn + 5 * i) % 26 : Nat) : Int).toNat) from by
              rw [show ((tn : Int) + 5 * (0 + (i : Nat) : Int)) % 26 = (((tn + 5 * i) % 26 : Nat) : Int) by omega]
              exact abc_at (by omega) (by omega)) ⟨hacc, ?_, _, rfl, ?_, v.upd hDp, b.at hD0, hD0, hDp⟩
            · rw [List.length_map, List.length_map, List.length_range]; exact small1000 (by simp at hi; omega)
            · rw [range_snoc, List.map_append]; rfl
          · rintro acc σ' HA ⟨o, rfl, rfl, vA, bA, hDA, hpA⟩ hacc
            have hmm : ((m : Int) - 0).toNat = m := by omega
            have hacc : HA D = some (.lst (List.map V.str ((List.range m).map fun k => abc (((tn + 5 * k) % 26 : Nat) : Int)))) := by first | exact hacc | (rw [hmm] at hacc; exact hacc)
            refine ⟨_, rfl, .int ⟨_, rfl, ?_⟩⟩
            refine ite2 (fun h27 => ?_) (fun h27 => ?_)
            · have h27 : (m : Int) < 27 := of_decide_eq_true h27
              refine ⟨_, rfl, _, rfl, ⟨_, .of hacc⟩, ?_⟩
              refine comp_list (List.map V.str ((List.range m).map fun k => abc (((tn + 5 * k) % 26 : Nat) : Int))) (fun D i acc σ' H' => ∃ o, σ' = [o, some (.str z), some (.int (1 + (sz : Int))), some (.int (at_ : Int))] ∧ acc = List.map V.str ((List.range i).map fun k => Txt.slice z none (some (at_ : Int)) ++ abc (((tn + 5 * k) % 26 : Nat) : Int) ++ Txt.slice z (some ((at_ : Int) + 1)) (some (1 + (sz : Int)))) ∧ Same HA H' ∧ HA D = none) fun D hD => ⟨?_, ?_, ?_, ?_⟩
              · exact ⟨none, rfl, rfl, Same.new hD, hD⟩
              · rintro i acc σ' H' _ ⟨o, rfl, _, sm, _⟩ _
                exact .of (sm _ _ hacc)
              · rintro i acc σ' H' x hx ⟨o, rfl, rfl, sm, hD0⟩ hacc'
                rw [List.getElem?_map, List.getElem?_map] at hx
                have hil : i < m := by
                  by_cases q : i < m
                  · exact q
                  · rw [List.getElem?_eq_none (by rw [List.length_range]; omega)] at hx; cases hx
                rw [List.getElem?_range hil] at hx
                have hx : V.str (abc (((tn + 5 * i) % 26 : Nat) : Int)) = x := Option.some.inj hx
                subst hx
                refine gYes ?_
                have l1 := slice_toL z at_
                have l2 := slice_len z (at_ + 1) (1 + sz)
                rw [show ((at_ + 1 : Nat) : Int) = (at_ : Int) + 1 by omega, show ((1 + sz : Nat) : Int) = 1 + (sz : Int) by omega] at l2
                have sl8 : 8 ≤ sizeLine := by decide
                refine ⟨_, rfl, _, rfl, _, rfl, .str hz ⟨_, rfl, .str ?_ ⟨_, rfl, _, rfl, .int ⟨_, rfl, _, rfl, _, rfl, .str hz (.str ?_ ⟨hacc', ?_, _, rfl, ?_, ?_, hD0⟩)⟩⟩⟩⟩
                · rw [abc_len]; omega
                · rw [len_app, abc_len]; omega
                · rw [List.length_map, List.length_map, List.length_range]; exact small1000 (by omega)
                · rw [range_snoc, List.map_append]; rfl
                · exact same_at sm hD0
              · rintro acc σ' H' ⟨o, rfl, rfl, sm, hD0⟩ hacc'
                rw [List.length_map, List.length_map, List.length_range] at hacc'
                refine fin _ _ H' hacc' (by simp) (nodup_by _ _ fun i j hij hj e => ?_) (fun s hs => ?_) (bA.free (Ne.symm (vA.ne hD0)) hD0) (vA.ne hD0) (penSame sm vA) (bA.trans (But.of_same sm))
                · have e := mid_inj e
                  omega
                · obtain ⟨i, hi, rfl⟩ := mem_by hs
                  have l1 := slice_to (z := z) (j := at_) (by omega)
                  have l2 := slice_len z (at_ + 1) (1 + sz)
                  rw [show ((at_ + 1 : Nat) : Int) = (at_ : Int) + 1 by omega, show ((1 + sz : Nat) : Int) = 1 + (sz : Int) by omega] at l2
                  refine (((hj.slice _ _).app (abc_lo (by omega) (by omega))).app (hj.slice _ _)).nm ?_ ?_
                  · rw [len_app, len_app, abc_len]; omega
                  · rw [len_app, len_app, abc_len]; omega
            · have h27 : ¬ (m : Int) < 27 := fun q => h27 (decide_eq_true q)
              refine ⟨_, rfl, _, rfl, _, _, rfl, rfl, (by show (0 : Int) < _; decide), _, rfl, .str hz ?_⟩
              refine ⟨_, rfl, _, rfl, _, _, rfl, rfl, (by show (0 : Int) < _; decide), _, rfl, _, rfl, _, _, rfl, rfl, (by show (0 : Int) < _; decide), _, rfl, .str hz ?_⟩
              have t1 := slice_toL z (at_ % 6)
              have t2 := slice_len z (at_ % 6) ((1 + sz) % 7)
              rw [show ((at_ % 6 : Nat) : Int) = (at_ : Int) % 6 by omega] at t1 t2
              rw [show (((1 + sz) % 7 : Nat) : Int) = (1 + (sz : Int)) % 7 by omega] at t2
              have g1 := hj.slice none (some ((at_ : Int) % 6))
              have g2 := hj.slice (some ((at_ : Int) % 6)) (some ((1 + (sz : Int)) % 7))
              have ht : (Txt.slice z none (some ((at_ : Int) % 6))).length + (Txt.slice z (some ((at_ : Int) % 6)) (some ((1 + (sz : Int)) % 7))).length ≤ 6 := by omega
              have sl8 : 8 ≤ sizeLine := by decide
              refine ⟨_, rfl, _, rfl, by omega, by omega, ?_⟩
              generalize Txt.slice z none (some ((at_ : Int) % 6)) = hd at t1 g1 ht ⊢
              generalize Txt.slice z (some ((at_ : Int) % 6)) (some ((1 + (sz : Int)) % 7)) = tl at t2 g2 ht ⊢
              refine comp_range (fun D' i acc σ' H' => ∃ o, σ' = [o, some (.str tl), some (.str hd), some (.str letters), some (.ref D)] ∧ acc = List.map V.str ((List.range i).map fun k => hd ++ abc (((tn + 5 * k) % 26 : Nat) : Int) ++ abc ((k / 26 : Nat) : Int) ++ tl) ∧ Same HA H' ∧ HA D' = none) fun D' hD' => ⟨?_, ?_, ?_⟩
              · exact ⟨none, rfl, rfl, Same.new hD', hD'⟩
              · rintro i acc σ' H' hi ⟨o, rfl, rfl, sm, hD0'⟩ hacc'
                have hi : i < m := by simpa using hi
                refine gYes ?_
                refine ⟨_, rfl, _, rfl, _, rfl, .lst (.of (sm _ _ hacc)) (show atI _ (0 + (i : Nat) : Int) = some (.str (abc (((tn + 5 * i) % 26 : Nat) : Int))) from by
                  rw [Int.zero_add, str_at (by simpa using hi), getD_by hi]) (.str (by rw [abc_len]; omega) ⟨_, rfl, _, rfl, _, _, rfl, rfl, ⟨by decide, by decide⟩, .str lL (show atI _ ((0 + (i : Nat) : Int) / 26) = some (97 + ((i / 26 : Nat) : Int).toNat) from by
                  rw [show (0 + (i : Nat) : Int) / 26 = ((i / 26 : Nat) : Int) by omega]
                  exact abc_at (by omega) (by omega)) (.str ?_ ⟨_, rfl, .str ?_ ⟨hacc', ?_, _, rfl, ?_, ?_, hD0'⟩⟩)⟩)⟩
                · rw [len_app, abc_len]; show _ + 1 + 1 ≤ sizeLine; omega
                · rw [len_app, len_app, abc_len]; show _ + 1 + 1 + _ ≤ sizeLine; omega
                · rw [List.length_map, List.length_map, List.length_range]; exact small1000 (by omega)
                · rw [range_snoc, List.map_append]; rfl
                · exact same_at sm hD0'
              · rintro acc σ' H' ⟨o, rfl, rfl, sm, hD0'⟩ hacc'
                have hacc' : H' D' = some (.lst (List.map V.str ((List.range m).map fun k => hd ++ abc (((tn + 5 * k) % 26 : Nat) : Int) ++ abc ((k / 26 : Nat) : Int) ++ tl))) := by first | exact hacc' | (rw [hmm] at hacc'; exact hacc')
                refine fin D' _ H' hacc' (by simp) (nodup_by _ _ fun i j hij hj e => ?_) (fun s hs => ?_) (bA.free (Ne.symm (vA.ne hD0')) hD0') (vA.ne hD0') (penSame sm vA) (bA.trans (But.of_same sm))
                · obtain ⟨e1, e2⟩ := mid2_inj e
                  omega
                · obtain ⟨i, hi, rfl⟩ := mem_by hs
                  refine (((g1.app (abc_lo (by omega) (by omega))).app (abc_lo (by omega) (by omega))).app g2).nm ?_ ?_
                  · rw [len_app, len_app, len_app, abc_len]; omega
                  · rw [len_app, len_app, len_app, abc_len, abc_len]; omega
end
end K07
namespace K07
open PySem L2
section
variable {P : Program} {w : World} {K : PySem.W.Frag} {mg : Str → Option Value} {base : Heap}
theorem penAt {H : Hp} {p a : Addr} (v : PenV H p a) : ∃ ys, H p = some (.lst ys) := let ⟨_, _, e, _⟩ := v; ⟨_, e⟩
noncomputable def spThings (K : PySem.W.Frag) : Sp := fun vs H Q _ => ∃ (p a : Addr), vs = [.ref p] ∧ Pen K H p a ∧
  ∀ l ss H', ss.length ≤ 60 → ss.Nodup → (∀ s ∈ ss, Nm s) → H' l = some (.lst (List.map V.str ss)) → H l = none → l ≠ p → PenV H' p a → But p H H' → Q (.ref l) H'
theorem scThings : FnScope ["_law_pen_here", "_law_many"] ["_law_pen_here"] (defScope sThings) := ⟨rfl, rfl, rfl, by decide +kernel, rfl, by decide +kernel, by decide +kernel⟩
theorem ok_things {f : Addr} {fd : FuncData} (F : Fun K "_law_things" "_law_things" sThings f fd) (B : Blt mg) (c_law_draw : Cal P w K mg base 1 "_law_draw" ["_law_pen_here", "_law_most"] (spDraw K)) (c_law_names : Cal P w K mg base 2 "_law_names" ["_law_pen_here", "_law_many"] (spNames K)) : FnOk P w K mg base CX0 3 f fd ["_law_pen_here"] (spThings K) := by
  refine F.ok scThings (fun vs H Q E h => ?_) (fun cdv A outer s H vs Q E hr h => ?_)
  · obtain ⟨p, a, rfl, _⟩ := h
    rfl
  · obtain ⟨p, a, rfl, hP, k⟩ := h
    have nd := scThings.nd
    refine ⟨_, (pss_cons (ps_set (i := 1) nd rfl (Or.inl rfl) (pe_cal c_law_draw (hr.mono (by decide)) rfl (pa_cons (pv 0) (pa_cons pe_int pa_nil))))
      (pss_cons (ps_if (pt_cmpR (op_eqX hr.units) (pe_cal c_law_draw (hr.mono (by decide)) rfl (pa_cons (pv 0) (pa_cons pe_int pa_nil))) pe_int (nomark _)) (pss_one (ps_set (i := 1) nd rfl (Or.inl rfl) (pe_ix (ix_X K hr.units) (pe_lst (pa_cons (pe_cal c_law_draw (hr.mono (by decide)) rfl (pa_cons (pv 0) (pa_cons pe_int pa_nil))) (pa_cons pe_int pa_nil))) (pe_cal c_law_draw (hr.mono (by decide)) rfl (pa_cons (pv 0) (pa_cons pe_int pa_nil))) (fun _ _ => rfl)))) pss_nil)
      (pss_one (ps_ret (pe_cal c_law_names (hr.mono (by decide)) rfl (pa_cons (pv 0) (pa_cons (pv 1) pa_nil))))))), ?_⟩
    refine ⟨_, rfl, p, a, 9, rfl, hP, by decide, by decide, fun r1 H1 h10 h11 v1 e1 => ?_⟩
    have b1 := But.of_eq e1
    refine ⟨_, rfl, p, a, 5, rfl, hP.but b1 v1, by decide, by decide, fun r2 H2 h20 h21 v2 e2 => .sc rfl ⟨_, rfl, ?_⟩⟩
    have b2 := b1.trans (But.of_eq e2)
    have last : ∀ (n : Int) (H' : Hp), 0 ≤ n → n ≤ 60 → PenV H' p a → But p H H' → spNames K [.ref p, .int n] H' Q E := fun n H' h0 h1 v b => by
      obtain ⟨m, rfl⟩ := Int.eq_ofNat_of_zero_le h0
      exact ⟨p, a, m, rfl, hP.but b v, by omega, fun l ss H'' g1 g2 g3 g4 g5 g6 g7 g8 => k l ss H'' (by omega) g2 g3 g4 (b.free g6 g5) g6 g7 (b.trans g8)⟩
    refine ite2 (fun _ => ?_) (fun _ => ?_)
    · refine ⟨_, rfl, p, a, 61, rfl, hP.but b2 v2, by decide, by decide, fun r3 H3 h30 h31 v3 e3 => ⟨(by show 2 ≤ sizeLine; decide), fun l hl => ?_⟩⟩
      have b3 := b2.trans (But.of_eq e3)
      have hpl := v3.ne hl
      have v4 := v3.upd (o := .lst [V.int r3, V.int 60]) hpl
      have b4 := b3.at (o := .lst [V.int r3, V.int 60]) (b3.free (Ne.symm hpl) hl)
      refine ⟨_, rfl, p, a, 2, rfl, hP.but b4 v4, by decide, by decide, fun r4 H5 h40 h41 v5 e5 => ?_⟩
      have hl5 : H5 l = some (.lst [V.int r3, V.int 60]) := (e5 l (Ne.symm hpl)).trans upd_same
      have b5 := b4.trans (But.of_eq e5)
      have hr4 : r4 = 0 ∨ r4 = 1 := by omega
      rcases hr4 with rfl | rfl
      · exact .lst (.of hl5) rfl ⟨_, rfl, _, rfl, last _ _ h30 (by omega) v5 b5⟩
      · exact .lst (.of hl5) rfl ⟨_, rfl, _, rfl, last _ _ (by decide) (by decide) v5 b5⟩
    · exact ⟨_, rfl, _, rfl, last _ _ h10 (by omega) v2 b2⟩
end
end K07
namespace K07
open PySem L2
section
variable {P : Program} {w : World} {K : PySem.W.Frag} {mg : Str → Option Value} {base : Heap}
theorem eqv_pair (e f : Str × Str) : PyData.eqv (pairD e) (pairD f) = decide (e = f) := by
  show (PyData.eqv (.str e.1) (.str f.1) && (PyData.eqv (.str e.2) (.str f.2) && true)) = _
  rw [eqv_str, eqv_str, Bool.and_true, Bool.eq_iff_iff, Bool.and_eq_true, decide_eq_true_iff, decide_eq_true_iff, decide_eq_true_iff]
  exact ⟨fun ⟨a, b⟩ => Prod.ext a b, fun h => by rw [h]; exact ⟨rfl, rfl⟩⟩
theorem any_pair (ts : List (Str × Str)) (e : Str × Str) : ((ts.map pairD).any fun d => PyData.eqv d (pairD e)) = decide (e ∈ ts) := by
  rw [List.any_map, Bool.eq_iff_iff, List.any_eq_true, decide_eq_true_iff]
  constructor
  · rintro ⟨x, hx, h⟩
    have h : PyData.eqv (pairD x) (pairD e) = true := h
    rw [eqv_pair] at h
    rw [← of_decide_eq_true h]; exact hx
  · intro h
    refine ⟨e, h, ?_⟩
    show PyData.eqv (pairD e) (pairD e) = true
    rw [eqv_pair]; exact decide_eq_true rfl
theorem Rep.pairBut {H H' : Hp} {p : Addr} {ys : List V} (hp : H p = some (.lst ys)) (b : But p H H') {v : V} {e : Str × Str} (h : Rep H v (pairD e)) : Rep H' v (pairD e) := by
  obtain ⟨a, rfl, ha⟩ := pair_at h
  exact pair_rep (b a _ (ne_of ha hp (by intro z; cases z)) ha)
theorem RepAll.pairBut {H H' : Hp} {p : Addr} {ys : List V} (hp : H p = some (.lst ys)) (b : But p H H') : ∀ {es : List (Str × Str)} {xs : List V}, RepAll H xs (es.map pairD) → RepAll H' xs (es.map pairD)
  | [], xs, h => by rw [RepAll.nilI h]; exact .nil
  | e :: es, xs, h => by
    obtain ⟨y, ys', rfl, a, c⟩ := RepAll.consI h
    exact .cons (Rep.pairBut hp b a) (RepAll.pairBut hp b c)
theorem nodup_snoc {α : Type} {l : List α} {x : α} (h : l.Nodup) (hx : x ∉ l) : (l ++ [x]).Nodup := by
  rw [List.nodup_append]
  exact ⟨h, by simp, fun a ha b hb => by
    have : b = x := by simpa using hb
    subst this
    exact fun e => hx (e ▸ ha)⟩
theorem mem_getD {ss : List Str} {i : Nat} (h : i < ss.length) : ss.getD i "" ∈ ss := by
  rw [List.getD_eq_getElem?_getD, List.getElem?_eq_getElem h]
  exact List.getElem_mem h
noncomputable def tieAt (ss : List Str) (c : Nat) : Str × Str := (ss.getD (c / ss.length) "", ss.getD (c % ss.length) "")
theorem tieAt_inj {ss : List Str} (nd : ss.Nodup) {c d : Nat} (h0 : 0 < ss.length) (hc : c < ss.length * ss.length) (hd : d < ss.length * ss.length) (h : tieAt ss c = tieAt ss d) : c = d := by
  have h1 := (Prod.mk.inj h).1
  have h2 := (Prod.mk.inj h).2
  exact div_mod_inj (words_nd ss nd (Nat.div_lt_of_lt_mul hc) (Nat.div_lt_of_lt_mul hd) h1) (words_nd ss nd (Nat.mod_lt _ h0) (Nat.mod_lt _ h0) h2)
structure Tied (H : Hp) (t : Addr) (ss : List Str) (ts : List (Str × Str)) : Prop where
  at_ : ∃ refs, H t = some (.lst refs) ∧ RepAll H refs (ts.map pairD)
  few : ts.length ≤ 400
  nd : ts.Nodup
  inn : ∀ e ∈ ts, e.1 ∈ ss ∧ e.2 ∈ ss
noncomputable def spTies (K : PySem.W.Frag) : Sp := fun vs H Q _ => ∃ (p a n : Addr) (ss : List Str), vs = [.ref p, .ref n] ∧ Pen K H p a ∧ H n = some (.lst (List.map V.str ss)) ∧ n ≠ p ∧ ss.length ≤ 60 ∧ ss.Nodup ∧ (∀ s ∈ ss, Nm s) ∧
  ∀ t ts H', Tied H' t ss ts → H t = none → t ≠ p → PenV H' p a → But p H H' → Q (.ref t) H'
theorem scTies : FnScope ["_law_pen_here", "_law_things_here", "_law_many", "_law_found", "_law_code", "_law_step", "_law_k", "_law_tie"] ["_law_pen_here", "_law_things_here"] (defScope sTies) := ⟨rfl, rfl, rfl, by decide +kernel, rfl, by decide +kernel, by decide +kernel⟩
theorem ok_ties {f : Addr} {fd : FuncData} (F : Fun K "_law_ties" "_law_ties" sTies f fd) (B : Blt mg) (c_law_draw : Cal P w K mg base 1 "_law_draw" ["_law_pen_here", "_law_most"] (spDraw K)) : FnOk P w K mg base CX0 2 f fd ["_law_pen_here", "_law_things_here"] (spTies K) := by
  refine F.ok scTies (fun vs H Q E h => ?_) (fun cdv A outer s H vs Q E hr h => ?_)
  · obtain ⟨p, a, n, ss, rfl, _⟩ := h
    rfl
  · obtain ⟨p, a, n, ss, rfl, hP, hn, hnp, hlen, snd, snm, k⟩ := h
    have nd := scTies.nd
    have v0 := hP.2
    refine ⟨_, (pss_cons (ps_set (i := 2) nd rfl (Or.inl rfl) (b_len K B (pa_cons (pv 1) pa_nil)))
      (pss_cons (ps_set (i := 3) nd rfl (Or.inl rfl) (pe_lst pa_nil))
      (pss_cons (ps_if (PW.pt (pw_and (pt_cmpR op_gt (pv 2) pe_int (nomark _)) (pw_and1 (pt_cmpR (op_eqX hr.units) (pe_cal c_law_draw (hr.mono (by decide)) rfl (pa_cons (pv 0) (pa_cons pe_int pa_nil))) pe_int (nomark _))))) (pss_cons (ps_set (i := 4) nd rfl (Or.inl rfl) (pe_cal c_law_draw (hr.mono (by decide)) rfl (pa_cons (pv 0) (pa_cons (pe_op op_mul (pv 2) (pv 2)) pa_nil))))
      (pss_cons (ps_set (i := 5) nd rfl (Or.inl rfl) (pe_ix (ix_X K hr.units) (pe_lst (pa_cons pe_int (pa_cons pe_int (pa_cons pe_int (pa_cons pe_int (pa_cons pe_int (pa_cons pe_int pa_nil star_c) star_c) star_c) star_c) star_c) star_c)) (pe_cal c_law_draw (hr.mono (by decide)) rfl (pa_cons (pv 0) (pa_cons pe_int pa_nil))) (fun _ _ => rfl)))
      (pss_cons (ps_for PassesOwn.never rfl (pi_range1 rfl B.range (pa_cons (b_min rfl B (pa_cons (pe_op op_mul (pv 2) (pv 2)) (pa_cons (pe_ix (ix_X K hr.units) (pe_lst (pa_cons (pe_cal c_law_draw (hr.mono (by decide)) rfl (pa_cons (pv 0) (pa_cons pe_int pa_nil))) (pa_cons pe_int pa_nil))) (pe_cal c_law_draw (hr.mono (by decide)) rfl (pa_cons (pv 0) (pa_cons pe_int pa_nil))) (fun _ _ => rfl)) pa_nil))) pa_nil)) (pg_name (i := 6) nd rfl (Or.inl rfl)) (pss_cons (ps_expr (m_append K (pv 3) (pa_cons (pe_tup (pa_cons (pe_ix (ix_X K hr.units) (pv 1) (pe_op op_fdiv (pv 4) (pv 2)) (fun _ _ => rfl)) (pa_cons (pe_ix (ix_X K hr.units) (pv 1) (pe_op op_mod (pv 4) (pv 2)) (fun _ _ => rfl)) pa_nil))) pa_nil)))
      (pss_one (ps_set (i := 4) nd rfl (Or.inl rfl) (pe_op op_mod (pe_op op_addX (pv 4) (pv 5)) (pe_op op_mul (pv 2) (pv 2)))))))
      (pss_one (ps_ret (pv 3)))))) pss_nil)
      (pss_cons (ps_for PassesOwn.never rfl (pi_range1 rfl B.range (pa_cons (pe_ix (ix_X K hr.units) (pe_lst (pa_cons pe_int (pa_cons (pe_cal c_law_draw (hr.mono (by decide)) rfl (pa_cons (pv 0) (pa_cons pe_int pa_nil))) pa_nil))) (b_int B (pa_cons (pe_cmpR op_gt (pv 2) pe_int (nomark _)) pa_nil)) (fun _ _ => rfl)) pa_nil)) (pg_name (i := 6) nd rfl (Or.inl rfl)) (pss_cons (ps_set (i := 7) nd rfl (Or.inl rfl) (pe_tup (pa_cons (pe_ix (ix_X K hr.units) (pv 1) (pe_cal c_law_draw (hr.mono (by decide)) rfl (pa_cons (pv 0) (pa_cons (pv 2) pa_nil))) (fun _ _ => rfl)) (pa_cons (pe_ix (ix_X K hr.units) (pv 1) (pe_cal c_law_draw (hr.mono (by decide)) rfl (pa_cons (pv 0) (pa_cons (pv 2) pa_nil))) (fun _ _ => rfl)) pa_nil))))
      (pss_one (ps_if (pt_cmpR (op_notInX K hr.units) (pv 7) (pv 3) (by with_unfolding_all rfl)) (pss_one (ps_expr (m_append K (pv 3) (pa_cons (pv 7) pa_nil)))) pss_nil))))
      (pss_one (ps_ret (pv 3))))))), ?_⟩
    refine ⟨_, rfl, _, _, rfl, Or.inl ⟨_, .of hn, rfl⟩, (by show 0 ≤ sizeLine; decide), fun lf hlf => ?_⟩
    rw [List.length_map]
    have hpf := v0.ne hlf
    have hnf : n ≠ lf := ne_of_none hn hlf
    have v1 := v0.upd (o := .lst []) hpf
    have b1 := (But.refl p H).at (o := .lst []) hlf
    have hf1 : upd H lf (.lst []) lf = some (.lst []) := upd_same
    have hn1 : upd H lf (.lst []) n = some (.lst (List.map V.str ss)) := by rw [upd_ne hnf]; exact hn
    generalize upd H lf (.lst []) = H1 at v1 b1 hf1 hn1 ⊢
    have hm60 : ((ss.length : Nat) : Int) ≤ 60 := by omega
    have fin : ∀ (ts : List (Str × Str)) (refs : List V) (H' : Hp), H' lf = some (.lst refs) → RepAll H' refs (ts.map pairD) → ts.length ≤ 400 → ts.Nodup → (∀ e ∈ ts, e.1 ∈ ss ∧ e.2 ∈ ss) → PenV H' p a → But p H H' → Q (.ref lf) H' := fun ts refs H' h1 h2 h3 h4 h5 h6 h7 => k lf ts H' ⟨⟨refs, h1, h2⟩, h3, h4, h5⟩ hlf (Ne.symm hpf) h6 h7
    refine ⟨_, rfl, _, _, rfl, rfl, _, rfl, ?_⟩
    refine ite2 (fun h0 => ?_) (fun h0 => ?_)
    refine ⟨_, rfl, p, a, 6, rfl, hP.but b1 v1, by decide, by decide, fun r1 H2 h10 h11 v2 e2 => .sc rfl ⟨_, rfl, ?_⟩⟩
    have b2 := b1.trans (But.of_eq e2)
    have hf2 := (e2 lf (Ne.symm hpf)).trans hf1
    have hn2 := (e2 n hnp).trans hn1
    refine ite2 (fun _ => ?_) (fun _ => ?_)
    · have h0 : (0 : Int) < (ss.length : Nat) := of_decide_eq_true h0
      have h0' : 0 < ss.length := by omega
      have hMM : ss.length * ss.length ≤ 3600 := Nat.mul_le_mul hlen hlen
      have hM0 : 0 < ss.length * ss.length := Nat.mul_pos h0' h0'
      have eM : ((ss.length : Nat) : Int) * ((ss.length : Nat) : Int) = ((ss.length * ss.length : Nat) : Int) := by rw [Int.natCast_mul]
      refine ⟨_, rfl, _, rfl, _, rfl, _, _, rfl, rfl, .inl ⟨by omega, by omega⟩, p, a, _, rfl, hP.but b2 v2, by rw [eM]; omega, by rw [eM]; omega, fun r2 H3 h20 h21 v3 e3 => ?_⟩
      rw [eM] at h21
      obtain ⟨c0, rfl⟩ := Int.eq_ofNat_of_zero_le h20
      have hc0 : c0 < ss.length * ss.length := by omega
      have b3 := b2.trans (But.of_eq e3)
      have hf3 := (e3 lf (Ne.symm hpf)).trans hf2
      have hn3 := (e3 n hnp).trans hn2
      refine ⟨(by show 6 ≤ sizeLine; decide), fun l hl => ?_⟩
      have hpl := v3.ne hl
      have v4 := v3.upd (o := .lst [V.int 61, V.int 67, V.int 71, V.int 73, V.int 79, V.int 83]) hpl
      have b4 := b3.at (o := .lst [V.int 61, V.int 67, V.int 71, V.int 73, V.int 79, V.int 83]) (b3.free (Ne.symm hpl) hl)
      refine ⟨_, rfl, p, a, 6, rfl, hP.but b4 v4, by decide, by decide, fun r3 H5 h30 h31 v5 e5 => ?_⟩
      have hl5 : H5 l = some (.lst [V.int 61, V.int 67, V.int 71, V.int 73, V.int 79, V.int 83]) := (e5 l (Ne.symm hpl)).trans upd_same
      have b5 := b4.trans (But.of_eq e5)
      have hf5 : H5 lf = some (.lst []) := by rw [e5 lf (Ne.symm hpf), upd_ne (ne_of_none hf3 hl)]; exact hf3
      have hn5 : H5 n = some (.lst (List.map V.str ss)) := by rw [e5 n hnp, upd_ne (ne_of_none hn3 hl)]; exact hn3
      obtain ⟨st, est, hst⟩ : ∃ st : Nat, atI [V.int 61, V.int 67, V.int 71, V.int 73, V.int 79, V.int 83] r3 = some (.int (st : Int)) ∧ st ∈ [61, 67, 71, 73, 79, 83] := by
        have hr3 : r3 = 0 ∨ r3 = 1 ∨ r3 = 2 ∨ r3 = 3 ∨ r3 = 4 ∨ r3 = 5 := by omega
        rcases hr3 with rfl | rfl | rfl | rfl | rfl | rfl
        · exact ⟨61, rfl, by decide⟩
        · exact ⟨67, rfl, by decide⟩
        · exact ⟨71, rfl, by decide⟩
        · exact ⟨73, rfl, by decide⟩
        · exact ⟨79, rfl, by decide⟩
        · exact ⟨83, rfl, by decide⟩
      have cop := cop_steps ss.length (by omega) h0' st hst
      have hst83 : st ≤ 83 := by simp at hst; omega
      refine .lst (.of hl5) est ?_
      refine ⟨_, rfl, _, rfl, _, _, rfl, rfl, .inl ⟨by omega, by omega⟩, _, rfl, p, a, 401, rfl, hP.but b5 v5, by decide, by decide, fun r4 H6 h40 h41 v6 e6 => ⟨(by show 2 ≤ sizeLine; decide), fun l6 hl6 => ?_⟩⟩
      have b6 := b5.trans (But.of_eq e6)
      have hpl6 := v6.ne hl6
      have hf6 := (e6 lf (Ne.symm hpf)).trans hf5
      have hn6 := (e6 n hnp).trans hn5
      have v7 := v6.upd (o := .lst [V.int r4, V.int 400]) hpl6
      have b7 := b6.at (o := .lst [V.int r4, V.int 400]) (b6.free (Ne.symm hpl6) hl6)
      refine ⟨_, rfl, p, a, 2, rfl, hP.but b7 v7, by decide, by decide, fun r5 H8 h50 h51 v8 e8 => ?_⟩
      have hl8 : H8 l6 = some (.lst [V.int r4, V.int 400]) := (e8 l6 (Ne.symm hpl6)).trans upd_same
      have b8 := b7.trans (But.of_eq e8)
      have hf8 : H8 lf = some (.lst []) := by rw [e8 lf (Ne.symm hpf), upd_ne (ne_of_none hf6 hl6)]; exact hf6
      have hn8 : H8 n = some (.lst (List.map V.str ss)) := by rw [e8 n hnp, upd_ne (ne_of_none hn6 hl6)]; exact hn6
      obtain ⟨r6, er6, h60, h61⟩ : ∃ r6 : Int, atI [V.int r4, V.int 400] r5 = some (.int r6) ∧ 0 ≤ r6 ∧ r6 ≤ 400 := by
        have hr5 : r5 = 0 ∨ r5 = 1 := by omega
        rcases hr5 with rfl | rfl
        · exact ⟨r4, rfl, h40, by omega⟩
        · exact ⟨400, rfl, by decide, by decide⟩
      obtain ⟨cn, hcn, hcM, hc4⟩ : ∃ cn : Nat, (if r6 < ((ss.length : Nat) : Int) * ((ss.length : Nat) : Int) then r6 else ((ss.length : Nat) : Int) * ((ss.length : Nat) : Int)) = (cn : Int) ∧ cn ≤ ss.length * ss.length ∧ cn ≤ 400 := by
        rw [eM]
        by_cases q : r6 < ((ss.length * ss.length : Nat) : Int)
        · rw [if_pos q]; exact ⟨r6.toNat, by omega, by omega, by omega⟩
        · rw [if_neg q]; exact ⟨_, rfl, Nat.le_refl _, by omega⟩
      refine .lst (.of hl8) er6 ⟨_, _, rfl, _, rfl, ?_⟩
      rw [hcn]
      refine ⟨by omega, by omega, ?_⟩
      refine for_range (fun i σ H' => ∃ o6 o7 refs, σ = [some (.ref p), some (.ref n), some (.int ((ss.length : Nat) : Int)), some (.ref lf), some (.int (((c0 + i * st) % (ss.length * ss.length) : Nat) : Int)), some (.int (st : Int)), o6, o7] ∧ H' lf = some (.lst refs) ∧ RepAll H' refs (((List.range i).map fun k => tieAt ss ((c0 + k * st) % (ss.length * ss.length))).map pairD) ∧ H' n = some (.lst (List.map V.str ss)) ∧ PenV H' p a ∧ But p H H') ?_ ?_ ?_
      · refine ⟨none, none, [], ?_, hf8, .nil, hn8, v8, b8⟩
        rw [Nat.zero_mul, Nat.add_zero, Nat.mod_eq_of_lt hc0]; rfl
      · rintro i σ H9 hi ⟨o6, o7, refs, rfl, hf9, rp9, hn9, v9, b9⟩
        have hi : i < cn := by simpa using hi
        have hcl : (c0 + i * st) % (ss.length * ss.length) < ss.length * ss.length := Nat.mod_lt _ hM0
        have ecode : ((((c0 + i * st) % (ss.length * ss.length) : Nat) : Int) + (st : Int)) % (((ss.length : Nat) : Int) * ((ss.length : Nat) : Int)) = (((c0 + (i + 1) * st) % (ss.length * ss.length) : Nat) : Int) := by
          rw [eM, ← Int.natCast_add, ← Int.natCast_emod, Nat.mod_add_mod, Nat.succ_mul, Nat.add_assoc]
        have rlen := rp9.len
        rw [List.length_map, List.length_map, List.length_range] at rlen
        generalize hcd : (c0 + i * st) % (ss.length * ss.length) = cd at hcl ecode ⊢
        have at1 : atI (List.map V.str ss) ((cd : Int) / ((ss.length : Nat) : Int)) = some (.str (ss.getD (cd / ss.length) "")) := by
          rw [← Int.natCast_ediv]; exact str_at (Nat.div_lt_of_lt_mul hcl)
        have at2 : atI (List.map V.str ss) ((cd : Int) % ((ss.length : Nat) : Int)) = some (.str (ss.getD (cd % ss.length) "")) := by
          rw [← Int.natCast_emod]; exact str_at (Nat.mod_lt _ h0')
        refine ⟨_, rfl, .inl ⟨rfl, _, .of hf9⟩, _, rfl, _, rfl, _, rfl, _, _, rfl, rfl, ⟨by omega, by omega⟩, .lst (.of hn9) at1 ⟨_, rfl, _, rfl, _, rfl, _, _, rfl, rfl, by omega, .lst (.of hn9) at2 ⟨(by show 2 ≤ sizeLine; decide), fun tq htq => ?_⟩⟩⟩
        have sq := Same.new (o := .tup [V.str (ss.getD (cd / ss.length) ""), V.str (ss.getD (cd % ss.length) "")]) htq
        have hlq : lf ≠ tq := ne_of_none hf9 htq
        have hpq := v9.ne htq
        refine ⟨lf, _, _, rfl, rfl, sq _ _ hf9, by rw [← rlen] at hi; exact small1000 (by omega), ?_⟩
        refine ⟨_, rfl, _, rfl, .int ⟨_, rfl, _, rfl, _, _, rfl, rfl, .inl ⟨by omega, by omega⟩, _, _, rfl, rfl, by rw [eM]; omega, ?_⟩⟩
        refine ⟨_, _, refs ++ [.ref tq], (by rw [← ecode]; rfl), upd_same, ?_, ?_, ?_, ?_⟩
        · rw [range_snoc, List.map_append]
          refine RepAll.append (RepAll.pairBut (p := lf) (sq _ _ hf9) But.upd (rp9.same sq)) (.cons ?_ .nil)
          rw [hcd]
          refine pair_rep ?_
          rw [upd_ne (Ne.symm hlq)]; exact upd_same
        · rw [upd_ne hnf]; exact sq _ _ hn9
        · exact (v9.upd hpq).upd hpf
        · exact ((b9.at (b9.free (Ne.symm hpq) htq))).at hlf
      · rintro σ H9 ⟨o6, o7, refs, rfl, hf9, rp9, hn9, v9, b9⟩
        refine ⟨_, rfl, fin _ refs H9 hf9 rp9 (by simp; omega) (nodup_by _ _ fun i j hij hj e => ?_) (fun e he => ?_) v9 b9⟩
        · have hj : j < cn := by simpa using hj
          exact step_inj cop hij (by omega) (tieAt_inj snd h0' (Nat.mod_lt _ hM0) (Nat.mod_lt _ hM0) e)
        · obtain ⟨i, hi, rfl⟩ := mem_by he
          exact ⟨mem_getD (Nat.div_lt_of_lt_mul (Nat.mod_lt _ hM0)), mem_getD (Nat.mod_lt _ h0')⟩
    have v1 := v2
    have b1 := b2
    have hf1 := hf2
    have hn1 := hn2
    all_goals
      refine ⟨_, rfl, p, a, 13, rfl, hP.but b1 v1, by decide, by decide, fun r7 H3 h70 h71 v3 e3 => ⟨(by show 2 ≤ sizeLine; decide), fun l hl => ?_⟩⟩
      have b3 := b1.trans (But.of_eq e3)
      have hf3 := (e3 lf (Ne.symm hpf)).trans hf1
      have hn3 := (e3 n hnp).trans hn1
      have hpl := v3.ne hl
      have sl := Same.new (o := .lst [V.int 0, V.int r7]) hl
      have v4 := v3.upd (o := .lst [V.int 0, V.int r7]) hpl
      have b4 := b3.at (o := .lst [V.int 0, V.int r7]) (b3.free (Ne.symm hpl) hl)
      have hf4 := sl _ _ hf3
      have hn4 := sl _ _ hn3
      have hl4 : upd H3 l (.lst [V.int 0, V.int r7]) l = some (.lst [V.int 0, V.int r7]) := upd_same
      generalize upd H3 l (.lst [V.int 0, V.int r7]) = H4 at v4 b4 hf4 hn4 hl4 ⊢
      obtain ⟨cnt, ecnt, hcz, hc12⟩ : ∃ cnt : Nat, atI [V.int 0, V.int r7] (if decide ((0 : Int) < ((ss.length : Nat) : Int)) = true then 1 else 0) = some (.int (cnt : Int)) ∧ (0 < cnt → 0 < ss.length) ∧ cnt ≤ 12 := by
        by_cases q : (0 : Int) < ((ss.length : Nat) : Int)
        · rw [if_pos (decide_eq_true q)]
          exact ⟨r7.toNat, by show some (V.int r7) = _; rw [Int.toNat_of_nonneg h70], fun _ => by omega, by omega⟩
        · rw [if_neg (by simpa using q)]
          exact ⟨0, rfl, fun z => absurd z (by decide), by decide⟩
      refine ⟨_, rfl, _, _, rfl, rfl, _, rfl, .bl (.lst (.of hl4) ecnt ⟨_, rfl, by omega, by omega, ?_⟩)⟩
      refine for_range (fun i σ H' => ∃ (o6 o7 : Option V) (refs : List V) (ts : List (Str × Str)), σ = [some (.ref p), some (.ref n), some (.int ((ss.length : Nat) : Int)), some (.ref lf), none, none, o6, o7] ∧ H' lf = some (.lst refs) ∧ RepAll H' refs (ts.map pairD) ∧ ts.length ≤ i ∧ ts.Nodup ∧ (∀ e ∈ ts, e.1 ∈ ss ∧ e.2 ∈ ss) ∧ H' n = some (.lst (List.map V.str ss)) ∧ PenV H' p a ∧ But p H H') ?_ ?_ ?_
      · exact ⟨none, none, [], [], rfl, hf4, .nil, Nat.le_refl _, List.nodup_nil, (fun e he => by cases he), hn4, v4, b4⟩
      · rintro i σ H5 hi ⟨o6, o7, refs, ts, rfl, hf5, rp5, tl5, tn5, ti5, hn5, v5, b5⟩
        have hi : i < cnt := by simpa using hi
        have h0' := hcz (by omega)
        refine ⟨_, rfl, _, rfl, _, rfl, p, a, _, rfl, hP.but b5 v5, by omega, by omega, fun r8 H6 h80 h81 v6 e6 => ?_⟩
        obtain ⟨x, rfl⟩ := Int.eq_ofNat_of_zero_le h80
        have b6 := b5.trans (But.of_eq e6)
        have hf6 := (e6 lf (Ne.symm hpf)).trans hf5
        have hn6 := (e6 n hnp).trans hn5
        have rp6 : RepAll H6 refs (ts.map pairD) := by
          obtain ⟨_, hpv⟩ := penAt v5
          exact RepAll.pairBut hpv (But.of_eq e6) rp5
        refine .lst (.of hn6) (str_at (by omega)) ⟨_, rfl, _, rfl, _, rfl, p, a, _, rfl, hP.but b6 v6, by omega, by omega, fun r9 H7 h90 h91 v7 e7 => ?_⟩
        obtain ⟨y, rfl⟩ := Int.eq_ofNat_of_zero_le h90
        have b7 := b6.trans (But.of_eq e7)
        have hf7 := (e7 lf (Ne.symm hpf)).trans hf6
        have hn7 := (e7 n hnp).trans hn6
        have rp7 : RepAll H7 refs (ts.map pairD) := by
          obtain ⟨_, hpv⟩ := penAt v6
          exact RepAll.pairBut hpv (But.of_eq e7) rp6
        refine .lst (.of hn7) (str_at (by omega)) ⟨(by show 2 ≤ sizeLine; decide), fun tq htq => ?_⟩
        have sq := Same.new (o := .tup [V.str (ss.getD x ""), V.str (ss.getD y "")]) htq
        have hlq : lf ≠ tq := ne_of_none hf7 htq
        have hpq := v7.ne htq
        have v8 := v7.upd (o := .tup [V.str (ss.getD x ""), V.str (ss.getD y "")]) hpq
        have b8 := b7.at (o := .tup [V.str (ss.getD x ""), V.str (ss.getD y "")]) (b7.free (Ne.symm hpq) htq)
        have hf8 := sq _ _ hf7
        have hn8 := sq _ _ hn7
        have rp8 := rp7.same sq
        have hq8 : upd H7 tq (.tup [V.str (ss.getD x ""), V.str (ss.getD y "")]) tq = some (.tup [V.str (ss.getD x ""), V.str (ss.getD y "")]) := upd_same
        generalize upd H7 tq (.tup [V.str (ss.getD x ""), V.str (ss.getD y "")]) = H8 at v8 b8 hf8 hn8 rp8 hq8 ⊢
        have mx : ss.getD x "" ∈ ss := mem_getD (by omega)
        have my : ss.getD y "" ∈ ss := mem_getD (by omega)
        refine ⟨_, rfl, _, rfl, .tr hf8 rp8 (pair_rep hq8) (canLay_prs ts fun e he => ⟨snm _ (ti5 e he).1, snm _ (ti5 e he).2⟩) (canLay_prs [(ss.getD x "", ss.getD y "")] (fun e he => by
          rw [List.mem_singleton.mp he]; exact ⟨snm _ mx, snm _ my⟩) |> fun z => by simpa [PyData.canLayAll0] using z) (by show 1 ≤ 16; decide) ⟨_, rfl, ?_⟩⟩
        rw [any_pair]
        have rlen := rp8.len
        rw [List.length_map] at rlen
        refine ite2 (fun hnew => ?_) (fun hold => ?_)
        · have hnew : (ss.getD x "", ss.getD y "") ∉ ts := by simpa using hnew
          refine ⟨_, rfl, .inl ⟨rfl, _, .of hf8⟩, _, rfl, lf, _, _, rfl, rfl, hf8, small1000 (by omega), ?_⟩
          refine ⟨_, _, refs ++ [.ref tq], ts ++ [(ss.getD x "", ss.getD y "")], rfl, upd_same, ?_, ?_, nodup_snoc tn5 hnew, ?_, ?_, v8.upd hpf, b8.at hlf⟩
          · rw [List.map_append]
            refine RepAll.append (RepAll.pairBut (p := lf) hf8 But.upd rp8) (.cons (pair_rep ?_) .nil)
            rw [upd_ne (Ne.symm hlq)]; exact hq8
          · rw [List.length_append]; show _ + 1 ≤ _; omega
          · intro e he
            rcases List.mem_append.mp he with he | he
            · exact ti5 e he
            · rw [List.mem_singleton.mp he]; exact ⟨mx, my⟩
          · rw [upd_ne hnf]; exact hn8
        · exact ⟨_, _, refs, ts, rfl, hf8, rp8, by omega, tn5, ti5, hn8, v8, b8⟩
      · rintro σ H5 ⟨o6, o7, refs, ts, rfl, hf5, rp5, tl5, tn5, ti5, hn5, v5, b5⟩
        exact ⟨_, rfl, fin ts refs H5 hf5 rp5 (by simp at tl5; omega) tn5 ti5 v5 b5⟩
end
end K07
namespace K07
open PySem L2
section
variable {P : Program} {w : World} {K : PySem.W.Frag} {mg : Str → Option Value} {base : Heap}
theorem scPlaces : FnScope ["things", "places", "place", "thing"] ["things"] (defScope sPlaces) := ⟨rfl, rfl, rfl, by decide +kernel, rfl, by decide +kernel, by decide +kernel⟩
theorem pair_get {H : Hp} {refs : List V} {ps : List (Str × Str)} (rp : RepAll H refs (ps.map pairD)) {j : Nat} {x : V} (hx : refs[j]? = some x) : ∃ e ta, ps[j]? = some e ∧ x = .ref ta ∧ H ta = some (.tup [.str e.1, .str e.2]) := by
  obtain ⟨d, hd, rd⟩ := rp.get hx
  rw [List.getElem?_map] at hd
  cases q : ps[j]? with
  | none => rw [q] at hd; cases hd
  | some e =>
    rw [q] at hd
    have hd : pairD e = d := Option.some.inj hd
    rw [← hd] at rd
    obtain ⟨ta, h1, h2⟩ := pair_at rd
    exact ⟨e, ta, rfl, h1, h2⟩
theorem str_get {ss : List Str} {i : Nat} {x : V} (h : (List.map V.str ss)[i]? = some x) : ∃ s, ss[i]? = some s ∧ V.str s = x := by
  rw [List.getElem?_map] at h
  cases q : ss[i]? with
  | none => rw [q] at h; cases h
  | some e => rw [q] at h; exact ⟨e, rfl, Option.some.inj h⟩
structure PlN (H H' : Hp) (d : Addr) (xs : List Str) (i : Nat) (kvs : List (Key × V)) : Prop where
  sm : Same H H'
  at_ : H' d = some (.dK kvs)
  len : kvs.length ≤ i
  inn : ∀ s, (valV kvs (.inr s)).isSome = true ↔ s ∈ xs.take i
  ix : ∀ s v, valV kvs (.inr s) = some v → ∃ j : Nat, v = .int j ∧ xs[j]? = some s
  nd : (kvs.map (·.1)).Nodup
  ks : ∀ k ∈ kvs.map (·.1), ∃ s ∈ xs, k = Sum.inr s
theorem map_putK {kvs : List (Key × V)} {k : Key} {v : V} (h : (valV kvs k).isSome = true) : (putK kvs k v).map (·.1) = kvs.map (·.1) := by
  unfold putK
  rw [if_pos (by rw [valV_any]; exact h), List.map_map]
  refine List.map_congr_left fun p _ => ?_
  show (if p.1 = k then (p.1, v) else p).1 = p.1
  split <;> rfl
theorem PlN.step {H H' : Hp} {d p : Addr} {xs : List Str} {i : Nat} {kvs : List (Key × V)} {t : Str} {o : HO} (h : PlN H H' d xs i kvs) (hd : H d = none) (hp : H' p = none) (ht : xs[i]? = some t) :
    PlN H (upd (upd H' p o) d (.dK (putK kvs (.inr t) (.int (i : Nat))))) d xs (i + 1) (putK kvs (.inr t) (.int (i : Nat))) := by
  refine ⟨?_, upd_same, ?_, ?_, ?_, ?_, ?_⟩
  · intro b o hb
    rw [upd_ne (ne_of_none hb hd)]
    exact Same.new hp _ _ (h.sm _ _ hb)
  · have := length_putK kvs (.inr t) (V.int (i : Nat))
    have := h.len
    omega
  · intro s
    rw [valV_put, List.take_add_one, ht, List.mem_append]
    by_cases q : s = t
    · subst q
      simp
    · rw [if_neg (fun z => q (Sum.inr.inj z)), h.inn s]
      simp [q]
  · intro s v e
    rw [valV_put] at e
    by_cases q : s = t
    · subst q
      rw [if_pos rfl] at e
      exact ⟨i, (Option.some.inj e).symm, ht⟩
    · rw [if_neg (fun z => q (Sum.inr.inj z))] at e
      exact h.ix s v e
  · cases q : valV kvs (.inr t) with
    | none => exact nd_putK _ h.nd q
    | some v => rw [map_putK (by rw [q]; rfl)]; exact h.nd
  · intro k hk
    cases q : valV kvs (.inr t) with
    | none =>
      rw [putK_new _ q, List.map_append] at hk
      rcases List.mem_append.mp hk with hk | hk
      · exact h.ks k hk
      · have : k = Sum.inr t := by simpa using hk
        exact ⟨t, List.mem_of_getElem? ht, this⟩
    | some v => rw [map_putK (by rw [q]; rfl)] at hk; exact h.ks k hk
theorem ok_placesX {f : Addr} {fd : FuncData} (F : Fun K "places_of" "places_of" sPlaces f fd) (B : Blt mg) : FnOk P w K mg base CX0 1 f fd ["things"] spPlacesX := by
  refine F.ok scPlaces (fun vs H Q E h => ?_) (fun cdv A outer s H vs Q E hr h => ?_)
  · obtain ⟨x, rfl, _⟩ := h
    rfl
  · obtain ⟨x, rfl, h⟩ := h
    have nd := scPlaces.nd
    cases h with
    | @nm a xs _ ha hl k =>
      refine ⟨_, (pss_cons (ps_set (i := 1) nd rfl (Or.inl rfl) pe_dnewK)
      (pss_cons (ps_for PassesOwn.never rfl (pi_enumX K rfl B.enumerate (pa_cons (pv 0) pa_nil)) (pg_tupK (n := 2) K rfl (pgs_cons (pg_name (i := 2) nd rfl (Or.inl rfl)) (pgs_cons (pg_name (i := 3) nd rfl (Or.inl rfl)) pgs_nil))) (pss_one (ps_asg (pv 2) (pg_sub (pv 1) (pv 3) (set_X hr.units)))))
      (pss_one (ps_ret (pv 1))))), ?_⟩
      intro d hd
      have s0 := Same.new (o := .dK []) hd
      have start : PlN H (upd H d (.dK [])) d xs 0 [] := ⟨s0, upd_same, Nat.le_refl _, (fun s => by simp [valV_nil]), (fun s v e => by cases e), List.nodup_nil, (fun k hk => by cases hk)⟩
      rcases ha with ha | ha
      · refine ⟨_, rfl, _, rfl, .lst (.of (s0 _ _ ha)) ?_⟩
        refine for_enum (xs := List.map V.str xs) (fun i σ H' => ∃ o1 o2 kvs, σ = [some (.ref a), some (.ref d), o1, o2] ∧ PlN H H' d xs i kvs) ?_ ?_ ?_ ?_
        · exact ⟨none, none, [], rfl, start⟩
        · rintro i σ H' hi ⟨o1, o2, kvs, rfl, pl⟩
          exact .of (pl.sm _ _ ha)
        · rintro i x σ H' p hx ⟨o1, o2, kvs, rfl, pl⟩ hp
          obtain ⟨t, ht, rfl⟩ := str_get hx
          have hil := (List.getElem?_eq_some_iff.mp ht).1
          have hdp : d ≠ p := ne_of_none pl.at_ hp
          have := pl.len
          refine ⟨p, _, rfl, .of upd_same, rfl, _, _, rfl, _, _, rfl, rfl, ?_⟩
          exact ⟨_, rfl, _, rfl, _, rfl, .dic (DPut.k (k := .inr t) (by rw [upd_ne hdp]; exact pl.at_) (small1000 (by omega))) ⟨_, _, _, rfl, pl.step hd hp ht⟩⟩
        · rintro σ H' ⟨o1, o2, kvs, rfl, pl⟩
          have hin := pl.inn
          rw [List.length_map, List.take_of_length_le (Nat.le_refl _)] at hin
          exact ⟨_, rfl, k d kvs H' pl.sm hd pl.at_ hin pl.ix pl.nd pl.ks⟩
      · refine ⟨_, rfl, _, rfl, .tup (.of (s0 _ _ ha)) ?_⟩
        refine for_enumT (xs := List.map V.str xs) (fun i σ H' => ∃ o1 o2 kvs, σ = [some (.ref a), some (.ref d), o1, o2] ∧ PlN H H' d xs i kvs) ?_ ?_ ?_ ?_
        · exact ⟨none, none, [], rfl, start⟩
        · rintro i σ H' hi ⟨o1, o2, kvs, rfl, pl⟩
          exact .of (pl.sm _ _ ha)
        · rintro i x σ H' p hx ⟨o1, o2, kvs, rfl, pl⟩ hp
          obtain ⟨t, ht, rfl⟩ := str_get hx
          have hil := (List.getElem?_eq_some_iff.mp ht).1
          have hdp : d ≠ p := ne_of_none pl.at_ hp
          have := pl.len
          refine ⟨p, _, rfl, .of upd_same, rfl, _, _, rfl, _, _, rfl, rfl, ?_⟩
          exact ⟨_, rfl, _, rfl, _, rfl, .dic (DPut.k (k := .inr t) (by rw [upd_ne hdp]; exact pl.at_) (small1000 (by omega))) ⟨_, _, _, rfl, pl.step hd hp ht⟩⟩
        · rintro σ H' ⟨o1, o2, kvs, rfl, pl⟩
          have hin := pl.inn
          rw [List.length_map, List.take_of_length_le (Nat.le_refl _)] at hin
          exact ⟨_, rfl, k d kvs H' pl.sm hd pl.at_ hin pl.ix pl.nd pl.ks⟩
    | @pr a refs ps _ ha rp hl k =>
      refine ⟨_, (pss_cons (ps_set (i := 1) nd rfl (Or.inl rfl) pe_dnewT)
      (pss_cons (ps_for PassesOwn.never rfl (pi_enumX K rfl B.enumerate (pa_cons (pv 0) pa_nil)) (pg_tupK (n := 2) K rfl (pgs_cons (pg_name (i := 2) nd rfl (Or.inl rfl)) (pgs_cons (pg_name (i := 3) nd rfl (Or.inl rfl)) pgs_nil))) (pss_one (ps_asg (pv 2) (pg_sub (pv 1) (pv 3) (set_X hr.units)))))
      (pss_one (ps_ret (pv 1))))), ?_⟩
      have rlen := rp.len
      rw [List.length_map] at rlen
      intro d hd
      have s0 := Same.new (o := .dT []) hd
      have turn : ∀ (i : Nat) (e : Str × Str) (ta p : Addr) (H' : Hp) (kvs : List (List Key × V)), Same H H' → H' d = some (.dT kvs) → kvs.length ≤ i → i < ps.length → (∀ f : Str × Str, (valV kvs (pK f)).isSome = true ↔ f ∈ ps.take i) → ps[i]? = some e → H' p = none →
          Same H (upd (upd H' p (.tup [.int (i : Nat), .ref ta])) d (.dT (putK kvs (pK e) (.int (i : Nat))))) ∧ (putK kvs (pK e) (V.int (i : Nat))).length ≤ i + 1 ∧ ∀ f : Str × Str, (valV (putK kvs (pK e) (V.int (i : Nat))) (pK f)).isSome = true ↔ f ∈ ps.take (i + 1) := by
        intro i e ta p H' kvs sm hk hkl hi hin he hp
        refine ⟨?_, ?_, fun f => ?_⟩
        · intro b o hb
          rw [upd_ne (ne_of_none hb hd)]
          exact Same.new hp _ _ (sm _ _ hb)
        · have := length_putK kvs (pK e) (V.int (i : Nat))
          omega
        · rw [valV_put, List.take_add_one, he, List.mem_append]
          by_cases q : f = e
          · subst q; simp
          · rw [if_neg (fun z => q (pK_inj z)), hin f]
            simp [q]
      rcases ha with ha | ha
      · refine ⟨_, rfl, _, rfl, .lst (.of (s0 _ _ ha)) ?_⟩
        refine for_enum (xs := refs) (fun i σ H' => ∃ o1 o2 kvs, σ = [some (.ref a), some (.ref d), o1, o2] ∧ Same H H' ∧ H' d = some (.dT kvs) ∧ kvs.length ≤ i ∧ ∀ f : Str × Str, (valV kvs (pK f)).isSome = true ↔ f ∈ ps.take i) ?_ ?_ ?_ ?_
        · exact ⟨none, none, [], rfl, s0, upd_same, Nat.le_refl _, fun s => by simp [valV_nil]⟩
        · rintro i σ H' hi ⟨o1, o2, kvs, rfl, sm, _⟩
          exact .of (sm _ _ ha)
        · rintro i x σ H' p hx ⟨o1, o2, kvs, rfl, sm, hk, hkl, hin⟩ hp
          obtain ⟨e, ta, he, rfl, hta⟩ := pair_get (rp.same sm) hx
          have hil := (List.getElem?_eq_some_iff.mp he).1
          have hdp : d ≠ p := ne_of_none hk hp
          obtain ⟨g1, g2, g3⟩ := turn i e ta p H' kvs sm hk hkl hil hin he hp
          refine ⟨p, _, rfl, .of upd_same, rfl, _, _, rfl, _, _, rfl, rfl, ?_⟩
          exact ⟨_, rfl, _, rfl, _, rfl, .dic (DPut.t (k := pK e) (by rw [upd_ne hdp]; exact hk) (Same.new hp _ _ hta) (small1000 (by omega))) ⟨_, _, _, rfl, g1, upd_same, g2, g3⟩⟩
        · rintro σ H' ⟨o1, o2, kvs, rfl, sm, hk, hkl, hin⟩
          rw [rlen, List.take_of_length_le (Nat.le_refl _)] at hin
          exact ⟨_, rfl, k d kvs H' sm hd hk hin⟩
      · refine ⟨_, rfl, _, rfl, .tup (.of (s0 _ _ ha)) ?_⟩
        refine for_enumT (xs := refs) (fun i σ H' => ∃ o1 o2 kvs, σ = [some (.ref a), some (.ref d), o1, o2] ∧ Same H H' ∧ H' d = some (.dT kvs) ∧ kvs.length ≤ i ∧ ∀ f : Str × Str, (valV kvs (pK f)).isSome = true ↔ f ∈ ps.take i) ?_ ?_ ?_ ?_
        · exact ⟨none, none, [], rfl, s0, upd_same, Nat.le_refl _, fun s => by simp [valV_nil]⟩
        · rintro i σ H' hi ⟨o1, o2, kvs, rfl, sm, _⟩
          exact .of (sm _ _ ha)
        · rintro i x σ H' p hx ⟨o1, o2, kvs, rfl, sm, hk, hkl, hin⟩ hp
          obtain ⟨e, ta, he, rfl, hta⟩ := pair_get (rp.same sm) hx
          have hil := (List.getElem?_eq_some_iff.mp he).1
          have hdp : d ≠ p := ne_of_none hk hp
          obtain ⟨g1, g2, g3⟩ := turn i e ta p H' kvs sm hk hkl hil hin he hp
          refine ⟨p, _, rfl, .of upd_same, rfl, _, _, rfl, _, _, rfl, rfl, ?_⟩
          exact ⟨_, rfl, _, rfl, _, rfl, .dic (DPut.t (k := pK e) (by rw [upd_ne hdp]; exact hk) (Same.new hp _ _ hta) (small1000 (by omega))) ⟨_, _, _, rfl, g1, upd_same, g2, g3⟩⟩
        · rintro σ H' ⟨o1, o2, kvs, rfl, sm, hk, hkl, hin⟩
          rw [rlen, List.take_of_length_le (Nat.le_refl _)] at hin
          exact ⟨_, rfl, k d kvs H' sm hd hk hin⟩
end
end K07
namespace K07
open PySem L2
section
variable {P : Program} {w : World} {K : PySem.W.Frag} {mg : Str → Option Value} {base : Heap}
theorem scIsName : FnScope ["thing"] ["thing"] (defScope sIsName) := ⟨rfl, rfl, rfl, by decide +kernel, rfl, by decide +kernel, by decide +kernel⟩
theorem ok_isname {f : Addr} {fd : FuncData} {tk : Tok} (F : Fun K "is_name" "is_name" sIsName f fd) (B : Blt mg) (T : mg "MOST_SIGNS" = some (.int 8 tk)) : FnOk P w K mg base CX0 1 f fd ["thing"] spIsName := by
  refine F.ok scIsName (fun vs H Q E h => ?_) (fun cdv A outer s H vs Q E hr h => ?_)
  · obtain ⟨x, rfl, _⟩ := h
    rfl
  · obtain ⟨x, rfl, hx, k⟩ := h
    have nd := scIsName.nd
    obtain ⟨t, ty, t1, _⟩ := ty_thg (K := K) hx
    refine ⟨_, (pss_cons (ps_if (pt_not (pt_val (b_isi K "str" B (pa_cons (pv 0) (pa_cons (g_str B) pa_nil))))) (pss_one (ps_ret pe_bl)) pss_nil)
      (pss_cons (ps_if (PW.pt (pw_or (pt_cmpR op_ltX (b_len K B (pa_cons (pv 0) pa_nil)) pe_int (nomark _)) (pw_or1 (pt_cmpR op_gt (b_len K B (pa_cons (pv 0) pa_nil)) (pe_glob (v := .int 8) rfl T ⟨_, rfl⟩) (nomark _))))) (pss_one (ps_ret pe_bl)) pss_nil)
      (pss_one (ps_ret (b_all rfl B (pa_cons (pe_comp (defScope sIsName) ["thing"] ["sign"] [] ["sign"] rfl (pi_str (pv 0)) (fun _ _ _ _ _ => (pg_name (i := 0) (show (["sign"] : List Str).Nodup by decide) rfl (Or.inl rfl))) (fun _ _ _ _ _ => pts_nil) (fun _ _ _ _ _ => (pe_chain op_leX op_leX pe_str (pv 0) pe_str))) pa_nil)))))), ?_⟩
    refine ⟨_, rfl, x, t, _, rfl, ty, t1, _, rfl, ?_⟩
    refine ite2 (fun hn => ?_) (fun hn => ?_)
    · have e : isNm x = false := by cases x <;> first | rfl | (simp [isS] at hn)
      have q := k H (Same.refl H)
      rw [e] at q
      exact q
    · obtain ⟨z, rfl⟩ : ∃ z, x = .str z := by cases x <;> first | exact ⟨_, rfl⟩ | (simp [isS] at hn)
      have hzz : z.length ≤ sizeLine := by
        cases hx with
        | str h => exact h
      refine ⟨_, rfl, _, _, rfl, ⟨hzz, rfl⟩, .int ⟨_, rfl, ?_⟩⟩
      refine ite2 (fun h1 => ?_) (fun h1 => ?_)
      · refine iteT ?_
        have q := k H (Same.refl H)
        have h1 : (z.length : Int) < 1 := of_decide_eq_true h1
        have e : isNm (.str z) = false := by
          show (decide (1 ≤ z.length) && _) = false
          rw [decide_eq_false (by omega)]; rfl
        rw [e] at q
        exact q
      · have h1 : ¬ (z.length : Int) < 1 := of_decide_eq_false (by simpa using h1)
        refine ⟨_, rfl, _, _, rfl, ⟨hzz, rfl⟩, _, _, rfl, rfl, _, rfl, ?_⟩
        refine ite2 (fun h2 => ?_) (fun h2 => ?_)
        · have q := k H (Same.refl H)
          have h2 : (8 : Int) < z.length := of_decide_eq_true h2
          have e : isNm (.str z) = false := by
            show (decide (1 ≤ z.length) && (decide (z.length ≤ 8) && _)) = false
            rw [decide_eq_false (show ¬ z.length ≤ 8 by omega), Bool.false_and, Bool.and_false]
          rw [e] at q
          exact q
        · have h2 : ¬ (8 : Int) < z.length := of_decide_eq_false (by simpa using h2)
          have e : isNm (.str z) = z.cps.toList.all isLow := by
            show (decide (1 ≤ z.length) && (decide (z.length ≤ 8) && _)) = _
            rw [decide_eq_true (show 1 ≤ z.length by omega), decide_eq_true (show z.length ≤ 8 by omega), Bool.true_and, Bool.true_and]
          refine ⟨_, rfl, z, rfl, ?_⟩
          refine comp_str (fun D i acc σ' H' => ∃ o, σ' = [o] ∧ acc = (z.cps.toList.take i).map (fun c => V.bl (isLow c)) ∧ Same H H' ∧ H D = none) fun D hD => ⟨⟨none, rfl, rfl, Same.new hD, hD⟩, ?_, ?_⟩
          · rintro i acc σ' H' c hc ⟨o, rfl, rfl, sm, hD0⟩ hacc
            refine gYes ?_
            have sg : ∀ b : Bool, b = isLow c → (H' D = some (.lst ((z.cps.toList.take i).map (fun c => V.bl (isLow c)))) ∧ ((z.cps.toList.take i).map (fun c => V.bl (isLow c))).length < sizeLine ∧
                (∃ o, [some (V.str ⟨#[c]⟩)] = [o] ∧ (z.cps.toList.take i).map (fun c => V.bl (isLow c)) ++ [V.bl b] = (z.cps.toList.take (i + 1)).map (fun c => V.bl (isLow c)) ∧ Same H (upd H' D (.lst ((z.cps.toList.take i).map (fun c => V.bl (isLow c)) ++ [V.bl b]))) ∧ H D = none)) := fun b hb => by
              refine ⟨hacc, ?_, _, rfl, ?_, ?_, hD0⟩
              · rw [List.length_map]
                refine small1000 ?_
                have := List.length_take_le' i z.cps.toList
                have h2' : z.length ≤ 8 := by omega
                have hl : z.cps.toList.length = z.length := by simp [Str.length]
                omega
              · rw [List.take_add_one, hc, List.map_append, hb]; rfl
              · intro b' o' e'
                rw [upd_ne (ne_of_none e' hD0)]
                exact sm b' o' e'
            refine ⟨_, rfl, .str ⟨_, rfl, ?_⟩⟩
            have e1 : (!decide ((⟨#[c]⟩ : Str).cps.toList < ("a" : Str).cps.toList)) = decide (97 ≤ c) := by
              show (!decide ([c] < [97])) = _
              rw [lt_one]
              by_cases hh : c < 97
              · rw [decide_eq_true hh, decide_eq_false (by omega)]; rfl
              · rw [decide_eq_false hh, decide_eq_true (by omega)]; rfl
            have e2 : (!decide (("z" : Str).cps.toList < (⟨#[c]⟩ : Str).cps.toList)) = decide (c ≤ 122) := by
              show (!decide ([122] < [c])) = _
              rw [lt_one]
              by_cases hh : 122 < c
              · rw [decide_eq_true hh, decide_eq_false (by omega)]; rfl
              · rw [decide_eq_false hh, decide_eq_true (by omega)]; rfl
            rw [e1]
            refine ite2 (fun h3 => ?_) (fun h3 => ?_)
            · refine .str (sg _ ?_)
              rw [e2]
              unfold isLow
              rw [h3, Bool.true_and]
            · refine sg false ?_
              unfold isLow
              have h3 : decide (97 ≤ c) = false := by simpa using h3
              rw [h3, Bool.false_and]
          · rintro acc σ' H' ⟨o, rfl, rfl, sm, hD0⟩ hacc
            rw [List.take_of_length_le (Nat.le_refl _)] at hacc
            refine ⟨D, z.cps.toList.map isLow, rfl, by rw [List.map_map]; exact hacc, ?_⟩
            have q := k H' sm
            rw [e] at q
            have e4 : (z.cps.toList.map isLow).all id = z.cps.toList.all isLow := by rw [List.all_map]; rfl
            rw [e4]
            exact q
end
end K07
namespace K07
open PySem L2
section
variable {P : Program} {w : World} {K : PySem.W.Frag} {mg : Str → Option Value} {base : Heap}
noncomputable def spUnlike : Sp := fun vs H Q _ => ∃ (a : Addr) (ss : List Str), vs = [.ref a] ∧ SqA H a (List.map V.str ss) ∧ ss.length ≤ 1000 ∧ ∀ H', Same H H' → Q (.bl (decide ss.Nodup)) H'
theorem scUnlike : FnScope ["things"] ["things"] (defScope sUnlike) := ⟨rfl, rfl, rfl, by decide +kernel, rfl, by decide +kernel, by decide +kernel⟩
theorem ok_unlike {f : Addr} {fd : FuncData} (F : Fun K "are_unlike" "are_unlike" sUnlike f fd) (B : Blt mg) (cplaces_of : Cal P w K mg base 1 "places_of" ["things"] spPlacesX) : FnOk P w K mg base CX0 2 f fd ["things"] spUnlike := by
  refine F.ok scUnlike (fun vs H Q E h => ?_) (fun cdv A outer s H vs Q E hr h => ?_)
  · obtain ⟨a, ss, rfl, _⟩ := h
    rfl
  · obtain ⟨a, ss, rfl, ha, hlen, k⟩ := h
    have nd := scUnlike.nd
    refine ⟨_, (pss_one (ps_ret (pe_cmpR (op_eqX hr.units) (b_lenD B (pa_cons (pe_cal cplaces_of (hr.mono (by decide)) rfl (pa_cons (pv 0) pa_nil)) pa_nil)) (b_len K B (pa_cons (pv 0) pa_nil)) (nomark _)))), ?_⟩
    refine ⟨_, rfl, _, rfl, ?_⟩
    refine .nm ha hlen fun d kvs H1 s1 hd0 hd hin hat knd ks => ⟨d, kvs, rfl, hd, _, rfl, _, ss.length, rfl, ?_, .sc rfl ?_⟩
    · have := (SqA.same ha s1).len (K := K)
      rw [List.length_map] at this
      exact this
    · have e := len_kvs knd ks hin
      have e2 : decide (V.int (kvs.length : Nat) = V.int (ss.length : Nat)) = decide ss.Nodup := by
        rw [Bool.eq_iff_iff, decide_eq_true_iff, decide_eq_true_iff, ← e]
        exact ⟨fun z => Int.ofNat.inj (V.int.inj z), fun z => by rw [z]⟩
      show Q (.bl (decide (V.int (kvs.length : Nat) = V.int (ss.length : Nat)))) H1
      rw [e2]
      exact k H1 s1
end
end K07
namespace K07
open PySem L2
section
variable {P : Program} {w : World} {K : PySem.W.Frag} {mg : Str → Option Value} {base : Heap}
theorem nmS {s : Str} (h : Nm s) : s.length ≤ sizeLine := Nat.le_of_lt (small1000 (by have := h.2.1; omega))
noncomputable def spAmong : Sp := fun vs H Q _ => ∃ (d ta : Addr) (kvs : List (Key × V)) (e : Str × Str), vs = [.ref d, .ref ta] ∧ H d = some (.dK kvs) ∧ H ta = some (.tup [.str e.1, .str e.2]) ∧ Nm e.1 ∧ Nm e.2 ∧ (valV kvs (.inr e.1)).isSome = true ∧ (valV kvs (.inr e.2)).isSome = true ∧ ∀ H', Same H H' → Q (.bl true) H'
theorem scAmong : FnScope ["places", "tie"] ["places", "tie"] (defScope sAmong) := ⟨rfl, rfl, rfl, by decide +kernel, rfl, by decide +kernel, by decide +kernel⟩
theorem ok_among {f : Addr} {fd : FuncData} (F : Fun K "is_tie_among" "is_tie_among" sAmong f fd) (B : Blt mg) (cis_name : Cal P w K mg base 1 "is_name" ["thing"] spIsName) : FnOk P w K mg base CX0 2 f fd ["places", "tie"] spAmong := by
  refine F.ok scAmong (fun vs H Q E h => ?_) (fun cdv A outer s H vs Q E hr h => ?_)
  · obtain ⟨d, ta, kvs, e, rfl, _⟩ := h
    rfl
  · obtain ⟨d, ta, kvs, e, rfl, hd, hta, n1, n2, i1, i2, k⟩ := h
    have nd := scAmong.nd
    obtain ⟨t, ty, _, _, _, _, t5⟩ := ty_thg (K := K) (Thg.tup hta)
    rw [isT_of hta] at t5
    refine ⟨_, (pss_cons (ps_if (PW.pt (pw_or (pt_not (pt_val (b_isi K "tuple" B (pa_cons (pv 1) (pa_cons (g_tuple B) pa_nil))))) (pw_or1 (pt_cmpR (op_neX hr.units) (b_len K B (pa_cons (pv 1) pa_nil)) pe_int (nomark _))))) (pss_one (ps_ret pe_bl)) pss_nil)
      (pss_one (ps_ret (b_all rfl B (pa_cons (pe_comp (defScope sAmong) ["places", "tie"] ["end"] [0] ["end", "places"] rfl (pi_tupK K (pv 1)) (fun _ _ _ _ _ => (pg_name (i := 0) (show (["end", "places"] : List Str).Nodup by decide) rfl (Or.inl rfl))) (fun _ _ _ _ _ => pts_nil) (fun _ _ _ _ _ => (pe_and (pe_cal cis_name (hr.mono (by decide)) rfl (pa_cons (pv 0) pa_nil)) (pe_one (pe_cmpR (op_inX K hr.units) (pv 0) (pv 1) (by with_unfolding_all rfl)))))) pa_nil))))), ?_⟩
    refine ⟨_, rfl, _, t, _, rfl, ty, t5, _, rfl, ?_⟩
    refine ite2 (fun h => absurd h (by decide)) (fun _ => ?_)
    refine ⟨_, rfl, _, _, rfl, Or.inr ⟨_, .of hta, rfl⟩, .sc rfl ⟨_, rfl, ?_⟩⟩
    refine ite2 (fun h => absurd h (by show ¬ (!decide (V.int 2 = V.int 2)) = true; decide)) (fun _ => ?_)
    refine ⟨_, rfl, ta, rfl, ⟨_, .of hta⟩, ?_⟩
    refine comp_tup [V.str e.1, V.str e.2] (fun D i acc σ' H' => ∃ o, σ' = [o, some (.ref d)] ∧ acc = List.replicate i (V.bl true) ∧ Same H H' ∧ H D = none) fun D hD => ⟨?_, ?_, ?_, ?_⟩
    · exact ⟨none, rfl, rfl, Same.new hD, hD⟩
    · rintro i acc σ' H' _ ⟨o, rfl, _, sm, _⟩ _
      exact .of (sm _ _ hta)
    · rintro i acc σ' H' x hx ⟨o, rfl, rfl, sm, hD0⟩ hacc
      have hil := (List.getElem?_eq_some_iff.mp hx).1
      have hil : i < 2 := hil
      obtain ⟨z, rfl, nz, iz⟩ : ∃ z, x = .str z ∧ Nm z ∧ (valV kvs (.inr z)).isSome = true := by
        match i, hil, hx with
        | 0, _, hx => exact ⟨e.1, (Option.some.inj hx).symm, n1, i1⟩
        | 1, _, hx => exact ⟨e.2, (Option.some.inj hx).symm, n2, i2⟩
      refine gYes ?_
      refine ⟨_, rfl, _, rfl, .str (nmS nz), fun H2 s2 => ⟨_, rfl, ?_⟩⟩
      rw [isNm_iff.mpr nz]
      refine iteT ?_
      refine ⟨_, rfl, _, rfl, .dic (DGet.k (k := .inr z) (s2 _ _ (sm _ _ hd))) ?_⟩
      refine ⟨s2 _ _ hacc, by rw [List.length_replicate]; exact small1000 (by omega), _, rfl, ?_, same_at (sm.trans s2) hD0, hD0⟩
      show List.replicate i (V.bl true) ++ [V.bl (valV kvs (.inr z)).isSome] = _
      rw [iz, List.replicate_succ']
    · rintro acc σ' H2 ⟨o, rfl, rfl, s2, hD0⟩ hacc
      refine ⟨D, [true, true], rfl, hacc, ?_⟩
      exact k H2 s2
noncomputable def spUNm : Sp := fun vs H Q _ => ∃ (a : Addr) (ss : List Str), vs = [.ref a] ∧ SqA H a (List.map V.str ss) ∧ ss.length ≤ 60 ∧ ss.Nodup ∧ (∀ s ∈ ss, Nm s) ∧ ∀ H', Same H H' → Q (.bl true) H'
theorem scUNm : FnScope ["things"] ["things"] (defScope sUNm) := ⟨rfl, rfl, rfl, by decide +kernel, rfl, by decide +kernel, by decide +kernel⟩
theorem ok_unm {f : Addr} {fd : FuncData} (F : Fun K "are_unlike_names" "are_unlike_names" sUNm f fd) (B : Blt mg) (cis_name : Cal P w K mg base 1 "is_name" ["thing"] spIsName) (care_unlike : Cal P w K mg base 2 "are_unlike" ["things"] spUnlike) : FnOk P w K mg base CX0 3 f fd ["things"] spUNm := by
  refine F.ok scUNm (fun vs H Q E h => ?_) (fun cdv A outer s H vs Q E hr h => ?_)
  · obtain ⟨a, ss, rfl, _⟩ := h
    rfl
  · obtain ⟨a, ss, rfl, ha, hlen, snd, snm, k⟩ := h
    have nd := scUNm.nd
    have hl60 : ¬ (60 : Int) < ((List.map V.str ss).length : Nat) := by rw [List.length_map]; omega
    rcases ha with ha | ha
    · refine ⟨_, (pss_cons (ps_if (pt_not (pt_val (b_isi2 K "list" "tuple" B (pa_cons (pv 0) (pa_cons (pe_tup (pa_cons (g_list B) (pa_cons (g_tuple B) pa_nil))) pa_nil))))) (pss_one (ps_ret pe_bl)) pss_nil)
      (pss_one (ps_ret (pe_and (b_all rfl B (pa_cons (pe_comp (defScope sUNm) ["things"] ["thing"] [] ["thing"] rfl (pi_listK K (pv 0)) (fun _ _ _ _ _ => (pg_name (i := 0) (show (["thing"] : List Str).Nodup by decide) rfl (Or.inl rfl))) (fun _ _ _ _ _ => pts_nil) (fun _ _ _ _ _ => (pe_cal cis_name (hr.mono (by decide)) rfl (pa_cons (pv 0) pa_nil)))) pa_nil)) (pe_one (pe_cal care_unlike (hr.mono (by decide)) rfl (pa_cons (pv 0) pa_nil))))))), ?_⟩
      refine ⟨_, rfl, (by show 2 ≤ sizeLine; decide), fun tp htp => ?_⟩
      have s0 := Same.new (o := .tup [V.ty "list", V.ty "tuple"]) htp
      have A0 : SqA (upd H tp (.tup [V.ty "list", V.ty "tuple"])) a (List.map V.str ss) := (SqA.same (.inl ha) s0)
      obtain ⟨t, ty, _, _, _, t4, t5⟩ := ty_thg (K := K) A0.thg
      have kl := kit_lt t4 t5
      rw [A0.lt] at kl
      refine ⟨_, tp, t, _, rfl, upd_same, ty, kl, _, rfl, ?_⟩
      refine ite2 (fun h => absurd h (by decide)) (fun _ => ?_)
      have ha0 := s0 _ _ ha
      generalize upd H tp (.tup [V.ty "list", V.ty "tuple"]) = H0 at s0 ha0 ⊢
      refine ⟨_, rfl, a, rfl, ⟨_, .of ha0⟩, ?_⟩
      refine comp_list (List.map V.str ss) (fun D i acc σ' H' => ∃ o, σ' = [o] ∧ acc = List.replicate i (V.bl true) ∧ Same H0 H' ∧ H0 D = none) fun D hD => ⟨?_, ?_, ?_, ?_⟩
      · exact ⟨none, rfl, rfl, Same.new hD, hD⟩
      · rintro i acc σ' H' _ ⟨o, rfl, _, sm, _⟩ _
        exact .of (sm _ _ ha0)
      · rintro i acc σ' H' x hx ⟨o, rfl, rfl, sm, hD0⟩ hacc
        obtain ⟨z, hz, rfl⟩ := str_get hx
        have hil := (List.getElem?_eq_some_iff.mp hz).1
        have nz := snm z (List.mem_of_getElem? hz)
        refine gYes ?_
        refine ⟨_, rfl, _, rfl, .str (nmS nz), fun H2 s2 => ?_⟩
        rw [isNm_iff.mpr nz]
        exact ⟨s2 _ _ hacc, by rw [List.length_replicate]; exact small1000 (by omega), _, rfl, by rw [List.replicate_succ'], same_at (sm.trans s2) hD0, hD0⟩
      · rintro acc σ' H2 ⟨o, rfl, rfl, s2, hD0⟩ hacc
        refine ⟨D, List.replicate (List.map V.str ss).length true, rfl, by rw [List.map_replicate]; exact hacc, _, rfl, ?_⟩
        rw [show (List.replicate (List.map V.str ss).length true).all id = true from by simp]
        refine iteT ?_
        exact ⟨_, rfl, a, ss, rfl, (SqA.same (SqA.same (.inl ha) s0) s2), by omega, fun H3 s3 => by rw [decide_eq_true snd]; exact k H3 ((s0.trans s2).trans s3)⟩
    · refine ⟨_, (pss_cons (ps_if (pt_not (pt_val (b_isi2 K "list" "tuple" B (pa_cons (pv 0) (pa_cons (pe_tup (pa_cons (g_list B) (pa_cons (g_tuple B) pa_nil))) pa_nil))))) (pss_one (ps_ret pe_bl)) pss_nil)
      (pss_one (ps_ret (pe_and (b_all rfl B (pa_cons (pe_comp (defScope sUNm) ["things"] ["thing"] [] ["thing"] rfl (pi_tupK K (pv 0)) (fun _ _ _ _ _ => (pg_name (i := 0) (show (["thing"] : List Str).Nodup by decide) rfl (Or.inl rfl))) (fun _ _ _ _ _ => pts_nil) (fun _ _ _ _ _ => (pe_cal cis_name (hr.mono (by decide)) rfl (pa_cons (pv 0) pa_nil)))) pa_nil)) (pe_one (pe_cal care_unlike (hr.mono (by decide)) rfl (pa_cons (pv 0) pa_nil))))))), ?_⟩
      refine ⟨_, rfl, (by show 2 ≤ sizeLine; decide), fun tp htp => ?_⟩
      have s0 := Same.new (o := .tup [V.ty "list", V.ty "tuple"]) htp
      have A0 : SqA (upd H tp (.tup [V.ty "list", V.ty "tuple"])) a (List.map V.str ss) := (SqA.same (.inr ha) s0)
      obtain ⟨t, ty, _, _, _, t4, t5⟩ := ty_thg (K := K) A0.thg
      have kl := kit_lt t4 t5
      rw [A0.lt] at kl
      refine ⟨_, tp, t, _, rfl, upd_same, ty, kl, _, rfl, ?_⟩
      refine ite2 (fun h => absurd h (by decide)) (fun _ => ?_)
      have ha0 := s0 _ _ ha
      generalize upd H tp (.tup [V.ty "list", V.ty "tuple"]) = H0 at s0 ha0 ⊢
      refine ⟨_, rfl, a, rfl, ⟨_, .of ha0⟩, ?_⟩
      refine comp_tup (List.map V.str ss) (fun D i acc σ' H' => ∃ o, σ' = [o] ∧ acc = List.replicate i (V.bl true) ∧ Same H0 H' ∧ H0 D = none) fun D hD => ⟨?_, ?_, ?_, ?_⟩
      · exact ⟨none, rfl, rfl, Same.new hD, hD⟩
      · rintro i acc σ' H' _ ⟨o, rfl, _, sm, _⟩ _
        exact .of (sm _ _ ha0)
      · rintro i acc σ' H' x hx ⟨o, rfl, rfl, sm, hD0⟩ hacc
        obtain ⟨z, hz, rfl⟩ := str_get hx
        have hil := (List.getElem?_eq_some_iff.mp hz).1
        have nz := snm z (List.mem_of_getElem? hz)
        refine gYes ?_
        refine ⟨_, rfl, _, rfl, .str (nmS nz), fun H2 s2 => ?_⟩
        rw [isNm_iff.mpr nz]
        exact ⟨s2 _ _ hacc, by rw [List.length_replicate]; exact small1000 (by omega), _, rfl, by rw [List.replicate_succ'], same_at (sm.trans s2) hD0, hD0⟩
      · rintro acc σ' H2 ⟨o, rfl, rfl, s2, hD0⟩ hacc
        refine ⟨D, List.replicate (List.map V.str ss).length true, rfl, by rw [List.map_replicate]; exact hacc, _, rfl, ?_⟩
        rw [show (List.replicate (List.map V.str ss).length true).all id = true from by simp]
        refine iteT ?_
        exact ⟨_, rfl, a, ss, rfl, (SqA.same (SqA.same (.inr ha) s0) s2), by omega, fun H3 s3 => by rw [decide_eq_true snd]; exact k H3 ((s0.trans s2).trans s3)⟩
noncomputable def spAre : Sp := fun vs H Q _ => ∃ (a : Addr) (ss : List Str), vs = [.ref a] ∧ SqA H a (List.map V.str ss) ∧ ss.length ≤ 60 ∧ ss.Nodup ∧ (∀ s ∈ ss, Nm s) ∧ ∀ H', Same H H' → Q (.bl true) H'
theorem scAre : FnScope ["things"] ["things"] (defScope sAreThings) := ⟨rfl, rfl, rfl, by decide +kernel, rfl, by decide +kernel, by decide +kernel⟩
theorem ok_are {f : Addr} {fd : FuncData} {tk : Tok} (F : Fun K "are_things" "are_things" sAreThings f fd) (B : Blt mg) (TT : mg "MOST_THINGS" = some (.int 60 tk)) (care_unlike_names : Cal P w K mg base 3 "are_unlike_names" ["things"] spUNm) : FnOk P w K mg base CX0 4 f fd ["things"] spAre := by
  refine F.ok scAre (fun vs H Q E h => ?_) (fun cdv A outer s H vs Q E hr h => ?_)
  · obtain ⟨a, ss, rfl, _⟩ := h
    rfl
  · obtain ⟨a, ss, rfl, ha, hlen, snd, snm, k⟩ := h
    have nd := scAre.nd
    have hl60 : (((List.map V.str ss).length : Nat) : Int) ≤ 60 := by rw [List.length_map]; omega
    refine ⟨_, (pss_one (ps_ret (pe_and (pe_cal care_unlike_names (hr.mono (by decide)) rfl (pa_cons (pv 0) pa_nil)) (pe_one (pe_cmpR op_leX (b_len K B (pa_cons (pv 0) pa_nil)) (pe_glob (v := .int 60) rfl TT ⟨_, rfl⟩) (nomark _)))))), ?_⟩
    refine ⟨_, rfl, a, ss, rfl, ha, hlen, snd, snm, fun H1 s1 => ⟨_, rfl, iteT ?_⟩⟩
    refine ⟨_, rfl, _, _, rfl, (SqA.same ha s1).len, .int ?_⟩
    have z := k H1 s1
    rw [← decide_eq_true hl60] at z
    exact z
end
end K07
namespace K07
open PySem L2
section
variable {P : Program} {w : World} {K : PySem.W.Frag} {mg : Str → Option Value} {base : Heap}
theorem not_take {α : Type} {l : List α} (h : l.Nodup) {i : Nat} {x : α} (e : l[i]? = some x) : x ∉ l.take i := by
  intro hx
  obtain ⟨j, ej⟩ := List.mem_iff_getElem?.mp hx
  have hj := (List.getElem?_eq_some_iff.mp ej).1
  rw [List.length_take] at hj
  rw [List.getElem?_take_of_lt (by omega)] at ej
  have hi := (List.getElem?_eq_some_iff.mp e).1
  rw [List.getElem?_eq_getElem (by omega)] at ej
  rw [List.getElem?_eq_getElem hi] at e
  have : j = i := (List.getElem_inj h).mp ((Option.some.inj ej).trans (Option.some.inj e).symm)
  omega
noncomputable def spWrong : Sp := fun vs H Q _ => ∃ (a t : Addr) (ss : List Str) (ts : List (Str × Str)) (refs : List V), vs = [.ref a, .ref t] ∧ SqA H a (List.map V.str ss) ∧ ss.length ≤ 60 ∧ (∀ s ∈ ss, Nm s) ∧ SqA H t refs ∧ RepAll H refs (ts.map pairD) ∧ ts.length ≤ 400 ∧ ts.Nodup ∧ (∀ e ∈ ts, e.1 ∈ ss ∧ e.2 ∈ ss) ∧ ∀ H', Same H H' → Q .non H'
theorem scWrong : FnScope ["things", "ties", "places", "seen", "number", "tie"] ["things", "ties"] (defScope sWrong) := ⟨rfl, rfl, rfl, by decide +kernel, rfl, by decide +kernel, by decide +kernel⟩
theorem ok_wrong {f : Addr} {fd : FuncData} {tk : Tok} (F : Fun K "first_wrong_tie" "first_wrong_tie" sWrong f fd) (B : Blt mg) (TT : mg "MOST_TIES" = some (.int 400 tk)) (cplaces_of : Cal P w K mg base 1 "places_of" ["things"] spPlacesX) (cis_tie_among : Cal P w K mg base 2 "is_tie_among" ["places", "tie"] spAmong) : FnOk P w K mg base CX0 3 f fd ["things", "ties"] spWrong := by
  refine F.ok scWrong (fun vs H Q E h => ?_) (fun cdv A outer s H vs Q E hr h => ?_)
  · obtain ⟨a, t, ss, ts, refs, rfl, _⟩ := h
    rfl
  · obtain ⟨a, t, ss, ts, refs, rfl, hA, hlen, snm, hT, rp, few, tnd, inn, k⟩ := h
    have nd := scWrong.nd
    have rlen := rp.len
    rw [List.length_map] at rlen
    refine ⟨_, (pss_cons (ps_set (i := 2) nd rfl (Or.inl rfl) (pe_cal cplaces_of (hr.mono (by decide)) rfl (pa_cons (pv 0) pa_nil)))
      (pss_cons (ps_set (i := 3) nd rfl (Or.inl rfl) pe_dnewT)
      (pss_cons (ps_for PassesOwn.never rfl (pi_enumX K rfl B.enumerate (pa_cons (pv 1) pa_nil)) (pg_tupK (n := 2) K rfl (pgs_cons (pg_name (i := 4) nd rfl (Or.inl rfl)) (pgs_cons (pg_name (i := 5) nd rfl (Or.inl rfl)) pgs_nil))) (pss_cons (ps_if (PW.pt (pw_or (pt_cmpR (op_eqX hr.units) (pv 4) (pe_glob (v := .int 400) rfl TT ⟨_, rfl⟩) (nomark _)) (pw_or (pt_not (pt_val (pe_cal cis_tie_among (hr.mono (by decide)) rfl (pa_cons (pv 2) (pa_cons (pv 5) pa_nil))))) (pw_or1 (pt_cmpR (op_inX K hr.units) (pv 5) (pv 3) (by with_unfolding_all rfl)))))) (pss_one (ps_ret (pv 4))) pss_nil)
      (pss_one (ps_asg pe_bl (pg_sub (pv 3) (pv 5) (set_X hr.units))))))
      (pss_one (ps_ret pe_non))))), ?_⟩
    refine ⟨_, rfl, _, rfl, .nm hA (by omega) fun d kvs H1 s1 hd0 hd hin hat _ _ => ?_⟩
    intro dt hdt
    have s2 := s1.trans (Same.new (o := .dT []) hdt)
    rcases hT with ht | ht
    · refine ⟨_, rfl, _, rfl, .lst (.of (s2 _ _ ht)) ?_⟩
      refine for_enum (xs := refs) (fun i σ H' => ∃ (o4 o5 : Option V) (kt : List (List Key × V)), σ = [some (.ref a), some (.ref t), some (.ref d), some (.ref dt), o4, o5] ∧ Same H1 H' ∧ H' dt = some (.dT kt) ∧ kt.length ≤ i ∧ ∀ f : Str × Str, (valV kt (pK f)).isSome = true ↔ f ∈ ts.take i) ?_ ?_ ?_ ?_
      · exact ⟨none, none, [], rfl, Same.new hdt, upd_same, Nat.le_refl _, fun f => by simp [valV_nil]⟩
      · rintro i σ H' hi ⟨o4, o5, kt, rfl, sm, _⟩
        exact .of (sm _ _ (s1 _ _ ht))
      · rintro i x σ H' p hx ⟨o4, o5, kt, rfl, sm, hkt, hkl, hkin⟩ hp
        obtain ⟨e, ta, he, rfl, hta⟩ := pair_get ((rp.same s1).same sm) hx
        have hil := (List.getElem?_eq_some_iff.mp he).1
        have hin' := inn e (List.mem_of_getElem? he)
        have sp := Same.new (o := .tup [V.int (i : Nat), V.ref ta]) hp
        have hdtp : dt ≠ p := ne_of_none hkt hp
        refine ⟨p, _, rfl, .of upd_same, rfl, _, _, rfl, _, _, rfl, rfl, ?_⟩
        have sm2 := sm.trans sp
        have hkt2 := sp _ _ hkt
        have hta2 := sp _ _ hta
        generalize upd H' p (.tup [V.int (i : Nat), V.ref ta]) = H3 at sm2 hkt2 hta2 ⊢
        refine ⟨_, rfl, .sc rfl ⟨_, rfl, ?_⟩⟩
        refine ite2 (fun h => absurd (of_decide_eq_true h) (fun z => by have z : (i : Int) = 400 := V.int.inj z; omega)) (fun _ => ?_)
        refine ⟨_, rfl, _, rfl, d, ta, kvs, e, rfl, sm2 _ _ hd, hta2, snm _ hin'.1, snm _ hin'.2, (hin _).mpr hin'.1, (hin _).mpr hin'.2, fun H4 s4 => ⟨_, rfl, ?_⟩⟩
        refine ite2 (fun h => absurd h (by decide)) (fun _ => ?_)
        have hkt4 := s4 _ _ hkt2
        have hta4 := s4 _ _ hta2
        refine ⟨_, rfl, _, rfl, .dic (DGet.t (k := pK e) hkt4 hta4) ⟨_, rfl, ?_⟩⟩
        refine ite2 (fun h => absurd ((hkin e).mp h) (not_take tnd he)) (fun _ => ?_)
        refine ⟨_, rfl, _, rfl, .dic (DPut.t (k := pK e) hkt4 hta4 (small1000 (by omega))) ⟨_, _, _, rfl, ?_, upd_same, ?_, fun f => ?_⟩⟩
        · intro b o hb
          rw [upd_ne (ne_of_none hb hdt)]
          exact s4 _ _ (sm2 _ _ hb)
        · have := length_putK kt (pK e) (V.bl true)
          omega
        · rw [valV_put, List.take_add_one, he, List.mem_append]
          by_cases q : f = e
          · subst q; simp
          · rw [if_neg (fun z => q (pK_inj z)), hkin f]
            simp [q]
      · rintro σ H' ⟨o4, o5, kt, rfl, sm, _⟩
        exact k H' (s1.trans sm)
    · refine ⟨_, rfl, _, rfl, .tup (.of (s2 _ _ ht)) ?_⟩
      refine for_enumT (xs := refs) (fun i σ H' => ∃ (o4 o5 : Option V) (kt : List (List Key × V)), σ = [some (.ref a), some (.ref t), some (.ref d), some (.ref dt), o4, o5] ∧ Same H1 H' ∧ H' dt = some (.dT kt) ∧ kt.length ≤ i ∧ ∀ f : Str × Str, (valV kt (pK f)).isSome = true ↔ f ∈ ts.take i) ?_ ?_ ?_ ?_
      · exact ⟨none, none, [], rfl, Same.new hdt, upd_same, Nat.le_refl _, fun f => by simp [valV_nil]⟩
      · rintro i σ H' hi ⟨o4, o5, kt, rfl, sm, _⟩
        exact .of (sm _ _ (s1 _ _ ht))
      · rintro i x σ H' p hx ⟨o4, o5, kt, rfl, sm, hkt, hkl, hkin⟩ hp
        obtain ⟨e, ta, he, rfl, hta⟩ := pair_get ((rp.same s1).same sm) hx
        have hil := (List.getElem?_eq_some_iff.mp he).1
        have hin' := inn e (List.mem_of_getElem? he)
        have sp := Same.new (o := .tup [V.int (i : Nat), V.ref ta]) hp
        have hdtp : dt ≠ p := ne_of_none hkt hp
        refine ⟨p, _, rfl, .of upd_same, rfl, _, _, rfl, _, _, rfl, rfl, ?_⟩
        have sm2 := sm.trans sp
        have hkt2 := sp _ _ hkt
        have hta2 := sp _ _ hta
        generalize upd H' p (.tup [V.int (i : Nat), V.ref ta]) = H3 at sm2 hkt2 hta2 ⊢
        refine ⟨_, rfl, .sc rfl ⟨_, rfl, ?_⟩⟩
        refine ite2 (fun h => absurd (of_decide_eq_true h) (fun z => by have z : (i : Int) = 400 := V.int.inj z; omega)) (fun _ => ?_)
        refine ⟨_, rfl, _, rfl, d, ta, kvs, e, rfl, sm2 _ _ hd, hta2, snm _ hin'.1, snm _ hin'.2, (hin _).mpr hin'.1, (hin _).mpr hin'.2, fun H4 s4 => ⟨_, rfl, ?_⟩⟩
        refine ite2 (fun h => absurd h (by decide)) (fun _ => ?_)
        have hkt4 := s4 _ _ hkt2
        have hta4 := s4 _ _ hta2
        refine ⟨_, rfl, _, rfl, .dic (DGet.t (k := pK e) hkt4 hta4) ⟨_, rfl, ?_⟩⟩
        refine ite2 (fun h => absurd ((hkin e).mp h) (not_take tnd he)) (fun _ => ?_)
        refine ⟨_, rfl, _, rfl, .dic (DPut.t (k := pK e) hkt4 hta4 (small1000 (by omega))) ⟨_, _, _, rfl, ?_, upd_same, ?_, fun f => ?_⟩⟩
        · intro b o hb
          rw [upd_ne (ne_of_none hb hdt)]
          exact s4 _ _ (sm2 _ _ hb)
        · have := length_putK kt (pK e) (V.bl true)
          omega
        · rw [valV_put, List.take_add_one, he, List.mem_append]
          by_cases q : f = e
          · subst q; simp
          · rw [if_neg (fun z => q (pK_inj z)), hkin f]
            simp [q]
      · rintro σ H' ⟨o4, o5, kt, rfl, sm, _⟩
        exact k H' (s1.trans sm)
end
end K07
namespace K07
open PySem L2
section
variable {P : Program} {w : World} {K : PySem.W.Frag} {mg : Str → Option Value} {base : Heap}
noncomputable def spWebOf : Sp := fun vs H Q _ => ∃ (a t : Addr) (ss : List Str) (ts : List (Str × Str)) (refs : List V), vs = [.ref a, .ref t] ∧ SqA H a (List.map V.str ss) ∧ ss.length ≤ 60 ∧ ss.Nodup ∧ (∀ s ∈ ss, Nm s) ∧ SqA H t refs ∧ RepAll H refs (ts.map pairD) ∧ ts.length ≤ 400 ∧ ts.Nodup ∧ (∀ e ∈ ts, e.1 ∈ ss ∧ e.2 ∈ ss) ∧ ∀ q H', Same H H' → Rep H' (.ref q) (webD ss ts) → Q (.ref q) H'
theorem scWebOf : FnScope ["things", "ties", "wrong"] ["things", "ties"] (defScope sWebOf) := ⟨rfl, rfl, rfl, by decide +kernel, rfl, by decide +kernel, by decide +kernel⟩
theorem ok_web_of {f : Addr} {fd : FuncData} (F : Fun K "web_of" "web_of" sWebOf f fd) (B : Blt mg) (care_things : Cal P w K mg base 4 "are_things" ["things"] spAre) (cfirst_wrong_tie : Cal P w K mg base 3 "first_wrong_tie" ["things", "ties"] spWrong) : FnOk P w K mg base CX0 5 f fd ["things", "ties"] spWebOf := by
  refine F.ok scWebOf (fun vs H Q E h => ?_) (fun cdv A outer s H vs Q E hr h => ?_)
  · obtain ⟨a, t, ss, ts, refs, rfl, _⟩ := h
    rfl
  · obtain ⟨a, t, ss, ts, refs, rfl, hA, hlen, snd, snm, hT, rp, few, tnd, inn, k⟩ := h
    have nd := scWebOf.nd
    have rlen := rp.len
    rw [List.length_map] at rlen
    have tupThings : ∀ H3 : Hp, Same H H3 → ∀ R : VK, (∀ q1 H', Same H3 H' → H' q1 = some (.tup (List.map V.str ss)) → R (.ref q1) H') → TupR K H3 (.ref a) R := fun H3 s3 R f => by
      rcases hA with ha | ha
      · exact .lst (.of (s3 _ _ ha)) fun l hl => f l _ (Same.new hl) upd_same
      · exact .tup (.of (s3 _ _ ha)) (f a H3 (Same.refl H3) (s3 _ _ ha))
    rcases hT with ht | ht
    · refine ⟨_, (pss_cons (ps_if (pt_not (pt_val (pe_cal care_things (hr.mono (by decide)) rfl (pa_cons (pv 0) pa_nil)))) (pss_one ps_never) pss_nil)
      (pss_cons (ps_if (pt_not (pt_val (b_isi2 K "list" "tuple" B (pa_cons (pv 1) (pa_cons (pe_tup (pa_cons (g_list B) (pa_cons (g_tuple B) pa_nil))) pa_nil))))) (pss_one ps_never) pss_nil)
      (pss_cons (ps_set (i := 2) nd rfl (Or.inl rfl) (pe_cal cfirst_wrong_tie (hr.mono (by decide)) rfl (pa_cons (pv 0) (pa_cons (pv 1) pa_nil))))
      (pss_cons (ps_if (pt_cmpR op_isNotX (pv 2) pe_non (nomark _)) (pss_one ps_never) pss_nil)
      (pss_one (ps_ret (pe_tup (pa_cons (b_tupX K B (pa_cons (pv 0) pa_nil)) (pa_cons (b_tuple K B (pa_cons (pe_comp (defScope sWebOf) ["things", "ties", "wrong"] ["tie"] [] ["tie"] rfl (pi_listK K (pv 1)) (fun _ _ _ _ _ => (pg_name (i := 0) (show (["tie"] : List Str).Nodup by decide) rfl (Or.inl rfl))) (fun _ _ _ _ _ => pts_nil) (fun _ _ _ _ _ => (pe_tup (pa_cons (pe_ix (ix_X K hr.units) (pv 0) pe_int (fun _ _ => rfl)) (pa_cons (pe_ix (ix_X K hr.units) (pv 0) pe_int (fun _ _ => rfl)) pa_nil))))) pa_nil)) pa_nil))))))))), ?_⟩
      refine ⟨_, rfl, a, ss, rfl, hA, hlen, snd, snm, fun H1 s1 => ⟨_, rfl, ?_⟩⟩
      refine ite2 (fun h => absurd h (by decide)) (fun _ => ?_)
      refine ⟨_, rfl, (by show 2 ≤ sizeLine; decide), fun tp htp => ?_⟩
      have s2 := s1.trans (Same.new (o := .tup [V.ty "list", V.ty "tuple"]) htp)
      have A2 : SqA (upd H1 tp (.tup [V.ty "list", V.ty "tuple"])) t refs := SqA.same (.inl ht) s2
      obtain ⟨tt, ty, _, _, _, t4, t5⟩ := ty_thg (K := K) A2.thg
      have kl := kit_lt t4 t5
      rw [A2.lt] at kl
      refine ⟨_, tp, tt, _, rfl, upd_same, ty, kl, _, rfl, ?_⟩
      refine ite2 (fun h => absurd h (by decide)) (fun _ => ?_)
      generalize upd H1 tp (.tup [V.ty "list", V.ty "tuple"]) = H2 at s2 A2 ⊢
      refine ⟨_, rfl, _, rfl, a, t, ss, ts, refs, rfl, hA.same s2, hlen, snm, A2, rp.same s2, few, tnd, inn, fun H3 s3 => ?_⟩
      refine ⟨_, rfl, .non ⟨_, rfl, ?_⟩⟩
      refine ite2 (fun h => absurd h (by decide)) (fun _ => ?_)
      have s3 := s2.trans s3
      have ht3 := s3 _ _ ht
      refine ⟨_, rfl, _, rfl, tupThings H3 s3 _ fun q1 H4 s4 hq1 => ?_⟩
      have ht4 := s4 _ _ ht3
      have rp4 := (rp.same s3).same s4
      refine ⟨_, rfl, t, rfl, ⟨_, .of ht4⟩, ?_⟩
      refine comp_list refs (fun D i acc σ' H' => ∃ o, σ' = [o] ∧ RepAll H' acc ((ts.take i).map pairD) ∧ Same H4 H' ∧ H4 D = none) fun D hD => ⟨?_, ?_, ?_, ?_⟩
      · exact ⟨none, rfl, .nil, Same.new hD, hD⟩
      · rintro i acc σ' H' _ ⟨o, rfl, _, sm, _⟩ _
        exact .of (sm _ _ ht4)
      · rintro i acc σ' H' x hx ⟨o, rfl, rpa, sm, hD0⟩ hacc
        obtain ⟨e, ta, he, rfl, hta⟩ := pair_get (rp4.same sm) hx
        have hil := (List.getElem?_eq_some_iff.mp he).1
        have alen := rpa.len
        simp only [List.length_map, List.length_take] at alen
        refine gYes ?_
        refine ⟨_, rfl, .tup (.of hta) rfl ⟨_, rfl, .tup (.of hta) rfl ⟨(by show 2 ≤ sizeLine; decide), fun q hq => ?_⟩⟩⟩
        have sq := Same.new (o := .tup [V.str e.1, V.str e.2]) hq
        have hDq : D ≠ q := ne_of_none hacc hq
        refine ⟨sq _ _ hacc, small1000 (by omega), _, rfl, ?_, ?_, hD0⟩
        · rw [List.take_add_one, he, List.map_append]
          refine RepAll.append (RepAll.pairBut (p := D) (sq _ _ hacc) But.upd (rpa.same sq)) (.cons (pair_rep ?_) .nil)
          rw [upd_ne (Ne.symm hDq)]; exact upd_same
        · intro b o hb
          rw [upd_ne (ne_of_none hb hD0)]
          exact sq _ _ (sm _ _ hb)
      · rintro acc σ' H5 ⟨o, rfl, rpa, s5, hD0⟩ hacc
        rw [rlen, List.take_of_length_le (Nat.le_refl _)] at rpa
        refine ⟨D, _, rfl, .of hacc, fun l2 h2 => ⟨(by show 2 ≤ sizeLine; decide), fun q hq => ?_⟩⟩
        have s6 := Same.new (o := .tup acc) h2
        have s7 := Same.new (o := .tup [V.ref q1, V.ref l2]) hq
        exact k q _ ((s3.trans s4).trans (s5.trans (s6.trans s7))) (.tup upd_same (.cons (.tup ((s5.trans (s6.trans s7)) _ _ hq1) (RepAll.of_strs ss)) (.cons (.tup (s7 _ _ upd_same) (rpa.same (s6.trans s7))) .nil)))
    · refine ⟨_, (pss_cons (ps_if (pt_not (pt_val (pe_cal care_things (hr.mono (by decide)) rfl (pa_cons (pv 0) pa_nil)))) (pss_one ps_never) pss_nil)
      (pss_cons (ps_if (pt_not (pt_val (b_isi2 K "list" "tuple" B (pa_cons (pv 1) (pa_cons (pe_tup (pa_cons (g_list B) (pa_cons (g_tuple B) pa_nil))) pa_nil))))) (pss_one ps_never) pss_nil)
      (pss_cons (ps_set (i := 2) nd rfl (Or.inl rfl) (pe_cal cfirst_wrong_tie (hr.mono (by decide)) rfl (pa_cons (pv 0) (pa_cons (pv 1) pa_nil))))
      (pss_cons (ps_if (pt_cmpR op_isNotX (pv 2) pe_non (nomark _)) (pss_one ps_never) pss_nil)
      (pss_one (ps_ret (pe_tup (pa_cons (b_tupX K B (pa_cons (pv 0) pa_nil)) (pa_cons (b_tuple K B (pa_cons (pe_comp (defScope sWebOf) ["things", "ties", "wrong"] ["tie"] [] ["tie"] rfl (pi_tupK K (pv 1)) (fun _ _ _ _ _ => (pg_name (i := 0) (show (["tie"] : List Str).Nodup by decide) rfl (Or.inl rfl))) (fun _ _ _ _ _ => pts_nil) (fun _ _ _ _ _ => (pe_tup (pa_cons (pe_ix (ix_X K hr.units) (pv 0) pe_int (fun _ _ => rfl)) (pa_cons (pe_ix (ix_X K hr.units) (pv 0) pe_int (fun _ _ => rfl)) pa_nil))))) pa_nil)) pa_nil))))))))), ?_⟩
      refine ⟨_, rfl, a, ss, rfl, hA, hlen, snd, snm, fun H1 s1 => ⟨_, rfl, ?_⟩⟩
      refine ite2 (fun h => absurd h (by decide)) (fun _ => ?_)
      refine ⟨_, rfl, (by show 2 ≤ sizeLine; decide), fun tp htp => ?_⟩
      have s2 := s1.trans (Same.new (o := .tup [V.ty "list", V.ty "tuple"]) htp)
      have A2 : SqA (upd H1 tp (.tup [V.ty "list", V.ty "tuple"])) t refs := SqA.same (.inr ht) s2
      obtain ⟨tt, ty, _, _, _, t4, t5⟩ := ty_thg (K := K) A2.thg
      have kl := kit_lt t4 t5
      rw [A2.lt] at kl
      refine ⟨_, tp, tt, _, rfl, upd_same, ty, kl, _, rfl, ?_⟩
      refine ite2 (fun h => absurd h (by decide)) (fun _ => ?_)
      generalize upd H1 tp (.tup [V.ty "list", V.ty "tuple"]) = H2 at s2 A2 ⊢
      refine ⟨_, rfl, _, rfl, a, t, ss, ts, refs, rfl, hA.same s2, hlen, snm, A2, rp.same s2, few, tnd, inn, fun H3 s3 => ?_⟩
      refine ⟨_, rfl, .non ⟨_, rfl, ?_⟩⟩
      refine ite2 (fun h => absurd h (by decide)) (fun _ => ?_)
      have s3 := s2.trans s3
      have ht3 := s3 _ _ ht
      refine ⟨_, rfl, _, rfl, tupThings H3 s3 _ fun q1 H4 s4 hq1 => ?_⟩
      have ht4 := s4 _ _ ht3
      have rp4 := (rp.same s3).same s4
      refine ⟨_, rfl, t, rfl, ⟨_, .of ht4⟩, ?_⟩
      refine comp_tup refs (fun D i acc σ' H' => ∃ o, σ' = [o] ∧ RepAll H' acc ((ts.take i).map pairD) ∧ Same H4 H' ∧ H4 D = none) fun D hD => ⟨?_, ?_, ?_, ?_⟩
      · exact ⟨none, rfl, .nil, Same.new hD, hD⟩
      · rintro i acc σ' H' _ ⟨o, rfl, _, sm, _⟩ _
        exact .of (sm _ _ ht4)
      · rintro i acc σ' H' x hx ⟨o, rfl, rpa, sm, hD0⟩ hacc
        obtain ⟨e, ta, he, rfl, hta⟩ := pair_get (rp4.same sm) hx
        have hil := (List.getElem?_eq_some_iff.mp he).1
        have alen := rpa.len
        simp only [List.length_map, List.length_take] at alen
        refine gYes ?_
        refine ⟨_, rfl, .tup (.of hta) rfl ⟨_, rfl, .tup (.of hta) rfl ⟨(by show 2 ≤ sizeLine; decide), fun q hq => ?_⟩⟩⟩
        have sq := Same.new (o := .tup [V.str e.1, V.str e.2]) hq
        have hDq : D ≠ q := ne_of_none hacc hq
        refine ⟨sq _ _ hacc, small1000 (by omega), _, rfl, ?_, ?_, hD0⟩
        · rw [List.take_add_one, he, List.map_append]
          refine RepAll.append (RepAll.pairBut (p := D) (sq _ _ hacc) But.upd (rpa.same sq)) (.cons (pair_rep ?_) .nil)
          rw [upd_ne (Ne.symm hDq)]; exact upd_same
        · intro b o hb
          rw [upd_ne (ne_of_none hb hD0)]
          exact sq _ _ (sm _ _ hb)
      · rintro acc σ' H5 ⟨o, rfl, rpa, s5, hD0⟩ hacc
        rw [rlen, List.take_of_length_le (Nat.le_refl _)] at rpa
        refine ⟨D, _, rfl, .of hacc, fun l2 h2 => ⟨(by show 2 ≤ sizeLine; decide), fun q hq => ?_⟩⟩
        have s6 := Same.new (o := .tup acc) h2
        have s7 := Same.new (o := .tup [V.ref q1, V.ref l2]) hq
        exact k q _ ((s3.trans s4).trans (s5.trans (s6.trans s7))) (.tup upd_same (.cons (.tup ((s5.trans (s6.trans s7)) _ _ hq1) (RepAll.of_strs ss)) (.cons (.tup (s7 _ _ upd_same) (rpa.same (s6.trans s7))) .nil)))
end
end K07
namespace K07
open PySem L2
section
variable {P : Program} {w : World} {K : PySem.W.Frag} {mg : Str → Option Value} {base : Heap}
noncomputable def spShow : Sp := fun vs H Q _ => ∃ q ss ts, vs = [.ref q] ∧ Web H (.ref q) ss ts ∧ ∀ H', Same H H' → Q (.str (webT ss ts)) H'
theorem scShow : FnScope ["web", "lines", "tie"] ["web"] (defScope sShow) := ⟨rfl, rfl, rfl, by decide +kernel, rfl, by decide +kernel, by decide +kernel⟩
theorem big_of {n : Nat} (h : n ≤ 100000) : n ≤ 16777216 := by omega
theorem ok_show {f : Addr} {fd : FuncData} (F : Fun K "show_web" "show_web" sShow f fd) (B : Blt mg) : FnOk P w K mg base CX0 1 f fd ["web"] spShow := by
  refine F.ok scShow (fun vs H Q E h => ?_) (fun cdv A outer s H vs Q E hr h => ?_)
  · obtain ⟨q, ss, ts, rfl, _⟩ := h
    rfl
  · obtain ⟨q, ss, ts, rfl, W, k⟩ := h
    have nd := scShow.nd
    refine ⟨_, (pss_cons (ps_set (i := 1) nd rfl (Or.inl rfl) (pe_lst (pa_cons (m_join K pe_str (pa_cons (pe_op op_addX (pe_lst (pa_cons pe_str pa_nil)) (b_list K rfl B (pa_cons (pe_ix (ix_X K hr.units) (pv 0) pe_int (fun _ _ => rfl)) pa_nil))) pa_nil)) pa_nil)))
      (pss_cons (ps_for PassesOwn.never rfl (pi_tupK K (pe_ix (ix_X K hr.units) (pv 0) pe_int (fun _ _ => rfl))) (pg_name (i := 2) nd rfl (Or.inl rfl)) (pss_one (ps_expr (m_append K (pv 1) (pa_cons (m_joinT K pe_str (pa_cons (pv 2) pa_nil)) pa_nil)))))
      (pss_one (ps_ret (m_join K pe_str (pa_cons (pv 1) pa_nil)))))), ?_⟩
    obtain ⟨q', a, b, xs, e0, hq, ha, hb, rp⟩ := web_at W.rep
    cases e0
    have rlen := rp.len
    rw [List.length_map] at rlen
    have tnm : ∀ e ∈ ts, Nm e.1 ∧ Nm e.2 := fun e he => ⟨W.nm _ (W.inn e he).1, W.nm _ (W.inn e he).2⟩
    refine ⟨rfl, (by show 1 ≤ sizeLine; decide), fun l1 h1 => ?_⟩
    have s1 := Same.new (o := .lst [V.str "things"]) h1
    have e1 : upd H l1 (.lst [V.str "things"]) l1 = some (.lst [V.str "things"]) := upd_same
    generalize upd H l1 (.lst [V.str "things"]) = H1 at s1 e1 ⊢
    refine ⟨_, rfl, .tup (.of (s1 _ _ hq)) rfl ⟨_, rfl, .seq (.inr (.of (s1 _ _ ha))) fun l2 h2 => ?_⟩⟩
    have s2 := Same.new (o := .lst (List.map V.str ss)) h2
    have e2 : upd H1 l2 (.lst (List.map V.str ss)) l2 = some (.lst (List.map V.str ss)) := upd_same
    have e12 := s2 _ _ e1
    have s12 := s1.trans s2
    generalize upd H1 l2 (.lst (List.map V.str ss)) = H2 at s12 e2 e12 ⊢
    have wl := W.len
    refine .lst e12 e2 (by show 1 + (List.map V.str ss).length ≤ sizeLine; rw [List.length_map]; exact Nat.le_of_lt (small1000 (by omega))) fun l3 h3 => ?_
    have s3 := Same.new (o := .lst ([V.str "things"] ++ List.map V.str ss)) h3
    have e3 : upd H2 l3 (.lst ([V.str "things"] ++ List.map V.str ss)) l3 = some (.lst (List.map V.str (("things" : Str) :: ss))) := upd_same
    have s13 := s12.trans s3
    refine ⟨_, _, _, rfl, rfl, e3, big_of (Nat.le_trans (head_sum W.nm W.len) (by decide)), ?_⟩
    generalize upd H2 l3 (.lst ([V.str "things"] ++ List.map V.str ss)) = H3 at s13 e3 ⊢
    refine ⟨(by show 1 ≤ sizeLine; decide), fun ll hl => ?_⟩
    have sl := Same.new (o := .lst [V.str (Txt.join (Str.ofString " ") (Str.ofString "things" :: ss))]) hl
    have el : upd H3 ll (.lst [V.str (Txt.join (Str.ofString " ") (Str.ofString "things" :: ss))]) ll = some (.lst [V.str (headT ss)]) := upd_same
    have hl0 := same_free s13 hl
    have s4 := s13.trans sl
    generalize upd H3 ll (.lst [V.str (Txt.join (Str.ofString " ") (Str.ofString "things" :: ss))]) = H4 at s4 el ⊢
    refine ⟨_, rfl, .tup (.of (s4 _ _ hq)) rfl ⟨_, rfl, ⟨_, .of (s4 _ _ hb)⟩, ?_⟩⟩
    refine for_tup (xs := xs) (fun i σ H' => ∃ o2, σ = [some (.ref q), some (.ref ll), o2] ∧ Same H H' ∧ H' ll = some (.lst (List.map V.str (linesT ss (ts.take i))))) ?_ ?_ ?_ ?_
    · exact ⟨none, rfl, s4, el⟩
    · rintro i σ H' hi ⟨o2, rfl, sm, _⟩
      exact .of (sm _ _ hb)
    · rintro i x σ H' hx ⟨o2, rfl, sm, hll⟩
      obtain ⟨e, ta, he, rfl, hta⟩ := pair_get (rp.same sm) hx
      have hil := (List.getElem?_eq_some_iff.mp he).1
      have few := W.few
      have hlen : (List.map V.str (linesT ss (ts.take i))).length = i + 1 := by
        unfold linesT
        rw [List.length_map, List.length_cons, List.length_map, List.length_take]
        omega
      have hen := tnm e (List.mem_of_getElem? he)
      have hb2 : (List.map (·.length) [e.1, e.2]).sum + [e.1, e.2].length * (" > " : Str).length ≤ 16777216 := by
        have h3 : (" > " : Str).length = 3 := by decide
        rw [h3]
        show e.1.length + (e.2.length + 0) + 2 * 3 ≤ 16777216
        have := hen.1.2.1
        have := hen.2.2.1
        omega
      refine ⟨_, rfl, .inl ⟨rfl, _, .of hll⟩, rfl, _, rfl, _, _, [e.1, e.2], rfl, rfl, .of hta, hb2, ll, _, _, rfl, rfl, hll, by rw [hlen]; exact small1000 (by omega), ?_⟩
      refine ⟨_, rfl, fun c o hc => ?_, ?_⟩
      · rw [upd_ne (ne_of_none hc hl0)]
        exact sm _ _ hc
      · rw [upd_same]
        have : linesT ss (ts.take (i + 1)) = linesT ss (ts.take i) ++ [lineT e] := by
          unfold linesT
          rw [List.take_add_one, he, List.map_append]
          rfl
        rw [this, List.map_append]
        rfl
    · rintro σ H' ⟨o2, rfl, sm, hll⟩
      rw [rlen, List.take_of_length_le (Nat.le_refl _)] at hll
      refine ⟨rfl, _, rfl, _, _, _, rfl, rfl, hll, big_of (lines_sum W.nm W.len tnm W.few), ?_⟩
      exact k _ sm
end
end K07
namespace K07
open PySem L2
section
variable {P : Program} {w : World} {K : PySem.W.Frag} {mg : Str → Option Value} {base : Heap}
noncomputable def spTieIn : Sp := fun vs H Q _ => ∃ e : Str × Str, vs = [.str (lineT e)] ∧ Nm e.1 ∧ Nm e.2 ∧ ∀ l H', Same H H' → H l = none → H' l = some (.tup [.str e.1, .str e.2]) → Q (.ref l) H'
theorem scTieIn : FnScope ["line", "words"] ["line"] (defScope sTieIn) := ⟨rfl, rfl, rfl, by decide +kernel, rfl, by decide +kernel, by decide +kernel⟩
theorem ok_tiein {f : Addr} {fd : FuncData} (F : Fun K "tie_in" "tie_in" sTieIn f fd) (B : Blt mg) : FnOk P w K mg base CX0 1 f fd ["line"] spTieIn := by
  refine F.ok scTieIn (fun vs H Q E h => ?_) (fun cdv A outer s H vs Q E hr h => ?_)
  · obtain ⟨e, rfl, _⟩ := h
    rfl
  · obtain ⟨e, rfl, n1, n2, k⟩ := h
    have nd := scTieIn.nd
    refine ⟨_, (pss_cons (ps_set (i := 1) nd rfl (Or.inl rfl) (m_split K (pv 0) (pa_cons pe_str pa_nil)))
      (pss_cons (ps_if (PW.pt (pw_or (pt_cmpR (op_neX hr.units) (b_len K B (pa_cons (pv 1) pa_nil)) pe_int (nomark _)) (pw_or1 (pt_cmpR (op_neX hr.units) (pe_ix (ix_X K hr.units) (pv 1) pe_int (fun _ _ => rfl)) pe_str (nomark _))))) (pss_one (ps_ret pe_non)) pss_nil)
      (pss_one (ps_ret (pe_tup (pa_cons (pe_ix (ix_X K hr.units) (pv 1) pe_int (fun _ _ => rfl)) (pa_cons (pe_ix (ix_X K hr.units) (pv 1) pe_int (fun _ _ => rfl)) pa_nil))))))), ?_⟩
    have hll := line_len ⟨n1, n2⟩
    refine ⟨_, rfl, rfl, _, _, rfl, rfl, by decide, Nat.le_of_lt (small1000 (by omega)), fun l hl => ?_⟩
    rw [line_split ⟨n1, n2⟩]
    have sl := Same.new (o := .lst (List.map V.str [e.1, ">", e.2])) hl
    have el : upd H l (.lst (List.map V.str [e.1, ">", e.2])) l = some (.lst [V.str e.1, V.str ">", V.str e.2]) := upd_same
    generalize upd H l (.lst (List.map V.str [e.1, ">", e.2])) = H1 at sl el ⊢
    refine ⟨_, rfl, _, _, rfl, Or.inl ⟨_, .of el, rfl⟩, .sc rfl ⟨_, rfl, ?_⟩⟩
    refine ite2 (fun h => absurd h (by show ¬ (!decide (V.int 3 = V.int 3)) = true; decide)) (fun _ => ?_)
    refine ⟨_, rfl, .lst (.of el) rfl (.sc rfl ⟨_, rfl, ?_⟩)⟩
    refine ite2 (fun h => absurd h (by show ¬ (!decide (V.str ">" = V.str ">")) = true; rw [decide_eq_true rfl]; decide)) (fun _ => ?_)
    refine ⟨_, rfl, .lst (.of el) rfl ⟨_, rfl, .lst (.of el) rfl ⟨(by show 2 ≤ sizeLine; decide), fun t ht => ?_⟩⟩⟩
    exact k t _ (sl.trans (Same.new ht)) (same_free sl ht) upd_same
end
end K07
namespace K07
open PySem L2
section
variable {P : Program} {w : World} {K : PySem.W.Frag} {mg : Str → Option Value} {base : Heap}
noncomputable def spText : Sp := fun vs H Q _ => ∃ (n t : Addr) (ss : List Str) (ts : List (Str × Str)) (refs : List V), vs = [.ref n, .ref t] ∧ H n = some (.lst (List.map V.str ss)) ∧ H t = some (.lst refs) ∧ RepAll H refs (ts.map pairD) ∧ (∀ s ∈ ss, Nm s) ∧ ss.length ≤ 60 ∧ (∀ e ∈ ts, Nm e.1 ∧ Nm e.2) ∧ ts.length ≤ 400 ∧ ∀ H', Same H H' → Q (.str (webT ss ts)) H'
theorem scText : FnScope ["_law_things_here", "_law_ties_here", "_law_lines", "_law_one", "_law_other"] ["_law_things_here", "_law_ties_here"] (defScope sText) := ⟨rfl, rfl, rfl, by decide +kernel, rfl, by decide +kernel, by decide +kernel⟩
theorem ok_text {f : Addr} {fd : FuncData} (F : Fun K "_law_text" "_law_text" sText f fd) (B : Blt mg) : FnOk P w K mg base CX0 1 f fd ["_law_things_here", "_law_ties_here"] spText := by
  refine F.ok scText (fun vs H Q E h => ?_) (fun cdv A outer s H vs Q E hr h => ?_)
  · obtain ⟨n, t, ss, ts, refs, rfl, _⟩ := h
    rfl
  · obtain ⟨n, t, ss, ts, refs, rfl, hn, ht, rp, snm, wl, tnm, few, k⟩ := h
    have nd := scText.nd
    refine ⟨_, (pss_cons (ps_set (i := 2) nd rfl (Or.inl rfl) (pe_lst (pa_cons (m_join K pe_str (pa_cons (pe_op op_addX (pe_lst (pa_cons pe_str pa_nil)) (b_list K rfl B (pa_cons (pv 0) pa_nil))) pa_nil)) pa_nil)))
      (pss_cons (ps_for PassesOwn.never rfl (pi_listK K (pv 1)) (pg_tupK (n := 2) K rfl (pgs_cons (pg_name (i := 3) nd rfl (Or.inl rfl)) (pgs_cons (pg_name (i := 4) nd rfl (Or.inl rfl)) pgs_nil))) (pss_one (ps_expr (m_append K (pv 2) (pa_cons (pe_op op_addX (pe_op op_addX (pv 3) pe_str) (pv 4)) pa_nil)))))
      (pss_one (ps_ret (m_join K pe_str (pa_cons (pv 2) pa_nil)))))), ?_⟩
    have rlen := rp.len
    rw [List.length_map] at rlen
    refine ⟨rfl, (by show 1 ≤ sizeLine; decide), fun l1 h1 => ?_⟩
    have s1 := Same.new (o := .lst [V.str "things"]) h1
    have e1 : upd H l1 (.lst [V.str "things"]) l1 = some (.lst [V.str "things"]) := upd_same
    generalize upd H l1 (.lst [V.str "things"]) = H1 at s1 e1 ⊢
    refine ⟨_, rfl, _, rfl, .seq (.inl (.of (s1 _ _ hn))) fun l2 h2 => ?_⟩
    have s2 := Same.new (o := .lst (List.map V.str ss)) h2
    have e2 : upd H1 l2 (.lst (List.map V.str ss)) l2 = some (.lst (List.map V.str ss)) := upd_same
    have e12 := s2 _ _ e1
    have s12 := s1.trans s2
    generalize upd H1 l2 (.lst (List.map V.str ss)) = H2 at s12 e2 e12 ⊢
    refine .lst e12 e2 (by show 1 + (List.map V.str ss).length ≤ sizeLine; rw [List.length_map]; exact Nat.le_of_lt (small1000 (by omega))) fun l3 h3 => ?_
    have s3 := Same.new (o := .lst ([V.str "things"] ++ List.map V.str ss)) h3
    have e3 : upd H2 l3 (.lst ([V.str "things"] ++ List.map V.str ss)) l3 = some (.lst (List.map V.str (("things" : Str) :: ss))) := upd_same
    have s13 := s12.trans s3
    refine ⟨_, _, _, rfl, rfl, e3, big_of (Nat.le_trans (head_sum snm wl) (by decide)), ?_⟩
    generalize upd H2 l3 (.lst ([V.str "things"] ++ List.map V.str ss)) = H3 at s13 e3 ⊢
    refine ⟨(by show 1 ≤ sizeLine; decide), fun ll hl => ?_⟩
    have sl := Same.new (o := .lst [V.str (Txt.join (Str.ofString " ") (Str.ofString "things" :: ss))]) hl
    have el : upd H3 ll (.lst [V.str (Txt.join (Str.ofString " ") (Str.ofString "things" :: ss))]) ll = some (.lst [V.str (headT ss)]) := upd_same
    have hl0 := same_free s13 hl
    have s4 := s13.trans sl
    generalize upd H3 ll (.lst [V.str (Txt.join (Str.ofString " ") (Str.ofString "things" :: ss))]) = H4 at s4 el ⊢
    refine ⟨_, rfl, t, rfl, ⟨_, .of (s4 _ _ ht)⟩, ?_⟩
    refine for_list (xs := refs) (fun i σ H' => ∃ o3 o4, σ = [some (.ref n), some (.ref t), some (.ref ll), o3, o4] ∧ Same H H' ∧ H' ll = some (.lst (List.map V.str (linesT ss (ts.take i))))) ?_ ?_ ?_ ?_
    · exact ⟨none, none, rfl, s4, el⟩
    · rintro i σ H' hi ⟨o3, o4, rfl, sm, _⟩
      exact .of (sm _ _ ht)
    · rintro i x σ H' hx ⟨o3, o4, rfl, sm, hll⟩
      obtain ⟨e, ta, he, rfl, hta⟩ := pair_get (rp.same sm) hx
      have hil := (List.getElem?_eq_some_iff.mp he).1
      have hlen : (List.map V.str (linesT ss (ts.take i))).length = i + 1 := by
        unfold linesT
        rw [List.length_map, List.length_cons, List.length_map, List.length_take]
        omega
      have hen := tnm e (List.mem_of_getElem? he)
      have l1' := hen.1.2.1
      have l2' := hen.2.2.1
      have l3' : (" > " : Str).length = 3 := by decide
      refine ⟨ta, _, rfl, .of hta, rfl, _, _, rfl, _, _, rfl, rfl, ?_⟩
      refine ⟨_, rfl, .inl ⟨rfl, _, .of hll⟩, _, rfl, .str (Nat.le_of_lt (small1000 (by rw [l3']; omega))) ⟨_, rfl, .str (Nat.le_of_lt (small1000 (by rw [Str.length_append, l3']; omega))) ⟨ll, _, _, rfl, rfl, hll, by rw [hlen]; exact small1000 (by omega), ?_⟩⟩⟩
      refine ⟨_, _, rfl, fun c o hc => ?_, ?_⟩
      · rw [upd_ne (ne_of_none hc hl0)]
        exact sm _ _ hc
      · rw [upd_same]
        have : linesT ss (ts.take (i + 1)) = linesT ss (ts.take i) ++ [lineT e] := by
          unfold linesT
          rw [List.take_add_one, he, List.map_append]
          rfl
        rw [this, List.map_append, line_eq]
        rfl
    · rintro σ H' ⟨o3, o4, rfl, sm, hll⟩
      rw [rlen, List.take_of_length_le (Nat.le_refl _)] at hll
      refine ⟨rfl, _, rfl, _, _, _, rfl, rfl, hll, big_of (lines_sum snm wl tnm (by omega)), ?_⟩
      exact k _ sm
end
end K07
namespace K07
open PySem L2
section
variable {P : Program} {w : World} {K : PySem.W.Frag} {mg : Str → Option Value} {base : Heap}
theorem cut_drop (xs : List V) (k : Nat) : cutV xs (some (k : Int)) none = xs.drop k := by
  unfold cutV
  rw [HT.sIx_nat, HT.sIx_none]
  by_cases h : k ≤ xs.length
  · rw [Nat.min_eq_left h, List.take_of_length_le (by rw [List.length_drop]; omega)]
  · rw [Nat.min_eq_right (by omega), List.drop_of_length_le (Nat.le_refl _), List.drop_of_length_le (by omega)]; simp
theorem cut_one (x : V) (xs : List V) : cutV (x :: xs) (some 1) none = xs := cut_drop (x :: xs) 1
noncomputable def spRead : Sp := fun vs H Q _ => ∃ (ss : List Str) (ts : List (Str × Str)), vs = [.str (webT ss ts)] ∧ ss.length ≤ 60 ∧ ss.Nodup ∧ (∀ s ∈ ss, Nm s) ∧ ts.length ≤ 400 ∧ ts.Nodup ∧ (∀ e ∈ ts, e.1 ∈ ss ∧ e.2 ∈ ss) ∧ ∀ q H', Same H H' → Rep H' (.ref q) (webD ss ts) → Q (.ref q) H'
theorem scRead : FnScope ["text", "lines", "words", "things", "ties", "wrong"] ["text"] (defScope sRead) := ⟨rfl, rfl, rfl, by decide +kernel, rfl, by decide +kernel, by decide +kernel⟩
theorem ok_read {f : Addr} {fd : FuncData} (F : Fun K "read_web" "read_web" sRead f fd) (B : Blt mg) (ctie_in : Cal P w K mg base 1 "tie_in" ["line"] spTieIn) (care_things : Cal P w K mg base 4 "are_things" ["things"] spAre) (cfirst_wrong_tie : Cal P w K mg base 3 "first_wrong_tie" ["things", "ties"] spWrong) (cweb_of : Cal P w K mg base 5 "web_of" ["things", "ties"] spWebOf) : FnOk P w K mg base CX0 6 f fd ["text"] spRead := by
  refine F.ok scRead (fun vs H Q E h => ?_) (fun cdv A outer s H vs Q E hr h => ?_)
  · obtain ⟨ss, ts, rfl, _⟩ := h
    rfl
  · obtain ⟨ss, ts, rfl, wl, snd, snm, few, tnd, inn, k⟩ := h
    have nd := scRead.nd
    have tnm : ∀ e ∈ ts, Nm e.1 ∧ Nm e.2 := fun e he => ⟨snm _ (inn e he).1, snm _ (inn e he).2⟩
    refine ⟨_, (pss_cons (ps_if (pt_not (pt_val (b_isi K "str" B (pa_cons (pv 0) (pa_cons (g_str B) pa_nil))))) (pss_one ps_never) pss_nil)
      (pss_cons (ps_set (i := 1) nd rfl (Or.inl rfl) (m_split K (pv 0) (pa_cons pe_str pa_nil)))
      (pss_cons (ps_set (i := 2) nd rfl (Or.inl rfl) (m_split K (pe_ix (ix_X K hr.units) (pv 1) pe_int (fun _ _ => rfl)) (pa_cons pe_str pa_nil)))
      (pss_cons (ps_set (i := 3) nd rfl (Or.inl rfl) (pe_slice (sl_K K) (pv 2) (po_some pe_int) po_none))
      (pss_cons (ps_if (PW.pt (pw_or (pt_cmpR (op_neX hr.units) (pe_ix (ix_X K hr.units) (pv 2) pe_int (fun _ _ => rfl)) pe_str (nomark _)) (pw_or1 (pt_not (pt_val (pe_cal care_things (hr.mono (by decide)) rfl (pa_cons (pv 3) pa_nil))))))) (pss_one ps_never) pss_nil)
      (pss_cons (ps_setC (i := 4) nd rfl rfl (by rfl) (defScope sRead) ["text", "lines", "words", "things", "ties", "wrong"] ["line"] [] ["line"] rfl (pi_listK K (pe_slice (sl_K K) (pv 1) (po_some pe_int) po_none)) (fun _ _ _ _ _ => (pg_name (i := 0) (show (["line"] : List Str).Nodup by decide) rfl (Or.inl rfl))) (fun _ _ _ _ _ => pts_nil) (fun _ _ _ _ _ => (pe_cal ctie_in (hr.mono (by decide)) rfl (pa_cons (pv 0) pa_nil))))
      (pss_cons (ps_set (i := 5) nd rfl (Or.inl rfl) (pe_cal cfirst_wrong_tie (hr.mono (by decide)) rfl (pa_cons (pv 3) (pa_cons (pv 4) pa_nil))))
      (pss_cons (ps_if (pt_cmpR op_isNotX (pv 5) pe_non (nomark _)) (pss_one ps_never) pss_nil)
      (pss_one (ps_ret (pe_cal cweb_of (hr.mono (by decide)) rfl (pa_cons (pv 3) (pa_cons (pv 4) pa_nil))))))))))))), ?_⟩
    have wln := web_len snm wl tnm (by omega : ts.length ≤ 401)
    have big : 100002 ≤ sizeLine := by decide
    obtain ⟨tt, ty, t1, _⟩ := ty_thg (K := K) (H := H) (Thg.str (z := webT ss ts) (by omega))
    refine ⟨_, rfl, _, tt, _, rfl, ty, t1, _, rfl, ?_⟩
    refine ite2 (fun h => absurd h (by show ¬ (!true) = true; decide)) (fun _ => ?_)
    refine ⟨_, rfl, rfl, _, _, rfl, rfl, by decide, by omega, fun l1 h1 => ?_⟩
    rw [web_split snm tnm]
    have s1 := Same.new (o := .lst (List.map V.str (linesT ss ts))) h1
    have e1 : upd H l1 (.lst (List.map V.str (linesT ss ts))) l1 = some (.lst (V.str (headT ss) :: List.map V.str (ts.map lineT))) := upd_same
    generalize upd H l1 (.lst (List.map V.str (linesT ss ts))) = H1 at s1 e1 ⊢
    have hhl := head_len snm wl
    have a0 : atI (V.str (headT ss) :: List.map V.str (ts.map lineT)) 0 = some (.str (headT ss)) := atI_nat (j := 0) rfl
    refine ⟨_, rfl, .lst (.of e1) a0 ⟨rfl, headT ss, _, rfl, rfl, by decide, by omega, fun l2 h2 => ?_⟩⟩
    rw [head_split snm]
    have s2 := Same.new (o := .lst (List.map V.str (("things" : Str) :: ss))) h2
    have e2 : upd H1 l2 (.lst (List.map V.str (("things" : Str) :: ss))) l2 = some (.lst (V.str "things" :: List.map V.str ss)) := upd_same
    have e1 := s2 _ _ e1
    have s12 := s1.trans s2
    generalize upd H1 l2 (.lst (List.map V.str (("things" : Str) :: ss))) = H2 at s12 e1 e2 ⊢
    refine ⟨_, rfl, _, rfl, .lst (.of e2) fun l3 h3 => ?_⟩
    rw [cut_one]
    have s3 := Same.new (o := .lst (List.map V.str ss)) h3
    have e3 : upd H2 l3 (.lst (List.map V.str ss)) l3 = some (.lst (List.map V.str ss)) := upd_same
    have e1 := s3 _ _ e1
    have e2 := s3 _ _ e2
    have s13 := s12.trans s3
    generalize upd H2 l3 (.lst (List.map V.str ss)) = H3 at s13 e1 e2 e3 ⊢
    have a1 : atI (V.str "things" :: List.map V.str ss) 0 = some (.str "things") := atI_nat (j := 0) rfl
    refine ⟨_, rfl, .lst (.of e2) a1 (.sc rfl ⟨_, rfl, ?_⟩)⟩
    refine ite2 (fun h => absurd h (by show ¬ (!decide (V.str "things" = V.str "things")) = true; rw [decide_eq_true rfl]; decide)) (fun _ => ?_)
    refine ⟨_, rfl, l3, ss, rfl, .inl e3, wl, snd, snm, fun H4 s4 => ⟨_, rfl, ?_⟩⟩
    refine ite2 (fun h => absurd h (by decide)) (fun _ => ?_)
    have s14 := s13.trans s4
    have e1 := s4 _ _ e1
    have e3 := s4 _ _ e3
    refine ⟨_, rfl, _, rfl, .lst (.of e1) fun l5 h5 => ?_⟩
    rw [cut_one]
    have s5 := Same.new (o := .lst (List.map V.str (ts.map lineT))) h5
    have e5 : upd H4 l5 (.lst (List.map V.str (ts.map lineT))) l5 = some (.lst (List.map V.str (ts.map lineT))) := upd_same
    have e3 := s5 _ _ e3
    have s15 := s14.trans s5
    generalize upd H4 l5 (.lst (List.map V.str (ts.map lineT))) = H5 at s15 e3 e5 ⊢
    refine ⟨l5, rfl, ⟨_, .of e5⟩, ?_⟩
    refine comp_list (List.map V.str (ts.map lineT)) (fun D i acc σ' H' => ∃ o, σ' = [o] ∧ RepAll H' acc ((ts.take i).map pairD) ∧ Same H5 H' ∧ H5 D = none) fun D hD => ⟨?_, ?_, ?_, ?_⟩
    · exact ⟨none, rfl, .nil, Same.new hD, hD⟩
    · rintro i acc σ' H' _ ⟨o, rfl, _, sm, _⟩ _
      exact .of (sm _ _ e5)
    · rintro i acc σ' H' x hx ⟨o, rfl, rp, sm, hD0⟩ hacc
      rw [List.map_map, List.getElem?_map] at hx
      obtain ⟨e, he, rfl⟩ : ∃ e, ts[i]? = some e ∧ V.str (lineT e) = x := by
        cases q : ts[i]? with
        | none => rw [q] at hx; cases hx
        | some e => rw [q] at hx; exact ⟨e, rfl, Option.some.inj hx⟩
      have hil := (List.getElem?_eq_some_iff.mp he).1
      have hen := tnm e (List.mem_of_getElem? he)
      have ral := rp.len
      rw [List.length_map, List.length_take] at ral
      refine ⟨_, rfl, e, rfl, hen.1, hen.2, fun l H6 s6 hl6 el6 => ?_⟩
      have hacc6 := s6 _ _ hacc
      have nD : D ≠ l := ne_of_none hacc hl6
      refine ⟨hacc6, small1000 (by omega), _, rfl, ?_, same_at (sm.trans s6) hD0, hD0⟩
      rw [List.take_add_one, he, List.map_append]
      refine RepAll.append (RepAll.pairBut hacc6 But.upd (rp.same s6)) (.cons ?_ .nil)
      refine pair_rep ?_
      rw [upd_ne (Ne.symm nD)]
      exact el6
    · rintro acc σ' H6 ⟨o, rfl, rp, s6, hD0⟩ hacc
      rw [List.length_map, List.length_map, List.take_of_length_le (Nat.le_refl _)] at rp
      have e3 := s6 _ _ e3
      have s16 := s15.trans s6
      refine ⟨_, rfl, _, rfl, l3, D, ss, ts, acc, rfl, .inl e3, wl, snm, .inl hacc, rp, few, tnd, inn, fun H7 s7 => ?_⟩
      refine ⟨_, rfl, .non ⟨_, rfl, ?_⟩⟩
      refine ite2 (fun h => absurd h (by decide)) (fun _ => ?_)
      refine ⟨_, rfl, _, rfl, l3, D, ss, ts, acc, rfl, .inl (s7 _ _ e3), wl, snd, snm, .inl (s7 _ _ hacc), rp.same s7, few, tnd, inn, fun q H8 s8 W8 => ?_⟩
      exact k q H8 ((s16.trans s7).trans s8) W8
end
end K07
namespace K07
open PySem L2
section
variable {P : Program} {w : World} {K : PySem.W.Frag} {mg : Str → Option Value} {base : Heap}
theorem sw_web {ss : List Str} {ts : List (Str × Str)} (snm : ∀ s ∈ ss, Nm s) (hl : ss.length ≤ 60) (tnm : ∀ e ∈ ts, Nm e.1 ∧ Nm e.2) (few : ts.length ≤ 400) : Shw (webD ss ts) := by
  have h1 : Sw (.tuple (ss.map PyData.str)) 100000 2 := (Sw.seq (n := 82) (k := 0) (m := 60) false (ds := ss.map PyData.str) (fun d hd => by
    obtain ⟨s, hs, rfl⟩ := List.mem_map.mp hd
    exact Sw.nm (snm s hs)) (by rw [List.length_map]; exact hl)).mono (by decide) (by decide)
  have h2 : Sw (.tuple (ts.map pairD)) 100000 2 := (Sw.seq (n := 171) (k := 1) (m := 400) false (ds := ts.map pairD) (fun d hd => by
    obtain ⟨e, he, rfl⟩ := List.mem_map.mp hd
    exact Sw.pair (tnm e he).1 (tnm e he).2) (by rw [List.length_map]; exact few)).mono (by decide) (by decide)
  exact (Sw.tuple (n := 100000) (k := 2) (ds := [.tuple (ss.map PyData.str), .tuple (ts.map pairD)]) (fun d hd => by
    rcases List.mem_cons.mp hd with rfl | hd
    · exact h1
    · rw [List.mem_singleton.mp hd]; exact h2)).shw (by decide) (by show 3 + 2 * (100000 + 2) ≤ sizeLine; decide)
end
end K07
namespace K07
open PySem L2
section
variable {P : Program} {w : World} {K : PySem.W.Frag} {mg : Str → Option Value} {base : Heap}
open Classical in
noncomputable def dec (P : Prop) : Bool := decide P
open Classical in
theorem dec_t {P : Prop} (h : P) : dec P = true := by unfold dec; exact decide_eq_true h
open Classical in
theorem dec_f {P : Prop} (h : ¬ P) : dec P = false := by unfold dec; exact decide_eq_false h
open Classical in
theorem dec_iff {P : Prop} : dec P = true ↔ P := by unfold dec; exact decide_eq_true_iff
theorem isT_get {H : Hp} {x : V} (h : isT H x = true) : ∃ a us, x = .ref a ∧ H a = some (.tup us) := by
  cases x with
  | ref a =>
    have h : (match H a with | some (.tup _) => true | _ => false) = true := h
    split at h
    · rename_i xs e; exact ⟨a, xs, rfl, e⟩
    · cases h
  | _ => cases h
theorem thg_obj {H H' : Hp} {a : Addr} (h : Thg H (.ref a)) (s : Same H H') : H' a = H a := by
  cases h with
  | lst e => rw [e, s _ _ e]
  | tup e => rw [e, s _ _ e]
  | dK e => rw [e, s _ _ e]
  | dT e => rw [e, s _ _ e]
noncomputable def Rw (G : Hp → V → Prop) (H : Hp) (x : V) : Prop := Thg H x ∧ ∀ a ys, x = .ref a → SqA H a ys → ys.length ≤ 1000 ∧ ∀ y ∈ ys, G H y
theorem mono_thg : Mono Thg := fun _ _ _ s h => h.same s
theorem Rw.same {G : Hp → V → Prop} {H H' : Hp} {x : V} (mo : Mono G) (h : Rw G H x) (s : Same H H') : Rw G H' x := ⟨h.1.same s, fun a ys e q => by
  subst e
  unfold SqA at q
  rw [thg_obj h.1 s] at q
  obtain ⟨l, k⟩ := h.2 a ys rfl q
  exact ⟨l, fun y hy => mo _ _ _ s (k y hy)⟩⟩
theorem sq_uniq {H : Hp} {a : Addr} {xs ys : List V} (h : SqA H a xs) (k : SqA H a ys) : xs = ys := by
  rcases h with h | h <;> rcases k with k | k <;> rw [h] at k <;> cases k <;> rfl
end
end K07
namespace K07
open PySem L2
section
variable {P : Program} {w : World} {K : PySem.W.Frag} {mg : Str → Option Value} {base : Heap}
noncomputable def inP (kvs : List (Key × V)) : V → Bool
  | .str z => (valV kvs (.inr z)).isSome
  | _ => false
noncomputable def TieIn (H : Hp) (kvs : List (Key × V)) (y : V) (e : Str × Str) : Prop := ∃ ta, y = .ref ta ∧ H ta = some (.tup [.str e.1, .str e.2]) ∧ Nm e.1 ∧ Nm e.2 ∧ (valV kvs (.inr e.1)).isSome = true ∧ (valV kvs (.inr e.2)).isSome = true
noncomputable def spAmongG : Sp := fun vs H Q _ => ∃ (d : Addr) (kvs : List (Key × V)) (y : V), vs = [.ref d, y] ∧ H d = some (.dK kvs) ∧ Rw Thg H y ∧ ∀ H', Same H H' → Q (.bl (dec (∃ e, TieIn H kvs y e))) H'
theorem two_of {us : List V} (h : us.length = 2) : ∃ x y, us = [x, y] := by
  match us, h with
  | [x, y], _ => exact ⟨x, y, rfl⟩
theorem nm_str {x : V} (h : isNm x = true) : ∃ z, x = .str z ∧ Nm z := by
  cases x with
  | str z => exact ⟨z, rfl, isNm_iff.mp h⟩
  | _ => cases h
theorem ok_amongG {f : Addr} {fd : FuncData} (F : Fun K "is_tie_among" "is_tie_among" sAmong f fd) (B : Blt mg) (cis_name : Cal P w K mg base 1 "is_name" ["thing"] spIsName) : FnOk P w K mg base CX0 2 f fd ["places", "tie"] spAmongG := by
  refine F.ok scAmong (fun vs H Q E h => ?_) (fun cdv A outer s H vs Q E hr h => ?_)
  · obtain ⟨d, kvs, y, rfl, _⟩ := h
    rfl
  · obtain ⟨d, kvs, y, rfl, hd, ty_, k⟩ := h
    have nd := scAmong.nd
    have no : (¬ ∃ e, TieIn H kvs y e) → ∀ H', Same H H' → Q (.bl false) H' := fun h => by rw [dec_f h] at k; exact k
    obtain ⟨t, ty, _, _, _, _, t5⟩ := ty_thg (K := K) ty_.1
    refine ⟨_, (pss_cons (ps_if (PW.pt (pw_or (pt_not (pt_val (b_isi K "tuple" B (pa_cons (pv 1) (pa_cons (g_tuple B) pa_nil))))) (pw_or1 (pt_cmpR (op_neX hr.units) (b_len K B (pa_cons (pv 1) pa_nil)) pe_int (nomark _))))) (pss_one (ps_ret pe_bl)) pss_nil)
      (pss_one (ps_ret (b_all rfl B (pa_cons (pe_comp (defScope sAmong) ["places", "tie"] ["end"] [0] ["end", "places"] rfl (pi_tupK K (pv 1)) (fun _ _ _ _ _ => (pg_name (i := 0) (show (["end", "places"] : List Str).Nodup by decide) rfl (Or.inl rfl))) (fun _ _ _ _ _ => pts_nil) (fun _ _ _ _ _ => (pe_and (pe_cal cis_name (hr.mono (by decide)) rfl (pa_cons (pv 0) pa_nil)) (pe_one (pe_cmpR (op_inX K hr.units) (pv 0) (pv 1) (by with_unfolding_all rfl)))))) pa_nil))))), ?_⟩
    refine ⟨_, rfl, _, t, _, rfl, ty, t5, _, rfl, ite2 (fun h => ?_) (fun h => ?_)⟩
    · refine no (fun ⟨e, ta, ey, q, _⟩ => ?_) _ (Same.refl H)
      subst ey
      rw [isT_of q] at h
      cases h
    obtain ⟨ta, us, rfl, hta⟩ := isT_get (x := y) (by simpa using h)
    refine ⟨_, rfl, _, _, rfl, Or.inr ⟨_, .of hta, rfl⟩, .sc rfl ⟨_, rfl, ite2 (fun h => ?_) (fun h => ?_)⟩⟩
    · refine no (fun ⟨e, tb, ey, q, _⟩ => ?_) _ (Same.refl H)
      cases ey
      rw [hta] at q
      cases q
      cases h
    obtain ⟨x1, x2, rfl⟩ := two_of (us := us) (by
      have h : decide (V.int (us.length : Int) = V.int 2) = true := by simpa using h
      have := V.int.inj (of_decide_eq_true h)
      omega)
    have th := (ty_.2 ta _ rfl (.inr hta)).2
    have g : V → Bool := fun x => isNm x && inP kvs x
    refine ⟨_, rfl, ta, rfl, ⟨_, .of hta⟩, ?_⟩
    refine comp_tup [x1, x2] (fun D i acc σ' H' => ∃ o, σ' = [o, some (.ref d)] ∧ acc = List.map V.bl (([x1, x2].take i).map fun x => isNm x && inP kvs x) ∧ Same H H' ∧ H D = none) fun D hD => ⟨?_, ?_, ?_, ?_⟩
    · exact ⟨none, rfl, rfl, Same.new hD, hD⟩
    · rintro i acc σ' H' _ ⟨o, rfl, _, sm, _⟩ _
      exact .of (sm _ _ hta)
    · rintro i acc σ' H' x hx ⟨o, rfl, rfl, sm, hD0⟩ hacc
      have hil := (List.getElem?_eq_some_iff.mp hx).1
      have hil : i < 2 := hil
      have sz : (List.map V.bl (([x1, x2].take i).map fun x => isNm x && inP kvs x)).length < sizeLine := by rw [List.length_map, List.length_map, List.length_take]; exact small1000 (by omega)
      have nx : List.map V.bl (([x1, x2].take i).map fun x => isNm x && inP kvs x) ++ [V.bl (isNm x && inP kvs x)] = List.map V.bl (([x1, x2].take (i + 1)).map fun x => isNm x && inP kvs x) := by rw [List.take_add_one, hx, List.map_append, List.map_append]; rfl
      refine gYes ?_
      refine ⟨_, rfl, _, rfl, (th x (List.mem_of_getElem? hx)).same sm, fun H2 s2 => ⟨_, rfl, ite2 (fun h => ?_) (fun h => ?_)⟩⟩
      · obtain ⟨z, rfl, nz⟩ := nm_str h
        refine ⟨_, rfl, _, rfl, .dic (DGet.k (k := .inr z) (s2 _ _ (sm _ _ hd))) ?_⟩
        refine ⟨s2 _ _ hacc, sz, _, rfl, ?_, same_at (sm.trans s2) hD0, hD0⟩
        rw [← nx, h, Bool.true_and]; rfl
      · have h : isNm x = false := by simpa using h
        refine ⟨s2 _ _ hacc, sz, _, rfl, ?_, same_at (sm.trans s2) hD0, hD0⟩
        rw [← nx, h, Bool.false_and]
    · rintro acc σ' H2 ⟨o, rfl, rfl, s2, hD0⟩ hacc
      refine ⟨D, [isNm x1 && inP kvs x1, isNm x2 && inP kvs x2], rfl, hacc, ?_⟩
      have e : ([isNm x1 && inP kvs x1, isNm x2 && inP kvs x2] : List Bool).all id = dec (∃ e, TieIn H kvs (.ref ta) e) := by
        rw [Bool.eq_iff_iff, dec_iff]
        constructor
        · intro h
          have h : ((isNm x1 && inP kvs x1) && ((isNm x2 && inP kvs x2) && true)) = true := h
          rw [Bool.and_true, Bool.and_eq_true, Bool.and_eq_true, Bool.and_eq_true] at h
          obtain ⟨z1, rfl, n1⟩ := nm_str h.1.1
          obtain ⟨z2, rfl, n2⟩ := nm_str h.2.1
          exact ⟨(z1, z2), ta, rfl, hta, n1, n2, h.1.2, h.2.2⟩
        · rintro ⟨e, tb, ey, q, n1, n2, i1, i2⟩
          cases ey
          rw [hta] at q
          cases q
          show ((isNm (.str e.1) && inP kvs (.str e.1)) && ((isNm (.str e.2) && inP kvs (.str e.2)) && true)) = true
          rw [isNm_iff.mpr n1, isNm_iff.mpr n2, show inP kvs (.str e.1) = true from i1, show inP kvs (.str e.2) = true from i2]; rfl
      rw [e]
      exact k H2 s2
end
end K07
namespace K07
open PySem L2
section
variable {P : Program} {w : World} {K : PySem.W.Frag} {mg : Str → Option Value} {base : Heap}
theorem smallM {n : Nat} (h : n ≤ 8000000) : n < sizeLine := Nat.lt_of_le_of_lt h (by decide)
noncomputable def spPlM : Sp := fun vs H Q _ => ∃ (a : Addr) (xs : List Str), vs = [.ref a] ∧ H a = some (.lst (List.map V.str xs)) ∧ xs.length ≤ 8000000 ∧ ∀ d kvs H', Same H H' → H' d = some (.dK kvs) → (∀ s, (valV kvs (.inr s)).isSome = true ↔ s ∈ xs) → (kvs.map (·.1)).Nodup → (∀ k ∈ kvs.map (·.1), ∃ s ∈ xs, k = Sum.inr s) → Q (.ref d) H'
theorem ok_plM {f : Addr} {fd : FuncData} (F : Fun K "places_of" "places_of" sPlaces f fd) (B : Blt mg) : FnOk P w K mg base CX0 1 f fd ["things"] spPlM := by
  refine F.ok scPlaces (fun vs H Q E h => ?_) (fun cdv A outer s H vs Q E hr h => ?_)
  · obtain ⟨a, xs, rfl, _⟩ := h
    rfl
  · obtain ⟨a, xs, rfl, ha, hl, k⟩ := h
    have nd := scPlaces.nd
    refine ⟨_, (pss_cons (ps_set (i := 1) nd rfl (Or.inl rfl) pe_dnewK)
      (pss_cons (ps_for PassesOwn.never rfl (pi_enumX K rfl B.enumerate (pa_cons (pv 0) pa_nil)) (pg_tupK (n := 2) K rfl (pgs_cons (pg_name (i := 2) nd rfl (Or.inl rfl)) (pgs_cons (pg_name (i := 3) nd rfl (Or.inl rfl)) pgs_nil))) (pss_one (ps_asg (pv 2) (pg_sub (pv 1) (pv 3) (set_X hr.units)))))
      (pss_one (ps_ret (pv 1))))), ?_⟩
    intro d hd
    have s0 := Same.new (o := .dK []) hd
    have start : PlN H (upd H d (.dK [])) d xs 0 [] := ⟨s0, upd_same, Nat.le_refl _, (fun s => by simp [valV_nil]), (fun s v e => by cases e), List.nodup_nil, (fun k hk => by cases hk)⟩
    refine ⟨_, rfl, _, rfl, .lst (.of (s0 _ _ ha)) ?_⟩
    refine for_enum (xs := List.map V.str xs) (fun i σ H' => ∃ o1 o2 kvs, σ = [some (.ref a), some (.ref d), o1, o2] ∧ PlN H H' d xs i kvs) ?_ ?_ ?_ ?_
    · exact ⟨none, none, [], rfl, start⟩
    · rintro i σ H' hi ⟨o1, o2, kvs, rfl, pl⟩
      exact .of (pl.sm _ _ ha)
    · rintro i x σ H' p hx ⟨o1, o2, kvs, rfl, pl⟩ hp
      obtain ⟨t, ht, rfl⟩ := str_get hx
      have hil := (List.getElem?_eq_some_iff.mp ht).1
      have hdp : d ≠ p := ne_of_none pl.at_ hp
      have := pl.len
      refine ⟨p, _, rfl, .of upd_same, rfl, _, _, rfl, _, _, rfl, rfl, ?_⟩
      exact ⟨_, rfl, _, rfl, _, rfl, .dic (DPut.k (k := .inr t) (by rw [upd_ne hdp]; exact pl.at_) (smallM (by omega))) ⟨_, _, _, rfl, pl.step hd hp ht⟩⟩
    · rintro σ H' ⟨o1, o2, kvs, rfl, pl⟩
      have hin := pl.inn
      rw [List.length_map, List.take_of_length_le (Nat.le_refl _)] at hin
      exact ⟨_, rfl, k d kvs H' pl.sm pl.at_ hin pl.nd pl.ks⟩
noncomputable def spUnlM : Sp := fun vs H Q _ => ∃ (a : Addr) (ss : List Str), vs = [.ref a] ∧ H a = some (.lst (List.map V.str ss)) ∧ ss.length ≤ 8000000 ∧ ∀ H', Same H H' → Q (.bl (decide ss.Nodup)) H'
theorem ok_unlM {f : Addr} {fd : FuncData} (F : Fun K "are_unlike" "are_unlike" sUnlike f fd) (B : Blt mg) (cplaces_of : Cal P w K mg base 1 "places_of" ["things"] spPlM) : FnOk P w K mg base CX0 2 f fd ["things"] spUnlM := by
  refine F.ok scUnlike (fun vs H Q E h => ?_) (fun cdv A outer s H vs Q E hr h => ?_)
  · obtain ⟨a, ss, rfl, _⟩ := h
    rfl
  · obtain ⟨a, ss, rfl, ha, hlen, k⟩ := h
    have nd := scUnlike.nd
    refine ⟨_, (pss_one (ps_ret (pe_cmpR (op_eqX hr.units) (b_lenD B (pa_cons (pe_cal cplaces_of (hr.mono (by decide)) rfl (pa_cons (pv 0) pa_nil)) pa_nil)) (b_len K B (pa_cons (pv 0) pa_nil)) (nomark _)))), ?_⟩
    refine ⟨_, rfl, a, ss, rfl, ha, hlen, fun d kvs H1 s1 hd hin knd ks => ⟨d, kvs, rfl, hd, _, rfl, _, ss.length, rfl, ?_, .sc rfl ?_⟩⟩
    · have := (SqA.same (.inl ha) s1).len (K := K)
      rw [List.length_map] at this
      exact this
    · have e := len_kvs knd ks hin
      have e2 : decide (V.int (kvs.length : Nat) = V.int (ss.length : Nat)) = decide ss.Nodup := by
        rw [Bool.eq_iff_iff, decide_eq_true_iff, decide_eq_true_iff, ← e]
        exact ⟨fun z => Int.ofNat.inj (V.int.inj z), fun z => by rw [z]⟩
      show Q (.bl (decide (V.int (kvs.length : Nat) = V.int (ss.length : Nat)))) H1
      rw [e2]
      exact k H1 s1
noncomputable def Gn (ss : List Str) : Prop := ss.Nodup ∧ (∀ s ∈ ss, Nm s) ∧ ss.length ≤ 60
noncomputable def spUNmM : Sp := fun vs H Q _ => ∃ (a : Addr) (ss : List Str), vs = [.ref a] ∧ H a = some (.lst (List.map V.str ss)) ∧ ss.length ≤ 8000000 ∧ (∀ s ∈ ss, s.length ≤ 8000000) ∧ ∀ H', Same H H' → Q (.bl (dec (ss.Nodup ∧ ∀ s ∈ ss, Nm s))) H'
theorem ok_unmM {f : Addr} {fd : FuncData} (F : Fun K "are_unlike_names" "are_unlike_names" sUNm f fd) (B : Blt mg) (cis_name : Cal P w K mg base 1 "is_name" ["thing"] spIsName) (care_unlike : Cal P w K mg base 2 "are_unlike" ["things"] spUnlM) : FnOk P w K mg base CX0 3 f fd ["things"] spUNmM := by
  refine F.ok scUNm (fun vs H Q E h => ?_) (fun cdv A outer s H vs Q E hr h => ?_)
  · obtain ⟨a, ss, rfl, _⟩ := h
    rfl
  · obtain ⟨a, ss, rfl, ha, hlen, hsz, k⟩ := h
    have nd := scUNm.nd
    have sml : (List.map V.str ss).length = ss.length := List.length_map ..
    refine ⟨_, (pss_cons (ps_if (pt_not (pt_val (b_isi2 K "list" "tuple" B (pa_cons (pv 0) (pa_cons (pe_tup (pa_cons (g_list B) (pa_cons (g_tuple B) pa_nil))) pa_nil))))) (pss_one (ps_ret pe_bl)) pss_nil)
      (pss_one (ps_ret (pe_and (b_all rfl B (pa_cons (pe_comp (defScope sUNm) ["things"] ["thing"] [] ["thing"] rfl (pi_listK K (pv 0)) (fun _ _ _ _ _ => (pg_name (i := 0) (show (["thing"] : List Str).Nodup by decide) rfl (Or.inl rfl))) (fun _ _ _ _ _ => pts_nil) (fun _ _ _ _ _ => (pe_cal cis_name (hr.mono (by decide)) rfl (pa_cons (pv 0) pa_nil)))) pa_nil)) (pe_one (pe_cal care_unlike (hr.mono (by decide)) rfl (pa_cons (pv 0) pa_nil))))))), ?_⟩
    refine ⟨_, rfl, (by show 2 ≤ sizeLine; decide), fun tp htp => ?_⟩
    have s0 := Same.new (o := .tup [V.ty "list", V.ty "tuple"]) htp
    have A0 : SqA (upd H tp (.tup [V.ty "list", V.ty "tuple"])) a (List.map V.str ss) := (SqA.same (.inl ha) s0)
    obtain ⟨t, ty, _, _, _, t4, t5⟩ := ty_thg (K := K) A0.thg
    have kl := kit_lt t4 t5
    rw [A0.lt] at kl
    refine ⟨_, tp, t, _, rfl, upd_same, ty, kl, _, rfl, ?_⟩
    refine ite2 (fun h => absurd h (by decide)) (fun _ => ?_)
    have ha0 := s0 _ _ ha
    generalize upd H tp (.tup [V.ty "list", V.ty "tuple"]) = H0 at s0 ha0 ⊢
    refine ⟨_, rfl, a, rfl, ⟨_, .of ha0⟩, ?_⟩
    refine comp_list (List.map V.str ss) (fun D i acc σ' H' => ∃ o, σ' = [o] ∧ acc = List.map V.bl (((List.map V.str ss).take i).map isNm) ∧ Same H0 H' ∧ H0 D = none) fun D hD => ⟨?_, ?_, ?_, ?_⟩
    · exact ⟨none, rfl, rfl, Same.new hD, hD⟩
    · rintro i acc σ' H' _ ⟨o, rfl, _, sm, _⟩ _
      exact .of (sm _ _ ha0)
    · rintro i acc σ' H' x hx ⟨o, rfl, rfl, sm, hD0⟩ hacc
      have hil := (List.getElem?_eq_some_iff.mp hx).1
      obtain ⟨z, hz, rfl⟩ := str_get hx
      refine gYes ?_
      refine ⟨_, rfl, _, rfl, .str (Nat.le_of_lt (smallM (hsz z (List.mem_of_getElem? hz)))), fun H2 s2 => ?_⟩
      exact ⟨s2 _ _ hacc, by rw [List.length_map, List.length_map, List.length_take]; exact smallM (by omega), _, rfl, by rw [List.take_add_one, hx, List.map_append, List.map_append]; rfl, same_at (sm.trans s2) hD0, hD0⟩
    · rintro acc σ' H2 ⟨o, rfl, rfl, s2, hD0⟩ hacc
      rw [List.take_of_length_le (Nat.le_refl _)] at hacc
      refine ⟨D, (List.map V.str ss).map isNm, rfl, hacc, _, rfl, ?_⟩
      have e : ((List.map V.str ss).map isNm).all id = dec (∀ s ∈ ss, Nm s) := by
        rw [Bool.eq_iff_iff, dec_iff, List.all_map, List.all_eq_true]
        exact ⟨fun h s hs => isNm_iff.mp (h _ (List.mem_map.mpr ⟨s, hs, rfl⟩)), fun h x hx => by
          obtain ⟨s, hs, rfl⟩ := List.mem_map.mp hx
          exact isNm_iff.mpr (h s hs)⟩
      rw [e]
      refine ite2 (fun h => ?_) (fun h => ?_)
      · have h := dec_iff.mp h
        refine ⟨_, rfl, a, ss, rfl, s2 _ _ ha0, hlen, fun H3 s3 => ?_⟩
        have e2 : decide ss.Nodup = dec (ss.Nodup ∧ ∀ s ∈ ss, Nm s) := by
          rw [Bool.eq_iff_iff, dec_iff, decide_eq_true_iff]
          exact ⟨fun z => ⟨z, h⟩, fun z => z.1⟩
        rw [e2]
        exact k H3 ((s0.trans s2).trans s3)
      · rw [dec_f fun z => h (dec_t z.2)] at k
        exact k _ (s0.trans s2)
noncomputable def spAreM : Sp := fun vs H Q _ => ∃ (a : Addr) (ss : List Str), vs = [.ref a] ∧ H a = some (.lst (List.map V.str ss)) ∧ ss.length ≤ 8000000 ∧ (∀ s ∈ ss, s.length ≤ 8000000) ∧ ∀ H', Same H H' → Q (.bl (dec (Gn ss))) H'
theorem ok_areM {f : Addr} {fd : FuncData} {tk : Tok} (F : Fun K "are_things" "are_things" sAreThings f fd) (B : Blt mg) (TT : mg "MOST_THINGS" = some (.int 60 tk)) (care_unlike_names : Cal P w K mg base 3 "are_unlike_names" ["things"] spUNmM) : FnOk P w K mg base CX0 4 f fd ["things"] spAreM := by
  refine F.ok scAre (fun vs H Q E h => ?_) (fun cdv A outer s H vs Q E hr h => ?_)
  · obtain ⟨a, ss, rfl, _⟩ := h
    rfl
  · obtain ⟨a, ss, rfl, ha, hlen, hsz, k⟩ := h
    have nd := scAre.nd
    refine ⟨_, (pss_one (ps_ret (pe_and (pe_cal care_unlike_names (hr.mono (by decide)) rfl (pa_cons (pv 0) pa_nil)) (pe_one (pe_cmpR op_leX (b_len K B (pa_cons (pv 0) pa_nil)) (pe_glob (v := .int 60) rfl TT ⟨_, rfl⟩) (nomark _)))))), ?_⟩
    refine ⟨_, rfl, a, ss, rfl, ha, hlen, hsz, fun H1 s1 => ⟨_, rfl, ite2 (fun h => ?_) (fun h => ?_)⟩⟩
    · have h := dec_iff.mp h
      refine ⟨_, rfl, _, _, rfl, (SqA.same (.inl ha) s1).len, .int ?_⟩
      have e : dec (Gn ss) = decide (((List.map V.str ss).length : Int) ≤ 60) := by
        rw [Bool.eq_iff_iff, dec_iff, decide_eq_true_iff, List.length_map]
        exact ⟨fun z => by have := z.2.2; omega, fun z => ⟨h.1, h.2, by omega⟩⟩
      have z := k H1 s1
      rw [e] at z
      exact z
    · rw [dec_f fun z => h (dec_t ⟨z.1, z.2.1⟩)] at k
      exact k H1 s1
end
end K07
namespace K07
open PySem L2
section
variable {P : Program} {w : World} {K : PySem.W.Frag} {mg : Str → Option Value} {base : Heap}
theorem join_cons2 (c : Nat) (x y : Str) (r : List Str) : (Str.join (SP.one c) (x :: y :: r)).length = x.length + 1 + (Str.join (SP.one c) (y :: r)).length := by
  have h := congrArg List.length (SP.join_signs c x y r)
  rw [List.length_append, List.length_cons] at h
  have e : ∀ s : Str, s.length = s.cps.toList.length := fun s => by rw [Array.length_toList]; rfl
  rw [e, e x, e (Str.join (SP.one c) (y :: r)), h]
  omega
theorem join_one (c : Nat) (x : Str) : Str.join (SP.one c) [x] = x := rfl
theorem part_len (c : Nat) : ∀ {ws : List Str} {w : Str}, w ∈ ws → w.length ≤ (Str.join (SP.one c) ws).length
  | [x], w, h => by rw [List.mem_singleton.mp h, join_one]; exact Nat.le_refl _
  | x :: y :: r, w, h => by
    rw [join_cons2]
    rcases List.mem_cons.mp h with rfl | h
    · omega
    · have := part_len c h
      omega
theorem parts_len (c : Nat) : ∀ (ws : List Str), ws.length ≤ (Str.join (SP.one c) ws).length + 1
  | [] => Nat.zero_le _
  | [x] => by rw [List.length_singleton]; omega
  | x :: y :: r => by
    rw [join_cons2, List.length_cons]
    have := parts_len c (y :: r)
    omega
theorem split_part {c : Nat} {z w : Str} (h : w ∈ Txt.split z (SP.one c)) : w.length ≤ z.length := by
  have := part_len c h
  rw [StrLaws.join_split] at this
  exact this
theorem split_parts {c : Nat} {z : Str} : (Txt.split z (SP.one c)).length ≤ z.length + 1 := by
  have := parts_len c (Txt.split z (SP.one c))
  rw [StrLaws.join_split] at this
  exact this
noncomputable def tieW : List Str → Option (Str × Str)
  | [a, b, c] => if b = ">" then some (a, c) else none
  | _ => none
noncomputable def tieO (z : Str) : Option (Str × Str) := tieW (Txt.split z " ")
noncomputable def spTieG : Sp := fun vs H Q _ => ∃ z : Str, vs = [.str z] ∧ z.length ≤ 8000000 ∧ (tieO z = none → ∀ H', Same H H' → Q .non H') ∧ (∀ e, tieO z = some e → ∀ l H', Same H H' → H l = none → H' l = some (.tup [.str e.1, .str e.2]) → Q (.ref l) H')
theorem ok_tieG {f : Addr} {fd : FuncData} (F : Fun K "tie_in" "tie_in" sTieIn f fd) (B : Blt mg) : FnOk P w K mg base CX0 1 f fd ["line"] spTieG := by
  refine F.ok scTieIn (fun vs H Q E h => ?_) (fun cdv A outer s H vs Q E hr h => ?_)
  · obtain ⟨z, rfl, _⟩ := h
    rfl
  · obtain ⟨z, rfl, hz, k0, k1⟩ := h
    have nd := scTieIn.nd
    refine ⟨_, (pss_cons (ps_set (i := 1) nd rfl (Or.inl rfl) (m_split K (pv 0) (pa_cons pe_str pa_nil)))
      (pss_cons (ps_if (PW.pt (pw_or (pt_cmpR (op_neX hr.units) (b_len K B (pa_cons (pv 1) pa_nil)) pe_int (nomark _)) (pw_or1 (pt_cmpR (op_neX hr.units) (pe_ix (ix_X K hr.units) (pv 1) pe_int (fun _ _ => rfl)) pe_str (nomark _))))) (pss_one (ps_ret pe_non)) pss_nil)
      (pss_one (ps_ret (pe_tup (pa_cons (pe_ix (ix_X K hr.units) (pv 1) pe_int (fun _ _ => rfl)) (pa_cons (pe_ix (ix_X K hr.units) (pv 1) pe_int (fun _ _ => rfl)) pa_nil))))))), ?_⟩
    refine ⟨_, rfl, rfl, _, _, rfl, rfl, by decide, Nat.le_trans (Nat.add_le_add_right hz 2) (by decide), fun l hl => ?_⟩
    have sl := Same.new (o := .lst (List.map V.str (Txt.split z " "))) hl
    have el : upd H l (.lst (List.map V.str (Txt.split z " "))) l = some (.lst (List.map V.str (Txt.split z " "))) := upd_same
    generalize upd H l (.lst (List.map V.str (Txt.split z " "))) = H1 at sl el ⊢
    unfold tieO at k0 k1
    generalize Txt.split z " " = ws at el k0 k1
    refine ⟨_, rfl, _, _, rfl, Or.inl ⟨_, .of el, rfl⟩, .sc rfl ⟨_, rfl, ite2 (fun h => ?_) (fun h => ?_)⟩⟩
    · show (if true = true then _ else _)
      rw [if_pos rfl]
      refine k0 ?_ _ sl
      match ws with
      | [] => rfl
      | [_] => rfl
      | [_, _] => rfl
      | [_, _, _] => exact absurd h (by show ¬ (!decide (V.int 3 = V.int 3)) = true; decide)
      | _ :: _ :: _ :: _ :: _ => rfl
    · obtain ⟨x, y, u, rfl⟩ : ∃ x y u, ws = [x, y, u] := by
        have h : decide (V.int ((List.map V.str ws).length : Nat) = V.int 3) = true := by simpa using h
        have h := V.int.inj (of_decide_eq_true h)
        rw [List.length_map] at h
        match ws, h with
        | [x, y, u], _ => exact ⟨x, y, u, rfl⟩
        | [], h => cases h
        | [_], h => cases h
        | [_, _], h => cases h
        | _ :: _ :: _ :: _ :: _, h => simp only [List.length_cons] at h; omega
      refine ⟨_, rfl, .lst (.of el) (atI_nat (j := 1) rfl) (.sc rfl ⟨_, rfl, ite2 (fun h2 => ?_) (fun h2 => ?_)⟩)⟩
      · refine k0 ?_ _ sl
        have h2 : y ≠ ">" := fun z => by rw [z] at h2; revert h2; show ¬ (!decide (V.str ">" = V.str ">")) = true; rw [decide_eq_true rfl]; decide
        show (if y = ">" then some (x, u) else none) = none
        rw [if_neg h2]
      · have h2 : y = ">" := by
          have : decide (V.str y = V.str ">") = true := by simpa using h2
          exact V.str.inj (of_decide_eq_true this)
        refine ⟨_, rfl, .lst (.of el) (atI_nat (j := 0) rfl) ⟨_, rfl, .lst (.of el) (atI_nat (j := 2) rfl) ⟨(by show 2 ≤ sizeLine; decide), fun t ht => ?_⟩⟩⟩
        refine k1 (x, u) ?_ t _ (sl.trans (Same.new ht)) (same_free sl ht) upd_same
        show (if y = ">" then some (x, u) else none) = some (x, u)
        rw [if_pos h2]
noncomputable def RO (H : Hp) (y : V) : Option (Str × Str) → Prop
  | none => y = .non
  | some e => ∃ ta, y = .ref ta ∧ H ta = some (.tup [.str e.1, .str e.2]) ∧ e.1.length ≤ 8000000 ∧ e.2.length ≤ 8000000
theorem RO.same {H H' : Hp} {y : V} {o : Option (Str × Str)} (h : RO H y o) (s : Same H H') : RO H' y o := by
  cases o with
  | none => exact h
  | some e =>
    obtain ⟨ta, a, b, c⟩ := h
    exact ⟨ta, a, s _ _ b, c⟩
theorem RO.rw {H : Hp} {y : V} {o : Option (Str × Str)} (h : RO H y o) : Rw Thg H y := by
  cases o with
  | none =>
    have h : y = .non := h
    subst h
    exact ⟨.non, fun a ys e => by cases e⟩
  | some e =>
    obtain ⟨ta, rfl, b, c, d⟩ := h
    refine ⟨.tup b, fun a ys e q => ?_⟩
    cases e
    rw [← sq_uniq (.inr b) q]
    refine ⟨by show 2 ≤ 1000; decide, fun v hv => ?_⟩
    rcases List.mem_cons.mp hv with rfl | hv
    · exact .str (Nat.le_of_lt (smallM c))
    · rw [List.mem_singleton.mp hv]; exact .str (Nat.le_of_lt (smallM d))
noncomputable def TV (H : Hp) (ys : List V) (os : List (Option (Str × Str))) : Prop := ys.length = os.length ∧ ∀ (i : Nat) (y : V) (o : Option (Str × Str)), ys[i]? = some y → os[i]? = some o → RO H y o
noncomputable def TOs (ss : List Str) (os : List (Option (Str × Str))) (ts : List (Str × Str)) : Prop := os = ts.map some ∧ ts.Nodup ∧ ts.length ≤ 400 ∧ ∀ e ∈ ts, e.1 ∈ ss ∧ e.2 ∈ ss
noncomputable def TO (ss : List Str) (os : List (Option (Str × Str))) : Prop := ∃ ts, TOs ss os ts
noncomputable def WR (ss : List Str) (os : List (Option (Str × Str))) (r : V) : Prop := (TO ss os ∧ r = .non) ∨ ∃ i : Nat, r = .int i ∧ i < os.length ∧ i ≤ 400 ∧ TO ss (os.take i) ∧ ¬ TO ss (os.take (i + 1))
theorem some_inj {xs ys : List (Str × Str)} (h : xs.map some = ys.map some) : xs = ys := by
  induction xs generalizing ys with
  | nil => cases ys with
    | nil => rfl
    | cons y r => cases h
  | cons x r ih => cases ys with
    | nil => cases h
    | cons y q =>
      obtain ⟨a, b⟩ := List.cons.inj h
      rw [Option.some.inj a, ih b]
noncomputable def spWrongE : Sp := fun vs H Q _ => ∃ (a t : Addr) (ss : List Str) (ys : List V) (os : List (Option (Str × Str))), vs = [.ref a, .ref t] ∧ H a = some (.lst (List.map V.str ss)) ∧ ss.length ≤ 60 ∧ (∀ s ∈ ss, Nm s) ∧ H t = some (.lst ys) ∧ TV H ys os ∧ ∀ r H', WR ss os r → Same H H' → Q r H'
theorem ok_wrongE {f : Addr} {fd : FuncData} {tk : Tok} (F : Fun K "first_wrong_tie" "first_wrong_tie" sWrong f fd) (B : Blt mg) (TT : mg "MOST_TIES" = some (.int 400 tk)) (cplaces_of : Cal P w K mg base 1 "places_of" ["things"] spPlacesX) (cis_tie_among : Cal P w K mg base 2 "is_tie_among" ["places", "tie"] spAmongG) : FnOk P w K mg base CX0 3 f fd ["things", "ties"] spWrongE := by
  refine F.ok scWrong (fun vs H Q E h => ?_) (fun cdv A outer s H vs Q E hr h => ?_)
  · obtain ⟨a, t, ss, ys, os, rfl, _⟩ := h
    rfl
  · obtain ⟨a, t, ss, ys, os, rfl, hA, hlen, snm, ht, tv, k⟩ := h
    have nd := scWrong.nd
    refine ⟨_, (pss_cons (ps_set (i := 2) nd rfl (Or.inl rfl) (pe_cal cplaces_of (hr.mono (by decide)) rfl (pa_cons (pv 0) pa_nil)))
      (pss_cons (ps_set (i := 3) nd rfl (Or.inl rfl) pe_dnewT)
      (pss_cons (ps_for PassesOwn.never rfl (pi_enumX K rfl B.enumerate (pa_cons (pv 1) pa_nil)) (pg_tupK (n := 2) K rfl (pgs_cons (pg_name (i := 4) nd rfl (Or.inl rfl)) (pgs_cons (pg_name (i := 5) nd rfl (Or.inl rfl)) pgs_nil))) (pss_cons (ps_if (PW.pt (pw_or (pt_cmpR (op_eqX hr.units) (pv 4) (pe_glob (v := .int 400) rfl TT ⟨_, rfl⟩) (nomark _)) (pw_or (pt_not (pt_val (pe_cal cis_tie_among (hr.mono (by decide)) rfl (pa_cons (pv 2) (pa_cons (pv 5) pa_nil))))) (pw_or1 (pt_cmpR (op_inX K hr.units) (pv 5) (pv 3) (by with_unfolding_all rfl)))))) (pss_one (ps_ret (pv 4))) pss_nil)
      (pss_one (ps_asg pe_bl (pg_sub (pv 3) (pv 5) (set_X hr.units))))))
      (pss_one (ps_ret pe_non))))), ?_⟩
    refine ⟨_, rfl, _, rfl, .nm (.inl hA) (by omega) fun d kvs H1 s1 hd0 hd hin hat _ _ => ?_⟩
    intro dt hdt
    have s2 := s1.trans (Same.new (o := .dT []) hdt)
    refine ⟨_, rfl, _, rfl, .lst (.of (s2 _ _ ht)) ?_⟩
    refine for_enum (xs := ys) (fun i σ H' => ∃ (o4 o5 : Option V) (kt : List (List Key × V)) (ts : List (Str × Str)), σ = [some (.ref a), some (.ref t), some (.ref d), some (.ref dt), o4, o5] ∧ Same H1 H' ∧ H' dt = some (.dT kt) ∧ kt.length ≤ i ∧ i ≤ 400 ∧ ts.length = i ∧ TOs ss (os.take i) ts ∧ ∀ f : Str × Str, (valV kt (pK f)).isSome = true ↔ f ∈ ts) ?_ ?_ ?_ ?_
    · exact ⟨none, none, [], [], rfl, Same.new hdt, upd_same, Nat.le_refl _, Nat.zero_le _, rfl, ⟨rfl, List.nodup_nil, Nat.zero_le _, (fun e he => by cases he)⟩, fun f => by simp [valV_nil]⟩
    · rintro i σ H' hi ⟨o4, o5, kt, ts, rfl, sm, _⟩
      exact .of (sm _ _ (s1 _ _ ht))
    · rintro i y σ H' p hy ⟨o4, o5, kt, ts, rfl, sm, hkt, hkl, hi4, htl, tos, hkin⟩ hp
      have hil := (List.getElem?_eq_some_iff.mp hy).1
      have hio : i < os.length := by rw [← tv.1]; exact hil
      have ho : os[i]? = some os[i] := List.getElem?_eq_getElem hio
      have ro := tv.2 i y _ hy ho
      generalize os[i] = o at ho ro
      have tk1 : os.take (i + 1) = os.take i ++ [o] := by rw [List.take_add_one, ho]; rfl
      have uq : ∀ ts', TOs ss (os.take (i + 1)) ts' → ∃ e, o = some e ∧ ts' = ts ++ [e] := fun ts' h => by
        have h1 := h.1
        rw [tk1, tos.1] at h1
        have hl := congrArg List.length h1
        rw [List.length_append, List.length_map, List.length_map] at hl
        obtain ⟨e, r, rfl⟩ : ∃ e r, ts' = r ++ [e] := by
          have ne : ts' ≠ [] := fun z => by rw [z] at hl; simp at hl
          exact ⟨_, _, (List.dropLast_concat_getLast ne).symm⟩
        rw [List.map_append] at h1
        obtain ⟨g1, g2⟩ := List.append_inj' h1 rfl
        have g2 := (List.cons.inj g2).1
        exact ⟨e, g2, by rw [some_inj g1]⟩
      have sp := Same.new (o := .tup [V.int (i : Nat), y]) hp
      refine ⟨p, _, rfl, .of upd_same, rfl, _, _, rfl, _, _, rfl, rfl, ?_⟩
      have sm2 := sm.trans sp
      have hkt2 := sp _ _ hkt
      have s12 := s1.trans sm2
      generalize upd H' p (.tup [V.int (i : Nat), y]) = H3 at sm2 hkt2 s12 ⊢
      have ret : ¬ TO ss (os.take (i + 1)) → ∀ H', Same H H' → Q (.int (i : Nat)) H' := fun n H' s => k _ _ (.inr ⟨i, rfl, hio, hi4, ⟨ts, tos⟩, n⟩) s
      refine ⟨_, rfl, .sc rfl ⟨_, rfl, ?_⟩⟩
      refine ite2 (fun h => by show (if true = true then _ else _); rw [if_pos rfl]; exact ⟨_, rfl, ret (fun ⟨ts', h'⟩ => by
        have h4 : (i : Int) = 400 := V.int.inj (of_decide_eq_true h)
        obtain ⟨e, _, rfl⟩ := uq ts' h'
        have := h'.2.2.1
        rw [List.length_append, htl] at this
        have : i + 1 ≤ 400 := this
        omega) _ s12⟩) (fun h4 => ?_)
      have h4 : ¬ i = 400 := fun z => h4 (decide_eq_true (by rw [z]; rfl))
      refine ⟨_, rfl, _, rfl, d, kvs, y, rfl, sm2 _ _ hd, ro.rw.same mono_thg s12, fun H4 s4 => ⟨_, rfl, ?_⟩⟩
      refine ite2 (fun h => by show (if true = true then _ else _); rw [if_pos rfl]; exact ⟨_, rfl, ret (fun ⟨ts', h'⟩ => by
        obtain ⟨e, eo, rfl⟩ := uq ts' h'
        subst eo
        obtain ⟨ta, ey, hta, _⟩ := ro
        have hi := h'.2.2.2 e (by simp)
        have : dec (∃ e, TieIn H3 kvs y e) = true := dec_t ⟨e, ta, ey, s12 _ _ hta, snm _ hi.1, snm _ hi.2, (hin _).mpr hi.1, (hin _).mpr hi.2⟩
        rw [this] at h
        cases h) _ (s12.trans s4)⟩) (fun h5 => ?_)
      obtain ⟨e, ta, rfl, hta2, n1, n2, i1, i2⟩ := (dec_iff (P := ∃ e, TieIn H3 kvs y e)).mp (by simpa using h5)
      have eo : o = some e := by
        cases o with
        | none => have ro : V.ref ta = V.non := ro; cases ro
        | some e' =>
          obtain ⟨tb, ey, htb, _⟩ := ro
          cases ey
          have := s12 _ _ htb
          rw [hta2] at this
          have h1 := List.cons.inj (HO.tup.inj (Option.some.inj this))
          have h2 := List.cons.inj h1.2
          rw [show e' = e from (Prod.ext (V.str.inj h1.1) (V.str.inj h2.1)).symm]
      have hkt4 := s4 _ _ hkt2
      have hta4 := s4 _ _ hta2
      refine ⟨_, rfl, _, rfl, .dic (DGet.t (k := pK e) hkt4 hta4) ⟨_, rfl, ?_⟩⟩
      refine ite2 (fun h => ⟨_, rfl, ret (fun ⟨ts', h'⟩ => by
        obtain ⟨e', ee, rfl⟩ := uq ts' h'
        rw [eo] at ee
        cases ee
        have nd' := h'.2.1
        rw [List.nodup_append] at nd'
        exact nd'.2.2 e ((hkin e).mp h) e (by simp) rfl) _ (s12.trans s4)⟩) (fun h6 => ?_)
      have h6 : e ∉ ts := fun z => h6 ((hkin e).mpr z)
      refine ⟨_, rfl, _, rfl, .dic (DPut.t (k := pK e) hkt4 hta4 (small1000 (by omega))) ⟨_, _, _, ts ++ [e], rfl, ?_, upd_same, ?_, by omega, by rw [List.length_append, htl]; rfl, ⟨?_, ?_, ?_, ?_⟩, fun f => ?_⟩⟩
      · intro b o hb
        rw [upd_ne (ne_of_none hb hdt)]
        exact s4 _ _ (sm2 _ _ hb)
      · have := length_putK kt (pK e) (V.bl true)
        omega
      · rw [tk1, tos.1, eo, List.map_append]; rfl
      · rw [List.nodup_append]
        exact ⟨tos.2.1, by simp, fun x hx y hy => by rw [List.mem_singleton.mp hy]; exact fun z => h6 (z ▸ hx)⟩
      · rw [List.length_append, htl]; show i + 1 ≤ 400; omega
      · intro f hf
        rcases List.mem_append.mp hf with q | q
        · exact tos.2.2.2 f q
        · rw [List.mem_singleton.mp q]; exact ⟨(hin _).mp i1, (hin _).mp i2⟩
      · rw [valV_put, List.mem_append]
        by_cases q : f = e
        · subst q; simp
        · rw [if_neg (fun z => q (pK_inj z)), hkin f]
          simp [q]
    · rintro σ H' ⟨o4, o5, kt, ts, rfl, sm, _, _, hi4, htl, tos, _⟩
      rw [tv.1, List.take_of_length_le (Nat.le_refl _)] at tos
      exact k .non _ (.inl ⟨⟨ts, tos⟩, rfl⟩) (s1.trans sm)
end
end K07
namespace K07
open PySem L2
section
variable {P : Program} {w : World} {K : PySem.W.Frag} {mg : Str → Option Value} {base : Heap}
noncomputable abbrev excL : List Str := ["OrderError", "NoText"]
noncomputable abbrev excC : List Str := ["OrderError", "NoText"]
noncomputable def spInitV (K : PySem.W.Frag) (fl : Str) : Sp := fun vs H Q _ => ∃ (e C : Addr) (v : V), vs = [.ref e, v] ∧ H e = some (xNew e C none) ∧ XSet K C fl ∧ ∀ d, H d = none → Q .non (upd (upd H d (.xd [(fl, v)])) e (xNew e C (some d)))
theorem initV_raise {E : XK} {C e : Addr} {fl : Str} {v : V} {H1 : Hp} (Z : XSet K C fl) (he : H1 e = none) (k : ∀ d H', Same H1 H' → H1 d = none → H' d = some (.xd [(fl, v)]) → E (.ref C) (some d) H') :
    spInitV K fl [.ref e, v] (upd H1 e (xNew e C none)) (fun v H2 => v = .non ∧ ∃ dd, H2 e = some (xNew e C dd) ∧ E (.ref C) dd (del H2 e)) E0 := by
  refine ⟨e, C, v, rfl, upd_same, Z, fun d hd => ⟨rfl, some d, upd_same, ?_⟩⟩
  have hde : d ≠ e := fun z => by rw [z, upd_same] at hd; cases hd
  rw [upd_ne hde] at hd
  refine k d _ (fun b o hb => ?_) hd ?_
  · have n1 : b ≠ e := ne_of_none hb he
    rw [del_ne n1, upd_ne n1, upd_ne (ne_of_none hb hd), upd_ne n1]; exact hb
  · rw [del_ne hde, upd_ne hde, upd_same]
theorem scInit : FnScope ["self", "line"] ["self", "line"] (defScope sNoTextInit) := ⟨rfl, rfl, rfl, by decide +kernel, rfl, by decide +kernel, by decide +kernel⟩
theorem ok_init {f : Addr} {fd : FuncData} (F : Fun K "__init__" "NoText.__init__" sNoTextInit f fd) (B : Blt mg) : FnOk P w K mg base CX0 1 f fd ["self", "line"] (spInitV K "line") := by
  refine F.ok scInit (fun vs H Q E h => ?_) (fun cdv A outer s H vs Q E hr h => ?_)
  · obtain ⟨e, C, v, rfl, _⟩ := h
    rfl
  · obtain ⟨e, C, v, rfl, he, Z, k⟩ := h
    have nd := scInit.nd
    refine ⟨_, (pss_one (ps_fldX (pv 0) (pv 1) rfl)), ?_⟩
    refine ⟨_, rfl, _, rfl, e, C, rfl, he, Z, fun d hd hde => ?_⟩
    exact k d hd
noncomputable def GoodL : List Str → Prop
  | [] => False
  | h :: r => ∃ ss : List Str, Txt.split h " " = ("things" : Str) :: ss ∧ Gn ss ∧ TO ss (r.map tieO)
noncomputable def FB (ls : List Str) (i : Nat) : Prop := i < ls.length ∧ (i = 0 ∨ GoodL (ls.take i)) ∧ ¬ GoodL (ls.take (i + 1))
noncomputable def spReadX (C : Addr) : Sp := fun vs H _ E => ∃ z : Str, vs = [.str z] ∧ z.length ≤ 8000000 ∧ ¬ GoodL (Txt.split z "\n") ∧ ∀ (i : Nat) d H', FB (Txt.split z "\n") i → Same H H' → H d = none → H' d = some (.xd [("line", .int i)]) → E (.ref C) (some d) H'
theorem sp32 : (" " : Str) = SP.one 32 := sp_one
theorem sp10 : ("\n" : Str) = SP.one 10 := nl_one
theorem ok_readX {f : Addr} {fd : FuncData} {C : Addr} (F : Fun K "read_web" "read_web" sRead f fd) (B : Blt mg) (mNoText : MkI P w K mg base 1 "NoText" C ["self", "line"] (spInitV K "line")) (Z : XSet K C "line") (ctie_in : Cal P w K mg base 1 "tie_in" ["line"] spTieG) (care_things : Cal P w K mg base 4 "are_things" ["things"] spAreM) (cfirst_wrong_tie : Cal P w K mg base 3 "first_wrong_tie" ["things", "ties"] spWrongE) : FnOk P w K mg base (CX1 P w) 6 f fd ["text"] (spReadX C) := by
  refine F.okX scRead (fun vs H Q E h => ?_) (fun cdv A outer s H vs Q E hr h => ?_)
  · obtain ⟨z, rfl, _⟩ := h
    rfl
  · obtain ⟨z, rfl, hz, bad, k⟩ := h
    have nd := scRead.nd
    have big : 8000002 ≤ sizeLine := by decide
    refine ⟨_, (pss_cons (ps_if (pt_not (pt_val (b_isi K "str" B (pa_cons (pv 0) (pa_cons (g_str B) pa_nil))))) (pss_one (ps_raiseM mNoText (hr.mono (by decide)) rfl (pa_cons pe_int pa_nil))) pss_nil)
      (pss_cons (ps_set (i := 1) nd rfl (Or.inl rfl) (m_split K (pv 0) (pa_cons pe_str pa_nil)))
      (pss_cons (ps_set (i := 2) nd rfl (Or.inl rfl) (m_split K (pe_ix (ix_X K hr.units) (pv 1) pe_int (fun _ _ => rfl)) (pa_cons pe_str pa_nil)))
      (pss_cons (ps_set (i := 3) nd rfl (Or.inl rfl) (pe_slice (sl_K K) (pv 2) (po_some pe_int) po_none))
      (pss_cons (ps_if (PW.pt (pw_or (pt_cmpR (op_neX hr.units) (pe_ix (ix_X K hr.units) (pv 2) pe_int (fun _ _ => rfl)) pe_str (nomark _)) (pw_or1 (pt_not (pt_val (pe_cal care_things (hr.mono (by decide)) rfl (pa_cons (pv 3) pa_nil))))))) (pss_one (ps_raiseM mNoText (hr.mono (by decide)) rfl (pa_cons pe_int pa_nil))) pss_nil)
      (pss_cons (ps_setC (i := 4) nd rfl rfl (by rfl) (defScope sRead) ["text", "lines", "words", "things", "ties", "wrong"] ["line"] [] ["line"] rfl (pi_listK K (pe_slice (sl_K K) (pv 1) (po_some pe_int) po_none)) (fun _ _ _ _ _ => (pg_name (i := 0) (show (["line"] : List Str).Nodup by decide) rfl (Or.inl rfl))) (fun _ _ _ _ _ => pts_nil) (fun _ _ _ _ _ => (pe_cal ctie_in (hr.mono (by decide)) rfl (pa_cons (pv 0) pa_nil))))
      (pss_cons (ps_set (i := 5) nd rfl (Or.inl rfl) (pe_cal cfirst_wrong_tie (hr.mono (by decide)) rfl (pa_cons (pv 3) (pa_cons (pv 4) pa_nil))))
      (pss_cons (ps_if (pt_cmpR op_isNotX (pv 5) pe_non (nomark _)) (pss_one (ps_raiseM mNoText (hr.mono (by decide)) rfl (pa_cons (pe_op op_addX (pv 5) pe_int) pa_nil))) pss_nil)
      pss_never)))))))), ?_⟩
    obtain ⟨tt, ty, t1, _⟩ := ty_thg (K := K) (H := H) (Thg.str (z := z) (by omega))
    refine ⟨_, rfl, _, tt, _, rfl, ty, t1, _, rfl, ?_⟩
    refine ite2 (fun h => absurd h (by show ¬ (!true) = true; decide)) (fun _ => ?_)
    refine ⟨_, rfl, rfl, _, _, rfl, rfl, by decide, by omega, fun l1 h1 => ?_⟩
    have lsl : (Txt.split z "\n").length ≤ z.length + 1 := by rw [sp10]; exact split_parts
    have lpt : ∀ l ∈ Txt.split z "\n", l.length ≤ z.length := fun l hl => by rw [sp10] at hl; exact split_part hl
    have lne : Txt.split z "\n" ≠ [] := SP.split_ne _ _
    have s1 := Same.new (o := .lst (List.map V.str (Txt.split z "\n"))) h1
    have e1 : upd H l1 (.lst (List.map V.str (Txt.split z "\n"))) l1 = some (.lst (List.map V.str (Txt.split z "\n"))) := upd_same
    generalize upd H l1 (.lst (List.map V.str (Txt.split z "\n"))) = H1 at s1 e1 ⊢
    generalize Txt.split z "\n" = ls at *
    cases ls with
    | nil => exact absurd rfl lne
    | cons hd_ r =>
    have hhl := lpt hd_ (by simp)
    have a0 : atI (List.map V.str (hd_ :: r)) 0 = some (.str hd_) := atI_nat (j := 0) rfl
    refine ⟨_, rfl, .lst (.of e1) a0 ⟨rfl, hd_, _, rfl, rfl, by decide, by omega, fun l2 h2 => ?_⟩⟩
    have wsl : (Txt.split hd_ " ").length ≤ hd_.length + 1 := by rw [sp32]; exact split_parts
    have wpt : ∀ l ∈ Txt.split hd_ " ", l.length ≤ hd_.length := fun l hl => by rw [sp32] at hl; exact split_part hl
    have wne : Txt.split hd_ " " ≠ [] := SP.split_ne _ _
    have s2 := Same.new (o := .lst (List.map V.str (Txt.split hd_ " "))) h2
    have e2 : upd H1 l2 (.lst (List.map V.str (Txt.split hd_ " "))) l2 = some (.lst (List.map V.str (Txt.split hd_ " "))) := upd_same
    have e1 := s2 _ _ e1
    have s12 := s1.trans s2
    generalize upd H1 l2 (.lst (List.map V.str (Txt.split hd_ " "))) = H2 at s12 e1 e2 ⊢
    obtain ⟨w0, ws, ew⟩ : ∃ w0 ws, Txt.split hd_ " " = w0 :: ws := by
      cases c : Txt.split hd_ " " with
      | nil => exact absurd c wne
      | cons x y => exact ⟨x, y, rfl⟩
    rw [ew] at wsl wpt e2
    refine ⟨_, rfl, _, rfl, .lst (.of e2) fun l3 h3 => ?_⟩
    rw [show cutV (List.map V.str (w0 :: ws)) (some 1) none = List.map V.str ws from cut_one ..]
    have s3 := Same.new (o := .lst (List.map V.str ws)) h3
    have e3 : upd H2 l3 (.lst (List.map V.str ws)) l3 = some (.lst (List.map V.str ws)) := upd_same
    have e1 := s3 _ _ e1
    have e2 := s3 _ _ e2
    have s13 := s12.trans s3
    generalize upd H2 l3 (.lst (List.map V.str ws)) = H3 at s13 e1 e2 e3 ⊢
    have a1 : atI (List.map V.str (w0 :: ws)) 0 = some (.str w0) := atI_nat (j := 0) rfl
    have no0 : ¬ (w0 = "things" ∧ Gn ws) → ∀ H4, Same H H4 → ∀ e1, H4 e1 = none → spInitV K "line" [.ref e1, .int 0] (upd H4 e1 (xNew e1 C none)) (fun v H2 => v = .non ∧ ∃ dd, H2 e1 = some (xNew e1 C dd) ∧ E (.ref C) dd (del H2 e1)) E0 := fun n H4 s4 e1 he1 => initV_raise Z he1 fun d H5 s5 hd0 hd1 => k 0 d H5 ⟨Nat.zero_lt_succ _, .inl rfl, fun ⟨ss, g1, g2, _⟩ => by
      rw [ew] at g1
      obtain ⟨p1, p2⟩ := List.cons.inj g1
      rw [← p2] at g2
      exact n ⟨p1, g2⟩⟩ (s4.trans s5) (same_free s4 hd0) hd1
    refine ⟨_, rfl, .lst (.of e2) a1 (.sc rfl ⟨_, rfl, ite2 (fun h => ?_) (fun h => ?_)⟩)⟩
    · show (if true = true then _ else _)
      rw [if_pos rfl]
      refine ⟨(by show 1 ≤ sizeLine; decide), fun e4 he4 => no0 (fun z => ?_) _ s13 e4 he4⟩
      rw [z.1] at h
      revert h
      show ¬ (!decide (V.str "things" = V.str "things")) = true
      rw [decide_eq_true rfl]
      decide
    have w0e : w0 = "things" := by
      have : decide (V.str w0 = V.str "things") = true := by simpa using h
      exact V.str.inj (of_decide_eq_true this)
    rw [List.length_cons] at wsl
    refine ⟨_, rfl, l3, ws, rfl, e3, by omega, fun s hs => by have := wpt s (List.mem_cons_of_mem _ hs); omega, fun H4 s4 => ⟨_, rfl, ite2 (fun h => ?_) (fun h => ?_)⟩⟩
    · refine ⟨(by show 1 ≤ sizeLine; decide), fun e5 he5 => no0 (fun z => ?_) _ (s13.trans s4) e5 he5⟩
      rw [dec_t z.2] at h
      cases h
    have gn : Gn ws := dec_iff.mp (by simpa using h)
    have s14 := s13.trans s4
    have e1 := s4 _ _ e1
    have e3 := s4 _ _ e3
    refine ⟨_, rfl, _, rfl, .lst (.of e1) fun l5 h5 => ?_⟩
    rw [show cutV (List.map V.str (hd_ :: r)) (some 1) none = List.map V.str r from cut_one ..]
    have s5 := Same.new (o := .lst (List.map V.str r)) h5
    have e5 : upd H4 l5 (.lst (List.map V.str r)) l5 = some (.lst (List.map V.str r)) := upd_same
    have e3 := s5 _ _ e3
    have s15 := s14.trans s5
    generalize upd H4 l5 (.lst (List.map V.str r)) = H5 at s15 e3 e5 ⊢
    rw [List.length_cons] at lsl
    refine ⟨l5, rfl, ⟨_, .of e5⟩, ?_⟩
    refine comp_list (List.map V.str r) (fun D i acc σ' H' => ∃ o, σ' = [o] ∧ TV H' acc ((r.take i).map tieO) ∧ Same H5 H' ∧ H5 D = none) fun D hD => ⟨?_, ?_, ?_, ?_⟩
    · exact ⟨none, rfl, ⟨rfl, fun i y o h => by cases h⟩, Same.new hD, hD⟩
    · rintro i acc σ' H' _ ⟨o, rfl, _, sm, _⟩ _
      exact .of (sm _ _ e5)
    · rintro i acc σ' H' x hx ⟨o, rfl, tv, sm, hD0⟩ hacc
      obtain ⟨ln, hln, rfl⟩ := str_get hx
      have hil := (List.getElem?_eq_some_iff.mp hln).1
      have lnl : ln.length ≤ 8000000 := by have := lpt ln (List.mem_cons_of_mem _ (List.mem_of_getElem? hln)); omega
      have al : acc.length = i := by rw [tv.1, List.length_map, List.length_take]; omega
      have tk1 : (r.take (i + 1)).map tieO = (r.take i).map tieO ++ [tieO ln] := by rw [List.take_add_one, hln, List.map_append]; rfl
      have nxt : ∀ y H2, Same H' H2 → RO H2 y (tieO ln) → (∀ c, y = .ref c → c ≠ D) → TV (upd H2 D (.lst (acc ++ [y]))) (acc ++ [y]) ((r.take (i + 1)).map tieO) := fun y H2 s2 ro nD => by
        have keep : ∀ y' o', RO H2 y' o' → (∀ c, y' = .ref c → c ≠ D) → RO (upd H2 D (.lst (acc ++ [y]))) y' o' := fun y' o' h n => by
          cases o' with
          | none => exact h
          | some e =>
            obtain ⟨ta, q1, q2, q3⟩ := h
            exact ⟨ta, q1, by rw [upd_ne (n ta q1)]; exact q2, q3⟩
        rw [tk1]
        refine ⟨by rw [List.length_append, List.length_append, tv.1]; rfl, fun j y' o' hy ho => ?_⟩
        by_cases q : j < acc.length
        · rw [List.getElem?_append_left q] at hy
          rw [List.getElem?_append_left (by rw [← tv.1]; exact q)] at ho
          have ro' := (tv.2 j y' o' hy ho).same s2
          refine keep y' o' ro' fun c ec => ?_
          intro hcD
          subst ec
          cases o' with
          | none => have ro' : V.ref c = V.non := ro'; cases ro'
          | some e =>
            obtain ⟨ta, q1, q2, _⟩ := ro'
            cases q1
            rw [hcD, s2 _ _ hacc] at q2
            cases q2
        · rw [List.getElem?_append_right (by omega)] at hy
          rw [List.getElem?_append_right (by rw [← tv.1]; omega), ← tv.1] at ho
          have j0 : j - acc.length = 0 := by
            have := (List.getElem?_eq_some_iff.mp hy).1
            have : j - acc.length < 1 := this
            omega
          rw [j0] at hy ho
          cases hy
          cases ho
          exact keep _ _ ro nD
      refine gYes ?_
      refine ⟨_, rfl, ln, rfl, lnl, fun h0 H2 s2 => ?_, fun e he l H2 s2 hl0 hl => ?_⟩
      · refine ⟨s2 _ _ hacc, smallM (by omega), _, rfl, nxt _ _ s2 (by rw [h0]; rfl) (fun c h => by cases h), same_at (sm.trans s2) hD0, hD0⟩
      · have lens : e.1.length ≤ 8000000 ∧ e.2.length ≤ 8000000 := by
          unfold tieO at he
          have pt : ∀ w ∈ Txt.split ln " ", w.length ≤ ln.length := fun w hw => by rw [sp32] at hw; exact split_part hw
          generalize Txt.split ln " " = q at he pt
          match q, he with
          | [x, y, u], he =>
            have he : (if y = ">" then some (x, u) else none) = some e := he
            split at he
            · cases he
              have := pt x (by simp)
              have := pt u (by simp)
              exact ⟨by show x.length ≤ _; omega, by show u.length ≤ _; omega⟩
            · cases he
        refine ⟨s2 _ _ hacc, smallM (by omega), _, rfl, nxt _ _ s2 (by rw [he]; exact ⟨l, rfl, hl, lens⟩) (fun c h => by cases h; exact fun z => by rw [z, hacc] at hl0; cases hl0), same_at (sm.trans s2) hD0, hD0⟩
    rintro acc σ' H6 ⟨o, rfl, tv, s6, hD0⟩ hacc
    rw [List.length_map, List.take_of_length_le (Nat.le_refl _)] at tv
    have e3 := s6 _ _ e3
    have s16 := s15.trans s6
    have ol : (r.map tieO).length = r.length := List.length_map ..
    refine ⟨_, rfl, _, rfl, l3, D, ws, acc, r.map tieO, rfl, e3, gn.2.2, gn.2.1, hacc, tv, fun res H7 wr s7 => ?_⟩
    rcases wr with ⟨to, rfl⟩ | ⟨i, rfl, hi, hi4, t1, t2⟩
    · exact absurd ⟨ws, by rw [ew, w0e], gn, to⟩ bad
    · refine ⟨_, rfl, .non ⟨_, rfl, ite2 (fun _ => ?_) (fun h => absurd rfl h)⟩⟩
      refine ⟨_, rfl, .int ⟨(by show 1 ≤ sizeLine; decide), fun e8 he8 => ?_⟩⟩
      refine initV_raise Z he8 fun d H8 s8 hd0 hd1 => k (i + 1) d H8 ⟨by rw [List.length_cons]; omega, .inr ?_, ?_⟩ ((s16.trans s7).trans s8) (same_free (s16.trans s7) hd0) hd1
      · rw [List.take_succ_cons]
        exact ⟨ws, by rw [ew, w0e], gn, by rw [List.map_take]; exact t1⟩
      · rw [List.take_succ_cons]
        rintro ⟨ss, g1, g2, g3⟩
        rw [ew] at g1
        obtain ⟨p1, p2⟩ := List.cons.inj g1
        subst p2
        rw [List.map_take] at g3
        exact t2 g3
end
end K07
namespace K07
open PySem L2
section
variable {P : Program} {w : World} {K : PySem.W.Frag} {mg : Str → Option Value} {base : Heap}
theorem idx_le (lo hi : Option Int) (n : Nat) : (Builtin.Str.strSliceIndices lo hi 1 n).length ≤ n := by
  unfold Builtin.Str.strSliceIndices sliceRange
  cases lo <;> cases hi <;> simp only [show (1 : Int) > 0 by decide, if_true, List.length_map, List.length_range] <;> (try split) <;> (try simp only [Int.ediv_one]) <;> (repeat' split) <;> (try simp only [List.length_map, List.length_range, Int.ediv_one, List.length_nil]) <;> omega
theorem slice_le (z : Str) (lo hi : Option Int) : (Txt.slice z lo hi).length ≤ z.length := by
  unfold Txt.slice
  have h := idx_le lo hi z.length
  split
  · exact Nat.le_refl _
  · show (List.filterMap _ _).toArray.size ≤ _
    rw [List.size_toArray]
    exact Nat.le_trans (List.length_filterMap_le _ _) h
noncomputable def spSign (K : PySem.W.Frag) : Sp := fun vs H Q _ => ∃ (p a : Addr), vs = [.ref p] ∧ Pen K H p a ∧ ∀ (z : Str) H', z.length ≤ 1 → PenV H' p a → But p H H' → Q (.str z) H'
theorem scSign : FnScope ["_law_pen_here", "_law_signs"] ["_law_pen_here"] (defScope sSign) := ⟨rfl, rfl, rfl, by decide +kernel, rfl, by decide +kernel, by decide +kernel⟩
theorem at_nat {xs : List Nat} {m : Nat} {r : Int} (hl : xs.length = m) (h0 : 0 ≤ r) (h1 : r < m) : ∃ c, atI xs r = some c := by
  obtain ⟨j, rfl⟩ := Int.eq_ofNat_of_zero_le h0
  have hj : j < xs.length := by omega
  exact ⟨xs[j], atI_nat (List.getElem?_eq_getElem hj)⟩
theorem nil_ {σ : St} {H : Hp} {k : List V → Hp → Prop} (h : k [] H) : tNil σ H k := h
theorem penKeep {H H' : Hp} {p a : Addr} (s : Same H H') (v : PenV H p a) : PenV H' p a := by
  obtain ⟨i, n, hp, r⟩ := v
  exact ⟨i, n, s _ _ hp, r⟩
theorem at_mem {xs : List V} {m : Nat} {r : Int} (hl : xs.length = m) (h0 : 0 ≤ r) (h1 : r < m) : ∃ x, atI xs r = some x ∧ x ∈ xs := by
  obtain ⟨j, rfl⟩ := Int.eq_ofNat_of_zero_le h0
  have hj : j < xs.length := by omega
  exact ⟨xs[j], atI_nat (List.getElem?_eq_getElem hj), List.getElem_mem hj⟩
theorem ok_sign {f : Addr} {fd : FuncData} (F : Fun K "_law_sign" "_law_sign" sSign f fd) (B : Blt mg) (c_law_draw : Cal P w K mg base 1 "_law_draw" ["_law_pen_here", "_law_most"] (spDraw K)) : FnOk P w K mg base CX0 2 f fd ["_law_pen_here"] (spSign K) := by
  refine F.ok scSign (fun vs H Q E h => ?_) (fun cdv A outer s H vs Q E hr h => ?_)
  · obtain ⟨p, a, rfl, _⟩ := h
    rfl
  · obtain ⟨p, a, rfl, hP, k⟩ := h
    have nd := scSign.nd
    refine ⟨_, (pss_cons (ps_set (i := 1) nd rfl (Or.inl rfl) pe_str)
      (pss_one (ps_ret (pe_ix (ix_X K hr.units) (pe_lst (pa_cons (pe_ix (ix_X K hr.units) (pv 1) (pe_cal c_law_draw (hr.mono (by decide)) rfl (pa_cons (pv 0) (pa_cons pe_int pa_nil))) (fun _ _ => rfl)) (pa_cons (pe_ix (ix_X K hr.units) pe_str (pe_cal c_law_draw (hr.mono (by decide)) rfl (pa_cons (pv 0) (pa_cons pe_int pa_nil))) (fun _ _ => rfl)) pa_nil))) (pe_cal c_law_draw (hr.mono (by decide)) rfl (pa_cons (pv 0) (pa_cons pe_int pa_nil))) (fun _ _ => rfl))))), ?_⟩
    refine ⟨_, rfl, _, rfl, p, a, 95, rfl, hP, by decide, by decide, fun r1 H1 a0 a1 v1 e1 => ?_⟩
    have b1 : But p H H1 := But.of_eq e1
    obtain ⟨c1, h1⟩ := at_nat (m := 95) (xs := (" !\"#$&'()*+,-./0123456789:;<=>?@ABCDEFGHIJKLMNOPQRSTUVWXYZ[\\]^_`abcdefghijklmnopqrstuvwxyz{|}~\n" : Str).cps.toList) (by decide +kernel) a0 a1
    refine .str (by decide +kernel) h1 ?_
    refine ⟨_, rfl, p, a, 4, rfl, hP.but b1 v1, by decide, by decide, fun r2 H2 c0 c1' v2 e2 => ?_⟩
    have b2 := b1.trans (But.of_eq e2)
    obtain ⟨c2, h2⟩ := at_nat (m := 4) (xs := (" \n>a" : Str).cps.toList) (by decide +kernel) c0 c1'
    refine .str (by decide +kernel) h2 ?_
    refine nil_ ⟨(by show 2 ≤ sizeLine; decide), fun l hl => ?_⟩
    have s3 := Same.new (o := .lst [.str ⟨#[c1]⟩, .str ⟨#[c2]⟩]) hl
    have e3 : upd H2 l (.lst [.str ⟨#[c1]⟩, .str ⟨#[c2]⟩]) l = some (.lst [.str ⟨#[c1]⟩, .str ⟨#[c2]⟩]) := upd_same
    have nl : l ≠ p := Ne.symm (v2.ne hl)
    generalize upd H2 l (.lst [.str ⟨#[c1]⟩, .str ⟨#[c2]⟩]) = H3 at s3 e3 ⊢
    have v3 := penKeep s3 v2
    have b3 := b2.trans (But.of_same s3)
    refine ⟨_, rfl, p, a, 2, rfl, hP.but b3 v3, by decide, by decide, fun r4 H4 d0 d1 v4 e4 => ?_⟩
    obtain ⟨x, hx, mx⟩ := at_mem (m := 2) (xs := [.str ⟨#[c1]⟩, .str ⟨#[c2]⟩]) rfl d0 d1
    have b4 := b3.trans (But.of_eq e4)
    refine .lst (.of ((e4 l nl).trans e3)) hx ?_
    rcases List.mem_cons.mp mx with rfl | mx
    · exact k _ _ (Nat.le_refl 1) v4 b4
    · rw [List.mem_singleton.mp mx]
      exact k _ _ (Nat.le_refl 1) v4 b4
end
end K07
namespace K07
open PySem L2
section
variable {P : Program} {w : World} {K : PySem.W.Frag} {mg : Str → Option Value} {base : Heap}
noncomputable def sumL (ys : List Str) : Nat := (ys.map (·.length)).sum
theorem sumL_cons (x : Str) (r : List Str) : sumL (x :: r) = x.length + sumL r := rfl
theorem join_sum (c : Nat) : ∀ {ws : List Str}, ws ≠ [] → (Str.join (SP.one c) ws).length + 1 = sumL ws + ws.length
  | [], h => absurd rfl h
  | [x], _ => by rw [join_one, sumL_cons]; show x.length + 1 = x.length + 0 + 1; omega
  | x :: y :: r, _ => by
    have := join_sum c (ws := y :: r) (by simp)
    rw [join_cons2, sumL_cons, List.length_cons]
    omega
theorem split_sum {c : Nat} {z : Str} : z.length + 1 = sumL (Txt.split z (SP.one c)) + (Txt.split z (SP.one c)).length := by
  rw [← join_sum c (SP.split_ne _ _), StrLaws.join_split]
theorem sum_set : ∀ (ws : List Str) (i : Nat) (w : Str), sumL (ws.set i w) ≤ sumL ws + w.length
  | [], i, w => by cases i <;> exact Nat.zero_le _
  | x :: r, 0, w => by rw [List.set_cons_zero, sumL_cons, sumL_cons]; omega
  | x :: r, i + 1, w => by
    rw [List.set_cons_succ, sumL_cons, sumL_cons]
    have := sum_set r i w
    omega
theorem map_setS (ws : List Str) (i : Nat) (w : Str) : (List.map V.str ws).set i (.str w) = List.map V.str (ws.set i w) := by rw [List.map_set]
noncomputable def spBent (K : PySem.W.Frag) : Sp := fun vs H Q _ => ∃ (p a : Addr) (z : Str), vs = [.ref p, .str z] ∧ Pen K H p a ∧ z.length ≤ 2000000 ∧ ∀ (z' : Str) H', z'.length ≤ 3 * z.length + 10 → PenV H' p a → But p H H' → Q (.str z') H'
theorem scBent : FnScope ["_law_pen_here", "_law_text_here", "_law_kind", "_law_at", "_law_new", "_law_lines", "_law_one", "_law_other", "_law_words", "_law_some"] ["_law_pen_here", "_law_text_here"] (defScope sBent) := ⟨rfl, rfl, rfl, by decide +kernel, rfl, by decide +kernel, by decide +kernel⟩
theorem ok_bent {f : Addr} {fd : FuncData} (F : Fun K "_law_bent" "_law_bent" sBent f fd) (B : Blt mg) (c_law_draw : Cal P w K mg base 1 "_law_draw" ["_law_pen_here", "_law_most"] (spDraw K)) (c_law_sign : Cal P w K mg base 2 "_law_sign" ["_law_pen_here"] (spSign K)) : FnOk P w K mg base CX0 3 f fd ["_law_pen_here", "_law_text_here"] (spBent K) := by
  refine F.ok scBent (fun vs H Q E h => ?_) (fun cdv A outer s H vs Q E hr h => ?_)
  · obtain ⟨p, a, z, rfl, _⟩ := h
    rfl
  · obtain ⟨p, a, z, rfl, hP, hz, k⟩ := h
    have nd := scBent.nd
    have big : 8000002 ≤ sizeLine := by decide
    refine ⟨_, (pss_cons (ps_set (i := 2) nd rfl (Or.inl rfl) (pe_cal c_law_draw (hr.mono (by decide)) rfl (pa_cons (pv 0) (pa_cons pe_int pa_nil))))
      (pss_cons (ps_set (i := 3) nd rfl (Or.inl rfl) (pe_cal c_law_draw (hr.mono (by decide)) rfl (pa_cons (pv 0) (pa_cons (pe_op op_addX (b_len K B (pa_cons (pv 1) pa_nil)) pe_int) pa_nil))))
      (pss_cons (ps_if (pt_cmpR op_ltX (pv 2) pe_int (nomark _)) (pss_cons (ps_set (i := 4) nd rfl (Or.inl rfl) (pe_ix (ix_X K hr.units) (pe_lst (pa_cons (pe_cal c_law_sign (hr.mono (by decide)) rfl (pa_cons (pv 0) pa_nil)) (pa_cons pe_str (pa_cons (pe_cal c_law_sign (hr.mono (by decide)) rfl (pa_cons (pv 0) pa_nil)) pa_nil)))) (pv 2) (fun _ _ => rfl)))
      (pss_one (ps_ret (pe_op op_addX (pe_op op_addX (pe_slice (sl_K K) (pv 1) po_none (po_some (pv 3))) (pv 4)) (pe_slice (sl_K K) (pv 1) (po_some (pe_op op_addX (pv 3) (b_int B (pa_cons (pe_cmpR op_gt (pv 2) pe_int (nomark _)) pa_nil)))) po_none))))) pss_nil)
      (pss_cons (ps_set (i := 5) nd rfl (Or.inl rfl) (m_split K (pv 1) (pa_cons pe_str pa_nil)))
      (pss_cons (ps_set (i := 6) nd rfl (Or.inl rfl) (pe_cal c_law_draw (hr.mono (by decide)) rfl (pa_cons (pv 0) (pa_cons (b_len K B (pa_cons (pv 5) pa_nil)) pa_nil))))
      (pss_cons (ps_set (i := 7) nd rfl (Or.inl rfl) (pe_cal c_law_draw (hr.mono (by decide)) rfl (pa_cons (pv 0) (pa_cons (b_len K B (pa_cons (pv 5) pa_nil)) pa_nil))))
      (pss_cons (ps_if (pt_cmpR (op_eqX hr.units) (pv 2) pe_int (nomark _)) (pss_cons (ps_asg (pe_tup (pa_cons (pe_ix (ix_X K hr.units) (pv 5) (pv 7) (fun _ _ => rfl)) (pa_cons (pe_ix (ix_X K hr.units) (pv 5) (pv 6) (fun _ _ => rfl)) pa_nil))) (pg_tupK (n := 2) K rfl (pgs_cons (pg_sub (pv 5) (pv 6) (set_X hr.units)) (pgs_cons (pg_sub (pv 5) (pv 7) (set_X hr.units)) pgs_nil))))
      (pss_one (ps_ret (m_join K pe_str (pa_cons (pv 5) pa_nil))))) pss_nil)
      (pss_cons (ps_set (i := 8) nd rfl (Or.inl rfl) (m_split K (pe_ix (ix_X K hr.units) (pv 5) (pv 6) (fun _ _ => rfl)) (pa_cons pe_str pa_nil)))
      (pss_cons (ps_set (i := 9) nd rfl (Or.inl rfl) (m_split K (pe_ix (ix_X K hr.units) (pv 5) (pv 7) (fun _ _ => rfl)) (pa_cons pe_str pa_nil)))
      (pss_cons (ps_asg (pe_ix (ix_X K hr.units) (pv 9) (pe_cal c_law_draw (hr.mono (by decide)) rfl (pa_cons (pv 0) (pa_cons (b_len K B (pa_cons (pv 9) pa_nil)) pa_nil))) (fun _ _ => rfl)) (pg_sub (pv 8) (pe_cal c_law_draw (hr.mono (by decide)) rfl (pa_cons (pv 0) (pa_cons (b_len K B (pa_cons (pv 8) pa_nil)) pa_nil))) (set_X hr.units)))
      (pss_cons (ps_asg (m_join K pe_str (pa_cons (pv 8) pa_nil)) (pg_sub (pv 5) (pv 6) (set_X hr.units)))
      (pss_one (ps_ret (m_join K pe_str (pa_cons (pv 5) pa_nil))))))))))))))), ?_⟩
    refine ⟨_, rfl, p, a, 6, rfl, hP, by decide, by decide, fun kd H1 k0 k1 v1 e1 => ?_⟩
    have b1 : But p H H1 := But.of_eq e1
    refine ⟨_, rfl, _, rfl, _, _, rfl, ⟨by omega, rfl⟩, .int (nil_ ⟨p, a, _, rfl, hP.but b1 v1, by omega, by omega, fun at_ H2 a0 a1 v2 e2 => ?_⟩)⟩
    have b2 := b1.trans (But.of_eq e2)
    obtain ⟨ja, rfl⟩ := Int.eq_ofNat_of_zero_le a0
    refine ⟨_, rfl, .int ⟨_, rfl, ite2 (fun h3 => ?_) (fun _ => ?_)⟩⟩
    · have h3 : kd < 3 := of_decide_eq_true h3
      refine ⟨_, rfl, nil_ ⟨p, a, rfl, hP.but b2 v2, fun z1 H3 l1 v3 b3 => ?_⟩⟩
      refine ⟨_, rfl, nil_ ⟨p, a, rfl, hP.but (b2.trans b3) v3, fun z2 H4 l2 v4 b4 => nil_ ⟨(by show 3 ≤ sizeLine; decide), fun l hl => ?_⟩⟩⟩
      have s5 := Same.new (o := .lst [.str z1, .str "", .str z2]) hl
      have e5 : upd H4 l (.lst [.str z1, .str "", .str z2]) l = some (.lst [.str z1, .str "", .str z2]) := upd_same
      generalize upd H4 l (.lst [.str z1, .str "", .str z2]) = H5 at s5 e5 ⊢
      obtain ⟨x, hx, mx⟩ := at_mem (m := 3) (xs := [.str z1, .str "", .str z2]) rfl k0 h3
      obtain ⟨nw, rfl, nl⟩ : ∃ nw : Str, x = .str nw ∧ nw.length ≤ 1 := by
        simp only [List.mem_cons, List.not_mem_nil, or_false] at mx
        rcases mx with rfl | rfl | rfl
        · exact ⟨z1, rfl, l1⟩
        · exact ⟨"", rfl, by decide⟩
        · exact ⟨z2, rfl, l2⟩
      refine ⟨_, rfl, .lst (.of e5) hx ?_⟩
      have c1 := slice_le z none (some (ja : Int))
      have sl : (Txt.slice z none (some (ja : Int)) ++ nw).length ≤ z.length + 1 := by rw [len_app]; omega
      refine ⟨_, rfl, _, rfl, _, rfl, .str (by omega) ⟨_, rfl, .str (by rw [← len_app]; omega) ⟨_, rfl, _, rfl, _, rfl, _, _, rfl, rfl, nil_ ⟨_, rfl, .bl (.int ⟨_, rfl, .str (by omega) ?_⟩)⟩⟩⟩⟩
      generalize (some ((ja : Int) + if decide (0 < kd) = true then 1 else 0)) = lo
      have c2 := slice_le z lo none
      refine .str (by omega) (k _ H5 (by rw [len_app]; omega) (penKeep s5 v4) (((b2.trans b3).trans b4).trans (But.of_same s5)))
    refine ⟨_, rfl, rfl, _, _, rfl, rfl, by decide, by omega, fun l hl => ?_⟩
    have lsl : z.length + 1 = sumL (Txt.split z "\n") + (Txt.split z "\n").length := by rw [sp10]; exact split_sum
    have lpt : ∀ l ∈ Txt.split z "\n", l.length ≤ z.length := fun l hl => by rw [sp10] at hl; exact split_part hl
    have lne : Txt.split z "\n" ≠ [] := SP.split_ne _ _
    have s3 := Same.new (o := .lst (List.map V.str (Txt.split z "\n"))) hl
    have e3 : upd H2 l (.lst (List.map V.str (Txt.split z "\n"))) l = some (.lst (List.map V.str (Txt.split z "\n"))) := upd_same
    have nlp : l ≠ p := Ne.symm (v2.ne hl)
    have hl0 : H l = none := b2.free nlp hl
    generalize upd H2 l (.lst (List.map V.str (Txt.split z "\n"))) = H3 at s3 e3 ⊢
    generalize Txt.split z "\n" = ls at *
    have v3 := penKeep s3 v2
    have b3 := b2.trans (But.of_same s3)
    have lpos : 0 < ls.length := List.length_pos_iff.mpr lne
    have mll : (List.map V.str ls).length = ls.length := List.length_map ..
    refine ⟨_, rfl, _, rfl, _, _, rfl, Or.inl ⟨_, .of e3, rfl⟩, nil_ ⟨p, a, _, rfl, hP.but b3 v3, by rw [mll]; omega, by rw [mll]; omega, fun one H4 o0 o1 v4 e4 => ?_⟩⟩
    have e4' := (e4 l nlp).trans e3
    have b4 := b3.trans (But.of_eq e4)
    refine ⟨_, rfl, _, rfl, _, _, rfl, Or.inl ⟨_, .of e4', rfl⟩, nil_ ⟨p, a, _, rfl, hP.but b4 v4, by rw [mll]; omega, by rw [mll]; omega, fun other H5 p0 p1 v5 e5 => ?_⟩⟩
    have e5' := (e5 l nlp).trans e4'
    have b5 := b4.trans (But.of_eq e5)
    obtain ⟨j1, rfl⟩ := Int.eq_ofNat_of_zero_le o0
    obtain ⟨j2, rfl⟩ := Int.eq_ofNat_of_zero_le p0
    have hj1 : j1 < ls.length := by rw [mll] at o1; omega
    have hj2 : j2 < ls.length := by rw [mll] at p1; omega
    have at1 : atI (List.map V.str ls) ((j1 : Nat) : Int) = some (.str ls[j1]) := atI_nat (by rw [List.getElem?_map, List.getElem?_eq_getElem hj1]; rfl)
    have at2 : atI (List.map V.str ls) ((j2 : Nat) : Int) = some (.str ls[j2]) := atI_nat (by rw [List.getElem?_map, List.getElem?_eq_getElem hj2]; rfl)
    have n1 := lpt _ (List.getElem_mem hj1)
    have n2 := lpt _ (List.getElem_mem hj2)
    generalize ls[j1] = x1 at at1 n1
    generalize ls[j2] = x2 at at2 n2
    clear e4 e5 e3 e4' o0 o1 p0 p1 v3 v4 b3 b4 s3 k0 k1 e1 e2 a1 a0
    have ixn : ∀ (ws : List Str) (j : Nat), j < ws.length → ixN (List.map V.str ws).length (j : Int) = some j := fun ws j h => by
      unfold ixN
      rw [if_pos (by omega), if_pos (by rw [List.length_map]; omega), Int.toNat_natCast]
    refine ⟨_, rfl, .sc rfl ⟨_, rfl, ite2 (fun _ => ?_) (fun _ => ?_)⟩⟩
    · refine ⟨_, rfl, _, rfl, .lst (.of e5') at2 ⟨_, rfl, _, rfl, .lst (.of e5') at1 (nil_ ⟨(by show 2 ≤ sizeLine; decide), fun t ht => ?_⟩)⟩⟩
      have s6 := Same.new (o := .tup [.str x2, .str x1]) ht
      have e6 : upd H5 t (.tup [.str x2, .str x1]) t = some (.tup [.str x2, .str x1]) := upd_same
      have el := s6 _ _ e5'
      generalize upd H5 t (.tup [.str x2, .str x1]) = H6 at s6 e6 el ⊢
      have v6 := penKeep s6 v5
      have b6 := b5.trans (But.of_same s6)
      refine ⟨t, _, rfl, .of e6, rfl, _, _, rfl, ⟨_, rfl, _, rfl, .lst (j := j1) el (ixn ls j1 hj1) ?_⟩⟩
      rw [map_setS]
      refine ⟨_, _, rfl, ⟨_, rfl, _, rfl, .lst (j := j2) upd_same (ixn (ls.set j1 x2) j2 (by rw [List.length_set]; exact hj2)) ?_⟩⟩
      rw [map_setS]
      refine ⟨rfl, ?_⟩
      have q1 := sum_set ls j1 x2
      have q2 := sum_set (ls.set j1 x2) j2 x1
      have q3 : ((ls.set j1 x2).set j2 x1).length = ls.length := by rw [List.length_set, List.length_set]
      have q4 : ("\n" : Str).length = 1 := by decide +kernel
      have q5 := len_join "\n" ((ls.set j1 x2).set j2 x1)
      have q6 : (((ls.set j1 x2).set j2 x1).map (·.length)).sum = sumL ((ls.set j1 x2).set j2 x1) := rfl
      rw [q3, q4, q6] at q5
      refine ⟨rfl, _, rfl, nil_ ⟨"\n", l, (ls.set j1 x2).set j2 x1, rfl, rfl, upd_same, by rw [q3, q4, q6]; omega, k _ _ (by omega) ((v6.upd (Ne.symm nlp)).upd (Ne.symm nlp)) ((b6.at hl0).at hl0)⟩⟩
    refine ⟨_, rfl, _, rfl, .lst (.of e5') at1 ⟨rfl, x1, _, rfl, rfl, by decide, by omega, fun lw hlw => ?_⟩⟩
    have wsl : x1.length + 1 = sumL (Txt.split x1 " ") + (Txt.split x1 " ").length := by rw [sp32]; exact split_sum
    have wne : Txt.split x1 " " ≠ [] := SP.split_ne _ _
    have s6 := Same.new (o := .lst (List.map V.str (Txt.split x1 " "))) hlw
    have e6 : upd H5 lw (.lst (List.map V.str (Txt.split x1 " "))) lw = some (.lst (List.map V.str (Txt.split x1 " "))) := upd_same
    have nwp : lw ≠ p := Ne.symm (v5.ne hlw)
    have nwl : lw ≠ l := fun z => by rw [z, e5'] at hlw; cases hlw
    have hw0 : H lw = none := b5.free nwp hlw
    generalize upd H5 lw (.lst (List.map V.str (Txt.split x1 " "))) = H6 at s6 e6 ⊢
    generalize Txt.split x1 " " = ws at *
    have l6 := s6 _ _ e5'
    have v6 := penKeep s6 v5
    have b6 := b5.trans (But.of_same s6)
    refine ⟨_, rfl, _, rfl, .lst (.of l6) at2 ⟨rfl, x2, _, rfl, rfl, by decide, by omega, fun lu hlu => ?_⟩⟩
    have upt : ∀ w ∈ Txt.split x2 " ", w.length ≤ x2.length := fun w hw => by rw [sp32] at hw; exact split_part hw
    have usl : (Txt.split x2 " ").length ≤ x2.length + 1 := by rw [sp32]; exact split_parts
    have une : Txt.split x2 " " ≠ [] := SP.split_ne _ _
    have s7 := Same.new (o := .lst (List.map V.str (Txt.split x2 " "))) hlu
    have e7 : upd H6 lu (.lst (List.map V.str (Txt.split x2 " "))) lu = some (.lst (List.map V.str (Txt.split x2 " "))) := upd_same
    have nup : lu ≠ p := Ne.symm (v6.ne hlu)
    generalize upd H6 lu (.lst (List.map V.str (Txt.split x2 " "))) = H7 at s7 e7 ⊢
    generalize Txt.split x2 " " = us at *
    have l7 := s7 _ _ l6
    have w7 := s7 _ _ e6
    have v7 := penKeep s7 v6
    have b7 := b6.trans (But.of_same s7)
    have uml : (List.map V.str us).length = us.length := List.length_map ..
    have wml : (List.map V.str ws).length = ws.length := List.length_map ..
    have upos : 0 < us.length := List.length_pos_iff.mpr une
    have wpos : 0 < ws.length := List.length_pos_iff.mpr wne
    refine ⟨_, rfl, _, rfl, _, rfl, _, _, rfl, Or.inl ⟨_, .of e7, rfl⟩, nil_ ⟨p, a, _, rfl, hP.but b7 v7, by rw [uml]; omega, by rw [uml]; omega, fun r8 H8 c0 c1 v8 e8 => ?_⟩⟩
    obtain ⟨j8, rfl⟩ := Int.eq_ofNat_of_zero_le c0
    have hj8 : j8 < us.length := by rw [uml] at c1; omega
    have b8 := b7.trans (But.of_eq e8)
    have n8 := upt _ (List.getElem_mem hj8)
    refine .lst (.of ((e8 lu nup).trans e7)) (v := .str us[j8]) (atI_nat (by rw [List.getElem?_map, List.getElem?_eq_getElem hj8]; rfl)) ?_
    generalize us[j8] = nw at n8
    have l8 := (e8 l nlp).trans l7
    have w8 := (e8 lw nwp).trans w7
    refine ⟨_, rfl, _, rfl, _, rfl, _, _, rfl, Or.inl ⟨_, .of w8, rfl⟩, nil_ ⟨p, a, _, rfl, hP.but b8 v8, by rw [wml]; omega, by rw [wml]; omega, fun r9 H9 d0 d1 v9 e9 => ?_⟩⟩
    obtain ⟨j9, rfl⟩ := Int.eq_ofNat_of_zero_le d0
    have hj9 : j9 < ws.length := by rw [wml] at d1; omega
    have b9 := b8.trans (But.of_eq e9)
    have l9 := (e9 l nlp).trans l8
    have w9 := (e9 lw nwp).trans w8
    refine .lst (j := j9) w9 (ixn ws j9 hj9) ?_
    rw [map_setS]
    have q1 := sum_set ws j9 nw
    have q3 : (ws.set j9 nw).length = ws.length := List.length_set ..
    have q4 : (" " : Str).length = 1 := by decide +kernel
    have q5 := len_join " " (ws.set j9 nw)
    have q6 : ((ws.set j9 nw).map (·.length)).sum = sumL (ws.set j9 nw) := rfl
    rw [q3, q4, q6] at q5
    refine ⟨rfl, _, rfl, nil_ ⟨" ", lw, ws.set j9 nw, rfl, rfl, upd_same, by rw [q3, q4, q6]; omega, ?_⟩⟩
    have lA : upd H9 lw (.lst (List.map V.str (ws.set j9 nw))) l = some (.lst (List.map V.str ls)) := by rw [upd_ne (Ne.symm nwl)]; exact l9
    refine ⟨_, rfl, _, rfl, .lst (j := j1) lA (ixn ls j1 hj1) ?_⟩
    rw [map_setS]
    generalize Txt.join " " (ws.set j9 nw) = nl at q5
    have r1 := sum_set ls j1 nl
    have r3 : (ls.set j1 nl).length = ls.length := List.length_set ..
    have r4 : ("\n" : Str).length = 1 := by decide +kernel
    have r5 := len_join "\n" (ls.set j1 nl)
    have r6 : ((ls.set j1 nl).map (·.length)).sum = sumL (ls.set j1 nl) := rfl
    rw [r3, r4, r6] at r5
    refine ⟨rfl, _, rfl, nil_ ⟨"\n", l, ls.set j1 nl, rfl, rfl, upd_same, by rw [r3, r4, r6]; omega, k _ _ (by omega) ((v9.upd (Ne.symm nwp)).upd (Ne.symm nlp)) ((b9.at hw0).at hl0)⟩⟩
end
end K07
namespace K07
open PySem L2
section
variable {P : Program} {w : World} {K : PySem.W.Frag} {mg : Str → Option Value} {base : Heap}
theorem next_go {D : Ends} {σ : St} {H : Hp} (h : D.nx σ H) : tNext D σ H := h
theorem seq_inv {s r : TS} {D : Ends} {σ : St} {H : Hp} (Inv : St → Hp → Prop) (fin : ∀ σ' H', Inv σ' H' → r D σ' H') (main : ∀ N : St → Hp → Prop, (∀ σ' H', Inv σ' H' → N σ' H') → s { D with nx := N } σ H) : tSeq s r D σ H := main _ fin
theorem pe_fldK {X : Cx} (K : PySem.W.Frag) {e : Expr} {ta : TE} {f : Str} {pos : Pos} (he : PE X e ta) (hb : attributeBase e f X.env (eval e X.env) = eval e X.env) (hK : X.K = K := by rfl) : PE X (.Attribute e f pos) (tFldX K ta f) := by
  subst hK
  exact pe_fldX he hb
theorem tie_line {l : Str} {e : Str × Str} (h : tieO l = some e) : l = lineT e := by
  have hs : Txt.split l " " = [e.1, ">", e.2] := by
    unfold tieO at h
    generalize Txt.split l " " = q at h
    match q, h with
    | [x, y, u], h =>
      have h : (if y = ">" then some (x, u) else none) = some e := h
      split at h
      · rename_i hy
        cases h
        rw [hy]
      · cases h
  rw [line_words, ← hs, sp32, StrLaws.join_split]
theorem line_tie {e : Str × Str} (h : Nm e.1 ∧ Nm e.2) : tieO (lineT e) = some e := by
  unfold tieO
  rw [line_split h]
  show (if (">" : Str) = ">" then some (e.1, e.2) else none) = some e
  rw [if_pos rfl]
structure GW7 (z : Str) (ss : List Str) (ts : List (Str × Str)) : Prop where
  eq : z = webT ss ts
  gn : Gn ss
  nd : ts.Nodup
  few : ts.length ≤ 400
  inn : ∀ e ∈ ts, e.1 ∈ ss ∧ e.2 ∈ ss
theorem GW7.nm {z : Str} {ss : List Str} {ts : List (Str × Str)} (h : GW7 z ss ts) : ∀ e ∈ ts, Nm e.1 ∧ Nm e.2 := fun e he => ⟨h.gn.2.1 _ (h.inn e he).1, h.gn.2.1 _ (h.inn e he).2⟩
theorem ties_lines : ∀ {r : List Str} {ts : List (Str × Str)}, r.map tieO = ts.map some → r = ts.map lineT
  | [], [], _ => rfl
  | [], _ :: _, h => by cases h
  | _ :: _, [], h => by cases h
  | l :: r, e :: ts, h => by
    obtain ⟨h1, h2⟩ := List.cons.inj h
    rw [List.map_cons, tie_line h1, ties_lines h2]
theorem good_web {z : Str} (h : GoodL (Txt.split z "\n")) : ∃ ss ts, GW7 z ss ts := by
  have hj : Str.join (SP.one 10) (Txt.split z "\n") = z := by rw [sp10]; exact StrLaws.join_split _ _
  generalize Txt.split z "\n" = ls at h hj
  cases ls with
  | nil => exact h.elim
  | cons hd r =>
    obtain ⟨ss, h1, h2, ts, h3, h4, h5, h6⟩ := h
    refine ⟨ss, ts, ?_, h2, h4, h5, h6⟩
    have eh : hd = headT ss := by
      unfold headT
      rw [join_eq, ← h1, sp32, StrLaws.join_split]
    rw [← hj, eh, ties_lines h3]
    unfold webT linesT
    rw [join_eq, sp10]
theorem web_good {z : Str} {ss : List Str} {ts : List (Str × Str)} (h : GW7 z ss ts) : GoodL (Txt.split z "\n") := by
  rw [h.eq, web_split h.gn.2.1 h.nm]
  refine ⟨ss, head_split h.gn.2.1, h.gn, ts, ?_, h.nd, h.few, h.inn⟩
  rw [List.map_map]
  exact List.map_congr_left fun e he => line_tie (h.nm e he)
theorem good_pre {ls : List Str} {m n : Nat} (hm : 1 ≤ m) (hmn : m ≤ n) (h : GoodL (ls.take n)) : GoodL (ls.take m) := by
  cases ls with
  | nil => rw [List.take_nil] at h; exact h.elim
  | cons hd r =>
    obtain ⟨m, rfl⟩ : ∃ k, m = k + 1 := ⟨m - 1, by omega⟩
    obtain ⟨n, rfl⟩ : ∃ k, n = k + 1 := ⟨n - 1, by omega⟩
    rw [List.take_succ_cons] at h ⊢
    obtain ⟨ss, h1, h2, ts, h3, h4, h5, h6⟩ := h
    refine ⟨ss, h1, h2, ts.take m, ?_, h4.sublist (List.take_sublist ..), by rw [List.length_take]; omega, fun e he => h6 e (List.mem_of_mem_take he)⟩
    rw [List.map_take, List.map_take] at *
    rw [← h3, List.take_take, Nat.min_eq_left (by omega)]
noncomputable def spReadB (C : Addr) : Sp := fun vs H Q E => ∃ z : Str, vs = [.str z] ∧ z.length ≤ 8000000 ∧ (GoodL (Txt.split z "\n") → ∀ v H', Same H H' → Q v H') ∧ (¬ GoodL (Txt.split z "\n") → ∀ (i : Nat) d H', FB (Txt.split z "\n") i → Same H H' → H d = none → H' d = some (.xd [("line", .int i)]) → E (.ref C) (some d) H')
theorem ok_readB {f : Addr} {fd : FuncData} {C : Addr} (F : FnOk P w K mg base CX0 6 f fd ["text"] spRead) (G : FnOk P w K mg base (CX1 P w) 6 f fd ["text"] (spReadX C)) : FnOk P w K mg base (CX1 P w) 6 f fd ["text"] (spReadB C) :=
  ⟨fun vs H Q E ⟨z, e, _⟩ => by rw [e]; rfl, fun A outer s H args us vs Q E hr he hb hv ⟨z, e, hz, kg, kb⟩ => by
    by_cases q : GoodL (Txt.split z "\n")
    · obtain ⟨ss, ts, g⟩ := good_web q
      exact F.lift.run A outer s H args us vs Q E hr he hb hv ⟨ss, ts, by rw [e, g.eq], g.gn.2.2, g.gn.1, g.gn.2.1, g.few, g.nd, g.inn, fun q' H' s' _ => kg q _ H' s'⟩
    · exact G.run A outer s H args us vs Q E hr he hb hv ⟨z, e, hz, q, kb q⟩⟩
noncomputable def LR (z : Str) (r : V) : Prop := (GoodL (Txt.split z "\n") ∧ r = .non) ∨ ∃ i : Nat, r = .int i ∧ FB (Txt.split z "\n") i ∧ ¬ GoodL (Txt.split z "\n")
noncomputable def spLine : Sp := fun vs H Q _ => ∃ z : Str, vs = [.str z] ∧ z.length ≤ 8000000 ∧ ∀ r H', Same H H' → LR z r → Q r H'
theorem scLine : FnScope ["_law_text_here", "_law_line_here", "e"] ["_law_text_here"] (defScope sLine) := ⟨rfl, rfl, rfl, by decide +kernel, rfl, by decide +kernel, by decide +kernel⟩
theorem ok_line {f : Addr} {fd : FuncData} {ec : Str → Addr} (F : Fun K "_law_line" "_law_line" sLine f fd) (B : Blt mg) (Er : Errs K mg base ec excL excC) (G : XGet K (ec "NoText") "line") (xread_web : CalX P w K mg base 6 "read_web" ["text"] (spReadB (ec "NoText"))) : FnOk P w K mg base CX0 7 f fd ["_law_text_here"] spLine := by
  refine F.ok scLine (fun vs H Q E h => ?_) (fun cdv A outer s H vs Q E hr h => ?_)
  · obtain ⟨z, rfl, _⟩ := h
    rfl
  · obtain ⟨z, rfl, hz, k⟩ := h
    have nd := scLine.nd
    obtain ⟨bmD, xD, hDb, _⟩ := Er.at_ "NoText" (by decide)
    refine ⟨_, (pss_cons (ps_set (i := 1) nd rfl (Or.inl rfl) pe_non)
      (pss_cons (ps_tryC (i := 2) xread_web (hr.mono (by decide)) rfl (fun _ => (pa_cons (pv 0) pa_nil)) rfl rfl rfl (Er.b "NoText" (by decide)) xD hDb nd rfl rfl (fun _ _ => (pss_one (ps_set (i := 1) nd rfl (Or.inl rfl) (pe_fldK K (pv 2) rfl)))))
      (pss_one (ps_ret (pv 1))))), ?_⟩
    refine ⟨_, rfl, nil_ ⟨z, rfl, hz, fun g v H1 s1 => ?_, fun g i d H1 fb s1 hd0 hd => ⟨ec "NoText", bmD, rfl, xD, by simp, fun a ha => ?_⟩⟩⟩
    · exact ⟨_, rfl, k _ _ s1 (.inl ⟨g, rfl⟩)⟩
    · have s2 := s1.trans (Same.new (o := xObj a (ec "NoText") (some d)) ha)
      have nda : d ≠ a := ne_of_none hd ha
      refine ⟨_, rfl, a, ec "NoText", d, _, .int i, rfl, upd_same, by rw [upd_ne nda]; exact hd, rfl, Er.f "NoText" (by decide), G, ?_⟩
      exact ⟨_, rfl, k _ _ s2 (.inr ⟨i, rfl, fb, g⟩)⟩
noncomputable def spRight : Sp := fun vs H Q _ => ∃ z : Str, vs = [.str z] ∧ z.length ≤ 8000000 ∧ ∀ H', Same H H' → Q (.bl true) H'
theorem scRight : FnScope ["_law_text_here", "_law_line_here", "_law_web", "_law_lines"] ["_law_text_here"] (defScope sRight) := ⟨rfl, rfl, rfl, by decide +kernel, rfl, by decide +kernel, by decide +kernel⟩
theorem ok_right {f : Addr} {fd : FuncData} (F : Fun K "_law_right" "_law_right" sRight f fd) (B : Blt mg) (c_law_line : Cal P w K mg base 7 "_law_line" ["_law_text_here"] spLine) (cread_web : Cal P w K mg base 6 "read_web" ["text"] spRead) (cshow_web : Cal P w K mg base 1 "show_web" ["web"] spShow) (cweb_of : Cal P w K mg base 5 "web_of" ["things", "ties"] spWebOf) : FnOk P w K mg base CX0 8 f fd ["_law_text_here"] spRight := by
  refine F.ok scRight (fun vs H Q E h => ?_) (fun cdv A outer s H vs Q E hr h => ?_)
  · obtain ⟨z, rfl, _⟩ := h
    rfl
  · obtain ⟨z, rfl, hz, k⟩ := h
    have nd := scRight.nd
    have big : 8000002 ≤ sizeLine := by decide
    refine ⟨_, (pss_cons (ps_set (i := 1) nd rfl (Or.inl rfl) (pe_cal c_law_line (hr.mono (by decide)) rfl (pa_cons (pv 0) pa_nil)))
      (pss_cons (ps_if (pt_cmpR op_isX (pv 1) pe_non (nomark _)) (pss_cons (ps_set (i := 2) nd rfl (Or.inl rfl) (pe_cal cread_web (hr.mono (by decide)) rfl (pa_cons (pv 0) pa_nil)))
      (pss_one (ps_ret (pe_and (pe_cmpR (op_eqX hr.units) (pe_cal cshow_web (hr.mono (by decide)) rfl (pa_cons (pv 2) pa_nil)) (pv 0) (nomark _)) (pe_one (pe_cmpR (op_eqX hr.units) (b_repr hr.gd hr.units B (pa_cons (pe_cal cweb_of (hr.mono (by decide)) rfl (pa_cons (b_list K rfl B (pa_cons (pe_ix (ix_X K hr.units) (pv 2) pe_int (fun _ _ => rfl)) pa_nil)) (pa_cons (b_list K rfl B (pa_cons (pe_ix (ix_X K hr.units) (pv 2) pe_int (fun _ _ => rfl)) pa_nil)) pa_nil))) pa_nil)) (b_repr hr.gd hr.units B (pa_cons (pv 2) pa_nil)) (nomark _))))))) pss_nil)
      (pss_cons (ps_set (i := 3) nd rfl (Or.inl rfl) (m_split K (pv 0) (pa_cons pe_str pa_nil)))
      (pss_cons (ps_if (PW.pt (pw_or (pt_val (b_isi K "bool" B (pa_cons (pv 1) (pa_cons (g_bool B) pa_nil)))) (pw_or (pt_not (pt_val (b_isi K "int" B (pa_cons (pv 1) (pa_cons (g_int B) pa_nil))))) (pw_or1 (pt_not (pt_chain op_leX op_ltX pe_int (pv 1) (b_len K B (pa_cons (pv 3) pa_nil)))))))) (pss_one (ps_ret pe_bl)) pss_nil)
      (pss_cons (ps_if (PW.pt (pw_and (pt_cmpR op_gt (pv 1) pe_int (nomark _)) (pw_and1 (pt_cmpR op_isNotX (pe_cal c_law_line (hr.mono (by decide)) rfl (pa_cons (m_join K pe_str (pa_cons (pe_slice (sl_K K) (pv 3) po_none (po_some (pv 1))) pa_nil)) pa_nil)) pe_non (nomark _))))) (pss_one (ps_ret pe_bl)) pss_nil)
      (pss_one (ps_ret (pe_cmpR (op_eqX hr.units) (pe_cal c_law_line (hr.mono (by decide)) rfl (pa_cons (m_join K pe_str (pa_cons (pe_slice (sl_K K) (pv 3) po_none (po_some (pe_op op_addX (pv 1) pe_int))) pa_nil)) pa_nil)) (pv 1) (nomark _))))))))), ?_⟩
    refine ⟨_, rfl, nil_ ⟨z, rfl, hz, fun r H1 s1 lr => ?_⟩⟩
    rcases lr with ⟨g, rfl⟩ | ⟨i, rfl, fb, ng⟩
    · obtain ⟨ss, ts, W7⟩ := good_web g
      have tnm := W7.nm
      have S := sw_web W7.gn.2.1 W7.gn.2.2 tnm W7.few
      refine ⟨_, rfl, .non ⟨_, rfl, ite2 (fun _ => ?_) (fun h => absurd rfl h)⟩⟩
      refine ⟨_, rfl, nil_ ⟨ss, ts, by rw [W7.eq]; rfl, W7.gn.2.2, W7.gn.1, W7.gn.2.1, W7.few, W7.nd, W7.inn, fun q H2 s2 r2 => ?_⟩⟩
      have W2 : Web H2 (.ref q) ss ts := ⟨r2, W7.gn.1, W7.gn.2.1, W7.gn.2.2, by have := W7.few; omega, W7.inn⟩
      refine ⟨_, rfl, nil_ ⟨q, ss, ts, rfl, W2, fun H3 s3 => ⟨_, rfl, .sc rfl ?_⟩⟩⟩
      have ez : decide (V.str (webT ss ts) = V.str z) = true := decide_eq_true (by rw [W7.eq])
      refine ⟨_, rfl, ?_⟩
      show (if decide (V.str (webT ss ts) = V.str z) = true then _ else _)
      rw [ez, if_pos rfl]
      obtain ⟨q', a1, a2, xs, e0, hq, ha1, ha2, rp⟩ := web_at (r2.same s3)
      cases e0
      have rl := rp.len
      rw [List.length_map] at rl
      refine ⟨_, rfl, .tup (.of hq) rfl (nil_ ⟨_, rfl, .seq (.inr (.of ha1)) fun l1 h1 => ?_⟩)⟩
      have s4 := Same.new (o := .lst (List.map V.str ss)) h1
      have e4 : upd H3 l1 (.lst (List.map V.str ss)) l1 = some (.lst (List.map V.str ss)) := upd_same
      generalize upd H3 l1 (.lst (List.map V.str ss)) = H4 at s4 e4 ⊢
      refine ⟨_, rfl, .tup (.of (s4 _ _ hq)) rfl (nil_ ⟨_, rfl, .seq (.inr (.of (s4 _ _ ha2))) fun l2 h2 => nil_ ?_⟩)⟩
      have s5 := Same.new (o := .lst xs) h2
      have e5 : upd H4 l2 (.lst xs) l2 = some (.lst xs) := upd_same
      generalize upd H4 l2 (.lst xs) = H5 at s5 e5 ⊢
      have s35 := s4.trans s5
      refine ⟨l1, l2, ss, ts, xs, rfl, .inl (s5 _ _ e4), W7.gn.2.2, W7.gn.1, W7.gn.2.1, .inl e5, rp.same s35, W7.few, W7.nd, W7.inn, fun q2 H6 s6 r6 => ?_⟩
      refine nil_ ⟨_, rfl, .tr r6 S.sb S.hd S.dp S.ln ?_⟩
      have s26 := (s3.trans s35).trans s6
      refine ⟨_, rfl, nil_ ⟨_, rfl, .tr (r2.same s26) S.sb S.hd S.dp S.ln (.sc rfl ?_)⟩⟩
      show Q (.bl (decide (V.str (webD ss ts).shown = V.str (webD ss ts).shown))) _
      rw [decide_eq_true rfl]
      exact k _ ((s1.trans s2).trans s26)
    · refine ⟨_, rfl, .non ⟨_, rfl, ite2 (fun h => ?_) (fun _ => ?_)⟩⟩
      · cases h
      refine ⟨_, rfl, rfl, _, _, rfl, rfl, by decide, by omega, fun l hl => ?_⟩
      have lsl : z.length + 1 = sumL (Txt.split z "\n") + (Txt.split z "\n").length := by rw [sp10]; exact split_sum
      have lfr : ∀ l ∈ Txt.split z "\n", (10 : Nat) ∉ l.cps.toList := fun l hl => by rw [sp10] at hl; exact SP.split_free z 10 (by decide) l hl
      have s2 := Same.new (o := .lst (List.map V.str (Txt.split z "\n"))) hl
      have e2 : upd H1 l (.lst (List.map V.str (Txt.split z "\n"))) l = some (.lst (List.map V.str (Txt.split z "\n"))) := upd_same
      generalize upd H1 l (.lst (List.map V.str (Txt.split z "\n"))) = H2 at s2 e2 ⊢
      generalize Txt.split z "\n" = ls at *
      have mll : (List.map V.str ls).length = ls.length := List.length_map ..
      obtain ⟨hil, hgd, hbd⟩ := fb
      have jn : ∀ m, 1 ≤ m → m ≤ ls.length → (Txt.join "\n" (ls.take m)).length ≤ 8000000 ∧ Txt.split (Txt.join "\n" (ls.take m)) "\n" = ls.take m ∧ ((ls.take m).map (·.length)).sum + (ls.take m).length * ("\n" : Str).length ≤ 16777216 := fun m h1 h2 => by
        have q4 : ("\n" : Str).length = 1 := by decide +kernel
        have q6 : ((ls.take m).map (·.length)).sum ≤ sumL ls - (ls.length - m) ∨ ((ls.take m).map (·.length)).sum ≤ sumL ls := by
          have := congrArg sumL (List.take_append_drop m ls)
          have e : sumL (ls.take m ++ ls.drop m) = sumL (ls.take m) + sumL (ls.drop m) := by unfold sumL; rw [List.map_append, List.sum_append]
          rw [e] at this
          right
          show sumL (ls.take m) ≤ _
          omega
        have q6 : sumL (ls.take m) ≤ sumL ls := q6.elim (fun h => Nat.le_trans h (Nat.sub_le ..)) id
        have q7 : (ls.take m).length = m := by rw [List.length_take]; omega
        have ne : ls.take m ≠ [] := fun z => by rw [z] at q7; simp at q7; omega
        have q8 := join_sum 10 ne
        rw [q7] at q8
        refine ⟨by rw [join_eq, sp10]; omega, ?_, by rw [q4, q7]; show sumL (ls.take m) + m * 1 ≤ _; omega⟩
        rw [join_eq, sp10]
        exact SP.split_join 10 (by decide) _ ne fun w hw => lfr w (List.mem_of_mem_take hw)
      obtain ⟨tt, ty, _, t2, t3, _⟩ := ty_thg (K := K) (H := H2) (Thg.int (i : Int))
      refine ⟨_, rfl, _, tt, _, rfl, ty, t3, _, rfl, ite2 (fun h => by cases h) (fun _ => ?_)⟩
      refine ⟨_, rfl, _, tt, _, rfl, ty, t2, _, rfl, ite2 (fun h => by cases h) (fun _ => ?_)⟩
      refine ⟨_, rfl, .int ⟨_, rfl, ite2 (fun _ => ?_) (fun h => absurd (decide_eq_true (by omega)) h)⟩⟩
      refine ⟨_, rfl, _, _, rfl, Or.inl ⟨_, .of e2, rfl⟩, .int ⟨_, rfl, ite2 (fun h => ?_) (fun _ => ?_)⟩⟩
      · exfalso
        have h : ¬ (i : Int) < ((List.map V.str ls).length : Nat) := by simpa using h
        rw [mll] at h
        omega
      have cut : ∀ m, m ≤ ls.length → cutV (List.map V.str ls) none (some ((m : Nat) : Int)) = List.map V.str (ls.take m) := fun m hm => by rw [cutV_to _ _ (by rw [mll]; exact hm), List.map_take]
      have s02 := s1.trans s2
      refine next_go ?_
      dsimp only
      refine seq_inv (fun σ H' => σ = [some (.str z), some (.int (i : Int)), none, some (.ref l)] ∧ Same H2 H') ?rest fun N hN => ?_
      case rest =>
        rintro σ H3 ⟨rfl, s3⟩
        obtain ⟨j1, j2, j3⟩ := jn (i + 1) (by omega) (by omega)
        refine ⟨rfl, _, rfl, _, rfl, .int ⟨_, rfl, .lst (.of (s3 _ _ e2)) fun lc hlc => ?_⟩⟩
        rw [show ((i : Nat) : Int) + 1 = ((i + 1 : Nat) : Int) by omega, cut (i + 1) (by omega)]
        refine nil_ ⟨"\n", lc, ls.take (i + 1), rfl, rfl, upd_same, j3, nil_ ⟨_, rfl, j1, fun r H5 s5 lr => ?_⟩⟩
        have hr' : r = .int (i : Int) := by
          unfold LR at lr
          rw [j2] at lr
          rcases lr with ⟨g, _⟩ | ⟨j, rfl, ⟨f1, f2, f3⟩, _⟩
          · exact absurd g hbd
          · have hj : j = i := by
              rw [List.length_take] at f1
              rw [List.take_take] at f3
              by_cases q : j < i
              · exfalso
                rw [Nat.min_eq_left (by omega)] at f3
                rcases hgd with h0 | h0
                · omega
                · exact f3 (good_pre (by omega) (by omega) h0)
              · omega
            rw [hj]
        subst hr'
        refine ⟨_, rfl, .sc rfl ?_⟩
        show Q (.bl (decide (V.int (i : Int) = V.int (i : Int)))) _
        rw [decide_eq_true rfl]
        exact k _ (((s02.trans s3).trans (Same.new hlc)).trans s5)
      refine ⟨_, rfl, _, _, rfl, rfl, _, rfl, ite2 (fun h => ?_) (fun _ => iteF (hN _ _ ⟨rfl, Same.refl _⟩))⟩
      have h : 0 < i := by
        have : (0 : Int) < (i : Int) := of_decide_eq_true h
        omega
      obtain ⟨j1, j2, j3⟩ := jn i h (by omega)
      refine ⟨rfl, _, rfl, _, rfl, _, rfl, .lst (.of e2) fun lc hlc => ?_⟩
      rw [cut i (by omega)]
      refine nil_ ⟨"\n", lc, ls.take i, rfl, rfl, upd_same, j3, nil_ ⟨_, rfl, j1, fun r H5 s5 lr => ?_⟩⟩
      have hr' : r = .non := by
        unfold LR at lr
        rw [j2] at lr
        rcases lr with ⟨_, e⟩ | ⟨j, _, _, ng'⟩
        · exact e
        · exact absurd (hgd.elim (fun z => absurd z (by omega)) id) ng'
      subst hr'
      exact .non ⟨_, rfl, iteF (hN _ _ ⟨rfl, (Same.new hlc).trans s5⟩)⟩
end
end K07
namespace K07
open PySem L2
section
variable {P : Program} {w : World} {K : PySem.W.Frag} {mg : Str → Option Value} {base : Heap}
noncomputable def spLaw (K : PySem.W.Frag) : Sp := fun vs H Q _ => ∃ (a : Addr) (ns : List Int), vs = [.ref a] ∧ SqL K H a (ns.map V.int) ∧ ∀ H', Q (.bl true) H'
theorem scLaw : FnScope ["_law_script", "_law_pen_here", "_law_things_here", "_law_text_here", "_law_k", "_law_bent_here", "_law_j"] ["_law_script"] (defScope sLaw) := ⟨rfl, rfl, rfl, by decide +kernel, rfl, by decide +kernel, by decide +kernel⟩
theorem ok_law {f : Addr} {fd : FuncData} (F : Fun K "law" "law" sLaw f fd) (B : Blt mg) (c_law_pen : Cal P w K mg base 1 "_law_pen" ["_law_script"] (spPen K)) (c_law_draw : Cal P w K mg base 1 "_law_draw" ["_law_pen_here", "_law_most"] (spDraw K)) (c_law_things : Cal P w K mg base 3 "_law_things" ["_law_pen_here"] (spThings K)) (c_law_ties : Cal P w K mg base 2 "_law_ties" ["_law_pen_here", "_law_things_here"] (spTies K)) (c_law_text : Cal P w K mg base 1 "_law_text" ["_law_things_here", "_law_ties_here"] spText)
    (c_law_bent : Cal P w K mg base 3 "_law_bent" ["_law_pen_here", "_law_text_here"] (spBent K)) (c_law_right : Cal P w K mg base 8 "_law_right" ["_law_text_here"] spRight) (c_law_line : Cal P w K mg base 7 "_law_line" ["_law_text_here"] spLine) (cread_web : Cal P w K mg base 6 "read_web" ["text"] spRead) (cshow_web : Cal P w K mg base 1 "show_web" ["web"] spShow) : FnOk P w K mg base CX0 9 f fd ["_law_script"] (spLaw K) := by
  refine F.ok scLaw (fun vs H Q E h => ?_) (fun cdv A outer s H vs Q E hr h => ?_)
  · obtain ⟨a, ns, rfl, _⟩ := h
    rfl
  · obtain ⟨a, ns, rfl, hS, k⟩ := h
    have nd := scLaw.nd
    refine ⟨_, (pss_cons (ps_set (i := 1) nd rfl (Or.inl rfl) (pe_cal c_law_pen (hr.mono (by decide)) rfl (pa_cons (pv 0) pa_nil)))
      (pss_cons (ps_set (i := 2) nd rfl (Or.inl rfl) (pe_cal c_law_things (hr.mono (by decide)) rfl (pa_cons (pv 1) pa_nil)))
      (pss_cons (ps_set (i := 3) nd rfl (Or.inl rfl) (pe_cal c_law_text (hr.mono (by decide)) rfl (pa_cons (pv 2) (pa_cons (pe_cal c_law_ties (hr.mono (by decide)) rfl (pa_cons (pv 1) (pa_cons (pv 2) pa_nil))) pa_nil))))
      (pss_cons (ps_for PassesOwn.never rfl (pi_range1 rfl B.range (pa_cons (pe_ix (ix_X K hr.units) (pe_lst (pa_cons (pe_op op_addX pe_int (pe_cal c_law_draw (hr.mono (by decide)) rfl (pa_cons (pv 1) (pa_cons pe_int pa_nil)))) (pa_cons pe_int pa_nil))) (b_int B (pa_cons (pe_cmpR op_gt (b_len K B (pa_cons (pv 3) pa_nil)) pe_int (nomark _)) pa_nil)) (fun _ _ => rfl)) pa_nil)) (pg_name (i := 4) nd rfl (Or.inl rfl)) (pss_cons (ps_set (i := 5) nd rfl (Or.inl rfl) (pv 3))
      (pss_cons (ps_for PassesOwn.never rfl (pi_range1 rfl B.range (pa_cons (pe_op op_addX pe_int (pe_cal c_law_draw (hr.mono (by decide)) rfl (pa_cons (pv 1) (pa_cons pe_int pa_nil)))) pa_nil)) (pg_name (i := 6) nd rfl (Or.inl rfl)) (pss_one (ps_set (i := 5) nd rfl (Or.inl rfl) (pe_cal c_law_bent (hr.mono (by decide)) rfl (pa_cons (pv 1) (pa_cons (pv 5) pa_nil))))))
      (pss_one (ps_if (pt_not (pt_val (pe_cal c_law_right (hr.mono (by decide)) rfl (pa_cons (pv 5) pa_nil)))) (pss_one (ps_ret pe_bl)) pss_nil)))))
      (pss_one (ps_ret (pe_and (pe_cmpR op_isX (pe_cal c_law_line (hr.mono (by decide)) rfl (pa_cons (pv 3) pa_nil)) pe_non (nomark _)) (pe_one (pe_cmpR (op_eqX hr.units) (pe_cal cshow_web (hr.mono (by decide)) rfl (pa_cons (pe_cal cread_web (hr.mono (by decide)) rfl (pa_cons (pv 3) pa_nil)) pa_nil)) (pv 3) (nomark _)))))))))), ?_⟩
    refine ⟨_, rfl, a, ns, rfl, hS, fun p H1 hP1 => ?_⟩
    refine ⟨_, rfl, p, a, rfl, hP1, fun n ss H2 h60 snd snm hn hn0 nnp v2 b2 => ?_⟩
    refine ⟨_, rfl, _, rfl, _, rfl, p, a, n, ss, rfl, hP1.but b2 v2, hn, nnp, h60, snd, snm, fun t ts H3 hT ht0 ntp v3 b3 => ?_⟩
    have hP3 := hP1.but (b2.trans b3) v3
    obtain ⟨refs, ht, rp⟩ := hT.at_
    have tnm : ∀ e ∈ ts, Nm e.1 ∧ Nm e.2 := fun e he => ⟨snm _ (hT.inn e he).1, snm _ (hT.inn e he).2⟩
    refine nil_ ⟨n, t, ss, ts, refs, rfl, b3 _ _ nnp hn, ht, rp, snm, h60, tnm, hT.few, fun H4 s4 => ?_⟩
    have W7 : GW7 (webT ss ts) ss ts := ⟨rfl, ⟨snd, snm, h60⟩, hT.nd, hT.few, hT.inn⟩
    have wln := web_len snm h60 tnm (by have := hT.few; omega : ts.length ≤ 401)
    have good := web_good W7
    generalize webT ss ts = z at wln good W7
    have v4 := penKeep s4 v3
    have big : 8000002 ≤ sizeLine := by decide
    have hP4 := hP3.but (But.of_same s4) v4
    clear hn hn0 ht0 v2 b2 b3 hS hP1 hP3 rp ht s4 v3 hT
    refine ⟨_, rfl, p, a, 7, rfl, hP4, by decide, by decide, fun r H5 r0 r1 v5 e5 => .int ?_⟩
    refine ⟨(by show 2 ≤ sizeLine; decide), fun l hl => ?_⟩
    have s6 := Same.new (o := .lst [.int (6 + r), .int 4]) hl
    have e6 : upd H5 l (.lst [.int (6 + r), .int 4]) l = some (.lst [.int (6 + r), .int 4]) := upd_same
    generalize upd H5 l (.lst [.int (6 + r), .int 4]) = H6 at s6 e6 ⊢
    have v6 := penKeep s6 v5
    have b6 : But p H4 H6 := (But.of_eq e5).trans (But.of_same s6)
    refine ⟨_, rfl, _, _, rfl, ⟨by omega, rfl⟩, _, _, rfl, rfl, nil_ ⟨_, rfl, .bl ?_⟩⟩
    obtain ⟨m, hat, hm⟩ : ∃ m : Nat, atI [V.int (6 + r), V.int 4] (if decide (2000 < (z.length : Int)) = true then 1 else 0) = some (.int (m : Int)) ∧ m ≤ 12 := by
      split
      · exact ⟨4, rfl, by omega⟩
      · obtain ⟨j, rfl⟩ := Int.eq_ofNat_of_zero_le r0
        exact ⟨6 + j, by show some (V.int (6 + (j : Int))) = some (V.int ((6 + j : Nat) : Int)); rw [Int.natCast_add]; rfl, by omega⟩
    refine .lst (.of e6) hat ⟨_, rfl, by omega, by omega, ?_⟩
    rw [Int.toNat_natCast]
    refine for_range (fun i σ H' => ∃ o4 o5 o6, σ = [some (.ref a), some (.ref p), some (.ref n), some (.str z), o4, o5, o6] ∧ PenV H' p a ∧ But p H4 H') ⟨none, none, none, rfl, v6, b6⟩ ?_ ?_
    · rintro i σ H7 hi ⟨o4, o5, o6, rfl, v7, b7⟩
      refine ⟨_, rfl, ?_⟩
      refine ⟨_, rfl, p, a, 3, rfl, hP4.but b7 v7, by decide, by decide, fun r8 H8 c0 c1 v8 e8 => .int ?_⟩
      obtain ⟨j8, rfl⟩ := Int.eq_ofNat_of_zero_le c0
      have b8 := b7.trans (But.of_eq e8)
      refine ⟨_, rfl, by omega, by omega, ?_⟩
      rw [show (1 + ((j8 : Nat) : Int)).toNat = 1 + j8 by omega]
      refine for_range (fun j σ H' => ∃ (z' : Str) (o6 : Option V), σ = [some (.ref a), some (.ref p), some (.ref n), some (.str z), some (.int (0 + (i : Nat))), some (.str z'), o6] ∧ ((j = 0 ∧ z'.length ≤ 100000) ∨ (j = 1 ∧ z'.length ≤ 300010) ∨ (j = 2 ∧ z'.length ≤ 900040) ∨ (j = 3 ∧ z'.length ≤ 2700130)) ∧ PenV H' p a ∧ But p H4 H') ⟨z, o6, rfl, .inl ⟨rfl, wln⟩, v8, b8⟩ ?_ ?_
      · rintro j σ H9 hj ⟨z', o6, rfl, bz, v9, b9⟩
        refine ⟨_, rfl, _, rfl, nil_ ⟨p, a, z', rfl, hP4.but b9 v9, by omega, fun z'' HA hz vA bA => ?_⟩⟩
        exact ⟨z'', _, rfl, by omega, vA, b9.trans bA⟩
      · rintro σ H9 ⟨z', o6, rfl, bz, v9, b9⟩
        refine ⟨_, rfl, nil_ ⟨z', rfl, by omega, fun HA sA => ⟨_, rfl, iteF ?_⟩⟩⟩
        exact ⟨_, _, _, rfl, penKeep sA v9, b9.trans (But.of_same sA)⟩
    · rintro σ H7 ⟨o4, o5, o6, rfl, v7, b7⟩
      refine ⟨_, rfl, nil_ ⟨z, rfl, by omega, fun r8 H8 s8 lr => ?_⟩⟩
      have hr' : r8 = .non := lr.elim (fun h => h.2) fun ⟨_, _, _, h⟩ => absurd good h
      subst hr'
      refine .non ⟨_, rfl, ite2 (fun _ => ?_) (fun h => absurd rfl h)⟩
      refine ⟨_, rfl, nil_ ⟨ss, ts, by rw [W7.eq]; rfl, h60, snd, snm, W7.few, W7.nd, W7.inn, fun q H9 s9 r9 => ?_⟩⟩
      have W2 : Web H9 (.ref q) ss ts := ⟨r9, snd, snm, h60, by have := W7.few; omega, W7.inn⟩
      refine nil_ ⟨q, ss, ts, rfl, W2, fun HA sA => ⟨_, rfl, .sc rfl ?_⟩⟩
      show Q (.bl (decide (V.str (webT ss ts) = V.str z))) _
      rw [W7.eq, decide_eq_true rfl]
      exact k _
end
end K07
namespace K07
open PySem L2
section
variable {P : Program} {w : World} {K : PySem.W.Frag} {mg : Str → Option Value} {base : Heap}
theorem ar1 {us : List Value} (h : us.length = 1) : ∃ a, us = [a] := List.length_eq_one_iff.mp h
theorem ar2 {us : List Value} (h : us.length = 2) : ∃ a1 a2, us = [a1, a2] := by
  obtain ⟨a1, t, rfl⟩ := List.exists_cons_of_length_eq_add_one h
  obtain ⟨a2, rfl⟩ := ar1 (Nat.succ.inj h)
  exact ⟨a1, a2, rfl⟩
theorem all_mk {l : PySem.W.OpenLaw} {w : World} {K : PySem.W.Frag} {h : Heap} {mg : Str → Option Value} {fa f1 f2 f3 f4 f5 f6 f7 f8 f9 f10 f11 f12 f13 f14 f15 f16 f17 f18 f19 f20 f21 f22 : Addr} (X : K.In h) (G : h.Ns mainGlobals mg) (hfa : mg "law" = some (.ref fa))
    {od1 an1 od2 an2 od3 an3 od4 an4 od5 an5 od6 an6 od7 an7 od8 an8 od9 an9 od10 an10 od11 an11 od12 an12 od13 an13 od14 an14 od15 an15 od16 an16 od17 an17 od18 an18 od19 an19 od20 an20 od21 an21 od22 an22 : Option Addr} {sl1 sl2 sl3 sl4 sl5 sl6 sl7 sl8 sl9 sl10 sl11 sl12 sl13 sl14 sl15 sl16 sl17 sl18 sl19 sl20 sl21 sl22 : Array (Option Value)} {oc1 kV1 dc1 pm1 cd1 ct1 oc2 kV2 dc2 pm2 cd2 ct2 oc3 kV3 dc3 pm3 cd3 ct3 oc4 kV4 dc4 pm4 cd4 ct4 oc5 kV5 dc5 pm5 cd5 ct5 oc6 kV6 dc6 pm6 cd6 ct6 oc7 kV7 dc7 pm7 cd7 ct7 oc8 kV8 dc8 pm8 cd8 ct8 oc9 kV9 dc9 pm9 cd9 ct9 oc10 kV10 dc10 pm10 cd10 ct10 oc11 kV11 dc11 pm11 cd11 ct11 oc12 kV12 dc12 pm12 cd12 ct12 oc13 kV13 dc13 pm13 cd13 ct13 oc14 kV14 dc14 pm14 cd14 ct14 oc15 kV15 dc15 pm15 cd15 ct15 oc16 kV16 dc16 pm16 cd16 ct16 oc17 kV17 dc17 pm17 cd17 ct17 oc18 kV18 dc18 pm18 cd18 ct18 oc19 kV19 dc19 pm19 cd19 ct19 oc20 kV20 dc20 pm20 cd20 ct20 oc21 kV21 dc21 pm21 cd21 ct21 oc22 kV22 dc22 pm22 cd22 ct22 : Value}
    (a1 : PySem.W.nsIn K mainGlobals "is_name" = some (some (.ref f1))) (l1 : K.lookup f1 = some ⟨oc1, od1, .func (PySem.W.fnOf "is_name" "is_name" (defArgs sIsName) (defBody sIsName) (defScope sIsName) .none kV1 dc1 pm1 an1 cd1 ct1), sl1⟩) (c1 : PySem.W.codeIn K cd1 "is_name" = true) (k1 : PySem.W.keepIn K (.ref f1) = true)
    (a2 : PySem.W.nsIn K mainGlobals "web_of" = some (some (.ref f2))) (l2 : K.lookup f2 = some ⟨oc2, od2, .func (PySem.W.fnOf "web_of" "web_of" (defArgs sWebOf) (defBody sWebOf) (defScope sWebOf) .none kV2 dc2 pm2 an2 cd2 ct2), sl2⟩) (c2 : PySem.W.codeIn K cd2 "web_of" = true) (k2 : PySem.W.keepIn K (.ref f2) = true)
    (a3 : PySem.W.nsIn K mainGlobals "places_of" = some (some (.ref f3))) (l3 : K.lookup f3 = some ⟨oc3, od3, .func (PySem.W.fnOf "places_of" "places_of" (defArgs sPlaces) (defBody sPlaces) (defScope sPlaces) .none kV3 dc3 pm3 an3 cd3 ct3), sl3⟩) (c3 : PySem.W.codeIn K cd3 "places_of" = true) (k3 : PySem.W.keepIn K (.ref f3) = true)
    (a4 : PySem.W.nsIn K mainGlobals "are_things" = some (some (.ref f4))) (l4 : K.lookup f4 = some ⟨oc4, od4, .func (PySem.W.fnOf "are_things" "are_things" (defArgs sAreThings) (defBody sAreThings) (defScope sAreThings) .none kV4 dc4 pm4 an4 cd4 ct4), sl4⟩) (c4 : PySem.W.codeIn K cd4 "are_things" = true) (k4 : PySem.W.keepIn K (.ref f4) = true)
    (a5 : PySem.W.nsIn K mainGlobals "are_unlike_names" = some (some (.ref f5))) (l5 : K.lookup f5 = some ⟨oc5, od5, .func (PySem.W.fnOf "are_unlike_names" "are_unlike_names" (defArgs sUNm) (defBody sUNm) (defScope sUNm) .none kV5 dc5 pm5 an5 cd5 ct5), sl5⟩) (c5 : PySem.W.codeIn K cd5 "are_unlike_names" = true) (k5 : PySem.W.keepIn K (.ref f5) = true)
    (a6 : PySem.W.nsIn K mainGlobals "are_unlike" = some (some (.ref f6))) (l6 : K.lookup f6 = some ⟨oc6, od6, .func (PySem.W.fnOf "are_unlike" "are_unlike" (defArgs sUnlike) (defBody sUnlike) (defScope sUnlike) .none kV6 dc6 pm6 an6 cd6 ct6), sl6⟩) (c6 : PySem.W.codeIn K cd6 "are_unlike" = true) (k6 : PySem.W.keepIn K (.ref f6) = true)
    (a7 : PySem.W.nsIn K mainGlobals "first_wrong_tie" = some (some (.ref f7))) (l7 : K.lookup f7 = some ⟨oc7, od7, .func (PySem.W.fnOf "first_wrong_tie" "first_wrong_tie" (defArgs sWrong) (defBody sWrong) (defScope sWrong) .none kV7 dc7 pm7 an7 cd7 ct7), sl7⟩) (c7 : PySem.W.codeIn K cd7 "first_wrong_tie" = true) (k7 : PySem.W.keepIn K (.ref f7) = true)
    (a8 : PySem.W.nsIn K mainGlobals "is_tie_among" = some (some (.ref f8))) (l8 : K.lookup f8 = some ⟨oc8, od8, .func (PySem.W.fnOf "is_tie_among" "is_tie_among" (defArgs sAmong) (defBody sAmong) (defScope sAmong) .none kV8 dc8 pm8 an8 cd8 ct8), sl8⟩) (c8 : PySem.W.codeIn K cd8 "is_tie_among" = true) (k8 : PySem.W.keepIn K (.ref f8) = true)
    (a9 : PySem.W.nsIn K mainGlobals "show_web" = some (some (.ref f9))) (l9 : K.lookup f9 = some ⟨oc9, od9, .func (PySem.W.fnOf "show_web" "show_web" (defArgs sShow) (defBody sShow) (defScope sShow) .none kV9 dc9 pm9 an9 cd9 ct9), sl9⟩) (c9 : PySem.W.codeIn K cd9 "show_web" = true) (k9 : PySem.W.keepIn K (.ref f9) = true)
    (a10 : PySem.W.nsIn K mainGlobals "read_web" = some (some (.ref f10))) (l10 : K.lookup f10 = some ⟨oc10, od10, .func (PySem.W.fnOf "read_web" "read_web" (defArgs sRead) (defBody sRead) (defScope sRead) .none kV10 dc10 pm10 an10 cd10 ct10), sl10⟩) (c10 : PySem.W.codeIn K cd10 "read_web" = true) (k10 : PySem.W.keepIn K (.ref f10) = true)
    (a11 : PySem.W.nsIn K mainGlobals "tie_in" = some (some (.ref f11))) (l11 : K.lookup f11 = some ⟨oc11, od11, .func (PySem.W.fnOf "tie_in" "tie_in" (defArgs sTieIn) (defBody sTieIn) (defScope sTieIn) .none kV11 dc11 pm11 an11 cd11 ct11), sl11⟩) (c11 : PySem.W.codeIn K cd11 "tie_in" = true) (k11 : PySem.W.keepIn K (.ref f11) = true)
    (a12 : PySem.W.nsIn K mainGlobals "_law_pen" = some (some (.ref f12))) (l12 : K.lookup f12 = some ⟨oc12, od12, .func (PySem.W.fnOf "_law_pen" "_law_pen" (defArgs sPen) (defBody sPen) (defScope sPen) .none kV12 dc12 pm12 an12 cd12 ct12), sl12⟩) (c12 : PySem.W.codeIn K cd12 "_law_pen" = true) (k12 : PySem.W.keepIn K (.ref f12) = true)
    (a13 : PySem.W.nsIn K mainGlobals "_law_draw" = some (some (.ref f13))) (l13 : K.lookup f13 = some ⟨oc13, od13, .func (PySem.W.fnOf "_law_draw" "_law_draw" (defArgs sDraw) (defBody sDraw) (defScope sDraw) .none kV13 dc13 pm13 an13 cd13 ct13), sl13⟩) (c13 : PySem.W.codeIn K cd13 "_law_draw" = true) (k13 : PySem.W.keepIn K (.ref f13) = true)
    (a14 : PySem.W.nsIn K mainGlobals "_law_names" = some (some (.ref f14))) (l14 : K.lookup f14 = some ⟨oc14, od14, .func (PySem.W.fnOf "_law_names" "_law_names" (defArgs sNames) (defBody sNames) (defScope sNames) .none kV14 dc14 pm14 an14 cd14 ct14), sl14⟩) (c14 : PySem.W.codeIn K cd14 "_law_names" = true) (k14 : PySem.W.keepIn K (.ref f14) = true)
    (a15 : PySem.W.nsIn K mainGlobals "_law_things" = some (some (.ref f15))) (l15 : K.lookup f15 = some ⟨oc15, od15, .func (PySem.W.fnOf "_law_things" "_law_things" (defArgs sThings) (defBody sThings) (defScope sThings) .none kV15 dc15 pm15 an15 cd15 ct15), sl15⟩) (c15 : PySem.W.codeIn K cd15 "_law_things" = true) (k15 : PySem.W.keepIn K (.ref f15) = true)
    (a16 : PySem.W.nsIn K mainGlobals "_law_ties" = some (some (.ref f16))) (l16 : K.lookup f16 = some ⟨oc16, od16, .func (PySem.W.fnOf "_law_ties" "_law_ties" (defArgs sTies) (defBody sTies) (defScope sTies) .none kV16 dc16 pm16 an16 cd16 ct16), sl16⟩) (c16 : PySem.W.codeIn K cd16 "_law_ties" = true) (k16 : PySem.W.keepIn K (.ref f16) = true)
    (a17 : PySem.W.nsIn K mainGlobals "_law_text" = some (some (.ref f17))) (l17 : K.lookup f17 = some ⟨oc17, od17, .func (PySem.W.fnOf "_law_text" "_law_text" (defArgs sText) (defBody sText) (defScope sText) .none kV17 dc17 pm17 an17 cd17 ct17), sl17⟩) (c17 : PySem.W.codeIn K cd17 "_law_text" = true) (k17 : PySem.W.keepIn K (.ref f17) = true)
    (a18 : PySem.W.nsIn K mainGlobals "_law_sign" = some (some (.ref f18))) (l18 : K.lookup f18 = some ⟨oc18, od18, .func (PySem.W.fnOf "_law_sign" "_law_sign" (defArgs sSign) (defBody sSign) (defScope sSign) .none kV18 dc18 pm18 an18 cd18 ct18), sl18⟩) (c18 : PySem.W.codeIn K cd18 "_law_sign" = true) (k18 : PySem.W.keepIn K (.ref f18) = true)
    (a19 : PySem.W.nsIn K mainGlobals "_law_bent" = some (some (.ref f19))) (l19 : K.lookup f19 = some ⟨oc19, od19, .func (PySem.W.fnOf "_law_bent" "_law_bent" (defArgs sBent) (defBody sBent) (defScope sBent) .none kV19 dc19 pm19 an19 cd19 ct19), sl19⟩) (c19 : PySem.W.codeIn K cd19 "_law_bent" = true) (k19 : PySem.W.keepIn K (.ref f19) = true)
    (a20 : PySem.W.nsIn K mainGlobals "_law_line" = some (some (.ref f20))) (l20 : K.lookup f20 = some ⟨oc20, od20, .func (PySem.W.fnOf "_law_line" "_law_line" (defArgs sLine) (defBody sLine) (defScope sLine) .none kV20 dc20 pm20 an20 cd20 ct20), sl20⟩) (c20 : PySem.W.codeIn K cd20 "_law_line" = true) (k20 : PySem.W.keepIn K (.ref f20) = true)
    (a21 : PySem.W.nsIn K mainGlobals "_law_right" = some (some (.ref f21))) (l21 : K.lookup f21 = some ⟨oc21, od21, .func (PySem.W.fnOf "_law_right" "_law_right" (defArgs sRight) (defBody sRight) (defScope sRight) .none kV21 dc21 pm21 an21 cd21 ct21), sl21⟩) (c21 : PySem.W.codeIn K cd21 "_law_right" = true) (k21 : PySem.W.keepIn K (.ref f21) = true)
    (a22 : PySem.W.nsIn K mainGlobals "law" = some (some (.ref f22))) (l22 : K.lookup f22 = some ⟨oc22, od22, .func (PySem.W.fnOf "law" "law" (defArgs sLaw) (defBody sLaw) (defScope sLaw) .none kV22 dc22 pm22 an22 cd22 ct22), sl22⟩) (c22 : PySem.W.codeIn K cd22 "law" = true) (k22 : PySem.W.keepIn K (.ref f22) = true)
    (z1 : PySem.W.nsIn K mainGlobals "len" = some none) (z2 : PySem.W.nsIn K mainGlobals "range" = some none) (z3 : PySem.W.nsIn K mainGlobals "abs" = some none) (z4 : PySem.W.nsIn K mainGlobals "all" = some none) (z5 : PySem.W.nsIn K mainGlobals "repr" = some none) (z6 : PySem.W.nsIn K mainGlobals "isinstance" = some none) (z7 : PySem.W.nsIn K mainGlobals "str" = some none) (z8 : PySem.W.nsIn K mainGlobals "int" = some none) (z9 : PySem.W.nsIn K mainGlobals "bool" = some none) (z10 : PySem.W.nsIn K mainGlobals "enumerate" = some none) (z11 : PySem.W.nsIn K mainGlobals "list" = some none) (z12 : PySem.W.nsIn K mainGlobals "tuple" = some none) (z13 : PySem.W.nsIn K mainGlobals "dict" = some none) (z14 : PySem.W.nsIn K mainGlobals "min" = some none) (z15 : PySem.W.nsIn K mainGlobals "max" = some none)
    {tk1 : Tok} (y1 : PySem.W.nsIn K mainGlobals "MOST_SIGNS" = some (some (.int 8 tk1)))
    {tk2 : Tok} (y2 : PySem.W.nsIn K mainGlobals "MOST_THINGS" = some (some (.int 60 tk2)))
    {tk3 : Tok} (y3 : PySem.W.nsIn K mainGlobals "MOST_TIES" = some (some (.int 400 tk3)))
    {x1 x2 : Addr} (r1 : PySem.W.nsIn K mainGlobals "OrderError" = some (some (.ref x1))) (r2 : PySem.W.nsIn K mainGlobals "NoText" = some (some (.ref x2)))
    (en : PySem.W.specialIn K (.builtin "object.__class__") "__get__" = some (some (.builtin "getset_descriptor.__get__"))) (et : PySem.W.takesIn K (.builtin "object.__class__") = some true) (ev : PySem.W.nsIn K mainGlobals "ValueError" = some none)
    {N1 : Addr} {bs1 bm1 su1 : List Value} {nm1 q1 : Str} {hd1 ab1 : Bool} {sn1 : List Str} {co1 : Option Bool} {dd1 : Option Addr} {ka1 kb1 kc1 kd1 ke1 : Option Value}
    (o1 : K.lookup x1 = some (excClassObj nm1 q1 x1 N1 bs1 bm1 hd1 sn1 su1 ab1 co1 dd1 ka1 kb1 kc1 kd1 ke1 "ValueError.__new__"))
    (u1 : PySem.W.nsOkIn K N1 = true) (ni1 : PySem.W.nsIn K N1 "__init__" = some none) (tl1 : PySem.W.tailIn K [.type "ValueError", .type "Exception", .type "BaseException", .type "object"] bm1 = true)
    (ga1 : PySem.W.findIn K (.ref x1) "__getattribute__" = some (some (.builtin "BaseException.__getattribute__"))) (gb1 : PySem.W.findIn K (.ref x1) "__getattr__" = some none) (ha1 : PySem.W.findIn K (.ref x1) "__class__" = some (some (.builtin "object.__class__")))
    (hm1 : PySem.W.mroIn K x1 (.type "object") = some true) (hb1 : PySem.W.mroIn K x1 (.type "BaseException") = some true) (cl1 : (PySem.W.clsIn K x1).isSome = true)
    (p1 : bm1.contains (.type "BaseException") = true) (q_1 : (Value.ref x1 :: bm1).contains (.ref x1) = true) (w1 : PySem.W.kitOne K (.ref x1) (.type "ValueError") = some true)
    {N2 : Addr} {bs2 bm2 su2 : List Value} {nm2 q2 : Str} {hd2 ab2 : Bool} {sn2 : List Str} {co2 : Option Bool} {dd2 : Option Addr} {ka2 kb2 kc2 kd2 ke2 : Option Value}
    (o2 : K.lookup x2 = some (excClassObj nm2 q2 x2 N2 bs2 bm2 hd2 sn2 su2 ab2 co2 dd2 ka2 kb2 kc2 kd2 ke2 "ValueError.__new__"))
    {fi2 : Addr} {iod2 ian2 : Option Addr} {isl2 : Array (Option Value)} {ikV2 idc2 ipm2 icd2 ict2 : Value}
    (u2 : PySem.W.nsOkIn K N2 = true) (ni2 : PySem.W.nsIn K N2 "__init__" = some (some (.ref fi2))) (tl2 : PySem.W.tailIn K bmV bm2 = true)
    (il2 : K.lookup fi2 = some ⟨.type "function", iod2, .func (PySem.W.fnOf "__init__" "NoText.__init__" (defArgs sNoTextInit) (defBody sNoTextInit) (defScope sNoTextInit) .none ikV2 idc2 ipm2 ian2 icd2 ict2), isl2⟩) (ic2 : PySem.W.codeIn K icd2 "NoText.__init__" = true) (ik2 : PySem.W.keepIn K (.ref fi2) = true) (kc2 : PySem.W.keepIn K (.ref x2) = true)
    (sa2 : PySem.W.findIn K (.ref x2) "__setattr__" = some (some (.builtin "object.__setattr__"))) (po2 : (PySem.W.clsIn K x2).any (fun cd => tailE cd.mro) = true) (na2 : PySem.W.findIn K (.ref x2) "line" = some none) (hd_2 : PySem.W.hasDictIn K x2 = true)
    (ga2 : PySem.W.findIn K (.ref x2) "__getattribute__" = some (some (.builtin "BaseException.__getattribute__"))) (gb2 : PySem.W.findIn K (.ref x2) "__getattr__" = some none) (ha2 : PySem.W.findIn K (.ref x2) "__class__" = some (some (.builtin "object.__class__")))
    (hm2 : PySem.W.mroIn K x2 (.type "object") = some true) (hb2 : PySem.W.mroIn K x2 (.type "BaseException") = some true) (cl2 : (PySem.W.clsIn K x2).isSome = true)
    (p2 : bm2.contains (.type "BaseException") = true) (q_2 : (Value.ref x2 :: bm2).contains (.ref x1) = true) (w2 : PySem.W.kitOne K (.ref x2) (.type "ValueError") = some true)
    (g2_1 : PySem.W.kitOne K (.ref x2) (.ref x1) = some true) (g2_2 : PySem.W.kitOne K (.ref x2) (.ref x2) = some true)
    : ∃ fd : FuncData, (∀ (s : Shared) (v : Value), BindsTo s fd ⟨[v], []⟩ [("_law_script", v)]) ∧ ∀ base : Heap, K.In base → base.Ns mainGlobals mg → FnOk l.prog w K mg base CX0 9 fa fd ["_law_script"] (spLaw K) := by
  have e := hfa.symm.trans (PySem.W.mg_of X G a22)
  cases e
  have B : Blt mg := ⟨PySem.W.mg_none_of X G z1, PySem.W.mg_none_of X G z2, PySem.W.mg_none_of X G z3, PySem.W.mg_none_of X G z4, PySem.W.mg_none_of X G z5, PySem.W.mg_none_of X G z6, PySem.W.mg_none_of X G z7, PySem.W.mg_none_of X G z8, PySem.W.mg_none_of X G z9, PySem.W.mg_none_of X G z10, PySem.W.mg_none_of X G z11, PySem.W.mg_none_of X G z12, PySem.W.mg_none_of X G z13, PySem.W.mg_none_of X G z14, PySem.W.mg_none_of X G z15⟩
  have TMOST_SIGNS := PySem.W.mg_of X G y1
  have TMOST_THINGS := PySem.W.mg_of X G y2
  have TMOST_TIES := PySem.W.mg_of X G y3
  have F1 := fun_mk (st := sIsName) l1 c1 k1
  have F2 := fun_mk (st := sWebOf) l2 c2 k2
  have F3 := fun_mk (st := sPlaces) l3 c3 k3
  have F4 := fun_mk (st := sAreThings) l4 c4 k4
  have F5 := fun_mk (st := sUNm) l5 c5 k5
  have F6 := fun_mk (st := sUnlike) l6 c6 k6
  have F7 := fun_mk (st := sWrong) l7 c7 k7
  have F8 := fun_mk (st := sAmong) l8 c8 k8
  have F9 := fun_mk (st := sShow) l9 c9 k9
  have F10 := fun_mk (st := sRead) l10 c10 k10
  have F11 := fun_mk (st := sTieIn) l11 c11 k11
  have F12 := fun_mk (st := sPen) l12 c12 k12
  have F13 := fun_mk (st := sDraw) l13 c13 k13
  have F14 := fun_mk (st := sNames) l14 c14 k14
  have F15 := fun_mk (st := sThings) l15 c15 k15
  have F16 := fun_mk (st := sTies) l16 c16 k16
  have F17 := fun_mk (st := sText) l17 c17 k17
  have F18 := fun_mk (st := sSign) l18 c18 k18
  have F19 := fun_mk (st := sBent) l19 c19 k19
  have F20 := fun_mk (st := sLine) l20 c20 k20
  have F21 := fun_mk (st := sRight) l21 c21 k21
  have F22 := fun_mk (st := sLaw) l22 c22 k22
  have b1 := F1.binds (ps := ["thing"]) fun _ _ _ _ _ _ us hl => by obtain ⟨_, rfl⟩ := ar1 hl; rfl
  have b2 := F2.binds (ps := ["things", "ties"]) fun _ _ _ _ _ _ us hl => by obtain ⟨_, _, rfl⟩ := ar2 hl; rfl
  have b3 := F3.binds (ps := ["things"]) fun _ _ _ _ _ _ us hl => by obtain ⟨_, rfl⟩ := ar1 hl; rfl
  have b4 := F4.binds (ps := ["things"]) fun _ _ _ _ _ _ us hl => by obtain ⟨_, rfl⟩ := ar1 hl; rfl
  have b5 := F5.binds (ps := ["things"]) fun _ _ _ _ _ _ us hl => by obtain ⟨_, rfl⟩ := ar1 hl; rfl
  have b6 := F6.binds (ps := ["things"]) fun _ _ _ _ _ _ us hl => by obtain ⟨_, rfl⟩ := ar1 hl; rfl
  have b7 := F7.binds (ps := ["things", "ties"]) fun _ _ _ _ _ _ us hl => by obtain ⟨_, _, rfl⟩ := ar2 hl; rfl
  have b8 := F8.binds (ps := ["places", "tie"]) fun _ _ _ _ _ _ us hl => by obtain ⟨_, _, rfl⟩ := ar2 hl; rfl
  have b9 := F9.binds (ps := ["web"]) fun _ _ _ _ _ _ us hl => by obtain ⟨_, rfl⟩ := ar1 hl; rfl
  have b10 := F10.binds (ps := ["text"]) fun _ _ _ _ _ _ us hl => by obtain ⟨_, rfl⟩ := ar1 hl; rfl
  have b11 := F11.binds (ps := ["line"]) fun _ _ _ _ _ _ us hl => by obtain ⟨_, rfl⟩ := ar1 hl; rfl
  have b12 := F12.binds (ps := ["_law_script"]) fun _ _ _ _ _ _ us hl => by obtain ⟨_, rfl⟩ := ar1 hl; rfl
  have b13 := F13.binds (ps := ["_law_pen_here", "_law_most"]) fun _ _ _ _ _ _ us hl => by obtain ⟨_, _, rfl⟩ := ar2 hl; rfl
  have b14 := F14.binds (ps := ["_law_pen_here", "_law_many"]) fun _ _ _ _ _ _ us hl => by obtain ⟨_, _, rfl⟩ := ar2 hl; rfl
  have b15 := F15.binds (ps := ["_law_pen_here"]) fun _ _ _ _ _ _ us hl => by obtain ⟨_, rfl⟩ := ar1 hl; rfl
  have b16 := F16.binds (ps := ["_law_pen_here", "_law_things_here"]) fun _ _ _ _ _ _ us hl => by obtain ⟨_, _, rfl⟩ := ar2 hl; rfl
  have b17 := F17.binds (ps := ["_law_things_here", "_law_ties_here"]) fun _ _ _ _ _ _ us hl => by obtain ⟨_, _, rfl⟩ := ar2 hl; rfl
  have b18 := F18.binds (ps := ["_law_pen_here"]) fun _ _ _ _ _ _ us hl => by obtain ⟨_, rfl⟩ := ar1 hl; rfl
  have b19 := F19.binds (ps := ["_law_pen_here", "_law_text_here"]) fun _ _ _ _ _ _ us hl => by obtain ⟨_, _, rfl⟩ := ar2 hl; rfl
  have b20 := F20.binds (ps := ["_law_text_here"]) fun _ _ _ _ _ _ us hl => by obtain ⟨_, rfl⟩ := ar1 hl; rfl
  have b21 := F21.binds (ps := ["_law_text_here"]) fun _ _ _ _ _ _ us hl => by obtain ⟨_, rfl⟩ := ar1 hl; rfl
  refine ⟨PySem.W.fnOf "law" "law" (defArgs sLaw) (defBody sLaw) (defScope sLaw) .none kV22 dc22 pm22 an22 cd22 ct22, fun s v => .of_eq rfl, fun base XB GB => ?_⟩
  have eN : (["OrderError", "NoText"] : List Str).Nodup := by decide +kernel
  have eO : ecOf ([("OrderError", x1), ("NoText", x2)] : List (Str × Addr)) "OrderError" = x1 := ecOf_at (ps := [("OrderError", x1), ("NoText", x2)]) eN ("OrderError", x1) (.head _)
  have Er : Errs K mg base (ecOf ([("OrderError", x1), ("NoText", x2)] : List (Str × Addr))) excL excC := errs_mk (ps := [("OrderError", x1), ("NoText", x2)]) (cs := [("OrderError", x1), ("NoText", x2)]) eN (fa_cons (.head _) (fa_cons (.tail _ (.head _)) fa_nil)) (fa_cons (PySem.W.mg_of X G r1) (fa_cons (PySem.W.mg_of X G r2) fa_nil)) (fa_cons ⟨ga1, gb1, ha1, en, et, hm1, hb1, cl1⟩ (fa_cons ⟨ga2, gb2, ha2, en, et, hm2, hb2, cl2⟩ fa_nil)) (show ("OrderError" : Str) ∈ excC by decide +kernel) (fa_cons (fun h => absurd rfl h) (fa_cons (fun _ => (fa_cons (g2_1.trans (congrArg some (show true = (("OrderError" : Str) == ("NoText" : Str) || ("OrderError" : Str) == ("OrderError" : Str)) by decide +kernel))) (fa_cons (g2_2.trans (congrArg some (show true = (("NoText" : Str) == ("NoText" : Str) || ("NoText" : Str) == ("OrderError" : Str)) by decide +kernel))) fa_nil))) fa_nil)) (fa_cons w1 (fa_cons w2 fa_nil)) (fa_cons ⟨bm1, xat_mk XB o1, p1, (by rw [eO]; exact q_1)⟩ (fa_cons ⟨bm2, xat_mk XB o2, p2, (by rw [eO]; exact q_2)⟩ fa_nil)) (PySem.W.mg_none_of X G ev) (fa_cons (fun _ => own_mk XB (PySem.W.mg_of X G r1) o1 u1 ni1 tl1) (fa_cons (fun h => absurd (show ("NoText" : Str) ∈ (["NoText", "Ring", "NoUnit"] : List Str) by decide) h) fa_nil))
  have FINoText := fun_mk (st := sNoTextInit) il2 ic2 ik2
  have bINoText := FINoText.binds (ps := ["self", "line"]) fun _ _ _ _ _ _ us hl => by obtain ⟨_, _, rfl⟩ := ar2 hl; rfl
  have eeNoText : ecOf ([("OrderError", x1), ("NoText", x2)] : List (Str × Addr)) "NoText" = x2 := ecOf_at (ps := [("OrderError", x1), ("NoText", x2)]) eN ("NoText", x2) (.tail _ (.head _))
  have ZNoText : XSet K (ecOf ([("OrderError", x1), ("NoText", x2)] : List (Str × Addr)) "NoText") "line" := eeNoText.symm ▸ ⟨sa2, po2, na2, hd_2, hm2⟩
  have GNoText : XGet K (ecOf ([("OrderError", x1), ("NoText", x2)] : List (Str × Addr)) "NoText") "line" := ⟨ZNoText.na, ZNoText.hd⟩
  have mNoText : MkI l.prog w K mg base 1 "NoText" (ecOf ([("OrderError", x1), ("NoText", x2)] : List (Str × Addr)) "NoText") ["self", "line"] (spInitV K "line") := eeNoText.symm ▸ ⟨_, _, ownI_mk XB (PySem.W.mg_of X G r2) o2 u2 ni2 tl2 il2, kc2, ok_init FINoText B, bINoText⟩
  have c__law_pen : Cal l.prog w K mg base 1 "_law_pen" ["_law_script"] (spPen K) := ⟨_, _, ok_pen F12 B, PySem.W.mg_of X G a12, k12, b12⟩
  have c__law_draw : Cal l.prog w K mg base 1 "_law_draw" ["_law_pen_here", "_law_most"] (spDraw K) := ⟨_, _, ok_draw F13 B, PySem.W.mg_of X G a13, k13, b13⟩
  have c__law_names : Cal l.prog w K mg base 2 "_law_names" ["_law_pen_here", "_law_many"] (spNames K) := ⟨_, _, ok_names F14 B c__law_draw, PySem.W.mg_of X G a14, k14, b14⟩
  have c__law_things : Cal l.prog w K mg base 3 "_law_things" ["_law_pen_here"] (spThings K) := ⟨_, _, ok_things F15 B c__law_draw c__law_names, PySem.W.mg_of X G a15, k15, b15⟩
  have c__law_ties : Cal l.prog w K mg base 2 "_law_ties" ["_law_pen_here", "_law_things_here"] (spTies K) := ⟨_, _, ok_ties F16 B c__law_draw, PySem.W.mg_of X G a16, k16, b16⟩
  have c_places_of : Cal l.prog w K mg base 1 "places_of" ["things"] spPlacesX := ⟨_, _, ok_placesX F3 B, PySem.W.mg_of X G a3, k3, b3⟩
  have c_is_name : Cal l.prog w K mg base 1 "is_name" ["thing"] spIsName := ⟨_, _, ok_isname F1 B TMOST_SIGNS, PySem.W.mg_of X G a1, k1, b1⟩
  have c_is_tie_among : Cal l.prog w K mg base 2 "is_tie_among" ["places", "tie"] spAmong := ⟨_, _, ok_among F8 B c_is_name, PySem.W.mg_of X G a8, k8, b8⟩
  have c_are_unlike : Cal l.prog w K mg base 2 "are_unlike" ["things"] spUnlike := ⟨_, _, ok_unlike F6 B c_places_of, PySem.W.mg_of X G a6, k6, b6⟩
  have c_are_unlike_names : Cal l.prog w K mg base 3 "are_unlike_names" ["things"] spUNm := ⟨_, _, ok_unm F5 B c_is_name c_are_unlike, PySem.W.mg_of X G a5, k5, b5⟩
  have c_are_things : Cal l.prog w K mg base 4 "are_things" ["things"] spAre := ⟨_, _, ok_are F4 B TMOST_THINGS c_are_unlike_names, PySem.W.mg_of X G a4, k4, b4⟩
  have c_first_wrong_tie : Cal l.prog w K mg base 3 "first_wrong_tie" ["things", "ties"] spWrong := ⟨_, _, ok_wrong F7 B TMOST_TIES c_places_of c_is_tie_among, PySem.W.mg_of X G a7, k7, b7⟩
  have c_web_of : Cal l.prog w K mg base 5 "web_of" ["things", "ties"] spWebOf := ⟨_, _, ok_web_of F2 B c_are_things c_first_wrong_tie, PySem.W.mg_of X G a2, k2, b2⟩
  have c_show_web : Cal l.prog w K mg base 1 "show_web" ["web"] spShow := ⟨_, _, ok_show F9 B, PySem.W.mg_of X G a9, k9, b9⟩
  have c_tie_in : Cal l.prog w K mg base 1 "tie_in" ["line"] spTieIn := ⟨_, _, ok_tiein F11 B, PySem.W.mg_of X G a11, k11, b11⟩
  have c__law_text : Cal l.prog w K mg base 1 "_law_text" ["_law_things_here", "_law_ties_here"] spText := ⟨_, _, ok_text F17 B, PySem.W.mg_of X G a17, k17, b17⟩
  have c_read_web : Cal l.prog w K mg base 6 "read_web" ["text"] spRead := ⟨_, _, ok_read F10 B c_tie_in c_are_things c_first_wrong_tie c_web_of, PySem.W.mg_of X G a10, k10, b10⟩
  have c_places_ofM : Cal l.prog w K mg base 1 "places_of" ["things"] spPlM := ⟨_, _, ok_plM F3 B, PySem.W.mg_of X G a3, k3, b3⟩
  have c_are_unlikeM : Cal l.prog w K mg base 2 "are_unlike" ["things"] spUnlM := ⟨_, _, ok_unlM F6 B c_places_ofM, PySem.W.mg_of X G a6, k6, b6⟩
  have c_are_unlike_namesM : Cal l.prog w K mg base 3 "are_unlike_names" ["things"] spUNmM := ⟨_, _, ok_unmM F5 B c_is_name c_are_unlikeM, PySem.W.mg_of X G a5, k5, b5⟩
  have c_are_thingsM : Cal l.prog w K mg base 4 "are_things" ["things"] spAreM := ⟨_, _, ok_areM F4 B TMOST_THINGS c_are_unlike_namesM, PySem.W.mg_of X G a4, k4, b4⟩
  have c_tie_inG : Cal l.prog w K mg base 1 "tie_in" ["line"] spTieG := ⟨_, _, ok_tieG F11 B, PySem.W.mg_of X G a11, k11, b11⟩
  have c_is_tie_amongG : Cal l.prog w K mg base 2 "is_tie_among" ["places", "tie"] spAmongG := ⟨_, _, ok_amongG F8 B c_is_name, PySem.W.mg_of X G a8, k8, b8⟩
  have c_first_wrong_tieE : Cal l.prog w K mg base 3 "first_wrong_tie" ["things", "ties"] spWrongE := ⟨_, _, ok_wrongE F7 B TMOST_TIES c_places_of c_is_tie_amongG, PySem.W.mg_of X G a7, k7, b7⟩
  have c_read_webX : CalX l.prog w K mg base 6 "read_web" ["text"] (spReadB _) := ⟨_, _, ok_readB (ok_read F10 B c_tie_in c_are_things c_first_wrong_tie c_web_of) (ok_readX F10 B mNoText ZNoText c_tie_inG c_are_thingsM c_first_wrong_tieE), PySem.W.mg_of X G a10, k10, b10⟩
  have c__law_sign : Cal l.prog w K mg base 2 "_law_sign" ["_law_pen_here"] (spSign K) := ⟨_, _, ok_sign F18 B c__law_draw, PySem.W.mg_of X G a18, k18, b18⟩
  have c__law_bent : Cal l.prog w K mg base 3 "_law_bent" ["_law_pen_here", "_law_text_here"] (spBent K) := ⟨_, _, ok_bent F19 B c__law_draw c__law_sign, PySem.W.mg_of X G a19, k19, b19⟩
  have c__law_line : Cal l.prog w K mg base 7 "_law_line" ["_law_text_here"] spLine := ⟨_, _, ok_line F20 B Er GNoText c_read_webX, PySem.W.mg_of X G a20, k20, b20⟩
  have c__law_right : Cal l.prog w K mg base 8 "_law_right" ["_law_text_here"] spRight := ⟨_, _, ok_right F21 B c__law_line c_read_web c_show_web c_web_of, PySem.W.mg_of X G a21, k21, b21⟩
  exact ok_law F22 B c__law_pen c__law_draw c__law_things c__law_ties c__law_text c__law_bent c__law_right c__law_line c_read_web c_show_web
theorem walk {l : PySem.W.OpenLaw} {q : Program} {loose : List Str} {XP : (Str → Option Value) → Heap → Prop} {YP : World → Heap → Prop} {d : DefRec} {K : Params → PySem.W.Frag} (hn : l.most = some 63) (hdf : d.params.defaults = [])
    (hY : ∀ (w : World) (h : Heap), YP w h → (K w.params).In h)
    (F : ∀ (w : World) (mg : Str → Option Value) (fa : Addr) (h : Heap), (K w.params).In h → h.Ns mainGlobals mg → mg d.name = some (.ref fa) →
      ∃ fd : FuncData, (∀ (s : Shared) (u : Value), BindsTo s fd ⟨[u], []⟩ [("_law_script", u)]) ∧ ∀ base : Heap, (K w.params).In base → base.Ns mainGlobals mg → FnOk l.prog w (K w.params) mg base CX0 9 fa fd ["_law_script"] (spLaw (K w.params))) :
    PySem.W.WalkO q loose XP YP l.row.toRowW d [] (fun f vs => PySem.call f vs) :=
  L2.walk_of (n := 63) (k := 9) (x := "_law_script") (CX := fun _ => CX0) (sp := fun w => spLaw (K w.params)) hn (by decide) hdf ⟨rfl, by decide, by decide, rfl⟩ hY F (fun _ _ a ns hl _ hS => ⟨a, ns, rfl, hS, fun _ => rfl⟩) fun _ _ _ _ _ z => z
end
end K07
open PySem PySem.W PyProof.Rows
set_option maxRecDepth 100000 in
set_option maxHeartbeats 0 in
theorem PySem.Challenge.cw_orderkeep_k07_whole_bent_texts_of_webs_holds : PySem.Challenge.rw_orderkeep_k07_whole_bent_texts_of_webs.Holds := by
  w_on; o_law; k_head; (case hw => w_witness2)
  k_fill
  refine K07.walk (l := PySem.Challenge.rw_orderkeep_k07_whole_bent_texts_of_webs) rfl rfl (fun w h Y => PySem.W.kIn_of Y) ?F
  case F =>
    intro w mg fa h KX G hmg
    refine' K07.all_mk KX G hmg ?a1 ?l1 ?c1 ?k1 ?a2 ?l2 ?c2 ?k2 ?a3 ?l3 ?c3 ?k3 ?a4 ?l4 ?c4 ?k4 ?a5 ?l5 ?c5 ?k5 ?a6 ?l6 ?c6 ?k6 ?a7 ?l7 ?c7 ?k7 ?a8 ?l8 ?c8 ?k8 ?a9 ?l9 ?c9 ?k9 ?a10 ?l10 ?c10 ?k10 ?a11 ?l11 ?c11 ?k11 ?a12 ?l12 ?c12 ?k12 ?a13 ?l13 ?c13 ?k13 ?a14 ?l14 ?c14 ?k14 ?a15 ?l15 ?c15 ?k15 ?a16 ?l16 ?c16 ?k16 ?a17 ?l17 ?c17 ?k17 ?a18 ?l18 ?c18 ?k18 ?a19 ?l19 ?c19 ?k19 ?a20 ?l20 ?c20 ?k20 ?a21 ?l21 ?c21 ?k21 ?a22 ?l22 ?c22 ?k22 ?z1 ?z2 ?z3 ?z4 ?z5 ?z6 ?z7 ?z8 ?z9 ?z10 ?z11 ?z12 ?z13 ?z14 ?z15 ?y1 ?y2 ?y3 ?r1 ?r2 ?en ?et ?ev ?o1 ?u1 ?ni1 ?tl1 ?ga1 ?gb1 ?ha1 ?hm1 ?hb1 ?cl1 ?p1 ?q_1 ?w1 ?o2 ?u2 ?ni2 ?tl2 ?il2 ?ic2 ?ik2 ?kc2 ?sa2 ?po2 ?na2 ?hd_2 ?ga2 ?gb2 ?ha2 ?hm2 ?hb2 ?cl2 ?p2 ?q_2 ?w2 ?g2_1 ?g2_2
    (case a1 => k_is)
    (case l1 => k_is)
    (case c1 => k_is)
    (case k1 => k_is)
    (case a2 => k_is)
    (case l2 => k_is)
    (case c2 => k_is)
    (case k2 => k_is)
    (case a3 => k_is)
    (case l3 => k_is)
    (case c3 => k_is)
    (case k3 => k_is)
    (case a4 => k_is)
    (case l4 => k_is)
    (case c4 => k_is)
    (case k4 => k_is)
    (case a5 => k_is)
    (case l5 => k_is)
    (case c5 => k_is)
    (case k5 => k_is)
    (case a6 => k_is)
    (case l6 => k_is)
    (case c6 => k_is)
    (case k6 => k_is)
    (case a7 => k_is)
    (case l7 => k_is)
    (case c7 => k_is)
    (case k7 => k_is)
    (case a8 => k_is)
    (case l8 => k_is)
    (case c8 => k_is)
    (case k8 => k_is)
    (case a9 => k_is)
    (case l9 => k_is)
    (case c9 => k_is)
    (case k9 => k_is)
    (case a10 => k_is)
    (case l10 => k_is)
    (case c10 => k_is)
    (case k10 => k_is)
    (case a11 => k_is)
    (case l11 => k_is)
    (case c11 => k_is)
    (case k11 => k_is)
    (case a12 => k_is)
    (case l12 => k_is)
    (case c12 => k_is)
    (case k12 => k_is)
    (case a13 => k_is)
    (case l13 => k_is)
    (case c13 => k_is)
    (case k13 => k_is)
    (case a14 => k_is)
    (case l14 => k_is)
    (case c14 => k_is)
    (case k14 => k_is)
    (case a15 => k_is)
    (case l15 => k_is)
    (case c15 => k_is)
    (case k15 => k_is)
    (case a16 => k_is)
    (case l16 => k_is)
    (case c16 => k_is)
    (case k16 => k_is)
    (case a17 => k_is)
    (case l17 => k_is)
    (case c17 => k_is)
    (case k17 => k_is)
    (case a18 => k_is)
    (case l18 => k_is)
    (case c18 => k_is)
    (case k18 => k_is)
    (case a19 => k_is)
    (case l19 => k_is)
    (case c19 => k_is)
    (case k19 => k_is)
    (case a20 => k_is)
    (case l20 => k_is)
    (case c20 => k_is)
    (case k20 => k_is)
    (case a21 => k_is)
    (case l21 => k_is)
    (case c21 => k_is)
    (case k21 => k_is)
    (case a22 => k_is)
    (case l22 => k_is)
    (case c22 => k_is)
    (case k22 => k_is)
    (case z1 => k_is)
    (case z2 => k_is)
    (case z3 => k_is)
    (case z4 => k_is)
    (case z5 => k_is)
    (case z6 => k_is)
    (case z7 => k_is)
    (case z8 => k_is)
    (case z9 => k_is)
    (case z10 => k_is)
    (case z11 => k_is)
    (case z12 => k_is)
    (case z13 => k_is)
    (case z14 => k_is)
    (case z15 => k_is)
    (case y1 => k_is)
    (case y2 => k_is)
    (case y3 => k_is)
    (case r1 => k_is)
    (case r2 => k_is)
    (case en => k_is)
    (case et => k_is)
    (case ev => k_is)
    (case o1 => k_is)
    (case u1 => kernel_rfl)
    (case ni1 => k_is)
    (case tl1 => kernel_rfl)
    (case ga1 => k_is)
    (case gb1 => k_is)
    (case ha1 => k_is)
    (case hm1 => k_is)
    (case hb1 => k_is)
    (case cl1 => exact rfl)
    (case p1 => exact rfl)
    (case q_1 => exact rfl)
    (case w1 => exact rfl)
    (case o2 => k_is)
    (case u2 => kernel_rfl)
    (case ni2 => k_is)
    (case tl2 => kernel_rfl)
    (case il2 => k_is)
    (case ic2 => k_is)
    (case ik2 => k_is)
    (case kc2 => first | k_is | exact rfl)
    (case sa2 => k_is)
    (case po2 => exact rfl)
    (case na2 => k_is)
    (case hd_2 => first | k_is | exact rfl)
    (case ga2 => k_is)
    (case gb2 => k_is)
    (case ha2 => k_is)
    (case hm2 => k_is)
    (case hb2 => k_is)
    (case cl2 => exact rfl)
    (case p2 => exact rfl)
    (case q_2 => exact rfl)
    (case w2 => exact rfl)
    (case g2_1 => exact rfl)
    (case g2_2 => exact rfl)