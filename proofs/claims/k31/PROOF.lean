import PyProof.Rows.All
import Wide.All
import OpenK.AllK
import Wide.FinOn
import Lean
import PyProof.EqAt
import PyProof.EqKinds
import PyProof.TupleCall
import PyProof.Rows.SumAny
import PyProof.StationsW
import PyProof.ExcClass3
import OpenK.KOwn
import KE.KTryDeep
import KE.KIsAll
import PyProof.ExcAttrAll.ValueError
import PyProof.ExcBaseAll.ValueError
import PyProof.InstStoreFacts
import PyProof.RulesTry
import PyProof.Rows.SortStr
import PyProof.TupleOfSeq
import KE.KxWritten
import PyProof.Conv_bool
import PyProof.AttrMissHeap
import KE.KDictOf
import PyProof.StrOps2
import PyProof.DictWalks
import KE.KDictList
import PyProof.Rows.ZipGen
import PySem.Challenge.RW_orderkeep_k31_what_is_no_move
set_option Elab.async false
set_option linter.all false
set_option maxRecDepth 100000
namespace L2
open PySem PySem.Spec PyProof.Rows
noncomputable abbrev Key := Sum Int Str
noncomputable def keyIs : Key → Value → Bool
  | .inl k, v => Value.isInt k v
  | .inr x, v => Value.isStrOf x v
noncomputable def keyH (w : World) : Key → Int
  | .inl k => hashInt k
  | .inr x => hashStr w x
theorem keyIs_shape : ∀ {k : Key} {v : Value}, keyIs k v = true → (∃ i t, k = Sum.inl i ∧ v = Value.int i t) ∨ (∃ x t, k = Sum.inr x ∧ v = Value.str x t)
  | .inl i, v, h => by
    obtain ⟨t, e⟩ := Value.isInt_shape (k := i) (v := v) h
    exact .inl ⟨i, t, rfl, e⟩
  | .inr x, v, h => by
    obtain ⟨t, e⟩ := Value.isStrOf_shape (x := x) (v := v) h
    exact .inr ⟨x, t, rfl, e⟩
theorem keyIs_int (i : Int) (t : Tok) : keyIs (.inl i) (.int i t) = true := by simp [keyIs, Value.isInt]
theorem keyIs_str (x : Str) (t : Tok) : keyIs (.inr x) (.str x t) = true := by simp [keyIs, Value.isStrOf]
theorem key_ll (a b : Int) : decide ((Sum.inl a : Key) = Sum.inl b) = (a == b) := by
  by_cases e : a = b
  · subst e; simp
  · have h : ¬ (Sum.inl a : Key) = Sum.inl b := fun q => e (Sum.inl.inj q)
    rw [decide_eq_false h]
    exact (beq_eq_false_iff_ne.mpr e).symm
theorem key_rr (a b : Str) : decide ((Sum.inr a : Key) = Sum.inr b) = decide (a = b) := by
  by_cases e : a = b
  · subst e; simp
  · have h : ¬ (Sum.inr a : Key) = Sum.inr b := fun q => e (Sum.inr.inj q)
    rw [decide_eq_false h, decide_eq_false e]
theorem key_lr (a : Int) (b : Str) : decide ((Sum.inl a : Key) = Sum.inr b) = false := decide_eq_false (fun q => nomatch q)
theorem key_rl (a : Str) (b : Int) : decide ((Sum.inr a : Key) = Sum.inl b) = false := decide_eq_false (fun q => nomatch q)
noncomputable def mixKind (prog : Program) (w : World) : PySem.KeyKind prog w Key where
  is := keyIs
  hash := keyH w
  inj := fun v a b ha hb => by
    rcases keyIs_shape ha with ⟨i, t, rfl, rfl⟩ | ⟨x, t, rfl, rfl⟩
    · rcases keyIs_shape hb with ⟨j, u, rfl, e⟩ | ⟨y, u, rfl, e⟩
      · injection e with e1 _; rw [e1]
      · exact nomatch e
    · rcases keyIs_shape hb with ⟨j, u, rfl, e⟩ | ⟨y, u, rfl, e⟩
      · exact nomatch e
      · injection e with e1 _; rw [e1]
  byValue := fun k v h => by
    rcases keyIs_shape h with ⟨i, t, rfl, rfl⟩ | ⟨x, t, rfl, rfl⟩ <;> rfl
  pyHash := fun hv h => by
    rcases keyIs_shape hv with ⟨i, t, rfl, rfl⟩ | ⟨x, t, rfl, rfl⟩
    · exact wpAny_pyHash_int h
    · exact wpAny_pyHash_str h
  eqBool := fun hu hv h => by
    rcases keyIs_shape hu with ⟨i, t, rfl, rfl⟩ | ⟨x, t, rfl, rfl⟩
    · rcases keyIs_shape hv with ⟨j, u, rfl, rfl⟩ | ⟨y, u, rfl, rfl⟩
      · rw [key_ll] at h; exact wpAny_eqBool_int h
      · rw [key_lr] at h; exact SeqAt.EqAt.int_str i t y u _ _ _ _ h
    · rcases keyIs_shape hv with ⟨j, u, rfl, rfl⟩ | ⟨y, u, rfl, rfl⟩
      · rw [key_rl] at h; exact SeqAt.EqAt.str_int x t j u _ _ _ _ h
      · rw [key_rr] at h; exact wpAny_eqBool_str h
  «strs» := fun k x t v h => by
    rcases keyIs_shape h with ⟨i, u, rfl, e⟩ | ⟨y, u, rfl, e⟩
    · exact nomatch e
    · injection e with e1 _
      subst e1
      cases v <;> rfl
theorem mixKind_int (prog : Program) (w : World) (i : Int) (t : Tok) : (mixKind prog w).is (.inl i) (.int i t) = true := keyIs_int i t
theorem mixKind_str (prog : Program) (w : World) (x : Str) (t : Tok) : (mixKind prog w).is (.inr x) (.str x t) = true := keyIs_str x t
end L2
namespace L2
open PySem PySem.Spec PyProof.Rows
inductive V where
  | non | bl (b : Bool) | int (i : Int) | str (x : Str) | byt (b : Array UInt8) | flt (b : UInt64) | ref (a : Addr) | ty (n : String)
  deriving DecidableEq
noncomputable def RelV : V → Value → Prop
  | .non, u => u = Value.none
  | .bl b, u => u = Value.bool b
  | .int i, u => ∃ t, u = Value.int i t
  | .str x, u => ∃ t, u = Value.str x t
  | .byt b, u => ∃ t, u = Value.bytes b t
  | .flt b, u => ∃ t, u = Value.float b t
  | .ref a, u => u = Value.ref a
  | .ty n, u => u = Value.type n
noncomputable abbrev Vals : List V → List Value → Prop := Paired RelV
theorem Vals.length {xs : List V} {us : List Value} (r : Vals xs us) : xs.length = us.length := Paired.length r
theorem Vals.get : ∀ {xs : List V} {us : List Value} {i : Nat} {x : V}, Vals xs us → xs[i]? = some x → ∃ u, us[i]? = some u ∧ RelV x u
  | _, _, _, _, .nil, e => by simp at e
  | _, _, 0, _, .cons r _, e => by simp at e; subst e; exact ⟨_, rfl, r⟩
  | _, _, i + 1, x, .cons _ t, e => by
    obtain ⟨u, h1, h2⟩ := Vals.get (i := i) (x := x) t (by simpa using e)
    exact ⟨u, by simpa using h1, h2⟩
theorem Vals.set {x : V} {u : Value} (r : RelV x u) : ∀ {xs : List V} {us : List Value} (i : Nat), Vals xs us → Vals (xs.set i x) (us.set i u)
  | _, _, _, .nil => .nil
  | _, _, 0, .cons _ t => .cons r t
  | _, _, i + 1, .cons q t => .cons q (Vals.set r i t)
theorem Vals.append : ∀ {xs ys : List V} {us ws : List Value}, Vals xs us → Vals ys ws → Vals (xs ++ ys) (us ++ ws)
  | _, _, _, _, .nil, s => s
  | _, _, _, _, .cons r t, s => .cons r (Vals.append t s)
theorem Vals.take : ∀ {xs : List V} {us : List Value} (n : Nat), Vals xs us → Vals (xs.take n) (us.take n)
  | _, _, 0, _ => .nil
  | _, _, _ + 1, .nil => .nil
  | _, _, n + 1, .cons r t => .cons r (Vals.take n t)
theorem Vals.drop : ∀ {xs : List V} {us : List Value} (n : Nat), Vals xs us → Vals (xs.drop n) (us.drop n)
  | _, _, 0, r => r
  | _, _, _ + 1, .nil => .nil
  | _, _, n + 1, .cons _ t => Vals.drop n t
noncomputable def RelO : Option V → Option Value → Prop
  | some v, some u => RelV v u
  | none, none => True
  | _, _ => False
noncomputable def KV {κ : Type} : List (κ × V) → List (κ × Value) → Prop := Paired fun (p : κ × V) (q : κ × Value) => p.1 = q.1 ∧ RelV p.2 q.2
noncomputable def kV : Key → V
  | .inl i => .int i
  | .inr x => .str x
inductive HO where
  /-- a list -/
  | lst (xs : List V)
  /-- a tuple (never changes) -/
  | tup (xs : List V)
  /-- a dict whose keys are ints and texts; one whose keys are tuples of ints and texts (the empty one is both) -/
  | dK (kvs : List (Key × V)) | dT (kvs : List (List Key × V))
  /-- a set of ints: its members, its size -/
  | set (S : Int → Bool) (n : Nat)
  /-- an instance of the class at C, its dict at dx, its attributes -/
  | ins (C dx : Addr) (fs : List (Str × V))
  /-- the dict of the instance at x -/
  | own (x : Addr)
  /-- the dict of an exception -/
  | xd (fs : List (Str × V))
  /-- a bound method, f of x -/
  | met (f x : Addr)
  /-- a range object lo, lo + 1, .. below hi -/
  | rng (lo hi : Int)
  /-- a thing that is known to the object (the script; a dict while a loop walks it): read, never written while it is so -/
  | frz (o : Obj) (u : HO)
  /-- a code object's table -/
  | tbl (ps : Array Value)
  /-- any other thing, by what is true of its one object (a def of one's own: SetO a S n := HO.ext fun h => ..) -/
  | ext (φ : Heap → Prop)
noncomputable abbrev Hp := Addr → Option HO
noncomputable def upd (H : Hp) (a : Addr) (o : HO) : Hp := fun b => if b = a then some o else H b
theorem upd_same {H : Hp} {a : Addr} {o : HO} : upd H a o a = some o := by unfold upd; rw [if_pos rfl]
theorem upd_ne {H : Hp} {a b : Addr} {o : HO} (h : b ≠ a) : upd H a o b = H b := by unfold upd; rw [if_neg h]
theorem ne_of {H : Hp} {a b : Addr} {o u : HO} (h : H a = some o) (h' : H b = some u) (d : o ≠ u) : a ≠ b := by
  intro e; subst e; rw [h] at h'; exact d (Option.some.inj h')
theorem ne_of_none {H : Hp} {a b : Addr} {o : HO} (h : H a = some o) (h' : H b = none) : a ≠ b := by
  intro e; subst e; rw [h] at h'; cases h'
noncomputable def TupN (h : Heap) (a : Addr) (items : Array Value) : Prop := ∃ o, h.get? a = some o ∧ o.cls = .type "tuple" ∧ ∃ n, o.data = .seq items n ∧ o.dict = none
theorem TupN.tup {h : Heap} {a : Addr} {items : Array Value} (x : TupN h a items) : IsTup h a items := let ⟨o, e, c, n, d, _⟩ := x; ⟨o, e, c, n, d⟩
theorem TupN.new (h : Heap) (items : Array Value) : TupN (h.push { cls := .type "tuple", data := .seq items }) h.objs.size items := ⟨_, Heap.get?_push_size _ rfl, rfl, _, rfl, rfl⟩
section
variable (P : Program) (w : World)
noncomputable def ObjOk (H : Hp) (h : Heap) (a : Addr) : HO → Prop
  | .lst xs => xs.length ≤ sizeLine ∧ ∃ (its : List Value) (n : Nat), Vals xs its ∧ h.get? a = some { cls := .type "list", data := .seq its.toArray n }
  | .tup xs => xs.length ≤ sizeLine ∧ ∃ its : List Value, Vals xs its ∧ TupN h a its.toArray
  | .dK kvs => kvs.length ≤ sizeLine ∧ (a == sysModules) = false ∧ ∃ vs, KV kvs vs ∧ h.DictOf (mixKind P w) a vs
  | .dT kvs => kvs.length ≤ sizeLine ∧ (a == sysModules) = false ∧ ∃ xs : List (List Key × Addr × Value),
      Paired (fun (p : List Key × V) (q : List Key × Addr × Value) => p.1 = q.1 ∧ H q.2.1 = some (.tup (p.1.map kV)) ∧ RelV p.2 q.2.2) kvs xs ∧
      ∃ o es ep, h.get? a = some o ∧ o.ExactDict ∧ o.data = .dict es ep ∧ es.toList = xs.map (entryOfKey (tupleKind (mixKind P w))) ∧ (xs.map (·.1)).Nodup
  | .set S n => h.SetOf (intKind P w) a S n
  | .ins C dx fs => H dx = some (.own a) ∧ fs.length ≤ 1000 ∧ dx ≠ a ∧ h.get? a = some (PySem.W.instObj C dx) ∧
      ∃ mA, h.Ns1 dx mA ∧ (∀ f, RelO (fs.lookup f) (mA f)) ∧ PySem.Within mA (fs.map (·.1))
  | .own _ => ∃ o, h.get? a = some o
  | .xd fs => ∃ mA, h.Ns1 a mA ∧ ∀ f, RelO (fs.lookup f) (mA f)
  | .rng lo hi => ∃ t u v, h.get? a = some { cls := .type "range", data := .fields #[.int lo t, .int hi u, .int 1 v] }
  | .frz o u => h.get? a = some o ∧ ObjOk H h a u
  | .tbl ps => h.get? a = some { cls := .none, data := .fields ps }
  | .met f x => h.get? a = some (PySem.W.methodObj (.ref f) (.ref x))
  | .ext φ => φ h ∧ (∃ o, h.get? a = some o) ∧ ∀ h1 h2 : Heap, φ h1 → (∀ o, h1.get? a = some o → h2.get? a = some o) → φ h2
noncomputable def HOk (H : Hp) (h : Heap) : Prop := ∀ a o, H a = some o → ObjOk P w H h a o
end
section
variable {P : Program} {w : World} {H H' : Hp} {h h' : Heap} {a : Addr} {o : HO}
theorem ObjOk.lt (x : ObjOk P w H h a o) : a < h.objs.size := by
  cases o with
  | lst xs => obtain ⟨_, _, _, _, e⟩ := x; exact Heap.lt_size e
  | tup xs => obtain ⟨_, _, _, p⟩ := x; exact p.tup.lt
  | dK kvs => obtain ⟨_, _, _, _, o, _, _, e, _⟩ := x; exact Heap.lt_size e
  | dT kvs => obtain ⟨_, _, _, _, o, _, _, e, _⟩ := x; exact Heap.lt_size e
  | set S n => obtain ⟨o, _, _, _, e, _⟩ := x; exact Heap.lt_size e
  | ins C dx fs => obtain ⟨_, _, _, e, _⟩ := x; exact Heap.lt_size e
  | own y => obtain ⟨_, e⟩ := x; exact Heap.lt_size e
  | xd fs => obtain ⟨_, ⟨_, _, _, e, _⟩, _⟩ := x; exact Heap.lt_size e
  | rng lo hi => obtain ⟨_, _, _, e⟩ := x; exact Heap.lt_size e
  | frz ob u => obtain ⟨e, _⟩ := x; exact Heap.lt_size e
  | tbl ps => exact Heap.lt_size (show h.get? a = some _ from x)
  | met f y => exact Heap.lt_size (show h.get? a = some _ from x)
  | ext φ => obtain ⟨_, ⟨_, e⟩, _⟩ := x; exact Heap.lt_size e
theorem Paired.mapP {α β : Type} {F G : α → β → Prop} : ∀ {l₁ : List α} {l₂ : List β}, Paired F l₁ l₂ → (∀ a b, F a b → G a b) → Paired G l₁ l₂
  | _, _, .nil, _ => .nil
  | _, _, .cons r t, f => .cons (f _ _ r) (Paired.mapP t f)
theorem ObjOk.stay (x : ObjOk P w H h a o) (k : ∀ b u, (b = a ∨ H b = some (.own a)) → h.get? b = some u → h'.get? b = some u)
    (ho : ∀ b, H b = some (.own a) → H' b = some (.own a)) (ht : ∀ b xs, H b = some (.tup xs) → H' b = some (.tup xs)) : ObjOk P w H' h' a o := by
  induction o with
  | lst xs => obtain ⟨z, its, n, r, e⟩ := x; exact ⟨z, its, n, r, k _ _ (.inl rfl) e⟩
  | tup xs => obtain ⟨z, its, r, ob, e, c⟩ := x; exact ⟨z, its, r, ob, k _ _ (.inl rfl) e, c⟩
  | dK kvs => obtain ⟨z, y, vs, r, ob, es, ep, e, c⟩ := x; exact ⟨z, y, vs, r, ob, es, ep, k _ _ (.inl rfl) e, c⟩
  | dT kvs =>
    obtain ⟨z, y, xs, r, ob, es, ep, e, c⟩ := x
    exact ⟨z, y, xs, Paired.mapP r fun p q z => ⟨z.1, ht _ _ z.2.1, z.2.2⟩, ob, es, ep, k _ _ (.inl rfl) e, c⟩
  | set S n => obtain ⟨ob, es, ep, t, e, c⟩ := x; exact ⟨ob, es, ep, t, k _ _ (.inl rfl) e, c⟩
  | ins C dx fs =>
    obtain ⟨d, z, ne, e, mA, ⟨od, es, ep, e2, c⟩, r⟩ := x
    exact ⟨ho _ d, z, ne, k _ _ (.inl rfl) e, mA, ⟨od, es, ep, k _ _ (.inr d) e2, c⟩, r⟩
  | own y => obtain ⟨ob, e⟩ := x; exact ⟨ob, k _ _ (.inl rfl) e⟩
  | xd fs => obtain ⟨mA, ⟨od, es, ep, e, c⟩, r⟩ := x; exact ⟨mA, ⟨od, es, ep, k _ _ (.inl rfl) e, c⟩, r⟩
  | rng lo hi => obtain ⟨t, u, v, e⟩ := x; exact ⟨t, u, v, k _ _ (.inl rfl) e⟩
  | frz ob u ih => obtain ⟨e, q⟩ := x; exact ⟨k _ _ (.inl rfl) e, ih q⟩
  | tbl ps =>
    have e : h.get? a = some { cls := .none, data := .fields ps } := x
    show h'.get? a = some { cls := .none, data := .fields ps }
    exact k a _ (.inl rfl) e
  | met f y =>
    have e : h.get? a = some (PySem.W.methodObj (.ref f) (.ref y)) := x
    show h'.get? a = some (PySem.W.methodObj (.ref f) (.ref y))
    exact k a _ (.inl rfl) e
  | ext φ => obtain ⟨p, ⟨o, e⟩, st⟩ := x; exact ⟨st _ _ p fun o q => k _ _ (.inl rfl) q, ⟨o, k _ _ (.inl rfl) e⟩, st⟩
theorem HOk.lt (x : HOk P w H h) (e : H a = some o) : a < h.objs.size := (x a o e).lt
theorem HOk.fresh (x : HOk P w H h) (e : h.objs.size ≤ a) : H a = none := by
  cases q : H a with
  | none => rfl
  | some u => exact absurd (Nat.lt_of_lt_of_le (x.lt q) e) (Nat.lt_irrefl _)
theorem HOk.kept (x : HOk P w H h) (k : ∀ b u, h.get? b = some u → h'.get? b = some u) : HOk P w H h' := fun a o e =>
  (x a o e).stay (fun b u _ q => k b u q) (fun _ q => q) fun _ _ q => q
theorem HOk.laid (x : HOk P w H h) (k : ∀ b u, h.get? b = some u → h'.get? b = some u) (hp : h.objs.size ≤ a) (new : ObjOk P w (upd H a o) h' a o) : HOk P w (upd H a o) h' := fun b u e => by
  have hn := x.fresh hp
  by_cases hb : b = a
  · subst hb; rw [upd_same] at e; cases e; exact new
  · rw [upd_ne hb] at e
    exact (x b u e).stay (fun c v _ q => k c v q) (fun c q => by rw [upd_ne (ne_of_none q hn)]; exact q) fun c xs q => by rw [upd_ne (ne_of_none q hn)]; exact q
end
noncomputable def Rd (H : Hp) (a : Addr) (u : HO) : Prop := H a = some u ∨ ∃ o, H a = some (.frz o u)
theorem Rd.ok {P : Program} {w : World} {H : Hp} {h : Heap} {a : Addr} {u : HO} (r : Rd H a u) (x : HOk P w H h) : ObjOk P w H h a u := by
  rcases r with r | ⟨o, r⟩
  · exact x a u r
  · obtain ⟨_, q⟩ := x a _ r
    exact q
noncomputable def Mut : Option HO → Prop
  | some (.lst _) => True
  | some (.dK _) => True
  | some (.dT _) => True
  | some (.set _ _) => True
  | some (.ins _ _ _) => True
  | some (.ext _) => True
  | _ => False
section
variable {P : Program} {w : World} {H : Hp} {h h' : Heap} {x e : Addr} {o' : HO}
theorem HOk.write (ok : HOk P w H h) (mu : Mut (H x)) (he : e = x ∨ H e = some (.own x)) (k : ∀ b u, b ≠ e → h.get? b = some u → h'.get? b = some u) (heo : ∃ u, h'.get? e = some u)
    (new : ObjOk P w (upd H x o') h' x o') : HOk P w (upd H x o') h' := fun b u q => by
  have nown : ∀ c y, H c = some (.own y) → c ≠ x := fun c y r z => by subst z; rw [r] at mu; exact mu
  have ntup : ∀ c xs, H c = some (.tup xs) → c ≠ x := fun c xs r z => by subst z; rw [r] at mu; exact mu
  by_cases hb : b = x
  · subst hb; rw [upd_same] at q; cases q; exact new
  · rw [upd_ne hb] at q
    by_cases hbe : b = e
    · have q' : H b = some (.own x) := by
        rcases he with z | z
        · exact absurd (hbe.trans z) hb
        · rw [hbe]; exact z
      rw [q] at q'; cases q'
      obtain ⟨v, hv⟩ := heo
      exact ⟨v, by rw [hbe]; exact hv⟩
    · refine (ok b u q).stay (fun c v hc r => k c v ?_ r) (fun c r => by rw [upd_ne (nown c b r)]; exact r) fun c xs r => by rw [upd_ne (ntup c xs r)]; exact r
      rcases hc with rfl | hc
      · exact hbe
      · rintro rfl
        rcases he with z | z
        · exact nown c b hc z
        · rw [hc] at z; cases z; exact hb rfl
end
structure Un (fs ex : List Addr) (H H' : Hp) (h h' : Heap) : Prop where
  keep : ∀ b o, h.get? b = some o → H b = none → b ∉ fs → b ∉ ex → h'.get? b = some o
  slot : ∀ b o, h.get? b = some o → H b = none → b ∈ fs → b ∉ ex → ∃ sl, h'.get? b = some { o with slots := sl }
  free : ∀ b o, h.get? b = some o → H b = none → b ∉ ex → H' b = none
  there : ∀ b o, h.get? b = some o → b ∉ ex → ∃ o', h'.get? b = some o'
  tups : ∀ b xs, H b = some (.tup xs) → H' b = some (.tup xs)
  frzs : ∀ b o u, H b = some (.frz o u) → H' b = some (.frz o u)
  tbls : ∀ b ps, H b = some (.tbl ps) → ∃ more, H' b = some (.tbl (ps ++ more))
section
variable {fs fs' ex ex' : List Addr} {H H1 H2 : Hp} {h h1 h2 h' : Heap} {a x e : Addr} {o : HO}
theorem Un.any (u : Un fs ex H H1 h h1) {b : Addr} {ob : Obj} (q : h.get? b = some ob) (n : H b = none) (hx : b ∉ ex) : ∃ sl, h1.get? b = some { ob with slots := sl } := by
  by_cases hb : b ∈ fs
  · exact u.slot b ob q n hb hx
  · exact ⟨ob.slots, u.keep b ob q n hb hx⟩
theorem Un.kept (k : ∀ b u, h.get? b = some u → h'.get? b = some u) : Un fs ex H H h h' :=
  ⟨fun b ob q _ _ _ => k b ob q, fun b ob q _ _ _ => ⟨ob.slots, k b ob q⟩, fun _ _ _ n _ => n, fun b ob q _ => ⟨ob, k b ob q⟩, fun _ _ q => q, fun _ _ _ q => q, fun _ ps q => ⟨#[], by rw [q]; simp⟩⟩
theorem Un.refl : Un fs ex H H h h := Un.kept fun _ _ q => q
theorem Un.laid (k : ∀ b u, h.get? b = some u → h'.get? b = some u) (hp : h.objs.size ≤ a) (hn : H a = none) : Un fs ex H (upd H a o) h h' where
  keep := fun b u q _ _ _ => k b u q
  slot := fun b u q _ _ _ => ⟨u.slots, k b u q⟩
  free := fun b u q n _ => by rw [upd_ne (Nat.ne_of_lt (Nat.lt_of_lt_of_le (Heap.lt_size q) hp))]; exact n
  there := fun b u q _ => ⟨u, k b u q⟩
  tups := fun b xs q => by rw [upd_ne (ne_of_none q hn)]; exact q
  frzs := fun b u xs q => by rw [upd_ne (ne_of_none q hn)]; exact q
  tbls := fun b ps q => ⟨#[], by rw [upd_ne (ne_of_none q hn), q]; simp⟩
theorem Un.write (mu : Mut (H x)) (he : e = x ∨ H e = some (.own x)) (k : ∀ b u, b ≠ e → h.get? b = some u → h'.get? b = some u) (heo : ∃ u, h'.get? e = some u) : Un fs ex H (upd H x o) h h' := by
  have hx : ∀ b, H b = none → b ≠ x := fun b n z => by subst z; rw [n] at mu; exact mu
  have hb : ∀ b, H b = none → b ≠ e := fun b n z => by
    subst z
    rcases he with r | r
    · exact hx b n r
    · rw [n] at r; cases r
  have hm : ∀ b u, H b = some u → ¬ Mut (some u) → b ≠ x := fun b u q nm z => by subst z; rw [q] at mu; exact nm mu
  refine ⟨fun b u q n _ _ => k b u (hb b n) q, fun b u q n _ _ => ⟨u.slots, k b u (hb b n) q⟩, fun b u q n _ => by rw [upd_ne (hx b n)]; exact n, fun b u q _ => ?_,
    fun b xs q => by rw [upd_ne (hm b _ q fun z => z)]; exact q, fun b u xs q => by rw [upd_ne (hm b _ q fun z => z)]; exact q, fun b ps q => ⟨#[], by rw [upd_ne (hm b _ q fun z => z), q]; simp⟩⟩
  by_cases hbe : b = e
  · subst hbe; exact heo
  · exact ⟨u, k b u hbe q⟩
end
noncomputable def trk (h : Heap) (H : Hp) : List Addr := (List.range h.objs.size).filter fun a => (H a).isSome
noncomputable def hidT (h : Heap) (H : Hp) : Heap := PySem.W.hideAll h (trk h H)
theorem hidT_size (h : Heap) (H : Hp) : (hidT h H).objs.size = h.objs.size := PySem.W.hideAll_size _ _
theorem hidT_get {h : Heap} {H : Hp} {b : Addr} {o : Obj} (e : h.get? b = some o) (n : H b = none) : (hidT h H).get? b = some o :=
  PySem.W.hideAll_get _ e fun hm => by
    have q : (H b).isSome = true := (List.mem_filter.mp hm).2
    rw [n] at q; simp at q
theorem of_hidT {h : Heap} {H : Hp} {b : Addr} {o : Obj} (e : (hidT h H).get? b = some o) : h.get? b = some o ∧ H b = none := by
  have e' : h.get? b = some o := PySem.W.of_hideAll (trk h H) e
  refine ⟨e', ?_⟩
  cases q : H b with
  | none => rfl
  | some x =>
    have hm : b ∈ trk h H := List.mem_filter.mpr ⟨List.mem_range.mpr (Heap.lt_size e'), by simp [q]⟩
    have z : (hidT h H).get? b = none := PySem.W.hideAll_none (trk h H) hm
    rw [z] at e; cases e
noncomputable def allNews (g h : Heap) (L : Addr) : List (Addr × Obj) := (List.range h.objs.size).filterMap fun a => if a = L ∨ (g.get? a).isSome = true then none else (h.get? a).map fun o => (a, o)
noncomputable def rest (g h : Heap) (L d : Addr) : List (Addr × Obj) := (allNews g h L).filter fun p => decide (p.1 ≠ d)
end L2
namespace L2
open PySem PySem.Spec PyProof.Rows
structure Mod (K : PySem.W.Frag) (mg : Str → Option Value) (base : Heap) : Prop where
  kin : K.In base
  glob : base.Ns mainGlobals mg
  blt : ∃ mb, base.Ns builtinsNs mb ∧ ∀ x : Str, x ≠ "__name__" → mb x = bootBuiltins x
  nolimit : base.NoLimit
structure Cx where
  prog : Program
  w : World
  K : PySem.W.Frag
  mg : Str → Option Value
  base : Heap
  A : Around
  N : List Str
  s₀ : Shared
  H₀ : Hp
  env : Env
  outer : List Env
  stack : List Env
  ex : List Addr
  fn : Str → Bool
  calm : Bool
  pn : List (Addr × Obj)
  xe : Value → Shared → Prop
noncomputable def frs (l : List Env) : List Addr := l.filterMap (·.frame)
noncomputable abbrev Cx.fs (X : Cx) : List Addr := frs X.outer
noncomputable def Vis (sc : Scope) (x : Str) : Prop := sc.names.lookup x = some .local ∨ sc.names.lookup x = some .cell ∨ sc.names.lookup x = some .free
noncomputable def Loc (sc : Scope) (x : Str) : Prop := sc.names.lookup x = some .local ∨ sc.names.lookup x = some .cell
noncomputable def Look (env : Env) (h : Heap) (m : Str → Option Value) (x : Str) (u : Value) : Prop :=
  (env.kindOf x = some .local ∧ m x = some u) ∨ ((env.kindOf x = some .cell ∨ env.kindOf x = some .free) ∧ ∃ c, env.cells.lookup x = some c ∧ h.IsCell c (some u))
structure Cx.Ok (X : Cx) : Prop where
  mod : Mod X.K X.mg X.base
  kind : X.env.scope.kind = .function
  glob : X.env.globals = mainGlobals
  blt : X.env.builtins = builtinsNs
  above : X.s₀.heap.objs.size ≤ X.env.locals
  inj : ∀ x y c, X.env.cells.lookup x = some c → X.env.cells.lookup y = some c → x = y
  has : ∀ x, (X.env.kindOf x = some .cell ∨ X.env.kindOf x = some .free) → ∃ c, X.env.cells.lookup x = some c
  cab : ∀ x c, X.fn x = true → X.env.cells.lookup x = some c → X.s₀.heap.objs.size ≤ c
  hd : X.calm = true → X.A.handled = none
  frames : X.A.frames = some X.stack
  stk : X.stack = X.outer ∨ (X.stack = X.env :: X.outer ∧ X.env.frame = some X.env.locals)
  exf : ∀ b ∈ X.ex, b ≠ X.env.locals ∧ ∀ x c, X.env.cells.lookup x = some c → c ≠ b
  bs : ∀ b o, X.base.get? b = some o → X.s₀.heap.get? b = some o ∧ X.H₀ b = none
  bsz : X.base.objs.size ≤ X.s₀.heap.objs.size
  noex : ∀ b o, X.base.get? b = some o → b ∉ X.ex
  exfs : ∀ b ∈ X.ex, b ∉ X.fs
  funs : X.s₀.heap.FunFrames X.base X.outer
  frf : ∀ b ∈ X.fs, X.H₀ b = none
structure Inv (X : Cx) (pins : List (Addr × Obj)) (σ : List (Option V)) (H : Hp) (s : Shared) : Prop where
  ok : X.Ok
  os : s.os = X.s₀.os
  bare : AllBare s.gens
  base : Un X.fs X.ex X.H₀ H X.s₀.heap s.heap
  loc : ∃ m, s.heap.Ns X.env.locals m ∧ ∀ (i : Nat) (x : Str) (v : V), X.N[i]? = some x → σ[i]? = some (some v) → Vis X.env.scope x → ∃ u, RelV v u ∧ Look X.env s.heap m x u
  cell : ∀ x c, X.env.cells.lookup x = some c → ∃ v, s.heap.IsCell c v
  free : H X.env.locals = none
  freeC : ∀ x c, X.env.cells.lookup x = some c → H c = none
  pin : ∀ p ∈ X.pn ++ pins, s.heap.get? p.1 = some p.2 ∧ H p.1 = none ∧ p.1 ≠ X.env.locals ∧ p.1 ∉ X.fs ∧ ∀ v, p.2.data ≠ .cell v
  hok : HOk X.prog X.w H s.heap
  len : σ.length = X.N.length
section
variable {X : Cx} {pins : List (Addr × Obj)} {σ : List (Option V)} {H H' : Hp} {s : Shared} {h' : Heap}
theorem Cx.Ok.nofr (ok : X.Ok) {b : Addr} {o : Obj} (e : X.base.get? b = some o) : b ∉ X.fs := fun hb => by
  have := (ok.funs.mem hb).1
  rw [e] at this; cases this
theorem Inv.bs (I : Inv X pins σ H s) : ∀ b o, X.base.get? b = some o → s.heap.get? b = some o ∧ H b = none := fun b o e =>
  ⟨I.base.keep b o (I.ok.bs b o e).1 (I.ok.bs b o e).2 (I.ok.nofr e) (I.ok.noex b o e), I.base.free b o (I.ok.bs b o e).1 (I.ok.bs b o e).2 (I.ok.noex b o e)⟩
theorem Inv.bk (I : Inv X pins σ H s) : ∀ b o, X.base.get? b = some o → s.heap.get? b = some o := fun b o e => (I.bs b o e).1
theorem Inv.mod (I : Inv X pins σ H s) : Mod X.K X.mg X.base := I.ok.mod
theorem Inv.kIn (I : Inv X pins σ H s) : X.K.In s.heap := I.ok.mod.kin.keeps I.bk
theorem Inv.lt (I : Inv X pins σ H s) : X.env.locals < s.heap.objs.size := let ⟨_, hn, _⟩ := I.loc; hn.lt
theorem Inv.sz (I : Inv X pins σ H s) : X.s₀.heap.objs.size ≤ s.heap.objs.size := Nat.le_trans I.ok.above (Nat.le_of_lt I.lt)
theorem Inv.nofs (I : Inv X pins σ H s) {a : Addr} (h : s.heap.objs.size ≤ a) : a ∉ X.fs := fun hb => by
  obtain ⟨_, o, ho, _⟩ := I.ok.funs.mem hb
  exact absurd (Nat.lt_of_lt_of_le (Heap.lt_size ho) (Nat.le_trans I.sz h)) (Nat.lt_irrefl _)
theorem Inv.cne (I : Inv X pins σ H s) : ∀ x c, X.env.cells.lookup x = some c → c ≠ X.env.locals := fun x c e z => by
  obtain ⟨v, o, ho, hd⟩ := I.cell x c e
  obtain ⟨m, ⟨o', es, ep, ho', hd', _⟩, _⟩ := I.loc
  rw [z, ho'] at ho; cases ho; rw [hd'] at hd; cases hd
theorem Inv.funs (I : Inv X pins σ H s) : s.heap.FunFrames X.base X.outer := by
  have all : ∀ (l : List Env), (∀ b ∈ frs l, b ∈ X.fs) → X.s₀.heap.FunFrames X.base l → s.heap.FunFrames X.base l := by
    intro l
    induction l with
    | nil => intro _ _; trivial
    | cons env r ih =>
      intro hs hl
      obtain ⟨hk, ⟨L, o, hf, hn, ho, hd⟩, hr⟩ := hl
      have hL : L ∈ X.fs := hs L (by unfold frs; rw [List.filterMap_cons, hf]; exact List.mem_cons_self)
      obtain ⟨sl, e⟩ := I.base.slot L o ho (I.ok.frf L hL) hL fun z => I.ok.exfs L z hL
      exact ⟨hk, ⟨L, _, hf, hn, e, hd⟩, ih (fun b hb => hs b (by unfold frs; rw [List.filterMap_cons, hf]; exact List.mem_cons_of_mem _ hb)) hr⟩
  exact all X.outer (fun _ hb => hb) I.ok.funs
theorem Inv.stack (I : Inv X pins σ H s) : s.heap.FunFrames X.base X.stack := by
  rcases I.ok.stk with e | ⟨e, hf⟩
  · rw [e]; exact I.funs
  · rw [e]
    obtain ⟨m, hn, _⟩ := I.loc
    refine .cons (by rw [I.ok.kind]; decide) hf hn ?_ I.funs
    exact Heap.get?_none_of_le (Nat.le_trans I.ok.bsz I.ok.above)
theorem Inv.stkSub (I : Inv X pins σ H s) : ∀ b ∈ frs X.stack, b ∈ X.env.locals :: X.fs := fun b hb => by
  rcases I.ok.stk with e | ⟨e, hf⟩
  · rw [e] at hb; exact List.mem_cons_of_mem _ hb
  · rw [e] at hb
    unfold frs at hb
    rw [List.filterMap_cons, hf] at hb
    exact hb
theorem Inv.stkFree (I : Inv X pins σ H s) : ∀ b ∈ frs X.stack, H b = none := fun b hb => by
  rcases List.mem_cons.mp (I.stkSub b hb) with e | hb
  · rw [e]; exact I.free
  · obtain ⟨_, o, ho, _⟩ := I.ok.funs.mem hb
    exact I.base.free b o ho (I.ok.frf b hb) fun z => I.ok.exfs b z hb
theorem Inv.step {g' : Array GenState} {t' : Nat} {d' : Drawn} {ch : List Addr} (I : Inv X pins σ H s)
    (hch : ∀ b ∈ ch, (b ∈ X.ex ∨ X.s₀.heap.objs.size ≤ b) ∧ b ≠ X.env.locals ∧ (∀ x c, X.env.cells.lookup x = some c → c ≠ b) ∧ ∀ p ∈ X.pn ++ pins, p.1 ≠ b)
    (keep : ∀ b o, b ≠ X.env.locals → b ∉ X.fs → b ∉ ch → s.heap.get? b = some o → H b = none → h'.get? b = some o)
    (slot : ∀ b o, b ≠ X.env.locals → b ∈ X.fs → b ∉ ch → s.heap.get? b = some o → H b = none → ∃ sl, h'.get? b = some { o with slots := sl }) (free : ∀ b o, b ∉ ch → s.heap.get? b = some o → H b = none → H' b = none)
    (there : ∀ b o, b ∉ ch → s.heap.get? b = some o → ∃ o', h'.get? b = some o')
    (tups : ∀ b xs, H b = some (.tup xs) → H' b = some (.tup xs)) (frzs : ∀ b o u, H b = some (.frz o u) → H' b = some (.frz o u)) (tbls : ∀ b ps, H b = some (.tbl ps) → ∃ more, H' b = some (.tbl (ps ++ more)))
    (ns : ∀ m, s.heap.Ns X.env.locals m → h'.Ns X.env.locals m) (hok : HOk X.prog X.w H' h') (hg : AllBare g') :
    Inv X pins σ H' { s with heap := h', gens := g', drawn := d', toks := t' } := by
  have neL : ∀ b o, X.s₀.heap.get? b = some o → b ≠ X.env.locals := fun b o e => Nat.ne_of_lt (Nat.lt_of_lt_of_le (Heap.lt_size e) I.ok.above)
  have neC : ∀ b o, X.s₀.heap.get? b = some o → b ∉ X.ex → b ∉ ch := fun b o e hx hb => by
    rcases (hch b hb).1 with z | z
    · exact hx z
    · exact absurd (Nat.lt_of_lt_of_le (Heap.lt_size e) z) (Nat.lt_irrefl _)
  have cellK : ∀ x c, X.env.cells.lookup x = some c → ∀ v, s.heap.IsCell c v → h'.IsCell c v := fun x c e v ⟨o, ho, hd⟩ => by
    have nch : c ∉ ch := fun z => (hch c z).2.2.1 x c e rfl
    by_cases hc : c ∈ X.fs
    · obtain ⟨sl, q⟩ := slot c o (I.cne x c e) hc nch ho (I.freeC x c e)
      exact ⟨_, q, hd⟩
    · exact ⟨o, keep c o (I.cne x c e) hc nch ho (I.freeC x c e), hd⟩
  refine ⟨I.ok, I.os, hg, ⟨fun b o e n hb hx => ?_, fun b o e n hb hx => ?_, fun b o e n hx => ?_, fun b o e hx => ?_, fun b xs e => tups b xs (I.base.tups b xs e), fun b o xs e => frzs b o xs (I.base.frzs b o xs e), fun b ps e => ?_⟩, ?_, fun x c e => ?_, ?_, fun x c e => ?_, fun p hp => ?_, hok, I.len⟩
  · exact keep b o (neL b o e) hb (neC b o e hx) (I.base.keep b o e n hb hx) (I.base.free b o e n hx)
  · obtain ⟨sl, e1⟩ := I.base.slot b o e n hb hx
    obtain ⟨sl', e2⟩ := slot b _ (neL b o e) hb (neC b o e hx) e1 (I.base.free b o e n hx)
    exact ⟨sl', e2⟩
  · obtain ⟨o', e1⟩ := I.base.there b o e hx
    exact free b o' (neC b o e hx) e1 (I.base.free b o e n hx)
  · obtain ⟨o', e1⟩ := I.base.there b o e hx
    exact there b o' (neC b o e hx) e1
  · obtain ⟨m1, e1⟩ := I.base.tbls b ps e
    obtain ⟨m2, e2⟩ := tbls b _ e1
    exact ⟨m1 ++ m2, by rw [e2, Array.append_assoc]⟩
  · obtain ⟨m, hn, hl⟩ := I.loc
    refine ⟨m, ns m hn, fun i x v e1 e2 e3 => ?_⟩
    obtain ⟨u, r, l⟩ := hl i x v e1 e2 e3
    refine ⟨u, r, ?_⟩
    rcases l with l | ⟨k, c, e, z⟩
    · exact .inl l
    · exact .inr ⟨k, c, e, cellK x c e _ z⟩
  · obtain ⟨v, z⟩ := I.cell x c e
    exact ⟨v, cellK x c e v z⟩
  · obtain ⟨m, ⟨o, _, _, ho, _⟩, _⟩ := I.loc
    exact free _ o (fun z => (hch _ z).2.1 rfl) ho I.free
  · obtain ⟨v, o, ho, hd⟩ := I.cell x c e
    exact free c o (fun z => (hch c z).2.2.1 x c e rfl) ho (I.freeC x c e)
  · obtain ⟨e, n, ne, nf, d⟩ := I.pin p hp
    have nch : p.1 ∉ ch := fun z => (hch p.1 z).2.2.2 p hp rfl
    exact ⟨keep p.1 p.2 ne nf nch e n, free p.1 p.2 nch e n, ne, nf, d⟩
theorem Inv.un {t' : Nat} (I : Inv X pins σ H s) (u : Un X.fs [] H H' s.heap h') (hok : HOk X.prog X.w H' h') : Inv X pins σ H' { s with heap := h', toks := t' } := by
  obtain ⟨m, ⟨o, es, ep, ho, r⟩, _⟩ := id I.loc
  obtain ⟨sl, hL⟩ := u.any ho I.free (by simp)
  exact I.step (g' := s.gens) (d' := s.drawn) (ch := []) (fun _ z => nomatch z) (fun b o _ hb _ e n => u.keep b o e n hb (by simp)) (fun b o _ hb _ e n => u.slot b o e n hb (by simp)) (fun b o _ e n => u.free b o e n (by simp)) (fun b o _ e => u.there b o e (by simp)) u.tups u.frzs u.tbls (fun m' hm => by
    obtain ⟨o', es', ep', ho', r'⟩ := hm
    rw [ho] at ho'; cases ho'
    exact ⟨_, es', ep', hL, r'⟩) hok I.bare
theorem Inv.call {g' : Array GenState} {t' : Nat} {d' : Drawn} {ch : List Addr} (I : Inv X pins σ H s) (u : Un (frs X.stack) ch H H' s.heap h') (hok : HOk X.prog X.w H' h') (hg : AllBare g')
    (hch : ∀ b ∈ ch, (b ∈ X.ex ∨ X.s₀.heap.objs.size ≤ b) ∧ b ≠ X.env.locals ∧ (∀ x c, X.env.cells.lookup x = some c → c ≠ b) ∧ ∀ p ∈ X.pn ++ pins, p.1 ≠ b) :
    Inv X pins σ H' { s with heap := h', gens := g', drawn := d', toks := t' } := by
  obtain ⟨m, ⟨o, es, ep, ho, r⟩, _⟩ := id I.loc
  obtain ⟨sl, hL⟩ := u.any ho I.free fun z => (hch _ z).2.1 rfl
  exact I.step (ch := ch) hch (fun b o hL hb hc e n => u.keep b o e n (fun z => (List.mem_cons.mp (I.stkSub b z)).elim hL hb) hc) (fun b o _ _ hc e n => u.any e n hc) (fun b o hc e n => u.free b o e n hc) (fun b o hc e => u.there b o e hc) u.tups u.frzs u.tbls (fun m' hm => by
    obtain ⟨o', es', ep', ho', r'⟩ := hm
    rw [ho] at ho'; cases ho'
    exact ⟨_, es', ep', hL, r'⟩) hok hg
theorem Inv.turned {t' : Nat} {it : Addr} (I : Inv X pins σ H s) (k : ∀ b o, b ≠ it → s.heap.get? b = some o → h'.get? b = some o) (hn : H it = none) (hL : it ≠ X.env.locals)
    (h1 : it ∈ X.ex ∨ X.s₀.heap.objs.size ≤ it) (h2 : ∀ x c, X.env.cells.lookup x = some c → c ≠ it) (h3 : ∀ p ∈ X.pn ++ pins, p.1 ≠ it) : Inv X pins σ H { s with heap := h', toks := t' } := by
  have nit : ∀ b u, H b = some u → b ≠ it := fun b u e z => by rw [z, hn] at e; cases e
  refine I.step (g' := s.gens) (d' := s.drawn) (ch := [it]) (fun b hb => ?_) (fun b o _ _ hc e _ => k b o (fun z => hc (by simp [z])) e) (fun b o _ _ hc e _ => ⟨o.slots, k b o (fun z => hc (by simp [z])) e⟩) (fun _ _ _ _ n => n)
    (fun b o hc e => ⟨o, k b o (fun z => hc (by simp [z])) e⟩) (fun _ _ e => e) (fun _ _ _ e => e) (fun b ps e => ⟨#[], by rw [e]; simp⟩) (fun m hm => ?_) (fun b u e => ?_) I.bare
  · have e : b = it := by simpa using hb
    subst e
    exact ⟨h1, hL, h2, h3⟩
  · obtain ⟨o, es, ep, ho, r⟩ := hm
    exact ⟨o, es, ep, k _ o (Ne.symm hL) ho, r⟩
  · refine (I.hok b u e).stay (fun c v hc q => k c v ?_ q) (fun _ q => q) fun _ _ q => q
    rcases hc with z | z
    · rw [z]; exact nit b u e
    · exact nit c _ z
theorem Inv.tok (I : Inv X pins σ H s) (t : Nat) : Inv X pins σ H { s with toks := t } := I.un (h' := s.heap) (t' := t) Un.refl I.hok
theorem Inv.kept {t' : Nat} (I : Inv X pins σ H s) (k : ∀ b u, s.heap.get? b = some u → h'.get? b = some u) : Inv X pins σ H { s with heap := h', toks := t' } := I.un (Un.kept k) (I.hok.kept k)
theorem Inv.laid {a : Addr} {o : HO} {t' : Nat} (I : Inv X pins σ H s) (k : ∀ b u, s.heap.get? b = some u → h'.get? b = some u) (hp : s.heap.objs.size ≤ a) (new : ObjOk X.prog X.w (upd H a o) h' a o) :
    Inv X pins σ (upd H a o) { s with heap := h', toks := t' } := I.un (Un.laid k hp (I.hok.fresh hp)) (I.hok.laid k hp new)
theorem Inv.write {x e : Addr} {o : HO} {t' : Nat} (I : Inv X pins σ H s) (mu : Mut (H x)) (he : e = x ∨ H e = some (.own x)) (k : ∀ b u, b ≠ e → s.heap.get? b = some u → h'.get? b = some u) (heo : ∃ u, h'.get? e = some u)
    (new : ObjOk X.prog X.w (upd H x o) h' x o) : Inv X pins σ (upd H x o) { s with heap := h', toks := t' } := I.un (Un.write mu he k heo) (I.hok.write mu he k heo new)
theorem Inv.pins_of {pins' : List (Addr × Obj)} (I : Inv X pins σ H s) (h : ∀ p ∈ pins', s.heap.get? p.1 = some p.2 ∧ H p.1 = none ∧ p.1 ≠ X.env.locals ∧ p.1 ∉ X.fs ∧ ∀ v, p.2.data ≠ .cell v) : Inv X pins' σ H s :=
  ⟨I.ok, I.os, I.bare, I.base, I.loc, I.cell, I.free, I.freeC, fun p hp => (List.mem_append.mp hp).elim (fun z => I.pin p (List.mem_append_left _ z)) (h p), I.hok, I.len⟩
theorem nodup_ix {N : List Str} (hN : N.Nodup) {i j : Nat} {x : Str} (a : N[i]? = some x) (b : N[j]? = some x) : i = j := by
  obtain ⟨h1, e1⟩ := List.getElem?_eq_some_iff.mp a
  obtain ⟨h2, e2⟩ := List.getElem?_eq_some_iff.mp b
  exact (List.getElem_inj hN).mp (e1.trans e2.symm)
theorem store_ok2 {M : Model} {A : Around} {E : Value → Shared → Prop} {i : Nat} {x : Str} {v : V} {u : Value} {Q : Unit → Shared → Prop} (I : Inv X pins σ H s) (hN : X.N.Nodup) (hi : X.N[i]? = some x) (hx : Loc X.env.scope x) (r : RelV v u)
    (h : ∀ s', Inv X pins (σ.set i (some v)) H s' → (∃ a, Heap.SameBut a s.heap s'.heap ∧ (a = X.env.locals ∨ X.env.cells.lookup x = some a)) → Q () s') (hf : X.fn x = true ∨ X.env.scope.names.lookup x = some .local := by first | exact .inl rfl | exact .inr rfl | assumption) : wpAny M A (storeName X.env x u) Q E s := by
  obtain ⟨m, hn, hl⟩ := id I.loc
  have hcls : (X.env.scope.kind == .class || (X.env.scope.kind == .module && X.env.locals != X.env.globals)) = false := by rw [I.ok.kind]; rfl
  have hiσ : i < σ.length := by rw [I.len]; exact (List.getElem?_eq_some_iff.mp hi).1
  have cne := I.cne
  have tracked : ∀ {a : Addr} {h' : Heap}, (∃ o, s.heap.get? a = some o ∧ H a = none) → Heap.SameBut a s.heap h' → HOk X.prog X.w H h' := fun {a h'} ha hs b ob e => by
    obtain ⟨_, _, hfree⟩ := ha
    refine (I.hok b ob e).stay (fun c w' hc q => (hs.2 c ?_).trans q) (fun _ q => q) fun _ _ q => q
    rintro rfl
    rcases hc with rfl | hc
    · rw [hfree] at e; cases e
    · rw [hfree] at hc; cases hc
  rcases hx with hk | hk
  · refine wpAny_storeName_local hk hn (fun h' hn' hs => ?_) hcls
    obtain ⟨oL, _, _, hoL, _⟩ := id hn
    refine h _ ⟨I.ok, I.os, I.bare, ⟨fun b o e n hb hx => ?_, fun b o e n hb hx => ?_, I.base.free, fun b o e hx => ?_, I.base.tups, I.base.frzs, I.base.tbls⟩, ⟨_, hn', fun j y v' e1 e2 e3 => ?_⟩, fun y c e => ?_, I.free, I.freeC, fun p hp => ?_, tracked ⟨oL, hoL, I.free⟩ hs, by simpa using I.len⟩ ⟨_, hs, .inl rfl⟩
    · exact (hs.2 b (Nat.ne_of_lt (Nat.lt_of_lt_of_le (Heap.lt_size e) I.ok.above))).trans (I.base.keep b o e n hb hx)
    · obtain ⟨sl, e1⟩ := I.base.slot b o e n hb hx
      exact ⟨sl, (hs.2 b (Nat.ne_of_lt (Nat.lt_of_lt_of_le (Heap.lt_size e) I.ok.above))).trans e1⟩
    · obtain ⟨o', e1⟩ := I.base.there b o e hx
      exact ⟨o', (hs.2 b (Nat.ne_of_lt (Nat.lt_of_lt_of_le (Heap.lt_size e) I.ok.above))).trans e1⟩
    · by_cases hj : j = i
      · subst hj
        rw [hi] at e1; cases e1
        rw [List.getElem?_set_self hiσ] at e2
        cases e2
        exact ⟨u, r, .inl ⟨hk, by simp⟩⟩
      · rw [List.getElem?_set_ne (Ne.symm hj)] at e2
        obtain ⟨u', r', q⟩ := hl j y v' e1 e2 e3
        refine ⟨u', r', ?_⟩
        rcases q with ⟨k, e⟩ | ⟨k, c, e, z⟩
        · refine .inl ⟨k, ?_⟩
          have : y ≠ x := fun e => hj (nodup_ix hN e1 (e ▸ hi))
          simp [this, e]
        · exact .inr ⟨k, c, e, z.sameBut hs (cne y c e)⟩
    · obtain ⟨w', z⟩ := I.cell y c e
      exact ⟨w', z.sameBut hs (cne y c e)⟩
    · obtain ⟨e, n, ne, nf, d⟩ := I.pin p hp
      exact ⟨(hs.2 p.1 ne).trans e, n, ne, nf, d⟩
  · have hfn : X.fn x = true := by
      rcases hf with z | z
      · exact z
      · rw [z] at hk; cases hk
    obtain ⟨c, hc⟩ := I.ok.has x (.inl hk)
    obtain ⟨w', z⟩ := I.cell x c hc
    refine wpAny_storeName_cell I.ok.kind hk hc z (fun h' hc' hs => ?_)
    obtain ⟨oc, hoc, hocd⟩ := id z
    refine h { s with heap := h' } ⟨I.ok, I.os, I.bare, ⟨fun b o e n hb hx => ?_, fun b o e n hb hx => ?_, I.base.free, fun b o e hx => ?_, I.base.tups, I.base.frzs, I.base.tbls⟩, ⟨m, hn.sameBut hs (Ne.symm (cne x c hc)), fun j y v' e1 e2 e3 => ?_⟩, fun y c' e => ?_, I.free, I.freeC, fun p hp => ?_, tracked ⟨oc, hoc, I.freeC x c hc⟩ hs, by simpa using I.len⟩ ⟨c, hs, .inr hc⟩
    · exact (hs.2 b (Nat.ne_of_lt (Nat.lt_of_lt_of_le (Heap.lt_size e) (I.ok.cab x c hfn hc)))).trans (I.base.keep b o e n hb hx)
    · obtain ⟨sl, e1⟩ := I.base.slot b o e n hb hx
      exact ⟨sl, (hs.2 b (Nat.ne_of_lt (Nat.lt_of_lt_of_le (Heap.lt_size e) (I.ok.cab x c hfn hc)))).trans e1⟩
    · obtain ⟨o', e1⟩ := I.base.there b o e hx
      exact ⟨o', (hs.2 b (Nat.ne_of_lt (Nat.lt_of_lt_of_le (Heap.lt_size e) (I.ok.cab x c hfn hc)))).trans e1⟩
    · by_cases hj : j = i
      · subst hj
        rw [hi] at e1; cases e1
        rw [List.getElem?_set_self hiσ] at e2
        cases e2
        exact ⟨u, r, .inr ⟨.inl hk, c, hc, hc'⟩⟩
      · rw [List.getElem?_set_ne (Ne.symm hj)] at e2
        obtain ⟨u', r', q⟩ := hl j y v' e1 e2 e3
        refine ⟨u', r', ?_⟩
        rcases q with q | ⟨k, c', e, z'⟩
        · exact .inl q
        · refine .inr ⟨k, c', e, z'.sameBut hs ?_⟩
          rintro rfl
          exact hj (nodup_ix hN e1 (I.ok.inj _ _ _ e hc ▸ hi))
    · by_cases hcc : c' = c
      · subst hcc; exact ⟨_, hc'⟩
      · obtain ⟨w2, z2⟩ := I.cell y c' e
        exact ⟨w2, z2.sameBut hs hcc⟩
    · obtain ⟨e, n, ne, nf, d⟩ := I.pin p hp
      refine ⟨(hs.2 p.1 ?_).trans e, n, ne, nf, d⟩
      intro q
      rw [q, hoc] at e
      have q' : oc = p.2 := Option.some.inj e
      exact d w' (by rw [← q']; exact hocd)
theorem store_ok {M : Model} {A : Around} {E : Value → Shared → Prop} {i : Nat} {x : Str} {v : V} {u : Value} {Q : Unit → Shared → Prop} (I : Inv X pins σ H s) (hN : X.N.Nodup) (hi : X.N[i]? = some x) (hx : Loc X.env.scope x) (r : RelV v u)
    (h : ∀ s', Inv X pins (σ.set i (some v)) H s' → Q () s') (hf : X.fn x = true ∨ X.env.scope.names.lookup x = some .local := by first | exact .inl rfl | exact .inr rfl | assumption) : wpAny M A (storeName X.env x u) Q E s :=
  store_ok2 I hN hi hx r (fun s' I' _ => h s' I') hf
theorem Inv.call' {s' : Shared} {ch : List Addr} (I : Inv X pins σ H s) (ho : s'.os = s.os) (u : Un (frs X.stack) ch H H' s.heap s'.heap) (hok : HOk X.prog X.w H' s'.heap) (hg : AllBare s'.gens)
    (hch : ∀ b ∈ ch, (b ∈ X.ex ∨ X.s₀.heap.objs.size ≤ b) ∧ b ≠ X.env.locals ∧ (∀ x c, X.env.cells.lookup x = some c → c ≠ b) ∧ ∀ p ∈ X.pn ++ pins, p.1 ≠ b) : Inv X pins σ H' s' := by
  obtain ⟨h', g', d', t', o'⟩ := s'
  have e : o' = s.os := ho
  subst e
  exact I.call (g' := g') (t' := t') (d' := d') u hok hg hch
end
noncomputable abbrev XK := Value → Option Addr → Hp → Prop
noncomputable abbrev St := List (Option V)
noncomputable abbrev VK := V → Hp → Prop
noncomputable abbrev TE := St → Hp → VK → Prop
noncomputable abbrev TT := St → Hp → (Bool → Hp → Prop) → Prop
noncomputable abbrev TA := St → Hp → (List V → Hp → Prop) → Prop
structure Ends where
  nx : St → Hp → Prop
  rt : VK
  bk : St → Hp → Prop := fun _ _ => False
  ct : St → Hp → Prop := fun _ _ => False
noncomputable abbrev TS := Ends → St → Hp → Prop
noncomputable def EP (X : Cx) (pins : List (Addr × Obj)) (σ : St) (Q : VK) (u : Value) (s' : Shared) : Prop := ∃ v H', Inv X pins σ H' s' ∧ RelV v u ∧ Q v H'
noncomputable def TP (X : Cx) (pins : List (Addr × Obj)) (σ : St) (Q : Bool → Hp → Prop) (b : Bool) (s' : Shared) : Prop := ∃ H', Inv X pins σ H' s' ∧ Q b H'
noncomputable def AP (X : Cx) (pins : List (Addr × Obj)) (σ : St) (Q : List V → Hp → Prop) (us : List Value) (s' : Shared) : Prop := ∃ vs H', Inv X pins σ H' s' ∧ Vals vs us ∧ Q vs H'
noncomputable def SP (X : Cx) (pins : List (Addr × Obj)) (D : Ends) (f : Flow) (s' : Shared) : Prop :=
  match f with
  | .next => ∃ σ' H', Inv X pins σ' H' s' ∧ D.nx σ' H'
  | .brk => ∃ σ' H', Inv X pins σ' H' s' ∧ D.bk σ' H'
  | .cont => ∃ σ' H', Inv X pins σ' H' s' ∧ D.ct σ' H'
  | .ret u => ∃ v σ' H', Inv X pins σ' H' s' ∧ RelV v u ∧ D.rt v H'
noncomputable def PE (X : Cx) (e : Expr) (t : TE) : Prop :=
  ∀ (pins : List (Addr × Obj)) (s : Shared) (σ : St) (H : Hp) (Q : VK), Inv X pins σ H s → t σ H Q → wpAny (model X.prog X.w) X.A (eval e X.env) (EP X pins σ Q) X.xe s
noncomputable def PT (X : Cx) (e : Expr) (t : TT) : Prop :=
  ∀ (pins : List (Addr × Obj)) (s : Shared) (σ : St) (H : Hp) (Q : Bool → Hp → Prop), Inv X pins σ H s → t σ H Q → wpAny (model X.prog X.w) X.A (isTrue e X.env (eval e X.env)) (TP X pins σ Q) X.xe s
noncomputable def PW (X : Cx) (e : Expr) (t : TT) : Prop :=
  ∀ (whole : Sem Value) (pins : List (Addr × Obj)) (s : Shared) (σ : St) (H : Hp) (Q : Bool → Hp → Prop), Inv X pins σ H s → t σ H Q → wpAny (model X.prog X.w) X.A (isTrue e X.env whole) (TP X pins σ Q) X.xe s
theorem PW.pt {X : Cx} {e : Expr} {t : TT} (h : PW X e t) : PT X e t := h _
noncomputable def PA (X : Cx) (es : List Expr) (t : TA) : Prop :=
  ∀ (pos : Pos) (pins : List (Addr × Obj)) (s : Shared) (σ : St) (H : Hp) (Q : List V → Hp → Prop), Inv X pins σ H s → t σ H Q → wpAny (model X.prog X.w) X.A (spliced (backTo pos (starEach es X.env))) (AP X pins σ Q) X.xe s
noncomputable def PS (X : Cx) (st : Stmt) (t : TS) : Prop :=
  ∀ (pins : List (Addr × Obj)) (s : Shared) (σ : St) (H : Hp) (D : Ends), Inv X pins σ H s → t D σ H → wpAny (model X.prog X.w) X.A (exec st X.env) (SP X pins D) X.xe s
noncomputable def PSs (X : Cx) (st : List Stmt) (t : TS) : Prop :=
  ∀ (pins : List (Addr × Obj)) (s : Shared) (σ : St) (H : Hp) (D : Ends), Inv X pins σ H s → t D σ H → wpAny (model X.prog X.w) X.A (execs st X.env) (SP X pins D) X.xe s
theorem thn {α : Type} {t : Sem α} {Q Q' : α → Shared → Prop} {M : Model} {A : Around} {E : Value → Shared → Prop} {s : Shared} (h : wpAny M A t Q E s) (hQ : ∀ a s, Q a s → Q' a s) : wpAny M A t Q' E s := wpAny_mono h hQ fun _ _ x => x
end L2
namespace L2
open PySem PySem.Spec PyProof.Rows
section
variable {X : Cx}
noncomputable def tVar (i : Nat) : TE := fun σ H Q => ∃ v, σ[i]? = some (some v) ∧ Q v H
noncomputable def tC (v : V) : TE := fun _ H Q => Q v H
theorem pe_var {i : Nat} {x : Str} {pos : Pos} (hN : X.N[i]? = some x) (hv : Vis X.env.scope x) (hd : (x == ("__debug__" : Str)) = false := by decide) (hcd : (x == ("__classdict__" : Str)) = false := by decide) : PE X (.Name x pos) (tVar i) := by
  intro pins s σ H Q I h
  obtain ⟨v, e, h⟩ := h
  obtain ⟨m, hn, hl⟩ := I.loc
  obtain ⟨u, r, l⟩ := hl i x v hN e hv
  have fin : EP X pins σ Q u s := ⟨v, H, I, r, h⟩
  rcases l with ⟨hk, hm⟩ | ⟨hk, c, hc, hcell⟩
  · exact wpAny_Name (wpAny_loadName_local I.ok.kind hk hn hm fin) hd
  · rcases hk with hk | hk
    · exact wpAny_Name (wpAny_loadName_cell I.ok.kind hk hc hcell fin) hd
    · exact wpAny_Name (wpAny_loadName_free I.ok.kind hk hc hcell fin hcd) hd
theorem pe_int {i j pos} : PE X (.Constant (.int i) j pos) (tC (.int i)) := fun _ _ _ H _ I h => wpAny_Constant_int ⟨.int i, H, I.tok _, ⟨_, rfl⟩, h⟩
theorem pe_bl {b j pos} : PE X (.Constant (.bool b) j pos) (tC (.bl b)) := fun _ _ _ H _ I h => Constant_bool ⟨.bl b, H, I, rfl, h⟩
theorem pe_non {j pos} : PE X (.Constant .none j pos) (tC .non) := fun _ _ _ H _ I h => Constant_none ⟨.non, H, I, rfl, h⟩
theorem pe_str {x j pos} : PE X (.Constant (.str x) j pos) (tC (.str x)) := fun _ _ _ H _ I h => Calls.Constant_str ⟨.str x, H, I.tok _, ⟨_, rfl⟩, h⟩
noncomputable def Gl (X : Cx) (x : Str) : Prop := X.env.kindOf x = some .globalImplicit
theorem ld_glob {E : Value → Shared → Prop} {pins : List (Addr × Obj)} {s : Shared} {σ : St} {H : Hp} {x : Str} {u : Value} {pos : Pos} {Q : Value → Shared → Prop} (I : Inv X pins σ H s) (hg : Gl X x) (hm : X.mg x = some u) (h : Q u s)
    (hd : (x == ("__debug__" : Str)) = false := by decide) : wpAny (model X.prog X.w) X.A (eval (.Name x pos) X.env) Q E s :=
  Calls.Name_function_global I.ok.kind hg (Calls.loadGlobal_global (by rw [I.ok.glob]; exact I.mod.glob.keeps I.bk) hm h) hd
theorem ld_blt {E : Value → Shared → Prop} {pins : List (Addr × Obj)} {s : Shared} {σ : St} {H : Hp} {x : Str} {u : Value} {pos : Pos} {Q : Value → Shared → Prop} (I : Inv X pins σ H s) (hg : Gl X x) (hm : X.mg x = none) (hv : bootBuiltins x = some u) (h : Q u s)
    (hn : x ≠ "__name__" := by decide) (hd : (x == ("__debug__" : Str)) = false := by decide) : wpAny (model X.prog X.w) X.A (eval (.Name x pos) X.env) Q E s := by
  obtain ⟨mb, h1, h2⟩ := I.mod.blt
  exact Calls.Name_function_global I.ok.kind hg (Calls.loadGlobal_builtin (by rw [I.ok.glob]; exact I.mod.glob.keeps I.bk) hm (by rw [I.ok.blt]; exact h1.keeps I.bk) ((h2 x hn).trans hv) h) hd
theorem pe_glob {x : Str} {v : V} {u : Value} {pos : Pos} (hg : Gl X x) (hm : X.mg x = some u) (r : RelV v u) (hd : (x == ("__debug__" : Str)) = false := by decide) : PE X (.Name x pos) (tC v) :=
  fun _ _ _ H _ I h => ld_glob I hg hm ⟨v, H, I, r, h⟩ hd
theorem pe_bltn {x : Str} {v : V} {u : Value} {pos : Pos} (hg : Gl X x) (hm : X.mg x = none) (hv : bootBuiltins x = some u) (r : RelV v u) (hn : x ≠ "__name__" := by decide) (hd : (x == ("__debug__" : Str)) = false := by decide) : PE X (.Name x pos) (tC v) :=
  fun _ _ _ H _ I h => ld_blt I hg hm hv ⟨v, H, I, r, h⟩ hn hd
variable {a b : Expr} {ta tb : TE} {pos : Pos}
noncomputable def tB (t : TE) : TT := fun σ H Q => t σ H fun x H1 => ∃ c, x = .bl c ∧ Q c H1
theorem pt_val {e : Expr} {t : TE} (h : PE X e t) (he : ∀ whole, isTrue e X.env whole = (do let v ← whole; standAt e.pos; holding [v] (truthy v)) := by intro _; rfl) : PT X e (tB t) := by
  intro pins s σ H Q I hw
  refine isTrue_plain (thn (h pins s σ H _ I hw) fun v s1 ⟨x, H1, I1, r1, q1⟩ => ?_) (he _)
  obtain ⟨d, rfl, q⟩ := q1
  cases r1
  exact wpAny_truthy_bool ⟨H1, I1, q⟩
variable {tA tB' : TT} {rest : List Expr}
noncomputable def tAnd (t u : TT) : TT := fun σ H Q => t σ H fun c H1 => if c = true then u σ H1 Q else Q false H1
noncomputable def tOr (t u : TT) : TT := fun σ H Q => t σ H fun c H1 => if c = true then Q true H1 else u σ H1 Q
noncomputable def tNot (t : TT) : TT := fun σ H Q => t σ H fun c H1 => Q (!c) H1
theorem pw_and1 (ha : PT X a tA) : PW X (.BoolOp .And [a] pos) tA := by
  intro wh pins s σ H Q I h
  refine isTrue_and (thn (ha pins s σ H Q I h) fun c s1 e => ?_)
  cases c with
  | true => exact isTrue_and_nil e
  | false => exact e
theorem pw_or1 (ha : PT X a tA) : PW X (.BoolOp .Or [a] pos) tA := by
  intro wh pins s σ H Q I h
  refine isTrue_or (thn (ha pins s σ H Q I h) fun c s1 e => ?_)
  cases c with
  | false => exact isTrue_or_nil e
  | true => exact e
theorem pw_and (ha : PT X a tA) (hb : PW X (.BoolOp .And (b :: rest) pos) tB') : PW X (.BoolOp .And (a :: b :: rest) pos) (tAnd tA tB') := by
  intro wh pins s σ H Q I h
  refine isTrue_and (thn (ha pins s σ H _ I h) fun c s1 ⟨H1, I1, q1⟩ => ?_)
  cases c with
  | true => exact hb wh pins s1 σ H1 Q I1 q1
  | false => exact ⟨H1, I1, q1⟩
theorem pw_or (ha : PT X a tA) (hb : PW X (.BoolOp .Or (b :: rest) pos) tB') : PW X (.BoolOp .Or (a :: b :: rest) pos) (tOr tA tB') := by
  intro wh pins s σ H Q I h
  refine isTrue_or (thn (ha pins s σ H _ I h) fun c s1 ⟨H1, I1, q1⟩ => ?_)
  cases c with
  | true => exact ⟨H1, I1, q1⟩
  | false => exact hb wh pins s1 σ H1 Q I1 q1
theorem pt_not (ha : PT X a tA) : PT X (.UnaryOp .Not a pos) (tNot tA) := by
  intro pins s σ H Q I h
  exact isTrue_not (ha pins s σ H (fun c H1 => Q (!c) H1) I h)
noncomputable def tAndV (ta tb : TE) : TE := fun σ H Q => ta σ H fun x H1 => ∃ c, x = .bl c ∧ if c = true then tb σ H1 Q else Q (.bl false) H1
noncomputable def tNotV (ta : TE) : TE := fun σ H Q => ta σ H fun x H1 => ∃ c, x = .bl c ∧ Q (.bl (!c)) H1
theorem pe_one {op} {t : TE} (h : PE X a t) : PE X (.BoolOp op [a] pos) t := fun pins s σ H Q I hw => BoolOp_one (h pins s σ H Q I hw)
theorem pe_and (ha : PE X a ta) (hb : PE X (.BoolOp .And (b :: rest) pos) tb) : PE X (.BoolOp .And (a :: b :: rest) pos) (tAndV ta tb) := by
  intro pins s σ H Q I h
  refine BoolOp_and (thn (ha pins s σ H _ I h) fun v s1 ⟨x, H1, I1, r1, q1⟩ => ?_)
  obtain ⟨c, rfl, q1⟩ := q1
  cases r1
  refine wpAny_truthy_bool ?_
  cases c with
  | true => exact hb pins s1 σ H1 Q I1 q1
  | false => exact ⟨.bl false, H1, I1, rfl, q1⟩
theorem pe_not (ha : PE X a ta) : PE X (.UnaryOp .Not a pos) (tNotV ta) := by
  intro pins s σ H Q I h
  refine UnaryOp_ (thn (ha pins s σ H _ I h) fun v s1 ⟨x, H1, I1, r1, q1⟩ => ?_)
  obtain ⟨c, rfl, q1⟩ := q1
  cases r1
  exact not_of (wpAny_truthy_bool ⟨.bl (!c), H1, I1, rfl, q1⟩)
end
end L2
namespace L2
open PySem PySem.Spec PyProof.Rows
noncomputable def SqL (K : PySem.W.Frag) (H : Hp) (a : Addr) (xs : List V) : Prop :=
  Rd H a (.lst xs) ∨
    ∃ (o : Obj) (its : Array Value) (n : Nat), K.lookup a = some o ∧ o.cls = .type "list" ∧ o.dict = none ∧ o.data = .seq its n ∧ its.size ≤ sizeLine ∧ Vals xs its.toList
noncomputable def SqT (K : PySem.W.Frag) (H : Hp) (a : Addr) (xs : List V) : Prop :=
  Rd H a (.tup xs) ∨
    ∃ (o : Obj) (its : Array Value) (n : Nat), K.lookup a = some o ∧ o.cls = .type "tuple" ∧ o.data = .seq its n ∧ its.size ≤ sizeLine ∧ Vals xs its.toList
noncomputable def absV : Value → Option V
  | .none => some .non
  | .bool b => some (.bl b)
  | .int i _ => some (.int i)
  | .str x _ => some (.str x)
  | .bytes b _ => some (.byt b)
  | .float b _ => some (.flt b)
  | .ref a => some (.ref a)
  | .type n => some (.ty n)
  | _ => none
theorem RelV.abs {x : V} {u : Value} (r : RelV x u) : absV u = some x := by
  cases x with
  | non => cases r; rfl
  | bl _ => cases r; rfl
  | int _ => obtain ⟨t, rfl⟩ := r; rfl
  | str _ => obtain ⟨t, rfl⟩ := r; rfl
  | byt _ => obtain ⟨t, rfl⟩ := r; rfl
  | flt _ => obtain ⟨t, rfl⟩ := r; rfl
  | ref _ => cases r; rfl
  | ty _ => cases r; rfl
theorem RelV.inj {x y : V} {u : Value} (r : RelV x u) (q : RelV y u) : x = y := Option.some.inj (r.abs.symm.trans q.abs)
theorem Vals.inj : ∀ {xs ys : List V} {us : List Value}, Vals xs us → Vals ys us → xs = ys
  | _, _, _, .nil, .nil => rfl
  | _, _, _, .cons r t, .cons r' t' => by rw [r.inj r', Vals.inj t t']
section
variable {X : Cx} {pins : List (Addr × Obj)} {σ : St} {H : Hp} {s : Shared} {a : Addr} {xs ys : List V}
theorem SqL.of {K : PySem.W.Frag} (h : H a = some (.lst xs)) : SqL K H a xs := .inl (.inl h)
theorem SqT.of {K : PySem.W.Frag} (h : H a = some (.tup xs)) : SqT K H a xs := .inl (.inl h)
theorem Inv.list (I : Inv X pins σ H s) (h : SqL X.K H a xs) : ∃ its : List Value, Vals xs its ∧ PlainL s.heap a its.toArray ∧ xs.length ≤ sizeLine := by
  rcases h with h | ⟨o, its, n, hk, hc, hd, hs, hz, r⟩
  · obtain ⟨z, its, n, r, e⟩ := h.ok I.hok
    exact ⟨its, r, ⟨_, n, e, rfl, rfl, rfl⟩, z⟩
  · refine ⟨its.toList, r, ⟨o, n, I.kIn a o hk, hc, hd, by simpa using hs⟩, ?_⟩
    have e := r.length
    simp only [Array.length_toList] at e
    omega
theorem Inv.tuple (I : Inv X pins σ H s) (h : SqT X.K H a xs) : ∃ its : List Value, Vals xs its ∧ IsTup s.heap a its.toArray ∧ xs.length ≤ sizeLine := by
  rcases h with h | ⟨o, its, n, hk, hc, hs, hz, r⟩
  · obtain ⟨z, its, r, p⟩ := h.ok I.hok
    exact ⟨its, r, p.tup, z⟩
  · refine ⟨its.toList, r, ⟨o, I.kIn a o hk, hc, n, by simpa using hs⟩, ?_⟩
    have e := r.length
    simp only [Array.length_toList] at e
    omega
theorem Inv.list_inj (I : Inv X pins σ H s) (h : SqL X.K H a xs) (h' : SqL X.K H a ys) : xs = ys := by
  obtain ⟨its, r, ⟨o, n, e, _, _, d⟩, _⟩ := I.list h
  obtain ⟨its', r', ⟨o', n', e', _, _, d'⟩, _⟩ := I.list h'
  rw [e] at e'; cases e'
  rw [d] at d'
  injection d' with d1 _
  have : its = its' := by simpa using congrArg Array.toList d1
  subst this
  exact r.inj r'
theorem Inv.tuple_inj (I : Inv X pins σ H s) (h : SqT X.K H a xs) (h' : SqT X.K H a ys) : xs = ys := by
  obtain ⟨its, r, ⟨o, e, _, n, d⟩, _⟩ := I.tuple h
  obtain ⟨its', r', ⟨o', e', _, n', d'⟩, _⟩ := I.tuple h'
  rw [e] at e'; cases e'
  rw [d] at d'
  injection d' with d1 _
  have : its = its' := by simpa using congrArg Array.toList d1
  subst this
  exact r.inj r'
end
noncomputable abbrev Cx.wish (X : Cx) (E : Value → Shared → Prop) : Cx := { X with xe := E }
noncomputable abbrev Cx.nox (X : Cx) : Cx := X.wish fun _ _ => False
theorem Cx.Ok.wish {X : Cx} (ok : X.Ok) (E : Value → Shared → Prop) : (X.wish E).Ok :=
  ⟨ok.mod, ok.kind, ok.glob, ok.blt, ok.above, ok.inj, ok.has, ok.cab, ok.hd, ok.frames, ok.stk, ok.exf, ok.bs, ok.bsz, ok.noex, ok.exfs, ok.funs, ok.frf⟩
theorem Cx.Ok.unwish {X : Cx} {E : Value → Shared → Prop} (ok : (X.wish E).Ok) : X.Ok :=
  ⟨ok.mod, ok.kind, ok.glob, ok.blt, ok.above, ok.inj, ok.has, ok.cab, ok.hd, ok.frames, ok.stk, ok.exf, ok.bs, ok.bsz, ok.noex, ok.exfs, ok.funs, ok.frf⟩
section
variable {X : Cx} {pins : List (Addr × Obj)} {σ : St} {H : Hp} {s : Shared} {E : Value → Shared → Prop}
theorem Inv.wish (I : Inv X pins σ H s) (E : Value → Shared → Prop) : Inv (X.wish E) pins σ H s := ⟨I.ok.wish E, I.os, I.bare, I.base, I.loc, I.cell, I.free, I.freeC, I.pin, I.hok, I.len⟩
theorem Inv.unwish (I : Inv (X.wish E) pins σ H s) : Inv X pins σ H s := ⟨I.ok.unwish, I.os, I.bare, I.base, I.loc, I.cell, I.free, I.freeC, I.pin, I.hok, I.len⟩
theorem SP.unwish {D : Ends} {f : Flow} {s' : Shared} (h : SP (X.wish E) pins D f s') : SP X pins D f s' := by
  cases f with
  | next => obtain ⟨σ', H', I, q⟩ := h; exact ⟨σ', H', I.unwish, q⟩
  | brk => obtain ⟨σ', H', I, q⟩ := h; exact ⟨σ', H', I.unwish, q⟩
  | cont => obtain ⟨σ', H', I, q⟩ := h; exact ⟨σ', H', I.unwish, q⟩
  | ret u => obtain ⟨v, σ', H', I, r, q⟩ := h; exact ⟨v, σ', H', I.unwish, r, q⟩
theorem PSs.nox {st : List Stmt} {t : TS} (h : PSs X.nox st t) : PSs X st t := fun pins s σ H D I hw =>
  wpAny_mono (h pins s σ H D (I.wish _) hw) (fun _ _ q => q.unwish) fun _ _ z => False.elim z
end
section
variable {X : Cx} {st : Stmt} {rest : List Stmt} {t u : TS} {e : Expr} {te : TE} {pos : Pos}
noncomputable def tNext : TS := fun D σ H => D.nx σ H
noncomputable def tSeq (t u : TS) : TS := fun D σ H => t { D with nx := u D } σ H
theorem pss_nil : PSs X [] tNext := fun _ _ σ H _ I h => wpAny_execs_nil ⟨σ, H, I, h⟩
theorem pss_cons (h1 : PS X st t) (h2 : PSs X rest u) : PSs X (st :: rest) (tSeq t u) := by
  intro pins s σ H D I h
  refine wpAny_execs_cons (thn (h1 pins s σ H { D with nx := u D } I h) fun f s1 q => ?_)
  cases f with
  | next =>
    obtain ⟨σ', H', I', q⟩ := q
    exact h2 pins s1 σ' H' D I' q
  | ret v => exact q
  | brk => exact q
  | cont => exact q
theorem pss_one (h1 : PS X st t) : PSs X [st] t := by
  intro pins s σ H D I h
  refine wpAny_execs_cons (thn (h1 pins s σ H D I h) fun f s1 q => ?_)
  cases f with
  | next => exact wpAny_execs_nil q
  | ret v => exact q
  | brk => exact q
  | cont => exact q
theorem Inv.quiet {pins : List (Addr × Obj)} {σ : St} {H : Hp} {s : Shared} (I : Inv X pins σ H s) : interactive X.env = false := by simp [interactive, I.ok.kind]
noncomputable def tDrop (te : TE) : TS := fun D σ H => te σ H fun _ H1 => D.nx σ H1
theorem ps_expr (he : PE X e te) (hs : swapsWith e none pos.line X.env = pure false := by rfl) : PS X (.Expr e pos) (tDrop te) := by
  intro pins s σ H D I h
  exact wpAny_Expr_any (thn (he pins s σ H _ I h) fun v s1 ⟨x, H1, I1, r1, q1⟩ => ⟨σ, H1, I1, q1⟩) I.quiet hs
noncomputable def tRet (te : TE) : TS := fun D σ H => te σ H D.rt
theorem ps_ret (he : PE X e te) : PS X (.Return (some e) pos) (tRet te) := by
  intro pins s σ H D I h
  exact wpAny_Return_some (thn (he pins s σ H _ I h) fun v s1 ⟨x, H1, I1, r1, q1⟩ => ⟨x, σ, H1, I1, r1, q1⟩)
noncomputable def tIfS (c : TT) (t u : TS) : TS := fun D σ H => c σ H fun b H1 => if b = true then t D σ H1 else u D σ H1
theorem ps_if {c : Expr} {a b : List Stmt} {tc : TT} (hc : PT X c tc) (ha : PSs X a t) (hb : PSs X b u) : PS X (.If c a b pos) (tIfS tc t u) := by
  intro pins s σ H D I h
  refine wpAny_If (thn (hc pins s σ H _ I h) fun d s1 ⟨H1, I1, q1⟩ => ?_)
  cases d with
  | true => exact ha pins s1 σ H1 D I1 q1
  | false => exact hb pins s1 σ H1 D I1 q1
noncomputable def tNever : TS := fun _ _ _ => False
theorem ps_never : PS X st tNever := fun _ _ _ _ _ _ h => h.elim
theorem pss_never {sts : List Stmt} : PSs X sts tNever := fun _ _ _ _ _ _ h => h.elim
end
noncomputable abbrev TG := V → St → Hp → (St → Hp → Prop) → Prop
noncomputable abbrev TGs := List V → St → Hp → (St → Hp → Prop) → Prop
noncomputable def PG (X : Cx) (target : Expr) (t : TG) : Prop :=
  ∀ (pins : List (Addr × Obj)) (s : Shared) (σ : St) (H : Hp) (v : V) (u : Value) (Q : St → Hp → Prop), Inv X pins σ H s → RelV v u → t v σ H Q →
    wpAny (model X.prog X.w) X.A (assign target X.env u) (fun _ s' => ∃ σ' H', Inv X pins σ' H' s' ∧ Q σ' H') X.xe s
noncomputable def PGs (X : Cx) (ts : List Expr) (t : TGs) : Prop :=
  ∀ (pins : List (Addr × Obj)) (s : Shared) (σ : St) (H : Hp) (vs : List V) (us : List Value) (Q : St → Hp → Prop), Inv X pins σ H s → Vals vs us → t vs σ H Q →
    wpAny (model X.prog X.w) X.A (assignInOrder ((assignEach ts X.env).map (·.2)) us) (fun _ s' => ∃ σ' H', Inv X pins σ' H' s' ∧ Q σ' H') X.xe s
noncomputable abbrev TSet := V → V → V → Hp → (Hp → Prop) → Prop
noncomputable def PSet (X : Cx) (t : TSet) : Prop :=
  ∀ (pins : List (Addr × Obj)) (s : Shared) (σ : St) (H : Hp) (o i v : V) (ov iv u : Value) (Q : Hp → Prop), Inv X pins σ H s → RelV o ov → RelV i iv → RelV v u → t o i v H Q →
    wpAny (model X.prog X.w) X.A (setItem ov iv u) (fun _ s' => ∃ H', Inv X pins σ H' s' ∧ Q H') X.xe s
section
variable {X : Cx} {pos : Pos}
noncomputable def gName (i : Nat) : TG := fun v σ H Q => Q (σ.set i (some v)) H
theorem pg_name {i : Nat} {x : Str} (hN : X.N.Nodup) (hi : X.N[i]? = some x) (hx : Loc X.env.scope x) (hf : X.fn x = true ∨ X.env.scope.names.lookup x = some .local := by first | exact .inl rfl | exact .inr rfl | assumption) : PG X (.Name x pos) (gName i) := by
  intro pins s σ H v u Q I r h
  exact wpAny_assign_Name (store_ok I hN hi hx r (fun s' I' => ⟨_, H, I', h⟩) hf)
noncomputable def gNil : TGs := fun vs σ H Q => vs = [] ∧ Q σ H
noncomputable def gCons (t : TG) (u : TGs) : TGs := fun vs σ H Q => ∃ v r, vs = v :: r ∧ t v σ H fun σ' H' => u r σ' H' Q
theorem pgs_nil : PGs X [] gNil := by
  intro pins s σ H vs us Q I r h
  obtain ⟨e, h⟩ := h
  subst e
  cases r
  exact assignInOrder_nil ⟨σ, H, I, h⟩
theorem pgs_cons {e : Expr} {es : List Expr} {t : TG} {u : TGs} (h1 : PG X e t) (h2 : PGs X es u)
    (hs : (assignEach (e :: es) X.env).map (·.2) = assign e X.env :: (assignEach es X.env).map (·.2) := by rfl) : PGs X (e :: es) (gCons t u) := by
  intro pins s σ H vs us Q I r h
  obtain ⟨v, vr, e1, h⟩ := h
  subst e1
  cases r with
  | cons r rr =>
    rw [hs]
    refine assignInOrder_cons (thn (h1 pins s σ H _ _ _ I r h) fun _ s1 ⟨σ1, H1, I1, q1⟩ => ?_)
    exact h2 pins s1 σ1 H1 _ _ Q I1 rr q1
noncomputable def gTup (K : PySem.W.Frag) (n : Nat) (t : TGs) : TG := fun v σ H Q => ∃ a xs, v = .ref a ∧ SqT K H a xs ∧ xs.length = n ∧ t xs σ H Q
theorem pg_tup {es : List Expr} {k : Nat} {t : TGs} {n : Nat} (hc : X.calm = true) (h : PGs X es t)
    (hn : (assignEach es X.env).length = n := by rfl) (hst : (assignEach es X.env).findIdx? (·.1) = none := by rfl) : PG X (.Tuple es k pos) (gTup X.K n t) := by
  intro pins s σ H v u Q I r hw
  obtain ⟨a, xs, e1, hq, hl, hw⟩ := hw
  subst e1
  cases r
  obtain ⟨its, rv, ht, hz⟩ := I.tuple hq
  refine assign_Tuple_tuple (I.ok.hd hc) ht (by simp [hn, ← hl, rv.length]) hst fun h' hx => ?_
  have I1 : Inv X pins σ H { s with heap := h' } := I.kept (t' := s.toks) fun b o e => hx b o (Nat.ne_of_lt (Heap.lt_size e)) e
  exact h pins _ σ H xs _ Q I1 (by simpa using rv) hw
noncomputable def gSub (to ti : TE) (t : TSet) : TG := fun v σ H Q => to σ H fun o H1 => ti σ H1 fun i H2 => t o i v H2 fun H3 => Q σ H3
theorem pg_sub {o i : Expr} {to ti : TE} {t : TSet} (ho : PE X o to) (hi : PE X i ti) (hs : PSet X t)
    (ha : ∀ v, assign (.Subscript o i pos) X.env v = (do
      let ov ← holding [v] (eval o X.env)
      let iv ← holding [v, ov] (eval i X.env)
      standAt pos
      holding [v, ov, iv] (setItem ov iv v)
      release [v, ov, iv] []) := by intro _; rfl) : PG X (.Subscript o i pos) (gSub to ti t) := by
  intro pins s σ H v u Q I r h
  rw [ha]
  refine wpAny_bind (wpAny_holding (thn (ho pins s σ H _ I h) fun ov s1 ⟨x, H1, I1, r1, q1⟩ => ?_))
  refine wpAny_bind (wpAny_holding (thn (hi pins s1 σ H1 _ I1 q1) fun iv s2 ⟨y, H2, I2, r2, q2⟩ => ?_))
  refine wpAny_bind (wpAny_standAt (wpAny_bind (wpAny_holding (thn (hs pins s2 σ H2 x y v ov iv u _ I2 r1 r2 r q2) fun _ s3 ⟨H3, I3, q3⟩ => ?_))))
  exact wpAny_release ⟨σ, H3, I3, q3⟩
noncomputable def tAsg (te : TE) (g : TG) : TS := fun D σ H => te σ H fun x H1 => g x σ H1 D.nx
theorem ps_asg {tg e : Expr} {te : TE} {g : TG} (he : PE X e te) (hg : PG X tg g) (hs : swapsWithSole [tg] e pos.line X.env = pure false := by rfl) (hw : swappedStores [tg] e X.env = pure none := by rfl)
    (h1 : (assignEach [tg] X.env).map (·.2) = [assign tg X.env] := by rfl) : PS X (.Assign [tg] e pos) (tAsg te g) := by
  intro pins s σ H D I h
  refine wpAny_Assign_stores (thn (he pins s σ H _ I h) fun v s1 ⟨x, H1, I1, r1, q1⟩ => ?_) hs hw
  rw [h1]
  exact thn (hg pins s1 σ H1 x v _ I1 r1 q1) fun _ s2 q => q
theorem ps_set {i : Nat} {x : Str} {e : Expr} {te : TE} {pos' : Pos} (hN : X.N.Nodup) (hi : X.N[i]? = some x) (hx : Loc X.env.scope x) (he : PE X e te) (hs : swapsWith e (some (.Name x pos')) pos.line X.env = pure false := by rfl) (hf : X.fn x = true ∨ X.env.scope.names.lookup x = some .local := by first | exact .inl rfl | exact .inr rfl | assumption) :
    PS X (.Assign [.Name x pos'] e pos) (tAsg te (gName i)) := by
  intro pins s σ H D I h
  refine wpAny_Assign_Name (thn (he pins s σ H _ I h) fun v s1 ⟨y, H1, I1, r1, q1⟩ => ?_) hs
  exact store_ok I1 hN hi hx r1 (fun s2 I2 => ⟨_, H1, I2, q1⟩) hf
noncomputable def tPar (i j : Nat) (ta : TA) : TS := fun D σ H => ta σ H fun vs H1 => ∃ v w, vs = [v, w] ∧ D.nx ((σ.set i (some v)).set j (some w)) H1
theorem ps_par {i j : Nat} {x y : Str} {a b : Expr} {ta : TA} {px py pt : Pos} {kt k2 pt2} (hc : X.calm = true) (hN : X.N.Nodup) (hi : X.N[i]? = some x) (hj : X.N[j]? = some y) (hij : i ≠ j)
    (hx : X.env.scope.names.lookup x = some .local) (hy : X.env.scope.names.lookup y = some .local) (ha : PA X [a, b] ta)
    (hw : swappedStores [.Tuple [.Name x px, .Name y py] kt pt] (.Tuple [a, b] k2 pt2) X.env = pure (some [x, y]))
    (hs : swapsWithSole [.Tuple [.Name x px, .Name y py] kt pt] (.Tuple [a, b] k2 pt2) pos.line X.env = pure false := by rfl) :
    PS X (.Assign [.Tuple [.Name x px, .Name y py] kt pt] (.Tuple [a, b] k2 pt2) pos) (tPar i j ta) := by
  intro pins s σ H D I h
  rw [exec_Assign_arm]
  refine wpAny_bind (wpAny_standAt ?_)
  rw [hs]
  refine wpAny_bind (wpAny_pure ?_)
  rw [if_neg (by decide)]
  refine wpAny_bind (Tuple_ (thn (ha _ pins s σ H _ I h) fun us s1 ⟨vs, H1, I1, r1, q1⟩ => ?_))
  obtain ⟨v, w, e1, q1⟩ := q1
  subst e1
  obtain ⟨u1, u2, rfl, rv, rw'⟩ : ∃ u1 u2, us = [u1, u2] ∧ RelV v u1 ∧ RelV w u2 := by
    cases r1 with
    | cons p q =>
      cases q with
      | cons p' q' =>
        cases q'
        exact ⟨_, _, rfl, p, p'⟩
  refine wpAny_newObj_type ?_ (by show 2 ≤ sizeLine; decide)
  have I2 : Inv X pins σ H1 { s1 with heap := s1.heap.push { cls := .type "tuple", data := .seq [u1, u2].toArray } } := I1.kept (t' := s1.toks) fun b o e => Heap.get?_push_of_some _ e
  rw [hw]
  refine wpAny_bind (wpAny_pure ?_)
  show wpAny (model X.prog X.w) X.A (do rule "assign.swapped-stores"; let items ← unpackItems (.ref s1.heap.objs.size) 2 none; assignInOrder [fun v => bindName X.env y v, fun v => bindName X.env x v] items.reverse; pure Flow.next) _ _ _
  refine wpAny_bind (wpAny_rule (wpAny_bind (unpackItems_tuple (items := #[u1, u2]) (I.ok.hd hc) (IsTup.new s1.heap _) fun h' hx' => ?_)))
  have I3 := I2.kept (h' := h') (t' := s1.toks) fun b o e => hx' b o (Nat.ne_of_lt (Heap.lt_size e)) e
  show wpAny _ _ (assignInOrder [fun v => bindName X.env y v, fun v => bindName X.env x v] [u2, u1] >>= fun _ => pure Flow.next) _ _ _
  refine wpAny_bind (assignInOrder_cons (wpAny_bindName (store_ok I3 hN hj (.inl hy) rw' (fun s2 I4 => ?_) (.inr hy))))
  refine assignInOrder_cons (wpAny_bindName (store_ok I4 hN hi (.inl hx) rv (fun s3 I5 => assignInOrder_nil (wpAny_pure ?_)) (.inr hx)))
  rw [List.set_comm _ _ (Ne.symm hij)] at I5
  exact ⟨_, H1, I5, q1⟩
end
section
variable {X : Cx} {pos : Pos}
noncomputable def tWhile (c : TT) (tb : TS) : TS := fun D σ H => ∃ W : Nat → St → Hp → Prop, (∃ m, W m σ H) ∧ ∀ m σ H, W m σ H →
  c σ H fun b H1 => if b = true then ∃ N : St → Hp → Prop, (∀ σ' H', N σ' H' → ∃ m', m' < m ∧ W m' σ' H') ∧ tb { D with nx := N, ct := N, bk := D.nx } σ H1 else D.nx σ H1
theorem ps_while {c : Expr} {body : List Stmt} {tc : TT} {tb : TS} (hp : PassesOwn (model X.prog X.w) X.A X.env X.xe) (hc : PT X c tc) (hb : PSs X body tb) : PS X (.While c body [] pos) (tWhile tc tb) := by
  intro pins s σ H D I h
  obtain ⟨W, ⟨m0, w0⟩, turn⟩ := h
  refine wpAny_While (codeAny_whileLoop (fun n s' => ∃ σ' H', Inv X pins σ' H' s' ∧ W n σ' H') ?_ m0 ⟨σ, H, I, w0⟩)
  rintro n s1 ⟨σ1, H1, I1, w1⟩
  refine wpAny_passesOwn hp (thn (hc pins s1 σ1 H1 _ I1 (turn n σ1 H1 w1)) fun b s2 ⟨H2, I2, q2⟩ => ?_)
  cases b with
  | true =>
    obtain ⟨N, hN, q2⟩ := q2
    rw [if_pos rfl]
    refine wpAny_passesOwn hp (thn (hb pins s2 σ1 H2 _ I2 q2) fun f s3 q3 => ?_)
    cases f with
    | next =>
      obtain ⟨σ3, H3, I3, n3⟩ := q3
      obtain ⟨m', hm, w3⟩ := hN σ3 H3 n3
      exact ⟨m', hm, σ3, H3, I3, w3⟩
    | cont =>
      obtain ⟨σ3, H3, I3, n3⟩ := q3
      obtain ⟨m', hm, w3⟩ := hN σ3 H3 n3
      exact ⟨m', hm, σ3, H3, I3, w3⟩
    | brk => exact q3
    | ret v => exact q3
  | false =>
    rw [if_neg Bool.false_ne_true]
    exact wpAny_execs_nil ⟨σ1, H2, I2, q2⟩
end
structure It where
  go : Nat → Hp → Prop
  yld : Nat → Hp → V → Hp → Prop
  stop : Nat → Hp → Prop
noncomputable def FpOk (X : Cx) (pins : List (Addr × Obj)) (H : Hp) (b : Addr) : Prop :=
  H b = none ∧ b ≠ X.env.locals ∧ b ∉ X.fs ∧ (b ∈ X.ex ∨ X.s₀.heap.objs.size ≤ b) ∧ (∀ x c, X.env.cells.lookup x = some c → c ≠ b) ∧ ∀ p ∈ X.pn ++ pins, p.1 ≠ b
theorem Inv.fpOk {X : Cx} {pins : List (Addr × Obj)} {σ : St} {H H' : Hp} {s : Shared} {b : Addr} (I : Inv X pins σ H s) (hb : s.heap.objs.size ≤ b) (hn : H' b = none) : FpOk X pins H' b := by
  refine ⟨hn, Nat.ne_of_gt (Nat.lt_of_lt_of_le I.lt hb), I.nofs hb, .inr (Nat.le_trans I.sz hb), fun x c e z => ?_, fun p hp z => ?_⟩
  · obtain ⟨v, q⟩ := I.cell x c e
    exact absurd (Nat.lt_of_lt_of_le q.lt (by rw [z]; exact hb)) (Nat.lt_irrefl _)
  · exact absurd (Nat.lt_of_lt_of_le (Heap.lt_size (I.pin p hp).1) (by rw [z]; exact hb)) (Nat.lt_irrefl _)
structure Turn (P : Program) (w : World) (K : PySem.W.Frag) (tg : Expr) (J : It) (fp : List Addr) (it : Addr) (tn : Nat → Heap → Prop) : Prop where
  mem : it ∈ fp
  obj : ∀ i h, tn i h → ∀ b ∈ fp, ∃ o, h.get? b = some o ∧ ∀ v, o.data ≠ .cell v
  keep : ∀ i h h', tn i h → (∀ b ∈ fp, ∀ o, h.get? b = some o → h'.get? b = some o) → tn i h'
  item : ∀ (X : Cx), X.prog = P → X.w = w → X.K = K → X.calm = true → ∀ (i : Nat) (pins : List (Addr × Obj)) (s : Shared) (σ : St) (H : Hp) (E : Value → Shared → Prop), Inv X pins σ H s → (∀ b ∈ fp, FpOk X pins H b) → tn i s.heap → J.go i H →
    wpAny (model P w) X.A (pyNext (.ref it)) (fun r s1 => ∃ u, r = some u ∧
      wpAny (model P w) X.A (letOwnedTupleGo tg (.ref it) u) (fun _ s2 => ∃ x H', Inv X pins σ H' s2 ∧ RelV x u ∧ J.yld i H x H' ∧ tn (i + 1) s2.heap ∧ ∀ b ∈ fp, H' b = none) E s1) E s
  done : ∀ (X : Cx), X.prog = P → X.w = w → X.K = K → X.calm = true → ∀ (i : Nat) (pins : List (Addr × Obj)) (s : Shared) (σ : St) (H : Hp) (E : Value → Shared → Prop), Inv X pins σ H s → (∀ b ∈ fp, FpOk X pins H b) → tn i s.heap → J.stop i H →
    wpAny (model P w) X.A (pyNext (.ref it)) (fun r s1 => r = none ∧ Inv X pins σ H s1) E s
  self : ∀ (A : Around) (i : Nat) (s : Shared) (Q : Value → Shared → Prop) (E : Value → Shared → Prop), tn i s.heap → Q (.ref it) s → wpAny (model P w) A (pyIter (.ref it)) Q E s
noncomputable abbrev TI := St → Hp → (It → Hp → Prop) → Prop
noncomputable def PIE (X : Cx) (pins : List (Addr × Obj)) (σ : St) (tg : Expr) (R : It → Hp → Prop) (itv : Value) (s2 : Shared) : Prop :=
  ∃ (it : Addr) (fp : List Addr) (tn : Nat → Heap → Prop) (J : It) (H' : Hp), itv = .ref it ∧ Inv X pins σ H' s2 ∧ Turn X.prog X.w X.K tg J fp it tn ∧ tn 0 s2.heap ∧ (∀ b ∈ fp, FpOk X pins H' b) ∧ R J H'
noncomputable def PI (X : Cx) (tg iter : Expr) (wi : TI) : Prop :=
  ∀ (pins : List (Addr × Obj)) (s : Shared) (σ : St) (H : Hp) (R : It → Hp → Prop), Inv X pins σ H s → wi σ H R →
    wpAny (model X.prog X.w) X.A (eval iter X.env) (fun v s1 => wpAny (model X.prog X.w) X.A (pyIter v) (PIE X pins σ tg R) X.xe s1) X.xe s
theorem go_of {M : Model} {A : Around} {E : Value → Shared → Prop} {s : Shared} {tg : Expr} {it : Addr} {u : Value} {o : Obj} {n : String} {vs : Array Value} {Q : Unit → Shared → Prop} (ho : s.heap.get? it = some o) (hc : o.cls = .type n) (hd : o.data = .fields vs)
    (hn : ["enumerate", "zip", "dict_itemiterator", "dict_reverseitemiterator", "odict_iterator", "itertools.zip_longest", "itertools.pairwise"].contains n = false) (hQ : Q () s) : wpAny M A (letOwnedTupleGo tg (.ref it) u) Q E s := by
  unfold letOwnedTupleGo
  cases tg <;> first
    | exact wpAny_pure hQ
    | (cases u <;> first
        | exact wpAny_pure hQ
        | (refine wpAny_bind (wpAny_load ho ?_)
           rw [hc, hd]
           show wpAny M A (if (["enumerate", "zip", "dict_itemiterator", "dict_reverseitemiterator", "odict_iterator", "itertools.zip_longest", "itertools.pairwise"].contains n && vs[0]? == some (rawInt _)) = true then _ else _) Q E s
           rw [if_neg (by intro h; rw [hn, Bool.false_and] at h; cases h)]
           exact wpAny_pure hQ))
noncomputable def Itl (K : PySem.W.Frag) (a : Addr) : It :=
  ⟨fun i H => ∃ xs x, SqL K H a xs ∧ xs[i]? = some x, fun i H x H' => H' = H ∧ ∀ xs, SqL K H a xs → xs[i]? = some x, fun i H => ∃ xs, SqL K H a xs ∧ xs.length ≤ i⟩
noncomputable def Itt (K : PySem.W.Frag) (a : Addr) : It :=
  ⟨fun i H => ∃ xs x, SqT K H a xs ∧ xs[i]? = some x, fun i H x H' => H' = H ∧ ∀ xs, SqT K H a xs → xs[i]? = some x, fun i H => ∃ xs, SqT K H a xs ∧ xs.length ≤ i⟩
noncomputable def Itr (lo : Int) (n : Nat) : It := ⟨fun i _ => i < n, fun i H x H' => H' = H ∧ x = .int (lo + i), fun i _ => n ≤ i⟩
theorem turn_list {P : Program} {w : World} {K : PySem.W.Frag} {tg : Expr} (a it : Addr) : Turn P w K tg (Itl K a) [it] it (fun i h => h.IsListIter it a i) where
  mem := by simp
  obj := fun i h st b hb => by
    have e : b = it := by simpa using hb
    subst e
    obtain ⟨o, e, c, d⟩ := st
    exact ⟨o, e, fun v z => by rw [d] at z; cases z⟩
  keep := fun i h h' st k => st.at fun o e => k it (by simp) o e
  item := by
    intro X hP hw hK hc i pins s σ H E I hf st hg
    subst hP hw hK
    obtain ⟨xs, x, hq, hx⟩ := hg
    obtain ⟨its, rv, p, hz⟩ := I.list hq
    obtain ⟨u, hu, ru⟩ := rv.get hx
    obtain ⟨f0, f1, f2, f3, f4, f5⟩ := hf it (by simp)
    refine wpAny_pyNext_list_item st p.isList (x := u) (by simpa using hu) fun h' st' sb => ?_
    have I1 : Inv X pins σ H { s with heap := h' } := I.turned (t' := s.toks) (fun b o hb e => (sb.2 b hb).trans e) f0 f1 f3 f4 f5
    obtain ⟨o, e, c, d⟩ := id st'
    exact ⟨u, rfl, go_of (s := { s with heap := h' }) e c d (by decide) ⟨x, H, I1, ru, ⟨rfl, fun ys hy => by rw [I.list_inj hy hq]; exact hx⟩, st', fun b hb => (hf b hb).1⟩⟩
  done := by
    intro X hP hw hK hc i pins s σ H E I hf st hg
    subst hP hw hK
    obtain ⟨xs, hq, hx⟩ := hg
    obtain ⟨its, rv, p, hz⟩ := I.list hq
    obtain ⟨f0, f1, f2, f3, f4, f5⟩ := hf it (by simp)
    have hl := rv.length
    exact wpAny_pyNext_list_end (I.ok.hd hc) st p.isList (by simp; omega) fun h' eb => ⟨rfl, I.turned (t' := s.toks) (fun b o hb e => eb b o hb e) f0 f1 f3 f4 f5⟩
  self := fun _ _ _ _ _ st h => wpAny_pyIter_listiter st h
theorem turn_tuple {P : Program} {w : World} {K : PySem.W.Frag} {tg : Expr} (a it : Addr) : Turn P w K tg (Itt K a) [it] it (fun i h => h.IsTupleIter it a i) where
  mem := by simp
  obj := fun i h st b hb => by
    have e : b = it := by simpa using hb
    subst e
    obtain ⟨o, e, c, d⟩ := st
    exact ⟨o, e, fun v z => by rw [d] at z; cases z⟩
  keep := fun i h h' st k => st.at fun o e => k it (by simp) o e
  item := by
    intro X hP hw hK hc i pins s σ H E I hf st hg
    subst hP hw hK
    obtain ⟨xs, x, hq, hx⟩ := hg
    obtain ⟨its, rv, p, hz⟩ := I.tuple hq
    obtain ⟨u, hu, ru⟩ := rv.get hx
    obtain ⟨f0, f1, f2, f3, f4, f5⟩ := hf it (by simp)
    refine wpAny_pyNext_tuple_item st (show s.heap.IsTuple a its.toArray from p) (x := u) (by simpa using hu) fun h' st' sb => ?_
    have I1 : Inv X pins σ H { s with heap := h' } := I.turned (t' := s.toks) (fun b o hb e => (sb.2 b hb).trans e) f0 f1 f3 f4 f5
    obtain ⟨o, e, c, d⟩ := id st'
    exact ⟨u, rfl, go_of (s := { s with heap := h' }) e c d (by decide) ⟨x, H, I1, ru, ⟨rfl, fun ys hy => by rw [I.tuple_inj hy hq]; exact hx⟩, st', fun b hb => (hf b hb).1⟩⟩
  done := by
    intro X hP hw hK hc i pins s σ H E I hf st hg
    subst hP hw hK
    obtain ⟨xs, hq, hx⟩ := hg
    obtain ⟨its, rv, p, hz⟩ := I.tuple hq
    obtain ⟨f0, f1, f2, f3, f4, f5⟩ := hf it (by simp)
    have hl := rv.length
    exact wpAny_pyNext_tuple_end (I.ok.hd hc) st (show s.heap.IsTuple a its.toArray from p) (by simp; omega) fun h' eb => ⟨rfl, I.turned (t' := s.toks) (fun b o hb e => eb b o hb e) f0 f1 f3 f4 f5⟩
  self := fun _ _ _ _ _ st h => wpAny_pyIter_tupleiter st h
theorem turn_range {P : Program} {w : World} {K : PySem.W.Frag} {tg : Expr} (it : Addr) (lo : Int) (n : Nat) : Turn P w K tg (Itr lo n) [it] it (fun i h => IsRangeIter h it (lo + (i : Nat) * 1) ((n : Int) - (i : Nat)) 1) where
  mem := by simp
  obj := fun i h st b hb => by
    have e : b = it := by simpa using hb
    subst e
    exact ⟨_, st, fun v z => by
      have z' : Data.fields _ = Data.cell v := z
      cases z'⟩
  keep := fun i h h' st k => k it (by simp) _ st
  item := by
    intro X hP hw hK hc i pins s σ H E I hf st hg
    subst hP hw hK
    obtain ⟨f0, f1, f2, f3, f4, f5⟩ := hf it (by simp)
    have W := Walks.range (prog := X.prog) (w := X.w) (I.ok.hd hc) it lo 1 n
    refine W.item i s _ _ hg st fun v h' tk hv st' kk => ?_
    obtain ⟨t, rfl⟩ := hv
    have I1 : Inv X pins σ H { s with heap := h', toks := tk } := I.turned (fun b o hb e => kk b o (by simpa using hb) e) f0 f1 f3 f4 f5
    refine ⟨_, rfl, go_of (s := { s with heap := h', toks := tk }) (n := "range_iterator") st' rfl rfl (by decide) ⟨.int (lo + i), H, I1, ⟨t, ?_⟩, ⟨rfl, rfl⟩, st', fun b hb => (hf b hb).1⟩⟩
    rw [Int.mul_one]
  done := by
    intro X hP hw hK hc i pins s σ H E I hf st hg
    subst hP hw hK
    obtain ⟨f0, f1, f2, f3, f4, f5⟩ := hf it (by simp)
    exact wpAny_pyNext_range_end (I.ok.hd hc) st (by have : n ≤ i := hg; omega) fun h' eb => ⟨rfl, I.turned (t' := s.toks) (fun b o hb e => eb b o hb e) f0 f1 f3 f4 f5⟩
  self := fun _ _ _ _ _ st h => wpAny_pyIter_rangeiter st h
end L2
namespace L2
open PySem PySem.Spec PyProof.Rows
section
variable {X : Cx} {tg : Expr}
noncomputable def iList (K : PySem.W.Frag) (tl : TE) : TI := fun σ H R => tl σ H fun x H1 => ∃ a, x = .ref a ∧ (∃ xs, SqL K H1 a xs) ∧ R (Itl K a) H1
noncomputable def iTup (K : PySem.W.Frag) (tl : TE) : TI := fun σ H R => tl σ H fun x H1 => ∃ a, x = .ref a ∧ (∃ xs, SqT K H1 a xs) ∧ R (Itt K a) H1
theorem pi_list {l : Expr} {tl : TE} (hl : PE X l tl) : PI X tg l (iList X.K tl) := by
  intro pins s σ H R I h
  refine thn (hl pins s σ H _ I h) fun v s1 ⟨x, H1, I1, r1, q1⟩ => ?_
  obtain ⟨a, e, ⟨xs, hq⟩, q⟩ := q1
  subst e
  cases r1
  obtain ⟨its, rv, p, hz⟩ := I1.list hq
  refine wpAny_pyIter_list p.isList ?_
  refine ⟨s1.heap.objs.size, [s1.heap.objs.size], _, _, H1, rfl, I1.kept (t' := s1.toks) fun b o e => Heap.get?_push_of_some _ e, turn_list a _, ⟨_, Heap.get?_push_size _ rfl, rfl, rfl⟩, fun b hb => ?_, q⟩
  have e : b = s1.heap.objs.size := by simpa using hb
  subst e
  exact I1.fpOk (Nat.le_refl _) (I1.hok.fresh (Nat.le_refl _))
theorem pi_tup {l : Expr} {tl : TE} (hl : PE X l tl) : PI X tg l (iTup X.K tl) := by
  intro pins s σ H R I h
  refine thn (hl pins s σ H _ I h) fun v s1 ⟨x, H1, I1, r1, q1⟩ => ?_
  obtain ⟨a, e, ⟨xs, hq⟩, q⟩ := q1
  subst e
  cases r1
  obtain ⟨its, rv, p, hz⟩ := I1.tuple hq
  refine wpAny_pyIter_tuple (show s1.heap.IsTuple a its.toArray from p) ?_
  refine ⟨s1.heap.objs.size, [s1.heap.objs.size], _, _, H1, rfl, I1.kept (t' := s1.toks) fun b o e => Heap.get?_push_of_some _ e, turn_tuple a _, ⟨_, Heap.get?_push_size _ rfl, rfl, rfl⟩, fun b hb => ?_, q⟩
  have e : b = s1.heap.objs.size := by simpa using hb
  subst e
  exact I1.fpOk (Nat.le_refl _) (I1.hok.fresh (Nat.le_refl _))
theorem range_it {pins : List (Addr × Obj)} {σ : St} {H : Hp} {s : Shared} {R : It → Hp → Prop} {E : Value → Shared → Prop} {lo hi : Int} {t u v : Tok} {tk : Nat} (I : Inv X pins σ H s) (h1 : -(2 ^ 62) ≤ lo) (h2 : lo < 2 ^ 62) (h3 : -(2 ^ 62) ≤ hi) (h4 : hi < 2 ^ 62)
    (q : R (Itr lo (hi - lo).toNat) H) : wpAny (model X.prog X.w) X.A (pyIter (.ref s.heap.objs.size)) (PIE X pins σ tg R) E { s with heap := s.heap.push { cls := .type "range", data := .fields #[.int lo t, .int hi u, .int 1 v] }, toks := tk } := by
  refine wpAny_pyIter_range (IsRange.new ..) (small_one h1 h2 h3 h4) ?_
  have I1 : Inv X pins σ H { s with heap := s.heap.push { cls := .type "range", data := .fields #[.int lo t, .int hi u, .int 1 v] }, toks := tk } := I.kept fun b o e => Heap.get?_push_of_some _ e
  refine ⟨(s.heap.push { cls := .type "range", data := .fields #[.int lo t, .int hi u, .int 1 v] }).objs.size, [(s.heap.push { cls := .type "range", data := .fields #[.int lo t, .int hi u, .int 1 v] }).objs.size], _, _, H, rfl,
    I1.kept (t' := tk) fun b o e => Heap.get?_push_of_some _ e, turn_range _ lo (hi - lo).toNat, ?_, fun b hb => ?_, q⟩
  · have e1 : lo + ((0 : Nat) : Int) * 1 = lo := by simp
    have e2 : (((hi - lo).toNat : Nat) : Int) - ((0 : Nat) : Int) = Builtin.Range.rangeSize lo hi 1 := by rw [rangeSize_one]; split <;> omega
    show IsRangeIter _ _ (lo + ((0 : Nat) : Int) * 1) ((((hi - lo).toNat : Nat) : Int) - ((0 : Nat) : Int)) 1
    rw [e1, e2]
    exact Heap.get?_push_size _ rfl
  · have e : b = (s.heap.push { cls := .type "range", data := .fields #[.int lo t, .int hi u, .int 1 v] }).objs.size := by simpa using hb
    subst e
    exact I1.fpOk (Nat.le_refl _) (I1.hok.fresh (Nat.le_refl _))
noncomputable def iRng1 (ta : TA) : TI := fun σ H R => ta σ H fun vs H1 => ∃ j : Int, vs = [.int j] ∧ -(2 ^ 62) ≤ j ∧ j < 2 ^ 62 ∧ R (Itr 0 j.toNat) H1
theorem pi_range1 {a : Expr} {ta : TA} {p pos : Pos} (hg : Gl X "range") (hm : X.mg "range" = none) (ha : PA X [a] ta) (hs : starEach [a] X.env = [(false, eval a X.env)] := by rfl) : PI X tg (.Call (.Name "range" p) [a] [] pos) (iRng1 ta) := by
  intro pins s σ H R I h
  refine Call_ (ld_blt I hg hm boot_range (PyProof.Rows.callWith_type1 (thn (ha pos pins s σ H _ I h) fun us s1 ⟨vs, H1, I1, r1, q1⟩ => ?_) hs rfl))
  obtain ⟨j, e, q1, q2, q⟩ := q1
  subst e
  cases r1 with
  | cons r rr =>
    cases rr
    obtain ⟨t, rfl⟩ := r
    exact call_range_1 (range_it I1 (by omega) (by omega) q1 q2 (by simpa using q))
noncomputable def tFor (wi : TI) (g : TG) (tb : TS) : TS := fun D σ H => wi σ H fun J H1 => ∃ W : Nat → Nat → St → Hp → Prop, (∃ m, W 0 m σ H1) ∧ ∀ i m σ H, W i m σ H →
  (J.stop i H ∧ D.nx σ H) ∨ (J.go i H ∧ ∃ N : St → Hp → Prop, (∀ σ' H', N σ' H' → ∃ m', m' < m ∧ W (i + 1) m' σ' H') ∧ ∀ x H', J.yld i H x H' → g x σ H' fun σ2 H2 => tb { D with nx := N, ct := N, bk := D.nx } σ2 H2)
noncomputable def pinsAt (fp : List Addr) (h : Heap) : List (Addr × Obj) := fp.filterMap fun b => (h.get? b).map fun o => (b, o)
theorem mem_pinsAt {fp : List Addr} {h : Heap} {b : Addr} {o : Obj} (hb : b ∈ fp) (e : h.get? b = some o) : (b, o) ∈ pinsAt fp h := List.mem_filterMap.mpr ⟨b, hb, by rw [e]; rfl⟩
theorem of_pinsAt {fp : List Addr} {h : Heap} {p : Addr × Obj} (hp : p ∈ pinsAt fp h) : p.1 ∈ fp ∧ h.get? p.1 = some p.2 := by
  obtain ⟨b, hb, e⟩ := List.mem_filterMap.mp hp
  cases q : h.get? b with
  | none => rw [q] at e; cases e
  | some o =>
    rw [q] at e
    have e' : (b, o) = p := Option.some.inj e
    subst e'
    exact ⟨hb, q⟩
theorem Inv.pinned {pins : List (Addr × Obj)} {σ : St} {H : Hp} {s : Shared} {fp : List Addr} (I : Inv X pins σ H s) (hf : ∀ b ∈ fp, FpOk X pins H b) (ho : ∀ b ∈ fp, ∃ o, s.heap.get? b = some o ∧ ∀ v, o.data ≠ .cell v) : Inv X (pins ++ pinsAt fp s.heap) σ H s :=
  I.pins_of fun p hp => (List.mem_append.mp hp).elim (fun z => I.pin p (List.mem_append_right _ z)) fun z => by
    obtain ⟨hb, e⟩ := of_pinsAt z
    obtain ⟨f0, f1, f2, _⟩ := hf p.1 hb
    obtain ⟨o, e', d⟩ := ho p.1 hb
    rw [e] at e'; cases e'
    exact ⟨e, f0, f1, f2, d⟩
theorem Inv.unpinned {pins pl : List (Addr × Obj)} {σ : St} {H : Hp} {s : Shared} (I : Inv X (pins ++ pl) σ H s) : Inv X pins σ H s := I.pins_of fun p hp => I.pin p (List.mem_append_right _ (List.mem_append_left _ hp))
theorem ps_for {iter : Expr} {body : List Stmt} {wi : TI} {g : TG} {tb : TS} {pos : Pos} (hp : PassesOwn (model X.prog X.w) X.A X.env X.xe) (hc : X.calm = true) (hi : PI X tg iter wi) (hg : PG X tg g) (hb : PSs X body tb)
    (hs : ∀ x, foldedSetIterable iter X.env x = pure x := by intro _; rfl) : PS X (.For tg iter body [] pos) (tFor wi g tb) := by
  intro pins s σ H D I h
  refine wpAny_For (thn (hi pins s σ H _ I h) fun v s1 h1 => thn h1 fun itv s2 h2 => ?_) hs
  obtain ⟨it, fp, tn, J, H2, e, I2, T, st2, f2, W, ⟨m0, w0⟩, turn⟩ := h2
  subst e
  have stat : ∀ {H' : Hp}, (∀ b ∈ fp, H' b = none) → ∀ b ∈ fp, FpOk X pins H' b := fun hn b hb => ⟨hn b hb, (f2 b hb).2⟩
  refine codeAny_forLoop_any (fun n s' => ∃ i σ' H', Inv X pins σ' H' s' ∧ tn i s'.heap ∧ (∀ b ∈ fp, H' b = none) ∧ W i n σ' H') ?_ m0 ⟨0, σ, H2, I2, st2, fun b hb => (f2 b hb).1, w0⟩
  rintro n s3 ⟨i, σ3, H3, I3, st3, fr3, w3⟩
  rcases turn i n σ3 H3 w3 with ⟨stop, qn⟩ | ⟨go, N, hN, step⟩
  · refine wpAny_passesOwn hp (thn (T.done X rfl rfl rfl hc i pins s3 σ3 H3 X.xe I3 (stat fr3) st3 stop) fun r s4 ⟨hr, I4⟩ => ?_)
    subst hr
    exact wpAny_execs_nil ⟨σ3, H3, I4, qn⟩
  · refine wpAny_passesOwn hp (thn (T.item X rfl rfl rfl hc i pins s3 σ3 H3 X.xe I3 (stat fr3) st3 go) fun r s4 ⟨u, hr, h4⟩ => ?_)
    subst hr
    refine wpAny_passesOwn hp (thn h4 fun _ s5 ⟨x, H5, I5, r5, y5, st5, fr5⟩ => ?_)
    have I5' := I5.pinned (stat fr5) (T.obj _ _ st5)
    refine wpAny_passesOwn hp (thn (hg _ s5 σ3 H5 x u _ I5' r5 (step x H5 y5)) fun _ s6 ⟨σ6, H6, I6, q6⟩ => ?_)
    refine wpAny_passesOwn hp (thn (hb _ s6 σ6 H6 _ I6 q6) fun f s7 q7 => ?_)
    have again : ∀ {σ7 : St} {H7 : Hp}, Inv X (pins ++ pinsAt fp s5.heap) σ7 H7 s7 → N σ7 H7 → ∃ m, m < n ∧ ∃ i σ' H', Inv X pins σ' H' s7 ∧ tn i s7.heap ∧ (∀ b ∈ fp, H' b = none) ∧ W i m σ' H' := fun {σ7 H7} I7 n7 => by
      obtain ⟨m', hm, w7⟩ := hN σ7 H7 n7
      refine ⟨m', hm, i + 1, σ7, H7, I7.unpinned, T.keep _ _ _ st5 fun b hb o e => (I7.pin (b, o) (List.mem_append_right _ (List.mem_append_right _ (mem_pinsAt hb e)))).1, fun b hb => ?_, w7⟩
      obtain ⟨o, e, d⟩ := T.obj _ _ st5 b hb
      exact (I7.pin (b, o) (List.mem_append_right _ (List.mem_append_right _ (mem_pinsAt hb e)))).2.1
    cases f with
    | next => obtain ⟨σ7, H7, I7, n7⟩ := q7; exact again I7 n7
    | cont => obtain ⟨σ7, H7, I7, n7⟩ := q7; exact again I7 n7
    | brk => obtain ⟨σ7, H7, I7, q7⟩ := q7; exact ⟨σ7, H7, I7.unpinned, q7⟩
    | ret v => obtain ⟨x7, σ7, H7, I7, r7, q7⟩ := q7; exact ⟨x7, σ7, H7, I7.unpinned, r7, q7⟩
end
theorem for_list {K : PySem.W.Frag} {a : Addr} {xs : List V} {g : TG} {tb : TS} {D : Ends} {σ : St} {H : Hp} (Pv : Nat → St → Hp → Prop) (h0 : Pv 0 σ H) (hl : ∀ i σ H, i ≤ xs.length → Pv i σ H → SqL K H a xs)
    (hs : ∀ i x σ H, xs[i]? = some x → Pv i σ H → g x σ H fun σ2 H2 => tb { D with nx := Pv (i + 1), ct := Pv (i + 1), bk := D.nx } σ2 H2) (hd : ∀ σ H, Pv xs.length σ H → D.nx σ H) :
    ∃ W : Nat → Nat → St → Hp → Prop, (∃ m, W 0 m σ H) ∧ ∀ i m σ H, W i m σ H →
      ((Itl K a).stop i H ∧ D.nx σ H) ∨ ((Itl K a).go i H ∧ ∃ N : St → Hp → Prop, (∀ σ' H', N σ' H' → ∃ m', m' < m ∧ W (i + 1) m' σ' H') ∧ ∀ x H', (Itl K a).yld i H x H' → g x σ H' fun σ2 H2 => tb { D with nx := N, ct := N, bk := D.nx } σ2 H2) := by
  refine ⟨fun i m σ H => m = xs.length - i ∧ i ≤ xs.length ∧ Pv i σ H, ⟨xs.length, by simp, Nat.zero_le _, h0⟩, ?_⟩
  rintro i m σ H ⟨rfl, hi, p⟩
  have q := hl i σ H hi p
  by_cases hlt : i < xs.length
  · refine .inr ⟨⟨xs, xs[i], q, by simp [hlt]⟩, Pv (i + 1), fun σ' H' p' => ⟨xs.length - (i + 1), by omega, rfl, hlt, p'⟩, fun x H' y => ?_⟩
    obtain ⟨e, y⟩ := y
    subst e
    exact hs i x σ _ (y xs q) p
  · have e : i = xs.length := by omega
    subst e
    exact .inl ⟨⟨xs, q, Nat.le_refl _⟩, hd σ H p⟩
theorem for_tup {K : PySem.W.Frag} {a : Addr} {xs : List V} {g : TG} {tb : TS} {D : Ends} {σ : St} {H : Hp} (Pv : Nat → St → Hp → Prop) (h0 : Pv 0 σ H) (hl : ∀ i σ H, i ≤ xs.length → Pv i σ H → SqT K H a xs)
    (hs : ∀ i x σ H, xs[i]? = some x → Pv i σ H → g x σ H fun σ2 H2 => tb { D with nx := Pv (i + 1), ct := Pv (i + 1), bk := D.nx } σ2 H2) (hd : ∀ σ H, Pv xs.length σ H → D.nx σ H) :
    ∃ W : Nat → Nat → St → Hp → Prop, (∃ m, W 0 m σ H) ∧ ∀ i m σ H, W i m σ H →
      ((Itt K a).stop i H ∧ D.nx σ H) ∨ ((Itt K a).go i H ∧ ∃ N : St → Hp → Prop, (∀ σ' H', N σ' H' → ∃ m', m' < m ∧ W (i + 1) m' σ' H') ∧ ∀ x H', (Itt K a).yld i H x H' → g x σ H' fun σ2 H2 => tb { D with nx := N, ct := N, bk := D.nx } σ2 H2) := by
  refine ⟨fun i m σ H => m = xs.length - i ∧ i ≤ xs.length ∧ Pv i σ H, ⟨xs.length, by simp, Nat.zero_le _, h0⟩, ?_⟩
  rintro i m σ H ⟨rfl, hi, p⟩
  have q := hl i σ H hi p
  by_cases hlt : i < xs.length
  · refine .inr ⟨⟨xs, xs[i], q, by simp [hlt]⟩, Pv (i + 1), fun σ' H' p' => ⟨xs.length - (i + 1), by omega, rfl, hlt, p'⟩, fun x H' y => ?_⟩
    obtain ⟨e, y⟩ := y
    subst e
    exact hs i x σ _ (y xs q) p
  · have e : i = xs.length := by omega
    subst e
    exact .inl ⟨⟨xs, q, Nat.le_refl _⟩, hd σ H p⟩
theorem for_range {lo : Int} {n : Nat} {g : TG} {tb : TS} {D : Ends} {σ : St} {H : Hp} (Pv : Nat → St → Hp → Prop) (h0 : Pv 0 σ H)
    (hs : ∀ i σ H, i < n → Pv i σ H → g (.int (lo + i)) σ H fun σ2 H2 => tb { D with nx := Pv (i + 1), ct := Pv (i + 1), bk := D.nx } σ2 H2) (hd : ∀ σ H, Pv n σ H → D.nx σ H) :
    ∃ W : Nat → Nat → St → Hp → Prop, (∃ m, W 0 m σ H) ∧ ∀ i m σ H, W i m σ H →
      ((Itr lo n).stop i H ∧ D.nx σ H) ∨ ((Itr lo n).go i H ∧ ∃ N : St → Hp → Prop, (∀ σ' H', N σ' H' → ∃ m', m' < m ∧ W (i + 1) m' σ' H') ∧ ∀ x H', (Itr lo n).yld i H x H' → g x σ H' fun σ2 H2 => tb { D with nx := N, ct := N, bk := D.nx } σ2 H2) := by
  refine ⟨fun i m σ H => m = n - i ∧ i ≤ n ∧ Pv i σ H, ⟨n, by simp, Nat.zero_le _, h0⟩, ?_⟩
  rintro i m σ H ⟨rfl, hi, p⟩
  by_cases hlt : i < n
  · refine .inr ⟨hlt, Pv (i + 1), fun σ' H' p' => ⟨n - (i + 1), by omega, rfl, hlt, p'⟩, fun x H' y => ?_⟩
    obtain ⟨e, y⟩ := y
    subst e y
    exact hs i σ _ hlt p
  · have e : i = n := by omega
    subst e
    exact .inl ⟨Nat.le_refl _, hd σ H p⟩
end L2
namespace L2
open PySem PySem.Spec PyProof.Rows
noncomputable abbrev R2 := V → V → Hp → VK → Prop
noncomputable def OpR (X : Cx) (f : Value → Value → Sem Value) (r : R2) : Prop :=
  ∀ (pins : List (Addr × Obj)) (s : Shared) (σ : St) (H : Hp) (x y : V) (v u : Value) (Q : VK), Inv X pins σ H s → RelV x v → RelV y u → r x y H Q →
    wpAny (model X.prog X.w) X.A (f v u) (EP X pins σ Q) X.xe s
noncomputable def UnR (X : Cx) (f : Value → Sem Value) (r : V → Hp → VK → Prop) : Prop :=
  ∀ (pins : List (Addr × Obj)) (s : Shared) (σ : St) (H : Hp) (x : V) (v : Value) (Q : VK), Inv X pins σ H s → RelV x v → r x H Q →
    wpAny (model X.prog X.w) X.A (f v) (EP X pins σ Q) X.xe s
noncomputable def CallR (X : Cx) (f : Value) (r : List V → Hp → VK → Prop) : Prop :=
  ∀ (pins : List (Addr × Obj)) (s : Shared) (σ : St) (H : Hp) (xs : List V) (us : List Value) (Q : VK), Inv X pins σ H s → Vals xs us → r xs H Q →
    wpAny (model X.prog X.w) X.A (call f us) (EP X pins σ Q) X.xe s
noncomputable def tOp (r : R2) (ta tb : TE) : TE := fun σ H Q => ta σ H fun x H1 => tb σ H1 fun y H2 => r x y H2 Q
noncomputable def tUn (r : V → Hp → VK → Prop) (ta : TE) : TE := fun σ H Q => ta σ H fun x H1 => r x H1 Q
noncomputable def rI (C : Int → Int → Prop) (g : Int → Int → V) : R2 := fun x y H Q => ∃ i j, x = .int i ∧ y = .int j ∧ C i j ∧ Q (g i j) H
noncomputable def rI0 (g : Int → Int → V) : R2 := fun x y H Q => ∃ i j, x = .int i ∧ y = .int j ∧ Q (g i j) H
noncomputable def rU (g : Int → V) : V → Hp → VK → Prop := fun x H Q => ∃ i, x = .int i ∧ Q (g i) H
section
variable {X : Cx} {a b c : Expr} {ta tb tc : TE} {pos : Pos}
theorem binT (ha : PE X a ta) (hb : PE X b tb) {pins : List (Addr × Obj)} {s : Shared} {σ : St} {H : Hp} {R : V → V → Hp → Prop} (I : Inv X pins σ H s)
    (h : ta σ H fun x H1 => tb σ H1 fun y H2 => R x y H2) {Q : Value → Shared → Prop} {f : Value → Value → Sem Value}
    (hf : ∀ v u s2 x y H2, Inv X pins σ H2 s2 → RelV x v → RelV y u → R x y H2 → wpAny (model X.prog X.w) X.A (f v u) Q X.xe s2) :
    wpAny (model X.prog X.w) X.A (eval a X.env) (fun v s₁ => wpAny (model X.prog X.w) X.A (eval b X.env) (fun u s₂ => wpAny (model X.prog X.w) X.A (f v u) Q X.xe s₂) X.xe s₁) X.xe s := by
  refine thn (ha pins s σ H _ I h) fun v s1 ⟨x, H1, I1, r1, q1⟩ => ?_
  refine thn (hb pins s1 σ H1 _ I1 q1) fun u s2 ⟨y, H2, I2, r2, q2⟩ => ?_
  exact hf v u s2 x y H2 I2 r1 r2 q2
theorem pe_op {op : Operator} {r : R2} (ho : OpR X (binaryOp op) r) (ha : PE X a ta) (hb : PE X b tb) : PE X (.BinOp a op b pos) (tOp r ta tb) := by
  intro pins s σ H Q I h
  exact wpAny_BinOp (binT ha hb I h fun v u s2 x y H2 I2 rx ry q => ho pins s2 σ H2 x y v u Q I2 rx ry q)
theorem pe_un {op : UnaryOp} {r : V → Hp → VK → Prop} (ho : UnR X (unaryOp op) r) (ha : PE X a ta) : PE X (.UnaryOp op a pos) (tUn r ta) := by
  intro pins s σ H Q I h
  exact UnaryOp_ (thn (ha pins s σ H _ I h) fun v s1 ⟨x, H1, I1, r1, q1⟩ => ho pins s1 σ H1 x v Q I1 r1 q1)
theorem opI {f : Value → Value → Sem Value} {C : Int → Int → Prop} {g : Int → Int → Int}
    (rule : ∀ (i j : Int) (t u : Tok) (s : Shared) (Q : Value → Shared → Prop) (E : Value → Shared → Prop), C i j → Q (.int (g i j) s.toks) { s with toks := s.toks + 1 } → wpAny (model X.prog X.w) X.A (f (.int i t) (.int j u)) Q E s) :
    OpR X f (rI C fun i j => .int (g i j)) := by
  intro pins s σ H x y v u Q I rx ry h
  obtain ⟨i, j, rfl, rfl, hc, q⟩ := h
  obtain ⟨t, rfl⟩ := rx
  obtain ⟨t', rfl⟩ := ry
  exact rule i j t t' s _ _ hc ⟨.int (g i j), H, I.tok _, ⟨_, rfl⟩, q⟩
theorem opI0 {f : Value → Value → Sem Value} {g : Int → Int → Int}
    (rule : ∀ (i j : Int) (t u : Tok) (s : Shared) (Q : Value → Shared → Prop) (E : Value → Shared → Prop), Q (.int (g i j) s.toks) { s with toks := s.toks + 1 } → wpAny (model X.prog X.w) X.A (f (.int i t) (.int j u)) Q E s) :
    OpR X f (rI0 fun i j => .int (g i j)) := by
  intro pins s σ H x y v u Q I rx ry h
  obtain ⟨i, j, rfl, rfl, q⟩ := h
  obtain ⟨t, rfl⟩ := rx
  obtain ⟨t', rfl⟩ := ry
  exact rule i j t t' s _ _ ⟨.int (g i j), H, I.tok _, ⟨_, rfl⟩, q⟩
theorem opB0 {f : Value → Value → Sem Value} {g : Int → Int → Bool}
    (rule : ∀ (i j : Int) (t u : Tok) (s : Shared) (Q : Value → Shared → Prop) (E : Value → Shared → Prop), Q (.bool (g i j)) s → wpAny (model X.prog X.w) X.A (f (.int i t) (.int j u)) Q E s) :
    OpR X f (rI0 fun i j => .bl (g i j)) := by
  intro pins s σ H x y v u Q I rx ry h
  obtain ⟨i, j, rfl, rfl, q⟩ := h
  obtain ⟨t, rfl⟩ := rx
  obtain ⟨t', rfl⟩ := ry
  exact rule i j t t' s _ _ ⟨.bl (g i j), H, I, rfl, q⟩
noncomputable def CDiv (i j : Int) : Prop := 0 < j ∧ j < 1073741824
noncomputable def CPow (i j : Int) : Prop := 0 ≤ j ∧ j ≤ 1000000 ∧ i.natAbs < 2 ^ 64
noncomputable def CMul (i j : Int) : Prop := (-(2 ^ 64) < i ∧ i < 2 ^ 64) ∨ (-(2 ^ 64) < j ∧ j < 2 ^ 64)
theorem CMul.ok {i j : Int} (h : CMul i j) : IntMulOk i j := by
  rcases h with ⟨h1, h2⟩ | ⟨h1, h2⟩
  · exact .of_left (intBits_le_64 h1 h2)
  · exact .of_right (intBits_le_64 h1 h2)
theorem op_add : OpR X (binaryOp .Add) (rI0 fun i j => .int (i + j)) := opI0 fun _ _ _ _ _ _ _ q => add_int q
theorem op_sub : OpR X (binaryOp .Sub) (rI0 fun i j => .int (i - j)) := opI0 fun _ _ _ _ _ _ _ q => sub_int q
theorem op_mul : OpR X (binaryOp .Mult) (rI CMul fun i j => .int (i * j)) := opI fun _ _ _ _ _ _ _ hc q => mul_int q hc.ok
theorem op_fdiv : OpR X (binaryOp .FloorDiv) (rI CDiv fun i j => .int (i / j)) := opI fun i j _ _ _ _ _ hc q => by
  have h1 : (0 : Int) < j := hc.1
  have h2 : j < 1073741824 := hc.2
  exact floordiv_int (by omega) (by rw [Int.fdiv_eq_ediv_of_nonneg i (by omega)]; exact q) (.inl (PyProof.noPylong_small (by omega)))
theorem op_mod : OpR X (binaryOp .Mod) (rI (fun _ j => 0 < j) fun i j => .int (i % j)) := opI fun i j _ _ _ _ _ hc q => by
  have h1 : (0 : Int) < j := hc
  exact mod_int' (by omega) (by rw [Int.fmod_eq_emod_of_nonneg i (by omega)]; exact q)
theorem op_pow : OpR X (binaryOp .Pow) (rI CPow fun i j => .int (i ^ j.toNat)) := opI fun _ _ _ _ _ _ _ hc q => pow_int_small hc.1 hc.2.1 hc.2.2 q
theorem unI {f : Value → Sem Value} {g : Int → Int}
    (rule : ∀ (i : Int) (t : Tok) (s : Shared) (Q : Value → Shared → Prop) (E : Value → Shared → Prop), Q (.int (g i) s.toks) { s with toks := s.toks + 1 } → wpAny (model X.prog X.w) X.A (f (.int i t)) Q E s) :
    UnR X f (rU fun i => .int (g i)) := by
  intro pins s σ H x v Q I rx h
  obtain ⟨i, rfl, q⟩ := h
  obtain ⟨t, rfl⟩ := rx
  exact rule i t s _ _ ⟨.int (g i), H, I.tok _, ⟨_, rfl⟩, q⟩
theorem un_neg : UnR X (unaryOp .USub) (rU fun i => .int (-i)) := unI fun _ _ _ _ _ q => neg_int q
end
noncomputable def scal : V → V → Bool
  | .non, .non => true | .non, .int _ => true | .int _, .non => true | .non, .bl _ => true | .bl _, .non => true | .non, .str _ => true | .str _, .non => true
  | .int _, .int _ => true | .bl _, .bl _ => true | .str _, .str _ => true | .byt _, .byt _ => true
  | .int _, .str _ => true | .str _, .int _ => true | .bl _, .str _ => true | .str _, .bl _ => true
  | _, _ => false
noncomputable def rEq : R2 := fun x y H Q => scal x y = true ∧ Q (.bl (decide (x = y))) H
noncomputable def rNe : R2 := fun x y H Q => scal x y = true ∧ Q (.bl (!decide (x = y))) H
theorem dec_int {i j : Int} : decide (V.int i = V.int j) = (i == j) := by
  rw [Bool.eq_iff_iff]
  simp
theorem dec_bl {i j : Bool} : decide (V.bl i = V.bl j) = (i == j) := by
  rw [Bool.eq_iff_iff]
  simp
theorem dec_str {i j : Str} : decide (V.str i = V.str j) = (i == j) := by
  rw [Bool.eq_iff_iff]
  simp
theorem dec_byt {i j : Array UInt8} : decide (V.byt i = V.byt j) = (i.toList == j.toList) := by
  rw [Bool.eq_iff_iff]
  cases i
  cases j
  simp
section
variable {X : Cx} {a b c : Expr} {ta tb tc : TE} {pos : Pos}
theorem fin_bl {pins : List (Addr × Obj)} {σ : St} {H : Hp} {s : Shared} {Q : VK} {k k' : Bool} (I : Inv X pins σ H s) (q : Q (.bl k) H) (e : k = k') : EP X pins σ Q (.bool k') s := by
  subst e
  exact ⟨.bl k, H, I, rfl, q⟩
theorem op_eq : OpR X (compareOp .Eq) rEq := by
  intro pins s σ H x y v u Q I rx ry h
  obtain ⟨hs, q⟩ := h
  cases x with
  | non =>
    cases rx
    cases y with
    | non => cases ry; exact PySem.EqNone.eq_none_none (fin_bl I q (by simp))
    | bl j => cases ry; exact PySem.EqNone.eq_none_bool (fin_bl I q (by simp))
    | int j => obtain ⟨t', rfl⟩ := ry; exact PySem.EqNone.eq_none_int (fin_bl I q (by simp))
    | str j => obtain ⟨t', rfl⟩ := ry; exact PySem.EqNone.eq_none_str (fin_bl I q (by simp))
    | _ => exact absurd (show false = true from hs) Bool.false_ne_true
  | bl i =>
    cases rx
    cases y with
    | non => cases ry; exact PySem.EqNone.eq_bool_none (fin_bl I q (by simp))
    | bl j => cases ry; exact eq_bool (fin_bl I q dec_bl)
    | str j => obtain ⟨t', rfl⟩ := ry; exact PySem.EqMixed.eq_bool_str (fin_bl I q (by simp))
    | _ => exact absurd (show false = true from hs) Bool.false_ne_true
  | int i =>
    obtain ⟨t, rfl⟩ := rx
    cases y with
    | non => cases ry; exact PySem.EqNone.eq_int_none (fin_bl I q (by simp))
    | int j => obtain ⟨t', rfl⟩ := ry; exact eq_int (fin_bl I q dec_int)
    | str j => obtain ⟨t', rfl⟩ := ry; exact PySem.EqMixed.eq_int_str (fin_bl I q (by simp))
    | _ => exact absurd (show false = true from hs) Bool.false_ne_true
  | str i =>
    obtain ⟨t, rfl⟩ := rx
    cases y with
    | non => cases ry; exact PySem.EqNone.eq_str_none (fin_bl I q (by simp))
    | bl j => cases ry; exact PySem.EqMixed.eq_str_bool (fin_bl I q (by simp))
    | int j => obtain ⟨t', rfl⟩ := ry; exact PySem.EqMixed.eq_str_int (fin_bl I q (by simp))
    | str j => obtain ⟨t', rfl⟩ := ry; exact eq_str (fin_bl I q dec_str)
    | _ => exact absurd (show false = true from hs) Bool.false_ne_true
  | byt i =>
    obtain ⟨t, rfl⟩ := rx
    cases y with
    | byt j => obtain ⟨t', rfl⟩ := ry; exact PySem.W.eq_bytes (fin_bl I q dec_byt)
    | _ => exact absurd (show false = true from hs) Bool.false_ne_true
  | _ => cases y <;> exact absurd (show false = true from hs) Bool.false_ne_true
theorem op_ne : OpR X (compareOp .NotEq) rNe := by
  intro pins s σ H x y v u Q I rx ry h
  obtain ⟨hs, q⟩ := h
  cases x with
  | non =>
    cases rx
    cases y with
    | non => cases ry; exact PySem.EqNone.ne_none_none (fin_bl I q (by simp))
    | bl j => cases ry; exact PySem.EqNone.ne_none_bool (fin_bl I q (by simp))
    | int j => obtain ⟨t', rfl⟩ := ry; exact PySem.EqNone.ne_none_int (fin_bl I q (by simp))
    | str j => obtain ⟨t', rfl⟩ := ry; exact PySem.EqNone.ne_none_str (fin_bl I q (by simp))
    | _ => exact absurd (show false = true from hs) Bool.false_ne_true
  | bl i =>
    cases rx
    cases y with
    | non => cases ry; exact PySem.EqNone.ne_bool_none (fin_bl I q (by simp))
    | bl j => cases ry; exact ne_bool (fin_bl I q (congrArg not dec_bl))
    | str j => obtain ⟨t', rfl⟩ := ry; exact PySem.EqMixed.ne_bool_str (fin_bl I q (by simp))
    | _ => exact absurd (show false = true from hs) Bool.false_ne_true
  | int i =>
    obtain ⟨t, rfl⟩ := rx
    cases y with
    | non => cases ry; exact PySem.EqNone.ne_int_none (fin_bl I q (by simp))
    | int j => obtain ⟨t', rfl⟩ := ry; exact ne_int (fin_bl I q (congrArg not dec_int))
    | str j => obtain ⟨t', rfl⟩ := ry; exact PySem.EqMixed.ne_int_str (fin_bl I q (by simp))
    | _ => exact absurd (show false = true from hs) Bool.false_ne_true
  | str i =>
    obtain ⟨t, rfl⟩ := rx
    cases y with
    | non => cases ry; exact PySem.EqNone.ne_str_none (fin_bl I q (by simp))
    | bl j => cases ry; exact PySem.EqMixed.ne_str_bool (fin_bl I q (by simp))
    | int j => obtain ⟨t', rfl⟩ := ry; exact PySem.EqMixed.ne_str_int (fin_bl I q (by simp))
    | str j => obtain ⟨t', rfl⟩ := ry; exact ne_str (fin_bl I q (congrArg not dec_str))
    | _ => exact absurd (show false = true from hs) Bool.false_ne_true
  | byt i =>
    obtain ⟨t, rfl⟩ := rx
    cases y with
    | byt j => obtain ⟨t', rfl⟩ := ry; exact PySem.W.ne_bytes (fin_bl I q (congrArg not dec_byt))
    | _ => exact absurd (show false = true from hs) Bool.false_ne_true
  | _ => cases y <;> exact absurd (show false = true from hs) Bool.false_ne_true
theorem op_lt : OpR X (compareOp .Lt) (rI0 fun i j => .bl (decide (i < j))) := opB0 fun _ _ _ _ _ _ _ q => lt_int q
theorem op_le : OpR X (compareOp .LtE) (rI0 fun i j => .bl (decide (i ≤ j))) := opB0 fun _ _ _ _ _ _ _ q => le_int q
theorem op_gt : OpR X (compareOp .Gt) (rI0 fun i j => .bl (decide (j < i))) := opB0 fun _ _ _ _ _ _ _ q => gt_int q
theorem op_ge : OpR X (compareOp .GtE) (rI0 fun i j => .bl (decide (j ≤ i))) := opB0 fun _ _ _ _ _ _ _ q => ge_int q
theorem op_lt_str : OpR X (compareOp .Lt) (fun x y H Q => ∃ i j, x = .str i ∧ y = .str j ∧ Q (.bl (decide (i.cps.toList < j.cps.toList))) H) := by
  intro pins s σ H x y v u Q I rx ry h
  obtain ⟨i, j, rfl, rfl, q⟩ := h
  obtain ⟨t, rfl⟩ := rx
  obtain ⟨t', rfl⟩ := ry
  exact lt_str (fin_bl I q rfl)
theorem op_notN : OpR X (compareOp .IsNot) (fun x y H Q => y = .non ∧ Q (.bl (!decide (x = .non))) H) := by
  intro pins s σ H x y v u Q I rx ry h
  obtain ⟨rfl, q⟩ := h
  cases ry
  refine isnot_none_gen (fin_bl I q ?_)
  cases x <;> first
    | (cases rx; rfl)
    | (obtain ⟨t, rfl⟩ := rx; rfl)
theorem nomark (b : Expr) {op : CmpOp} (h : op ≠ .In := by decide) (h2 : op ≠ .NotIn := by decide) : behindInMarks op b = false := by
  have e1 : (op == CmpOp.In) = false := by cases op <;> first | rfl | exact absurd rfl h
  have e2 : (op == CmpOp.NotIn) = false := by cases op <;> first | rfl | exact absurd rfl h2
  cases b <;> simp [behindInMarks, e1, e2]
theorem pe_cmpR {op : CmpOp} {r : R2} (ho : OpR X (compareOp op) r) (ha : PE X a ta) (hb : PE X b tb) (hm : behindInMarks op b = false) : PE X (.Compare a [op] [b] pos) (tOp r ta tb) := by
  intro pins s σ H Q I h
  exact wpAny_Compare1 (binT ha hb I h fun v u s2 x y H2 I2 rx ry q => ho pins s2 σ H2 x y v u Q I2 rx ry q) hm
noncomputable def tTest (t : TE) : TT := fun σ H Q => t σ H fun x H' => ∃ k, x = .bl k ∧ Q k H'
theorem pt_cmpR {op : CmpOp} {r : R2} (ho : OpR X (compareOp op) r) (ha : PE X a ta) (hb : PE X b tb) (hm : behindInMarks op b = false) : PT X (.Compare a [op] [b] pos) (tTest (tOp r ta tb)) := by
  intro pins s σ H Q I h
  refine wpAny_isTrue_Compare1 (thn (ha pins s σ H _ I h) fun v s1 ⟨x, H1, I1, r1, q1⟩ => thn (hb pins s1 σ H1 _ I1 q1) fun u s2 ⟨y, H2, I2, r2, q2⟩ =>
    thn (ho pins s2 σ H2 x y v u _ I2 r1 r2 q2) fun c s3 ⟨z, H3, I3, r3, k, e, q3⟩ => ?_) hm
  subst e
  cases r3
  exact wpAny_truthy_bool ⟨H3, I3, q3⟩
noncomputable def tChain (r r' : R2) (ta tb tc : TE) : TE := fun σ H Q => ta σ H fun x H1 => tb σ H1 fun y H2 => r x y H2 fun z H3 => ∃ k, z = .bl k ∧
  (if k = true then tc σ H3 fun w' H4 => r' y w' H4 Q else Q (.bl false) H3)
theorem pe_chain {op op' : CmpOp} {r r' : R2} (ho : OpR X (compareOp op) r) (ho' : OpR X (compareOp op') r') (ha : PE X a ta) (hb : PE X b tb) (hc : PE X c tc)
    (hm : lastMarks [op, op'] [b, c] = false := by with_unfolding_all rfl) : PE X (.Compare a [op, op'] [b, c] pos) (tChain r r' ta tb tc) := by
  intro pins s σ H Q I h
  refine Compare_chain (thn (ha pins s σ H _ I h) fun v s1 ⟨x, H1, I1, r1, q1⟩ => chain_link (thn (hb pins s1 σ H1 _ I1 q1) fun u s2 ⟨y, H2, I2, r2, q2⟩ =>
    thn (ho pins s2 σ H2 x y v u _ I2 r1 r2 q2) fun d s3 ⟨z, H3, I3, r3, k, e, q3⟩ => ?_)) hm
  subst e
  cases r3
  refine wpAny_truthy_bool ?_
  cases k with
  | false => exact ite_ff ⟨.bl false, H3, I3, rfl, q3⟩
  | true => exact ite_tt (chain_last (thn (hc pins s3 σ H3 _ I3 q3) fun w' s4 ⟨z', H4, I4, r4, q4⟩ => ho' pins s4 σ H4 y z' u w' Q I4 r2 r4 q4))
theorem line63 : (sizeLine : Nat) < 2 ^ 63 := by rw [sizeLine_eq]; decide
theorem op_add_str : OpR X (binaryOp .Add) (fun x y H Q => ∃ i j, x = .str i ∧ y = .str j ∧ i.length + j.length ≤ sizeLine ∧ Q (.str (i ++ j)) H) := by
  intro pins s σ H x y v u Q I rx ry h
  obtain ⟨i, j, rfl, rfl, hz, q⟩ := h
  obtain ⟨t, rfl⟩ := rx
  obtain ⟨t', rfl⟩ := ry
  exact add_str (fun t' tk => ⟨.str (i ++ j), H, I.tok _, ⟨_, rfl⟩, q⟩) hz
theorem vals1 {x : V} {us : List Value} (r : Vals [x] us) : ∃ u, us = [u] ∧ RelV x u := by
  cases r with
  | cons r1 r2 => cases r2; exact ⟨_, rfl, r1⟩
theorem vals2 {x y : V} {us : List Value} (r : Vals [x, y] us) : ∃ u w', us = [u, w'] ∧ RelV x u ∧ RelV y w' := by
  cases r with
  | cons r1 r2 =>
    cases r2 with
    | cons r3 r4 => cases r4; exact ⟨_, _, rfl, r1, r3⟩
theorem call_abs : CallR X (.builtin "abs") (fun xs H Q => ∃ i, xs = [.int i] ∧ Q (.int (if i < 0 then -i else i)) H) := by
  intro pins s σ H xs us Q I r h
  obtain ⟨i, rfl, q⟩ := h
  obtain ⟨u, rfl, t, rfl⟩ := vals1 r
  exact call_abs_int fun u tk => ⟨.int (if i < 0 then -i else i), H, I.tok _, ⟨_, rfl⟩, q⟩
theorem call_max2 (hc : X.calm = true) : CallR X (.builtin "max") (fun xs H Q => ∃ i j, xs = [.int i, .int j] ∧ Q (.int (if j > i then j else i)) H) := by
  intro pins s σ H xs us Q I r h
  obtain ⟨i, j, rfl, q⟩ := h
  obtain ⟨u, w', rfl, ⟨t, rfl⟩, ⟨t', rfl⟩⟩ := vals2 r
  refine max_two_ints (I.ok.hd hc) fun h' tk k => ⟨_, H, I.kept k, ?_, q⟩
  by_cases hj : j > i
  · rw [if_pos hj, if_pos hj]; exact ⟨_, rfl⟩
  · rw [if_neg hj, if_neg hj]; exact ⟨_, rfl⟩
theorem call_min2 (hc : X.calm = true) : CallR X (.builtin "min") (fun xs H Q => ∃ i j, xs = [.int i, .int j] ∧ Q (.int (if j < i then j else i)) H) := by
  intro pins s σ H xs us Q I r h
  obtain ⟨i, j, rfl, q⟩ := h
  obtain ⟨u, w', rfl, ⟨t, rfl⟩, ⟨t', rfl⟩⟩ := vals2 r
  refine min_two_ints (I.ok.hd hc) fun h' tk k => ⟨_, H, I.kept k, ?_, q⟩
  by_cases hj : j < i
  · rw [if_pos hj, if_pos hj]; exact ⟨_, rfl⟩
  · rw [if_neg hj, if_neg hj]; exact ⟨_, rfl⟩
theorem call_int1 : CallR X (.type "int") (fun xs H Q => (∃ i, xs = [.int i] ∧ Q (.int i) H) ∨ ∃ k, xs = [.bl k] ∧ Q (.int (if k then 1 else 0)) H) := by
  intro pins s σ H xs us Q I r h
  rcases h with ⟨i, rfl, q⟩ | ⟨k, rfl, q⟩
  · obtain ⟨u, rfl, t, rfl⟩ := vals1 r
    exact call_int_int ⟨.int i, H, I, ⟨_, rfl⟩, q⟩
  · obtain ⟨u, rfl, r1⟩ := vals1 r
    cases r1
    exact call_int_bool ⟨.int (if k then 1 else 0), H, I.tok _, ⟨_, rfl⟩, q⟩
theorem call_str_int : CallR X (.type "str") (fun xs H Q => ∃ i, xs = [.int i] ∧ i.natAbs.log2 < 1920 ∧ Q (.str (toString i)) H) := by
  intro pins s σ H xs us Q I r h
  obtain ⟨i, rfl, hz, q⟩ := h
  obtain ⟨u, rfl, t, rfl⟩ := vals1 r
  exact PySem.P.str_of_int hz ⟨.str _, H, I.tok _, ⟨_, rfl⟩, q⟩
noncomputable def LenV (K : PySem.W.Frag) (x : V) (H : Hp) (n : Nat) : Prop :=
  match x with
  | .str y => y.length ≤ sizeLine ∧ n = y.length
  | .byt y => y.size ≤ sizeLine ∧ n = y.size
  | .ref p => (∃ xs, SqL K H p xs ∧ n = xs.length) ∨ ∃ xs, SqT K H p xs ∧ n = xs.length
  | _ => False
theorem call_len : CallR X (.builtin "len") (fun xs H Q => ∃ x n, xs = [x] ∧ LenV X.K x H n ∧ Q (.int n) H) := by
  intro pins s σ H xs us Q I r h
  obtain ⟨x, n, rfl, e, q⟩ := h
  obtain ⟨u, rfl, rx⟩ := vals1 r
  have hl := line63
  have hs : sizeLine = 16777216 := sizeLine_eq
  cases x with
  | str y =>
    obtain ⟨t, rfl⟩ := rx
    obtain ⟨hy, e'⟩ : y.length ≤ sizeLine ∧ n = y.length := e
    subst e'
    exact len_str (by omega) ⟨.int _, H, I.tok _, ⟨_, rfl⟩, q⟩
  | byt y =>
    obtain ⟨t, rfl⟩ := rx
    obtain ⟨hy, e'⟩ : y.size ≤ sizeLine ∧ n = y.size := e
    subst e'
    exact PySem.W.len_bytes (by omega) ⟨.int _, H, I.tok _, ⟨_, rfl⟩, q⟩
  | ref p =>
    cases rx
    have e' : (∃ xs, SqL X.K H p xs ∧ n = xs.length) ∨ ∃ xs, SqT X.K H p xs ∧ n = xs.length := e
    rcases e' with ⟨xs, hx, e'⟩ | ⟨xs, hx, e'⟩
    · subst e'
      obtain ⟨its, r', pl, hz⟩ := I.list hx
      have hlen := r'.length
      exact Calls.call_len_list pl.isList (by simp only [List.size_toArray]; omega) ⟨.int xs.length, H, I.tok _, ⟨_, by simp only [List.size_toArray]; rw [hlen]⟩, q⟩
    · subst e'
      obtain ⟨its, r', pl, hz⟩ := I.tuple hx
      have hlen := r'.length
      exact len_tuple pl (by simp only [List.size_toArray]; omega) ⟨.int xs.length, H, I.tok _, ⟨_, by simp only [List.size_toArray]; rw [hlen]⟩, q⟩
  | _ => exact (show False from e).elim
end
end L2
namespace L2
open PySem PySem.Spec PyProof.Rows
structure ObjM (h : Heap) (x dx C : Addr) (mA : Str → Option Value) : Prop where
  obj : h.get? x = some (PySem.W.instObj C dx)
  ns : h.Ns1 dx mA
  ne : dx ≠ x
theorem lookIn_ns {h : Heap} {dx : Addr} {mA : Str → Option Value} (n : h.Ns1 dx mA) : ∃ od, h.get? dx = some od ∧ ∀ name, PySem.W.lookIn name od = some (mA name) := by
  obtain ⟨o, es, ep, ho, hd, hk, _, hm⟩ := n
  refine ⟨o, ho, fun name => ?_⟩
  have e := hm name
  unfold nsFind findBy at e
  rw [← Array.find?_toList] at e
  unfold PySem.W.lookIn
  rw [hd]
  dsimp only
  split
  · rename_i y q
    rw [q] at e
    exact congrArg some e
  · rename_i q
    rw [q] at e
    have a : es.toList.any (·.refKey) = false := by
      rw [List.any_eq_false]
      intro y hy
      obtain ⟨z, t, hkey⟩ := hk y (Array.mem_toList_iff.mp hy)
      simp [DictEntry.refKey, hkey]
    have a' : ¬ es.toList.any (·.refKey) = true := by rw [a]; exact Bool.false_ne_true
    rw [if_neg a']
    exact congrArg some e
theorem ObjM.look {h : Heap} {x dx C : Addr} {mA : Str → Option Value} (I : ObjM h x dx C mA) : ∃ od, PySem.W.InstAt h x (PySem.W.instObj C dx) C (some od) ∧ ∀ name, PySem.W.lookIn name od = some (mA name) :=
  let ⟨od, ho, hl⟩ := lookIn_ns I.ns
  ⟨od, ⟨I.obj, rfl, rfl, ho⟩, hl⟩
theorem RelO.some_of {v : V} {o : Option Value} (r : RelO (some v) o) : ∃ u, o = some u ∧ RelV v u := by
  cases o with
  | none => exact (show False from r).elim
  | some u => exact ⟨u, rfl, r⟩
section
variable {P : Program} {w : World} {H H' : Hp} {h h' : Heap} {a C dx : Addr} {fs fs' : List (Str × V)}
theorem ins_get (hok : HOk P w H h) (e : H a = some (.ins C dx fs)) : ∃ mA, ObjM h a dx C mA ∧ (∀ f, RelO (fs.lookup f) (mA f)) ∧ PySem.Within mA (fs.map (·.1)) ∧ fs.length ≤ 1000 ∧ H dx = some (.own a) := by
  obtain ⟨d, z, ne, ob, mA, n, r, q⟩ := (show ObjOk P w H h a (.ins C dx fs) from hok a _ e)
  exact ⟨mA, ⟨ob, n, ne⟩, r, q, z, d⟩
end
structure Cls (K : PySem.W.Frag) (C : Addr) : Prop where
  pg : PySem.W.plainGet K C Str.empty = true
  hd : PySem.W.hasDictIn K C = true
  po : PySem.W.plainOver K C = true
  sa : PySem.W.findIn K (.ref C) "__setattr__" = some (some (.builtin "object.__setattr__"))
theorem Cls.get {K : PySem.W.Frag} {C : Addr} (c : Cls K C) (f : Str) : PySem.W.plainGet K C f = true := c.pg
section
variable {X : Cx} {pins : List (Addr × Obj)} {σ : St} {H : Hp} {s : Shared} {A : Around} {E : Value → Shared → Prop} {Q : Value → Shared → Prop} {c : Value} {b : Bool}
inductive TyOf (K : PySem.W.Frag) (H : Hp) : V → Value → Prop where
  | non : TyOf K H .non (.type "NoneType")
  | bl (x : Bool) : TyOf K H (.bl x) (.type "bool")
  | int (i : Int) : TyOf K H (.int i) (.type "int")
  | str (x : Str) : TyOf K H (.str x) (.type "str")
  | flt (x : UInt64) : TyOf K H (.flt x) (.type "float")
  | lst {a : Addr} {xs : List V} (e : H a = some (.lst xs)) : TyOf K H (.ref a) (.type "list")
  | frz {a : Addr} {o : Obj} {xs : List V} (e : H a = some (.frz o (.lst xs))) : TyOf K H (.ref a) (.type "list")
  | tup {a : Addr} {xs : List V} (e : H a = some (.tup xs)) : TyOf K H (.ref a) (.type "tuple")
  | dK {a : Addr} {kvs : List (Key × V)} (e : H a = some (.dK kvs)) : TyOf K H (.ref a) (.type "dict")
  | dT {a : Addr} {kvs : List (List Key × V)} (e : H a = some (.dT kvs)) : TyOf K H (.ref a) (.type "dict")
  | ins {a C dx : Addr} {fs : List (Str × V)} (e : H a = some (.ins C dx fs)) (cl : Cls K C) (ha : PySem.W.findIn K (.ref C) "__class__" = some (some (.builtin "object.__class__")))
      (hn : PySem.W.specialIn K (.builtin "object.__class__") "__get__" = some (some (.builtin "getset_descriptor.__get__"))) (htk : PySem.W.takesIn K (.builtin "object.__class__") = some true)
      (hm : PySem.W.mroIn K C (.type "object") = some true) : TyOf K H (.ref a) (.ref C)
theorem isinst_ok {x : V} {u t : Value} (I : Inv X pins σ H s) (rx : RelV x u) (ty : TyOf X.K H x t) (e : PySem.W.kitOne X.K t c = some b) (h : ∀ tk, Q (.bool b) { s with toks := tk }) :
    wpAny (model X.prog X.w) A (call (.builtin "isinstance") [u, c]) Q E s := by
  cases ty with
  | non => cases (show u = Value.none from rx); exact PySem.W.kia_one PySem.W.kitx_none I.kIn True.intro e (fun z => nomatch z) h
  | bl y => cases (show u = Value.bool y from rx); exact PySem.W.kia_one PySem.W.kitx_bool I.kIn True.intro e (fun z => nomatch z) h
  | int i => obtain ⟨t, q⟩ := (show ∃ t, u = Value.int i t from rx); cases q; exact PySem.W.kia_one PySem.W.kitx_int I.kIn True.intro e (fun z => nomatch z) h
  | str y => obtain ⟨t, q⟩ := (show ∃ t, u = Value.str y t from rx); cases q; exact PySem.W.kia_one PySem.W.kitx_str I.kIn True.intro e (fun z => nomatch z) h
  | flt y => obtain ⟨t, q⟩ := (show ∃ t, u = Value.float y t from rx); cases q; exact PySem.W.kia_one PySem.W.kitx_float I.kIn True.intro e (fun z => nomatch z) h
  | @lst a xs ea =>
    cases (show u = Value.ref a from rx)
    obtain ⟨_, _, n, _, h1⟩ := (show ObjOk X.prog X.w H s.heap a (.lst xs) from I.hok a _ ea)
    exact PySem.W.kia_one PySem.W.kitx_list I.kIn ⟨_, h1, rfl⟩ e (fun z => nomatch z) h
  | @frz a ob xs ea =>
    cases (show u = Value.ref a from rx)
    obtain ⟨_, _, _, n, _, h1⟩ := (show ObjOk X.prog X.w H s.heap a (.frz ob (.lst xs)) from I.hok a _ ea)
    exact PySem.W.kia_one PySem.W.kitx_list I.kIn ⟨_, h1, rfl⟩ e (fun z => nomatch z) h
  | @tup a xs ea =>
    cases (show u = Value.ref a from rx)
    obtain ⟨_, _, _, p⟩ := (show ObjOk X.prog X.w H s.heap a (.tup xs) from I.hok a _ ea)
    obtain ⟨o, h1, h2, _⟩ := p
    exact PySem.W.kia_one PySem.W.kitx_tuple I.kIn ⟨o, h1, h2⟩ e (fun z => nomatch z) h
  | @dK a kvs ea =>
    cases (show u = Value.ref a from rx)
    obtain ⟨_, _, vs, _, p⟩ := (show ObjOk X.prog X.w H s.heap a (.dK kvs) from I.hok a _ ea)
    obtain ⟨o, es, ep, h1, h2, _⟩ := p
    exact PySem.W.kia_one PySem.W.kitx_dict I.kIn ⟨o, h1, h2.1⟩ e (fun z => nomatch z) h
  | @dT a kvs ea =>
    cases (show u = Value.ref a from rx)
    obtain ⟨_, _, xs, _, o, es, ep, h1, h2, _⟩ := (show ObjOk X.prog X.w H s.heap a (.dT kvs) from I.hok a _ ea)
    exact PySem.W.kia_one PySem.W.kitx_dict I.kIn ⟨o, h1, h2.1⟩ e (fun z => nomatch z) h
  | @ins a C dx fs ea cl ha hn htk hm =>
    cases (show u = Value.ref a from rx)
    obtain ⟨mA, O, _⟩ := ins_get I.hok ea
    obtain ⟨od, J, _⟩ := O.look
    exact PySem.W.kia_one (PySem.W.kitx_own (cl.get _) cl.hd ha hn htk hm) I.kIn J e (fun z => nomatch z) h
end
end L2
namespace L2
open PySem PySem.Spec PyProof.Rows
structure Room (k : Nat) (A : Around) : Prop where
  hd : A.handled = none
  dp : A.depth + 3 * k + 5 < recursionLimit
  un : A.units + 16 * k + 200 < cLine
  gd : A.guards = some []
theorem Room.mono {j k : Nat} {A : Around} (r : Room k A) (h : j ≤ k) : Room j A := ⟨r.hd, by have := r.dp; omega, by have := r.un; omega, r.gd⟩
theorem Room.deeper {k : Nat} {A : Around} (r : Room (k + 1) A) (env : Env) : Room k (A.deeper env) :=
  ⟨r.hd, by have := r.dp; show A.depth + 1 + 3 * k + 5 < _; omega, by have := r.un; show A.units + 3 + 16 * k + 200 < _; omega, r.gd⟩
theorem Room.depth {k : Nat} {A : Around} (r : Room k A) : A.depth < recursionLimit := by have := r.dp; omega
theorem Room.units {k : Nat} {A : Around} (r : Room k A) : A.units + 64 < cLine := by have := r.un; omega
noncomputable def tNil : TA := fun _ H Q => Q [] H
noncomputable def tCons (ta : TE) (tr : TA) : TA := fun σ H Q => ta σ H fun x H1 => tr σ H1 fun xs H2 => Q (x :: xs) H2
section
variable {X : Cx} {e : Expr} {es : List Expr} {te : TE} {t : TA} {pos : Pos}
theorem pa_nil : PA X [] tNil := fun _ _ _ _ H Q I h => Calls.spliced_nil ⟨[], H, I, .nil, h⟩
theorem pa_cons (ha : PE X e te) (hr : PA X es t) (hs : starEach (e :: es) X.env = (false, eval e X.env) :: starEach es X.env := by rfl) : PA X (e :: es) (tCons te t) := by
  intro pos pins s σ H Q I h
  rw [hs]
  show wpAny _ _ (spliced ((false, eval e X.env) :: backTo pos (starEach es X.env))) _ _ s
  refine Calls.spliced_cons (thn (ha pins s σ H _ I h) fun u s1 ⟨x, H1, I1, r1, q1⟩ => ?_)
  exact thn (hr pos pins s1 σ H1 _ I1 q1) fun us s2 ⟨xs, H2, I2, r2, q2⟩ => ⟨x :: xs, H2, I2, .cons r1 r2, q2⟩
noncomputable def tTup (t : TA) : TE := fun σ H Q => t σ H fun xs H1 => xs.length ≤ sizeLine ∧ ∀ p, H1 p = none → Q (.ref p) (upd H1 p (.tup xs))
noncomputable def tLst (t : TA) : TE := fun σ H Q => t σ H fun xs H1 => xs.length ≤ sizeLine ∧ ∀ p, H1 p = none → Q (.ref p) (upd H1 p (.lst xs))
theorem pe_tup {x1} (h : PA X es t) : PE X (.Tuple es x1 pos) (tTup t) := by
  intro pins s σ H Q I hq
  refine wpAny_Tuple_spliced (thn (h pos pins s σ H _ I hq) fun us s1 ⟨xs, H1, I1, r, z, q⟩ => ⟨by rw [← r.length]; exact z, ?_⟩)
  have hf : H1 s1.heap.objs.size = none := I1.hok.fresh (Nat.le_refl _)
  refine ⟨.ref s1.heap.objs.size, upd H1 s1.heap.objs.size (.tup xs), I1.laid (t' := s1.toks) (fun b u e => Heap.get?_push_of_some _ e) (Nat.le_refl _) ?_, rfl, q _ hf⟩
  exact ⟨z, us, r, ⟨_, Heap.get?_push_size _ rfl, rfl, _, rfl, rfl⟩⟩
theorem pe_lst (h : PA X es t) : PE X (.List es pos) (tLst t) := by
  intro pins s σ H Q I hq
  refine wpAny_List_spliced (thn (h pos pins s σ H _ I hq) fun us s1 ⟨xs, H1, I1, r, z, q⟩ => ⟨by rw [← r.length]; exact z, ?_⟩)
  have hf : H1 s1.heap.objs.size = none := I1.hok.fresh (Nat.le_refl _)
  refine ⟨.ref s1.heap.objs.size, upd H1 s1.heap.objs.size (.lst xs), I1.laid (t' := s1.toks) (fun b u e => Heap.get?_push_of_some _ e) (Nat.le_refl _) ?_, rfl, q _ hf⟩
  exact ⟨z, us, 0, r, Heap.get?_push_size _ rfl⟩
end
noncomputable abbrev Sp := List V → Hp → VK → XK → Prop
noncomputable abbrev CXT := List Env → Hp → Shared → XK → Value → Shared → Prop
structure Env0 (P : Program) (w : World) (K : PySem.W.Frag) (mg : Str → Option Value) (base : Heap) (A : Around) (outer : List Env) (s : Shared) (H : Hp) : Prop where
  frames : A.frames = some outer
  mod : Mod K mg base
  bs : ∀ b o, base.get? b = some o → s.heap.get? b = some o ∧ H b = none
  bsz : base.objs.size ≤ s.heap.objs.size
  funs : s.heap.FunFrames base outer
  frf : ∀ b ∈ frs outer, H b = none
  hok : HOk P w H s.heap
  bare : AllBare s.gens
noncomputable def CE (outer : List Env) (P : Program) (w : World) (H : Hp) (s : Shared) (Q : VK) (u : Value) (s' : Shared) : Prop :=
  ∃ v H', s'.os = s.os ∧ AllBare s'.gens ∧ Un (frs outer) [] H H' s.heap s'.heap ∧ HOk P w H' s'.heap ∧ RelV v u ∧ Q v H'
noncomputable def CR (CX : CXT) (outer : List Env) (P : Program) (w : World) (H : Hp) (s : Shared) (Q : VK) (E : XK) (r : Result) (s' : Shared) : Prop :=
  match r with
  | .ok (.ret u) => CE outer P w H s Q u s'
  | .ok _ => False
  | .error e => CX outer H s E e s'
structure FnOk (P : Program) (w : World) (K : PySem.W.Frag) (mg : Str → Option Value) (base : Heap) (CX : CXT) (k : Nat) (f : Addr) (fd : FuncData) (ps : List Str) (sp : Sp) : Prop where
  len : ∀ vs H Q E, sp vs H Q E → vs.length = ps.length
  run : ∀ (A : Around) (outer : List Env) (s : Shared) (H : Hp) (args : Args) (us : List Value) (vs : List V) (Q : VK) (E : XK), Room k A → Env0 P w K mg base A outer s H → BindsTo s fd args (ps.zip us) → Vals vs us → sp vs H Q E →
    codeAny (model P w) A (.call (.ref f) args) (CR CX outer P w H s Q E) s
theorem FnOk.imp {P : Program} {w : World} {K : PySem.W.Frag} {mg : Str → Option Value} {base : Heap} {CX : CXT} {k : Nat} {f : Addr} {fd : FuncData} {ps : List Str} {sp sp' : Sp} (F : FnOk P w K mg base CX k f fd ps sp)
    (h : ∀ vs H Q E, sp' vs H Q E → sp vs H Q E) : FnOk P w K mg base CX k f fd ps sp' :=
  ⟨fun vs H Q E q => F.len vs H Q E (h _ _ _ _ q), fun A outer s H args us vs Q E hr he hb hv hs => F.run A outer s H args us vs Q E hr he hb hv (h _ _ _ _ hs)⟩
section
variable {X : Cx} {pins : List (Addr × Obj)} {σ : St} {H : Hp} {s s' : Shared}
theorem Inv.env0 (I : Inv X pins σ H s) : Env0 X.prog X.w X.K X.mg X.base X.A X.stack s H :=
  ⟨I.ok.frames, I.ok.mod, I.bs, Nat.le_trans I.ok.bsz I.sz, I.stack, I.stkFree, I.hok, I.bare⟩
theorem Inv.after {Q : VK} {u : Value} (I : Inv X pins σ H s) (h : CE X.stack X.prog X.w H s Q u s') : EP X pins σ Q u s' := by
  obtain ⟨v, H', os, bare, un, hok, r, q⟩ := h
  obtain ⟨hh, g, d, t, os'⟩ := s'
  obtain rfl : os' = s.os := os
  exact ⟨v, H', I.call (h' := hh) (g' := g) (d' := d) (t' := t) (ch := []) un hok bare (fun b z => absurd z (by simp)), r, q⟩
end
noncomputable def tCall (sp : Sp) (dvs : List V) (E : XK) (t : TA) : TE := fun σ H Q => t σ H fun vs H1 => sp (vs ++ dvs) H1 Q E
noncomputable def Binds (K : PySem.W.Frag) (fd : FuncData) (ps : List Str) (ds : List Value) : Prop :=
  ∀ (s : Shared) (us : List Value), K.In s.heap → (us ++ ds).length = ps.length → BindsTo s fd ⟨us, []⟩ (ps.zip (us ++ ds))
theorem Binds.all {K : PySem.W.Frag} {fd : FuncData} {ps : List Str} (h : ∀ us : List Value, us.length = ps.length → bindArgs fd ⟨us, []⟩ = pure (ps.zip us)) : Binds K fd ps [] := fun s us _ hl => by
  rw [List.append_nil] at hl ⊢
  exact .of_eq (h us hl)
noncomputable def Passes (CX : CXT) (X : Cx) (E : XK) : Prop := ∀ (pins : List (Addr × Obj)) (σ : St) (H : Hp) (s : Shared) (e : Value) (s' : Shared), Inv X pins σ H s → CX X.stack H s E e s' → X.xe e s'
section
variable {X : Cx} {CX : CXT} {k : Nat} {f C : Addr} {fd : FuncData} {ps : List Str} {sp : Sp} {dvs : List V} {ds : List Value} {E : XK} {x m : Str} {p pos apos : Pos} {e o : Expr} {es : List Expr} {ta : TE} {t : TA}
theorem run_fn {pins : List (Addr × Obj)} {σ : St} {H : Hp} {s : Shared} {Q : VK} {us : List Value} {vs : List V} (F : FnOk X.prog X.w X.K X.mg X.base CX k f fd ps sp) (hr : Room k X.A) (hb : Binds X.K fd ps ds) (hd : Vals dvs ds) (hx : Passes CX X E)
    (I : Inv X pins σ H s) (r : Vals vs us) (h : sp (vs ++ dvs) H Q E) : wpAny (model X.prog X.w) X.A (call (.ref f) us) (EP X pins σ Q) X.xe s := by
  have r2 : Vals (vs ++ dvs) (us ++ ds) := r.append hd
  have hl : (us ++ ds).length = ps.length := by rw [← r2.length]; exact F.len _ _ _ _ h
  refine wpAny_call (codeAny_mono (F.run X.A X.stack s H ⟨us, []⟩ (us ++ ds) (vs ++ dvs) Q E hr I.env0 (hb s us I.kIn hl) r2 h) fun r s' hq => ?_)
  cases r with
  | error e => exact hx pins σ H s e s' I hq
  | ok fl =>
    cases fl with
    | ret u => exact I.after hq
    | next => exact False.elim hq
    | brk => exact False.elim hq
    | cont => exact False.elim hq
theorem pe_call (F : FnOk X.prog X.w X.K X.mg X.base CX k f fd ps sp) (hr : Room k X.A) (hg : Gl X x) (hm : X.mg x = some (.ref f)) (hk : PySem.W.keepIn X.K (.ref f) = true) (hb : Binds X.K fd ps ds) (hd : Vals dvs ds) (hx : Passes CX X E)
    (ha : PA X (e :: es) t) (hdb : (x == ("__debug__" : Str)) = false := by decide) (he : starEach (e :: es) X.env = (false, eval e X.env) :: starEach es X.env := by rfl) (hpl : (backTo pos (starEach es X.env)).any (·.1) = false := by rfl) :
    PE X (.Call (.Name x p) (e :: es) [] pos) (tCall sp dvs E t) := by
  intro pins s σ H Q I h
  refine wpAny_Call_Name_kw (ld_glob I hg hm ?_ hdb)
  refine PySem.W.callWith_K (h₀ := X.base) I.ok.mod.kin hk (thn (ha pos pins s σ H _ I h) fun us s1 ⟨vs, H1, I1, r, q⟩ => ⟨I1.kIn, ?_⟩) he hpl
  exact run_fn F hr hb hd hx I1 r q
end
structure FnScope (N P : List Str) (sc : Scope) : Prop where
  kind : sc.kind = .function
  co : sc.isCoroutine = false
  gen : sc.isGenerator = false
  nd : N.Nodup
  pre : N.take P.length = P
  par : ∀ x ∈ P, sc.names.lookup x = some .local ∨ sc.names.lookup x = some .cell
  nofree : ∀ y ∈ sc.names, y.2 ≠ .free
theorem bindL_out {kindOf : Str → Option NameKind} {x : Str} : ∀ {binds : List (Str × Value)} {m : Str → Option Value}, (∀ v, (x, v) ∉ binds) → bindL kindOf binds m x = m x
  | [], _, _ => rfl
  | (n, v) :: r, m, h => by
    unfold bindL
    rw [bindL_out fun w hw => h w (List.mem_cons_of_mem _ hw)]
    split
    · have : x ≠ n := by rintro rfl; exact h v List.mem_cons_self
      simp [this]
    · rfl
theorem bindC_out {kindOf : Str → Option NameKind} {x : Str} : ∀ {binds : List (Str × Value)} {m : Str → Option Value}, (∀ v, (x, v) ∉ binds) → bindC kindOf binds m x = m x
  | [], _, _ => rfl
  | (n, v) :: r, m, h => by
    unfold bindC
    rw [bindC_out fun w hw => h w (List.mem_cons_of_mem _ hw)]
    split
    · rfl
    · have : x ≠ n := by rintro rfl; exact h v List.mem_cons_self
      simp [this]
theorem bindL_get {kindOf : Str → Option NameKind} {x : Str} {v : Value} : ∀ {P : List Str} {vs : List Value} {i : Nat} {m : Str → Option Value}, P.Nodup → P[i]? = some x → vs[i]? = some v → kindOf x = some .local →
    bindL kindOf (P.zip vs) m x = some v
  | [], _, _, _, _, h, _, _ => by simp at h
  | _ :: _, [], _, _, _, _, h, _ => by simp at h
  | p :: P, w :: vs, 0, m, nd, h1, h2, hk => by
    simp at h1 h2; subst h1; subst h2
    show bindL kindOf ((p, w) :: P.zip vs) m p = _
    unfold bindL
    rw [bindL_out fun v hv => (List.nodup_cons.mp nd).1 (List.of_mem_zip hv).1, if_pos hk]
    simp
  | p :: P, w :: vs, i + 1, m, nd, h1, h2, hk => by
    show bindL kindOf ((p, w) :: P.zip vs) m x = _
    unfold bindL
    exact bindL_get (i := i) (List.nodup_cons.mp nd).2 (by simpa using h1) (by simpa using h2) hk
theorem bindC_get {kindOf : Str → Option NameKind} {x : Str} {v : Value} : ∀ {P : List Str} {vs : List Value} {i : Nat} {m : Str → Option Value}, P.Nodup → P[i]? = some x → vs[i]? = some v → kindOf x ≠ some .local →
    bindC kindOf (P.zip vs) m x = some v
  | [], _, _, _, _, h, _, _ => by simp at h
  | _ :: _, [], _, _, _, _, h, _ => by simp at h
  | p :: P, w :: vs, 0, m, nd, h1, h2, hk => by
    simp at h1 h2; subst h1; subst h2
    show bindC kindOf ((p, w) :: P.zip vs) m p = _
    unfold bindC
    rw [bindC_out fun v hv => (List.nodup_cons.mp nd).1 (List.of_mem_zip hv).1, if_neg hk]
    simp
  | p :: P, w :: vs, i + 1, m, nd, h1, h2, hk => by
    show bindC kindOf ((p, w) :: P.zip vs) m x = _
    unfold bindC
    exact bindC_get (i := i) (List.nodup_cons.mp nd).2 (by simpa using h1) (by simpa using h2) hk
noncomputable def start (N : List Str) (vs : List V) : St := vs.map some ++ List.replicate (N.length - vs.length) none
noncomputable def cxOf (CX : CXT) (P : Program) (w : World) (K : PySem.W.Frag) (mg : Str → Option Value) (base : Heap) (N : List Str) (qual : Str) (scope : Scope) (f : Addr) (cd : Value) (A : Around) (outer : List Env) (s : Shared) (H : Hp) (E : XK) : Cx where
  prog := P
  w := w
  K := K
  mg := mg
  base := base
  A := A.deeper (envOfC qual scope s.heap.objs.size f cd)
  N := N
  s₀ := s
  H₀ := H
  env := envOfC qual scope s.heap.objs.size f cd
  outer := outer
  stack := envOfC qual scope s.heap.objs.size f cd :: outer
  ex := []
  calm := true
  fn := fun _ => true
  pn := []
  xe := fun e s' => wpAny (model P w) (A.deeper (envOfC qual scope s.heap.objs.size f cd)) (leaving (envOfC qual scope s.heap.objs.size f cd) e) (fun _ s'' => CX outer H s E e s'') (fun e' s'' => CX outer H s E e' s'') s'
theorem cell_has {sc : Scope} {n : Nat} {x : Str} (h : sc.names.lookup x = some .cell) : ∃ c, (cellsFrom n sc.names []).lookup x = some c := by
  have q := PySem.W.cellsFrom_some sc.names n [] (.inl h)
  exact Option.isSome_iff_exists.mp q
theorem inv_start {CX : CXT} {P : Program} {w : World} {K : PySem.W.Frag} {mg : Str → Option Value} {base : Heap} {N ps : List Str} {qual : Str} {scope : Scope} {f : Addr} {cd : Value} {A : Around} {outer : List Env} {s s1 : Shared} {H : Hp} {E : XK} {us : List Value} {vs : List V}
    (S : FnScope N ps scope) (hd : A.handled = none) (e0 : Env0 P w K mg base A outer s H) (hl : vs.length = ps.length) (r : Vals vs us)
    (x : InCallC s s.heap.objs.size (bindL (envOfC qual scope s.heap.objs.size f cd).kindOf (ps.zip us) fun _ => none) (cellsFrom (s.heap.objs.size + 1) scope.names []) (bindC (envOfC qual scope s.heap.objs.size f cd).kindOf (ps.zip us) fun _ => none) s1) :
    Inv (cxOf CX P w K mg base N qual scope f cd A outer s H E) [] (start N vs) H s1 := by
  have hpl : ps.length ≤ N.length := by have := congrArg List.length S.pre; rw [List.length_take] at this; omega
  obtain ⟨h1, tk, rfl, hk⟩ := x.done
  have noA : ∀ b : Addr, b ∉ (cxOf CX P w K mg base N qual scope f cd A outer s H E).ex := fun b z => absurd (show b ∈ ([] : List Addr) from z) (by simp)
  refine ⟨⟨e0.mod, S.kind, rfl, rfl, Nat.le_refl _, fun y z c h1 h2 => ?_, fun y hy => ?_, fun y c _ h => ?_, fun _ => hd, Around.frames_deeper e0.frames, .inr ⟨rfl, rfl⟩, fun b z => absurd z (noA b), e0.bs, e0.bsz, fun b _ _ => noA b, fun b z => absurd z (noA b), e0.funs, e0.frf⟩,
    rfl, e0.bare, Un.kept hk, ⟨_, x.toInCall.ns, fun i y v h1 h2 h3 => ?_⟩, fun y c h => ⟨_, x.cell y c h⟩, e0.hok.fresh (Nat.le_refl _), fun y c h => ?_, fun p hp => absurd (show p ∈ ([] : List (Addr × Obj)) from hp) (by simp), e0.hok.kept hk, ?_⟩
  · exact name_of_addr x.apart (PySem.mem_of_lookup h1) (PySem.mem_of_lookup h2)
  · have hy : scope.names.lookup y = some .cell ∨ scope.names.lookup y = some .free := hy
    rcases hy with hy | hy
    · exact cell_has hy
    · exact absurd rfl (S.nofree _ (PySem.mem_of_lookup hy))
  · exact Nat.le_of_lt (x.above y c (PySem.mem_of_lookup h))
  · have hi : i < vs.length := by
      unfold start at h2
      by_cases hi : i < vs.length
      · exact hi
      · rw [List.getElem?_append_right (by simpa using hi)] at h2
        rw [List.getElem?_replicate] at h2
        split at h2 <;> cases h2
    have ha : vs[i]? = some v := by
      unfold start at h2
      rw [List.getElem?_append_left (by simpa using hi), List.getElem?_map] at h2
      cases e : vs[i]? with
      | none => rw [e] at h2; cases h2
      | some a => rw [e] at h2; cases h2; rfl
    obtain ⟨u, hu, rv⟩ := r.get ha
    have hp : ps[i]? = some y := by
      rw [← S.pre, List.getElem?_take_of_lt (by omega)]; exact h1
    have ndP : ps.Nodup := by rw [← S.pre]; exact S.nd.sublist (List.take_sublist _ _)
    refine ⟨u, rv, ?_⟩
    rcases S.par y (List.mem_of_getElem? hp) with k | k
    · exact .inl ⟨k, bindL_get ndP hp hu k⟩
    · obtain ⟨c, e⟩ := cell_has (n := s.heap.objs.size + 1) k
      refine .inr ⟨.inl k, c, e, ?_⟩
      have q := x.cell y c e
      rw [bindC_get ndP hp hu (by show scope.names.lookup y ≠ _; rw [k]; decide)] at q
      exact q
  · exact e0.hok.fresh (Nat.le_of_lt (x.above y c (PySem.mem_of_lookup h)))
  · unfold start
    show _ = N.length
    rw [List.length_append, List.length_map, List.length_replicate]
    omega
theorem fn_of {CX : CXT} {P : Program} {w : World} {K : PySem.W.Frag} {mg : Str → Option Value} {base : Heap} {k : Nat} {f : Addr} {name qual : Str} {params : Arguments} {body : List Stmt} {scope : Scope} {dV kV doc pm cdv ct oc : Value} {an od : Option Addr}
    {osl : Array (Option Value)} {N ps : List Str} {sp : Sp} (lk : K.lookup f = some ⟨oc, od, .func (PySem.W.fnOf name qual params body scope dV kV doc pm an cdv ct), osl⟩) (hcd : PySem.W.codeIn K cdv qual = true) (S : FnScope N ps scope)
    (len : ∀ vs H Q E, sp vs H Q E → vs.length = ps.length)
    (hbody : ∀ (A : Around) (outer : List Env) (s : Shared) (H : Hp) (vs : List V) (Q : VK) (E : XK), Room k (A.deeper (envOfC qual scope s.heap.objs.size f cdv)) → sp vs H Q E →
      ∃ t, PSs (cxOf CX P w K mg base N qual scope f cdv A outer s H E) body t ∧ t { nx := fun _ H' => Q .non H', rt := Q } (start N vs) H) :
    FnOk P w K mg base CX (k + 1) f (PySem.W.fnOf name qual params body scope dV kV doc pm an cdv ct) ps sp := by
  refine ⟨len, fun A outer s H args us vs Q E hr e0 hb r hsp => ?_⟩
  have hl := len _ _ _ _ hsp
  have KX : K.In s.heap := e0.mod.kin.keeps fun b o e => (e0.bs b o e).1
  have lim : s.heap.NoLimit := e0.mod.nolimit.keeps fun b o e => (e0.bs b o e).1
  have hkind : ∀ y ∈ ps.zip us, scope.names.lookup y.1 = some .local ∨ (scope.names.lookup y.1 = some .cell ∧ ((cellsFrom (s.heap.objs.size + 1) scope.names []).lookup y.1).isSome = true) := fun ⟨n, v⟩ hy => by
    rcases S.par n (List.of_mem_zip hy).1 with q | q
    · exact .inl q
    · exact .inr ⟨q, PySem.W.cellsFrom_some _ _ _ (.inl q)⟩
  refine codeAny_call_function hr.depth (KX _ _ lk) rfl S.co S.gen rfl (PySem.W.codeRec_of KX hcd) (hb _ _ _ _ ?_)
  refine wpAny_newFunctionEnv_cells S.kind hkind fun env he s1 x => ?_
  subst he
  refine ⟨lim.keeps x.toInCall.keep, codeAny_func ?_⟩
  obtain ⟨t, ht, hq⟩ := hbody A outer s H vs Q E (hr.deeper _) hsp
  have I : Inv (cxOf CX P w K mg base N qual scope f cdv A outer s H E) [] (start N vs) H s1 := inv_start S hr.hd e0 hl r x
  refine wpAny_mono (ht [] s1 (start N vs) H _ I hq) (fun fl s' hs => ?_) fun e s' hs => hs
  have fin : ∀ {σ' : St} {H' : Hp} {v : V} {u : Value}, Inv (cxOf CX P w K mg base N qual scope f cdv A outer s H E) [] σ' H' s' → RelV v u → Q v H' → CE outer P w H s Q u s' :=
    fun {σ' H' v u} J rv q => ⟨v, H', J.os, J.bare, J.base, J.hok, rv, q⟩
  cases fl with
  | ret u =>
    obtain ⟨v, σ', H', J, rv, q⟩ := hs
    exact fin J rv q
  | next =>
    obtain ⟨σ', H', J, q⟩ := hs
    exact fin (v := V.non) (u := Value.none) J rfl q
  | brk =>
    obtain ⟨_, _, _, q⟩ := hs
    exact False.elim q
  | cont =>
    obtain ⟨_, _, _, q⟩ := hs
    exact False.elim q
end L2
namespace L2
open PySem PySem.Spec PyProof.Rows
section
variable {X : Cx} {x : Str} {p pos : Pos} {e : Expr} {es : List Expr} {t : TA} {id T : String} {r : List V → Hp → VK → Prop}
noncomputable def tCB (r : List V → Hp → VK → Prop) (t : TA) : TE := fun σ H Q => t σ H fun vs H1 => r vs H1 Q
theorem pe_callB (hc : CallR X (.builtin id) r) (hg : Gl X x) (hm : X.mg x = none) (hv : bootBuiltins x = some (.builtin id)) (ha : PA X (e :: es) t) (hn : x ≠ "__name__" := by decide) (hdb : (x == ("__debug__" : Str)) = false := by decide)
    (he : starEach (e :: es) X.env = (false, eval e X.env) :: starEach es X.env := by rfl) (hpl : (backTo pos (starEach es X.env)).any (·.1) = false := by rfl) : PE X (.Call (.Name x p) (e :: es) [] pos) (tCB r t) := by
  intro pins s σ H Q I h
  refine wpAny_Call_Name_kw (ld_blt I hg hm hv ?_ hn hdb)
  exact PyProof.Rows.callWith_builtin1 (thn (ha pos pins s σ H _ I h) fun us s1 ⟨vs, H1, I1, r1, q1⟩ => hc pins s1 σ H1 vs us Q I1 r1 q1) he hpl
theorem pe_callTy (hc : CallR X (.type T) r) (hg : Gl X x) (hm : X.mg x = none) (hv : bootBuiltins x = some (.type T)) (ha : PA X (e :: es) t) (hn : x ≠ "__name__" := by decide) (hdb : (x == ("__debug__" : Str)) = false := by decide)
    (he : starEach (e :: es) X.env = (false, eval e X.env) :: starEach es X.env := by rfl) (hpl : (backTo pos (starEach es X.env)).any (·.1) = false := by rfl) : PE X (.Call (.Name x p) (e :: es) [] pos) (tCB r t) := by
  intro pins s σ H Q I h
  refine wpAny_Call_Name_kw (ld_blt I hg hm hv ?_ hn hdb)
  exact PyProof.Rows.callWith_type1 (thn (ha pos pins s σ H _ I h) fun us s1 ⟨vs, H1, I1, r1, q1⟩ => hc pins s1 σ H1 vs us Q I1 r1 q1) he hpl
end
end L2
namespace HT
open PySem PyProof.Rows
section
open PySem.SeqAt
open PySem.AutoSeq1 (wpAny_loadPart')
open PySem.MeetsSeq PySem.MeetsSeq2 PySem.MeetsSeq3
end
section
variable {prog : Program} {w : World} {A : Around} {E : Value → Shared → Prop} {s : Shared}
theorem cat_tup {t b : Addr} {vs ws : List Value} {Q : Value → Shared → Prop} (ht : IsTup s.heap t vs.toArray) (hb : IsTup s.heap b ws.toArray) (hv : vs ≠ [])
    (h1 : ws = [] → Q (.ref t) s) (h2 : ws ≠ [] → Q (.ref s.heap.objs.size) { s with heap := s.heap.push { cls := .type "tuple", data := .seq (vs ++ ws).toArray } })
    (hsz : vs.length + ws.length ≤ sizeLine) : wpAny (model prog w) A (binaryOp .Add (.ref t) (.ref b)) Q E s := by
  obtain ⟨⟨cls, dd, data, sl⟩, ho, hc, n, hd⟩ := id ht
  obtain ⟨⟨cls2, dd2, data2, sl2⟩, ho2, hc2, n2, hd2⟩ := id hb
  simp only at hc hd hc2 hd2
  subst hc hd hc2 hd2
  have e : vs.toArray ++ ws.toArray = (vs ++ ws).toArray := by simp
  by_cases hw : ws = []
  · exact concat_meets ⟨_, ho, rfl⟩ ⟨_, ho2, rfl⟩ noFill_tuple_add seq_tuple_add PySem.F.slot_tuple_add PySem.F.entry_tuple_add (PySem.F.args_tuple_add_2 _ _)
      (tuple_addW1 t b vs.toArray ws.toArray n n2 dd dd2 sl sl2 (by simpa using hv) (by simp [hw])) ⟨ho, ho2, h1 hw⟩
  · refine concat_meets ⟨_, ho, rfl⟩ ⟨_, ho2, rfl⟩ noFill_tuple_add seq_tuple_add PySem.F.slot_tuple_add PySem.F.entry_tuple_add (PySem.F.args_tuple_add_2 _ _)
      (tuple_addW2 t b vs.toArray ws.toArray n n2 dd dd2 sl sl2 (by simpa using hv) (by simpa using hw) (by rw [List.size_toArray, List.size_toArray]; exact hsz)) ⟨ho, ho2, ?_⟩
    rw [e]
    exact h2 hw
noncomputable def sIx (n d : Nat) : Option Int → Nat
  | none => d
  | some v => if v < 0 then (v + (n : Int)).toNat else min v.toNat n
theorem sIx_none (n d : Nat) : sIx n d none = d := rfl
theorem sIx_nat (n d k : Nat) : sIx n d (some (k : Int)) = min k n := by
  show (if (k : Int) < 0 then ((k : Int) + (n : Int)).toNat else min (k : Int).toNat n) = min k n
  rw [if_neg (by omega), Int.toNat_natCast]
theorem sIx_le (n d : Nat) (hd : d ≤ n) (o : Option Int) : sIx n d o ≤ n := by
  cases o with
  | none => exact hd
  | some v =>
    show (if v < 0 then (v + (n : Int)).toNat else min v.toNat n) ≤ n
    by_cases hv : v < 0
    · rw [if_pos hv]; omega
    · rw [if_neg hv]; exact Nat.min_le_right _ _
theorem clip_eq (v : Int) (n d : Nat) : (if v < 0 then max (v + (n : Int)) 0 else min v (n : Int)) = ((sIx n d (some v) : Nat) : Int) := by
  show (if v < 0 then max (v + (n : Int)) 0 else min v (n : Int)) = (((if v < 0 then (v + (n : Int)).toNat else min v.toNat n) : Nat) : Int)
  by_cases hv : v < 0
  · simp only [if_pos hv]; omega
  · simp only [if_neg hv]; omega
theorem adjust_gen (lo hi : Option Int) (n : Nat) : Builtin.Slice.sliceAdjust lo hi 1 (n : Int) = (((sIx n 0 lo : Nat) : Int), ((sIx n n hi : Nat) : Int)) := by
  have h1 : ¬ ((1 : Int) < 0) := by omega
  unfold Builtin.Slice.sliceAdjust
  simp only [h1, if_false]
  refine Prod.ext ?_ ?_
  · cases lo with
    | none => rfl
    | some v => exact clip_eq v n 0
  · cases hi with
    | none => rfl
    | some v => exact clip_eq v n n
theorem places_gen (i j : Nat) : Builtin.Slice.slicePlaces (i : Int) (j : Int) 1 = j - i := by
  unfold Builtin.Slice.slicePlaces
  have h1 : (1 : Int) > 0 := by omega
  simp only [h1, if_true, Int.ediv_one]
  split <;> omega
theorem slicePart_ {v : Value} {o : Option Int} {Q : Option Int → Shared → Prop} (p : IsPart v o) (h : Q o s) : wpAny (model prog w) A (Builtin.Slice.slicePartIndex v) Q E s := by
  cases p with
  | none => exact slicePart_none h
  | int i t => exact slicePart_int h
theorem sliceApplied_gen {sl : Addr} {vl vu : Value} {lo hi : Option Int} {n : Nat} {Q : Int × Int × Nat → Shared → Prop} (hs : s.heap.IsSliceOf sl vl vu .none) (pl : IsPart vl lo) (pu : IsPart vu hi)
    (h : Q (((sIx n 0 lo : Nat) : Int), 1, sIx n n hi - sIx n 0 lo) s) : wpAny (model prog w) A (Builtin.Slice.sliceApplied (.ref sl) (pure (n : Int))) Q E s := by
  obtain ⟨os, hos, hcs, hds⟩ := id hs
  unfold Builtin.Slice.sliceApplied Builtin.Slice.sliceFields
  refine wpAny_bind (wpAny_bind (wpAny_field hos hds (x := vl) rfl (wpAny_bind (wpAny_field hos hds (x := vu) rfl (wpAny_bind (wpAny_field hos hds (x := .none) rfl (wpAny_pure ?_)))))))
  refine wpAny_bind (slicePart_none ?_)
  show wpAny _ _ (if ((1 : Int) == 0) = true then _ else _) _ _ s
  rw [if_neg (by decide)]
  refine wpAny_bind (slicePart_ pl (wpAny_bind (slicePart_ pu (wpAny_bind (wpAny_pure ?_)))))
  show wpAny _ _ (match Builtin.Slice.sliceAdjust lo hi 1 (n : Int) with | (lo, hi) => pure (lo, (1 : Int), Builtin.Slice.slicePlaces lo hi 1)) _ _ s
  rw [adjust_gen lo hi n]
  show wpAny _ _ (pure (((sIx n 0 lo : Nat) : Int), (1 : Int), Builtin.Slice.slicePlaces ((sIx n 0 lo : Nat) : Int) ((sIx n n hi : Nat) : Int) 1)) _ _ s
  rw [places_gen]
  exact wpAny_pure h
theorem pick_gen (xs : Array Value) (i k : Nat) : ((List.range k).filterMap fun (m : Nat) => xs[((i : Int) + (m : Int) * 1).toNat]?).toArray = ((xs.toList.drop i).take k).toArray := by
  have e : (fun (m : Nat) => xs[((i : Int) + (m : Int) * 1).toNat]?) = fun m => xs[i + m]? := by
    funext m
    have : ((i : Int) + (m : Int) * 1).toNat = i + m := by omega
    rw [this]
  rw [e]
  have := pick_run xs i k
  rw [List.filterMap_map] at this
  have e2 : ((fun x => xs[x]?) ∘ fun x => i + x) = fun m => xs[i + m]? := rfl
  rw [e2] at this
  rw [this]
theorem getItem_tuple_cut {t sl : Addr} {items : Array Value} {vl vu : Value} {lo hi : Option Int} {Q : Value → Shared → Prop} (ht : IsTup s.heap t items) (hs : s.heap.IsSliceOf sl vl vu .none) (pl : IsPart vl lo) (pu : IsPart vu hi)
    (hw : ¬ (sIx items.size 0 lo = 0 ∧ sIx items.size items.size hi = items.size))
    (h : Q (.ref s.heap.objs.size) { s with heap := s.heap.push { cls := .type "tuple", data := .seq ((items.toList.drop (sIx items.size 0 lo)).take (sIx items.size items.size hi - sIx items.size 0 lo)).toArray } })
    (hsz : items.size ≤ sizeLine) : wpAny (model prog w) A (getItem (.ref t) (.ref sl)) Q E s := by
  have htake : sizeOk (.seq ((items.toList.drop (sIx items.size 0 lo)).take (sIx items.size items.size hi - sIx items.size 0 lo)).toArray) := by
    show ((items.toList.drop (sIx items.size 0 lo)).take (sIx items.size items.size hi - sIx items.size 0 lo)).toArray.size ≤ sizeLine
    rw [List.size_toArray, List.length_take, List.length_drop, Array.length_toList]
    omega
  have hj : sIx items.size items.size hi ≤ items.size := sIx_le _ _ (Nat.le_refl _) hi
  obtain ⟨os, hos, hcs, hds⟩ := id hs
  have hTs : s.TypeIs (.ref sl) "slice" := ⟨os, hos, hcs⟩
  unfold getItem
  try with_reducible refine wpAny_holding ?_
  first | refine wpAny_bind (wpAny_pure ?_) | skip
  refine wpAny_bind (wpAny_sequenceKey ht.typeIs (by decide) ?_)
  refine wpAny_bind (wpAny_callSpecial?_slot (name := Str.ofString "__getitem__") ht.typeIs PyProof.Rows.slot_tuple_getitem
    (wpAny_call_entry PyProof.Rows.slot_tuple_getitem ht.typeIs entry_tuple_getitem ?_ (args_tuple_getitem _ _)))
  show wpAny _ _ (Builtin.Tuple.tupleItemsOf (.ref t) >>= _) _ _ s
  refine wpAny_bind (tupleItemsOf_ ht ?_)
  refine wpAny_bind (wpAny_typeOf hTs ?_)
  rw [if_pos (by decide)]
  refine wpAny_bind (sliceApplied_gen hs pl pu ?_)
  have hno : ¬ ((((sIx items.size 0 lo : Nat) : Int) == 0 && (1 : Int) == 1 && (sIx items.size items.size hi - sIx items.size 0 lo) == items.size) = true) := by
    intro q
    rw [Bool.and_eq_true, Bool.and_eq_true] at q
    have q1 : ((sIx items.size 0 lo : Nat) : Int) = 0 := eq_of_beq q.1.1
    have q2 : sIx items.size items.size hi - sIx items.size 0 lo = items.size := eq_of_beq q.2
    exact hw ⟨by omega, by omega⟩
  show wpAny _ _ (if (((sIx items.size 0 lo : Nat) : Int) == 0 && (1 : Int) == 1 && (sIx items.size items.size hi - sIx items.size 0 lo) == items.size) = true then _ else _) _ _ s
  rw [if_neg hno, pick_gen]
  first
    | exact wpAny_bind (m := Builtin.Tuple.tupleExact _) (wpAny_newObj_type (wpAny_pure ⟨_, rfl, wpAny_pure h⟩) htake)
    | exact wpAny_bind (m := Builtin.Tuple.tupleExact _) (wpAny_newObj_type (wpAny_bind (wpAny_pure (wpAny_pure ⟨_, rfl, wpAny_pure h⟩))) htake)
    | exact wpAny_bind (wpAny_bind (m := Builtin.Tuple.tupleExact _) (wpAny_newObj_type (wpAny_pure (wpAny_pure ⟨_, rfl, wpAny_pure h⟩)) htake))
    | exact wpAny_bind (wpAny_bind (m := Builtin.Tuple.tupleExact _) (wpAny_newObj_type (wpAny_pure ⟨_, rfl, wpAny_pure h⟩) htake))
end
end HT
namespace L2
open PySem PySem.Spec PyProof.Rows
noncomputable abbrev TO := St → Hp → (Option Int → Hp → Prop) → Prop
noncomputable def PO (X : Cx) (e : Option Expr) (t : TO) : Prop :=
  ∀ (pins : List (Addr × Obj)) (s : Shared) (σ : St) (H : Hp) (Q : Option Int → Hp → Prop), Inv X pins σ H s → t σ H Q →
    wpAny (model X.prog X.w) X.A (evalPart e X.env) (fun u s' => ∃ o H', Inv X pins σ H' s' ∧ IsPart u o ∧ Q o H') X.xe s
noncomputable def tNoPart : TO := fun _ H Q => Q none H
noncomputable def tPart (t : TE) : TO := fun σ H Q => t σ H fun x H1 => ∃ i, x = .int i ∧ Q (some i) H1
theorem intsAre_of {ns : List Int} : ∀ {us : List Value}, Vals (ns.map V.int) us → IntsAre us ns := by
  induction ns with
  | nil => intro us r; rw [List.map_nil] at r; cases r; exact .nil
  | cons n ns ih =>
    intro us r
    rw [List.map_cons] at r
    cases r with
    | cons r1 r2 =>
      obtain ⟨t, e⟩ := r1
      subst e
      exact .cons n t (ih r2)
section
variable {X : Cx} {e : Expr} {te : TE} {lo hi : Option Expr} {tl th : TO} {pos p2 : Pos}
theorem po_none : PO X none tNoPart := by
  intro pins s σ H Q I h
  rw [evalPart_none]
  exact wpAny_pure ⟨none, H, I, .none, h⟩
theorem po_some (h : PE X e te) : PO X (some e) (tPart te) := by
  intro pins s σ H Q I hw
  rw [evalPart_some]
  refine thn (h pins s σ H _ I hw) fun u s1 ⟨x, H1, I1, r1, q1⟩ => ?_
  obtain ⟨i, rfl, q⟩ := q1
  obtain ⟨t, rfl⟩ := r1
  exact ⟨some i, H1, I1, .int i t, q⟩
noncomputable def SlR (X : Cx) (r : V → Option Int → Option Int → Hp → VK → Prop) : Prop :=
  ∀ (pins : List (Addr × Obj)) (s : Shared) (σ : St) (H : Hp) (x : V) (v vl vu : Value) (lo hi : Option Int) (sl : Addr) (Q : VK), Inv X pins σ H s → RelV x v → s.heap.IsSliceOf sl vl vu .none → IsPart vl lo → IsPart vu hi → r x lo hi H Q →
    ∃ T id, typeLookup (.type T) "__getitem__" = pure (some (.builtin id)) ∧ s.TypeIs v T ∧ wpAny (model X.prog X.w) X.A (getItem v (.ref sl)) (EP X pins σ Q) X.xe s
noncomputable def tSl (r : V → Option Int → Option Int → Hp → VK → Prop) (te : TE) (tl th : TO) : TE := fun σ H Q => te σ H fun x H1 => tl σ H1 fun l H2 => th σ H2 fun u H3 => r x l u H3 Q
theorem pe_slice {r : V → Option Int → Option Int → Hp → VK → Prop} (hr : SlR X r) (he : PE X e te) (hl : PO X lo tl) (hu : PO X hi th) : PE X (.Subscript e (.Slice lo hi none p2) pos) (tSl r te tl th) := by
  intro pins s σ H Q I h
  refine Subscript_ (thn (he pins s σ H _ I h) fun v s1 ⟨x, H1, I1, r1, q1⟩ => ?_)
  refine wpAny_Slice (thn (hl pins s1 σ H1 _ I1 q1) fun vl s2 ⟨l, H2, I2, pl, q2⟩ => thn (hu pins s2 σ H2 _ I2 q2) fun vu s3 ⟨u, H3, I3, pu, q3⟩ => ?_)
  rw [evalPart_none]
  refine wpAny_pure ?_
  have I4 : Inv X pins σ H3 { s3 with heap := s3.heap.push { cls := .type "slice", data := .fields #[vl, vu, .none] } } := I3.kept (t' := s3.toks) fun b ob q => Heap.get?_push_of_some _ q
  obtain ⟨T, id, hT, ht, hg⟩ := hr pins { s3 with heap := s3.heap.push { cls := .type "slice", data := .fields #[vl, vu, .none] } } σ H3 x v vl vu l u s3.heap.objs.size Q I4 r1 (Heap.IsSliceOf.new ..) pl pu q3
  show wpAny (model X.prog X.w) X.A (subscriptTail e (.Slice lo hi none p2) v (.ref s3.heap.objs.size)) (EP X pins σ Q) X.xe { s3 with heap := s3.heap.push { cls := .type "slice", data := .fields #[vl, vu, .none] } }
  exact tail_any (ops := [.ref s3.heap.objs.size, v]) ht hT hg (by with_unfolding_all rfl)
noncomputable def cutV (xs : List V) (lo hi : Option Int) : List V := (xs.drop (HT.sIx xs.length 0 lo)).take (HT.sIx xs.length xs.length hi - HT.sIx xs.length 0 lo)
theorem cutV_length (xs : List V) (lo hi : Option Int) : (cutV xs lo hi).length ≤ xs.length := by
  unfold cutV
  rw [List.length_take, List.length_drop]
  omega
noncomputable def rSlT (K : PySem.W.Frag) : V → Option Int → Option Int → Hp → VK → Prop := fun x lo hi H Q => ∃ a xs, x = .ref a ∧ SqT K H a xs ∧
  ¬ (HT.sIx xs.length 0 lo = 0 ∧ HT.sIx xs.length xs.length hi = xs.length) ∧ ∀ p, H p = none → Q (.ref p) (upd H p (.tup (cutV xs lo hi)))
theorem sl_tup : SlR X (rSlT X.K) := by
  intro pins s σ H x v vl vu lo hi sl Q I rx hs pl pu h
  obtain ⟨a, xs, rfl, hx, hw, q⟩ := h
  cases rx
  obtain ⟨its, r, ht, hz⟩ := I.tuple hx
  have hlen : its.toArray.size = xs.length := by rw [List.size_toArray]; exact r.length.symm
  refine ⟨"tuple", _, PyProof.Rows.slot_tuple_getitem.lookup, ht.typeIs, ?_⟩
  refine HT.getItem_tuple_cut ht hs pl pu (by rw [hlen]; exact hw) ?_ (by rw [hlen]; exact hz)
  rw [hlen]
  refine ⟨.ref s.heap.objs.size, _, I.laid (t' := s.toks) (o := .tup (cutV xs lo hi)) (fun b ob q => Heap.get?_push_of_some _ q) (Nat.le_refl _) ?_, rfl, q _ (I.hok.fresh (Nat.le_refl _))⟩
  exact ⟨Nat.le_trans (cutV_length xs lo hi) hz, _, (r.drop (HT.sIx xs.length 0 lo)).take (HT.sIx xs.length xs.length hi - HT.sIx xs.length 0 lo), TupN.new _ _⟩
noncomputable def rCatT (K : PySem.W.Frag) : R2 := fun x y H Q => ∃ a b xs ys, x = .ref a ∧ y = .ref b ∧ SqT K H a xs ∧ SqT K H b ys ∧ xs ≠ [] ∧ xs.length + ys.length ≤ sizeLine ∧
  (ys = [] → Q (.ref a) H) ∧ (ys ≠ [] → ∀ p, H p = none → Q (.ref p) (upd H p (.tup (xs ++ ys))))
theorem Vals.nil_iff {xs : List V} {us : List Value} (r : Vals xs us) : us = [] ↔ xs = [] := by
  cases r with
  | nil => simp
  | cons _ _ => simp
theorem op_catT : OpR X (binaryOp .Add) (rCatT X.K) := by
  intro pins s σ H x y v u Q I rx ry h
  obtain ⟨a, b, xs, ys, rfl, rfl, ha, hb, hx, hz, q1, q2⟩ := h
  cases rx
  cases ry
  obtain ⟨its, r1, p1, _⟩ := I.tuple ha
  obtain ⟨its2, r2, p2, _⟩ := I.tuple hb
  refine HT.cat_tup p1 p2 (fun z => hx (r1.nil_iff.mp z)) (fun z => ⟨.ref a, H, I, rfl, q1 (r2.nil_iff.mp z)⟩) (fun z => ?_) (by rw [← r1.length, ← r2.length]; exact hz)
  refine ⟨.ref s.heap.objs.size, _, I.laid (t' := s.toks) (o := .tup (xs ++ ys)) (fun b ob q => Heap.get?_push_of_some _ q) (Nat.le_refl _) ?_, rfl, q2 (fun w => z (r2.nil_iff.mpr w)) _ (I.hok.fresh (Nat.le_refl _))⟩
  exact ⟨by rw [List.length_append]; exact hz, _, r1.append r2, TupN.new _ _⟩
end
end L2
namespace L2
open PySem PySem.Spec PyProof.Rows
noncomputable def ixN (n : Nat) (i : Int) : Option Nat := if 0 ≤ i then (if i < n then some i.toNat else none) else if -(n : Int) ≤ i then some (i + n).toNat else none
noncomputable def atI {α : Type} (xs : List α) (i : Int) : Option α := (ixN xs.length i).bind fun j => xs[j]?
theorem ixN_seq {n : Nat} {i : Int} {j : Nat} (h : ixN n i = some j) : seqIndex? i n = some j ∧ j < n ∧ -(n : Int) ≤ i ∧ i < n := by
  unfold ixN at h
  by_cases h0 : 0 ≤ i
  · rw [if_pos h0] at h
    by_cases h1 : i < n
    · rw [if_pos h1] at h
      have e : i.toNat = j := Option.some.inj h
      exact ⟨by rw [seqIndex_of h0 h1, e], by omega, by omega, h1⟩
    · rw [if_neg h1] at h; cases h
  · rw [if_neg h0] at h
    by_cases h1 : -(n : Int) ≤ i
    · rw [if_pos h1] at h
      have e : (i + n).toNat = j := Option.some.inj h
      exact ⟨by rw [seqIndex_neg (by omega) h1, e], by omega, h1, by omega⟩
    · rw [if_neg h1] at h; cases h
theorem atI_get {α : Type} {xs : List α} {i : Int} {v : α} (h : atI xs i = some v) : ∃ j, seqIndex? i xs.length = some j ∧ xs[j]? = some v ∧ j < xs.length ∧ -(xs.length : Int) ≤ i ∧ i < xs.length := by
  unfold atI at h
  cases e : ixN xs.length i with
  | none => rw [e] at h; cases h
  | some j =>
    rw [e] at h
    obtain ⟨h1, h2, h3, h4⟩ := ixN_seq e
    exact ⟨j, h1, h, h2, h3, h4⟩
theorem atI_nat {α : Type} {xs : List α} {j : Nat} {v : α} (h : xs[j]? = some v) : atI xs (j : Int) = some v := by
  have hj : j < xs.length := (List.getElem?_eq_some_iff.mp h).1
  have e : ixN xs.length (j : Int) = some j := by
    unfold ixN
    rw [if_pos (by omega), if_pos (by omega)]; simp
  unfold atI; rw [e]; exact h
noncomputable def PlainIx (b : Expr) : Prop := ∀ o i, subscripted b false o i = operate [o, i] (getItem o i)
noncomputable def IxR (X : Cx) (r : R2) : Prop :=
  ∀ (value slice : Expr) (pins : List (Addr × Obj)) (s : Shared) (σ : St) (H : Hp) (x y : V) (v u : Value) (Q : VK), Inv X pins σ H s → RelV x v → RelV y u → r x y H Q →
    subscripted slice false v u = operate [v, u] (getItem v u) → wpAny (model X.prog X.w) X.A (subscriptTail value slice v u) (EP X pins σ Q) X.xe s
noncomputable def MtR (X : Cx) (id : String) (r : V → List V → Hp → VK → Prop) : Prop :=
  ∀ (pins : List (Addr × Obj)) (s : Shared) (σ : St) (H : Hp) (x : V) (xs : List V) (v : Value) (us : List Value) (Q : VK), Inv X pins σ H s → RelV x v → Vals xs us → r x xs H Q →
    wpAny (model X.prog X.w) X.A (call (.builtin id) (v :: us)) (EP X pins σ Q) X.xe s
section
variable {X : Cx} {a b : Expr} {ta tb : TE} {pos : Pos}
theorem pe_ix {r : R2} (hr : IxR X r) (ha : PE X a ta) (hb : PE X b tb) (hs : PlainIx b) : PE X (.Subscript a b pos) (tOp r ta tb) := by
  intro pins s σ H Q I h
  exact Subscript_ (binT ha hb I h fun v u s2 x y H2 I2 rx ry q => hr a b pins s2 σ H2 x y v u Q I2 rx ry q (hs _ _))
noncomputable def rIxL (K : PySem.W.Frag) : R2 := fun x y H Q => ∃ p xs i v, x = .ref p ∧ y = .int i ∧ SqL K H p xs ∧ atI xs i = some v ∧ Q v H
noncomputable def rIxT (K : PySem.W.Frag) : R2 := fun x y H Q => ∃ p xs i v, x = .ref p ∧ y = .int i ∧ SqT K H p xs ∧ atI xs i = some v ∧ Q v H
noncomputable def rIxS : R2 := fun x y H Q => ∃ z i c, x = .str z ∧ y = .int i ∧ z.length ≤ sizeLine ∧ atI z.cps.toList i = some c ∧ Q (.str ⟨#[c]⟩) H
theorem ix_list : IxR X (rIxL X.K) := by
  intro value slice pins s σ H x y v u Q I rx ry h hs
  obtain ⟨p, xs, i, z, rfl, rfl, hq, he, q⟩ := h
  cases rx
  obtain ⟨t, rfl⟩ := ry
  obtain ⟨its, r, pl, hz⟩ := I.list hq
  obtain ⟨j, h1, h2, h3, h4, h5⟩ := atI_get he
  obtain ⟨w, ew, rw'⟩ := r.get h2
  have hl := r.length
  have hn := line63
  have fin : EP X pins σ Q w s := ⟨z, H, I, rw', q⟩
  by_cases h0 : 0 ≤ i
  · have hj : i.toNat = j := by
      rw [seqIndex_of h0 h5] at h1
      exact Option.some.inj h1
    exact item_listR pl.isList h0 (by omega) (by rw [hj]; simpa using ew) fin hs
  · have hj : (i + (its.toArray.size : Int)).toNat = j := by
      rw [seqIndex_neg (by omega) h4] at h1
      rw [List.size_toArray, ← hl]
      exact Option.some.inj h1
    exact subscriptTail_builtinR (x := w) pl.isList.typeIs slot_list_getitem.lookup
      (wpAny_getItem_list_neg (Q := fun r s' => r = w ∧ EP X pins σ Q r s') pl.isList (by omega) (by rw [List.size_toArray] <;> omega) (by omega) (by rw [hj]; simpa using ew) ⟨rfl, fin⟩) hs
theorem ix_tup : IxR X (rIxT X.K) := by
  intro value slice pins s σ H x y v u Q I rx ry h hs
  obtain ⟨p, xs, i, z, rfl, rfl, hq, he, q⟩ := h
  cases rx
  obtain ⟨t, rfl⟩ := ry
  obtain ⟨its, r, pl, hz⟩ := I.tuple hq
  obtain ⟨j, h1, h2, h3, h4, h5⟩ := atI_get he
  obtain ⟨w, ew, rw'⟩ := r.get h2
  have hl := r.length
  have hn := line63
  have fin : EP X pins σ Q w s := ⟨z, H, I, rw', q⟩
  exact subscriptTail_builtinR (x := w) pl.typeIs slot_tuple_getitem.lookup
    (getItem_tuple (j := j) (Q := fun r s' => r = w ∧ EP X pins σ Q r s') pl (by omega) (by omega) (by rw [List.size_toArray, ← hl]; exact h1) (by simpa using ew) ⟨rfl, fin⟩) hs
theorem ix_str : IxR X rIxS := by
  intro value slice pins s σ H x y v u Q I rx ry h hs
  obtain ⟨z, i, c, rfl, rfl, hz, he, q⟩ := h
  obtain ⟨t, rfl⟩ := rx
  obtain ⟨t', rfl⟩ := ry
  obtain ⟨j, h1, h2, h3, h4, h5⟩ := atI_get he
  have hl : z.cps.toList.length = z.length := by simp [Str.length]
  rw [hl] at h1 h4 h5
  have hn := line63
  exact tail_any (typeIs_str s z t) slot_str_getitem.lookup (getItem_str (c := c) (by
    have e1 : decide (i < -(2 ^ 63 : Int)) = false := decide_eq_false (by omega)
    have e2 : decide (i ≥ 2 ^ 63) = false := decide_eq_false (by omega)
    rw [e1, e2, Bool.or_false]) (by rw [h1]; simpa using h2) ⟨.str ⟨#[c]⟩, H, I.tok _, ⟨_, rfl⟩, q⟩) hs
theorem mapSeq_set (its : List Value) (n j : Nat) (u : Value) : Obj.mapSeq (·.setIfInBounds j u) { cls := .type "list", data := .seq its.toArray n } = { cls := .type "list", data := .seq (its.set j u).toArray n } := by
  simp [Obj.mapSeq]
theorem Inv.lst {pins : List (Addr × Obj)} {σ : St} {H : Hp} {s : Shared} {p : Addr} {xs : List V} (I : Inv X pins σ H s) (h : H p = some (.lst xs)) :
    ∃ (its : List Value) (n : Nat), Vals xs its ∧ s.heap.get? p = some { cls := .type "list", data := .seq its.toArray n } ∧ xs.length ≤ sizeLine := by
  obtain ⟨z, its, n, r, e⟩ := I.hok p _ h
  exact ⟨its, n, r, e, z⟩
theorem Inv.lstUpd {pins : List (Addr × Obj)} {σ : St} {H : Hp} {s : Shared} {p : Addr} {xs ys : List V} {its its' : List Value} {n n' : Nat} {f : Obj → Obj} (I : Inv X pins σ H s) (h : H p = some (.lst xs))
    (ho : s.heap.get? p = some { cls := .type "list", data := .seq its.toArray n }) (hf : f { cls := .type "list", data := .seq its.toArray n } = { cls := .type "list", data := .seq its'.toArray n' }) (r : Vals ys its') (hz : ys.length ≤ sizeLine) (t : Nat) :
    Inv X pins σ (upd H p (.lst ys)) { s with heap := s.heap.update p f, toks := t } := by
  have e : (s.heap.update p f).get? p = some { cls := .type "list", data := .seq its'.toArray n' } := by
    rw [Heap.get?_update_self f ho (by rw [hf] <;> rfl), hf]
  refine I.write (x := p) (e := p) (by rw [h]; trivial) (.inl rfl) (fun b u hb q => (Heap.get?_update_other _ _ (Ne.symm hb)).trans q) ⟨_, e⟩ ?_
  exact ⟨hz, its', n', r, e⟩
noncomputable def rSetL : V → V → V → Hp → (Hp → Prop) → Prop := fun o i v H Q => ∃ p xs k j, o = .ref p ∧ i = .int k ∧ H p = some (.lst xs) ∧ ixN xs.length k = some j ∧ Q (upd H p (.lst (xs.set j v)))
theorem set_list : PSet X rSetL := by
  intro pins s σ H o i v ov iv u Q I ro ri rv h
  obtain ⟨p, xs, k, j, rfl, rfl, hp, hj, q⟩ := h
  cases ro
  obtain ⟨t, rfl⟩ := ri
  obtain ⟨its, n, r, ho, hz⟩ := I.lst hp
  obtain ⟨h1, h2, h3, h4⟩ := ixN_seq hj
  have hl := r.length
  have hn := line63
  have I' : Inv X pins σ (upd H p (.lst (xs.set j v))) { s with heap := s.heap.update p (Obj.mapSeq (·.setIfInBounds j u)) } :=
    I.lstUpd hp ho (mapSeq_set its n j u) (r.set rv j) (by rw [List.length_set]; exact hz) s.toks
  by_cases h0 : 0 ≤ k
  · have hk : k.toNat = j := by
      rw [seqIndex_of h0 h4] at h1
      exact Option.some.inj h1
    exact PySem.W.ki_setAt ho h0 (by omega) (by rw [List.size_toArray, ← hl]; exact h4) (by rw [hk]; exact ⟨_, I', q⟩)
  · have hk : (k + (its.toArray.size : Int)).toNat = j := by
      rw [seqIndex_neg (by omega) h3] at h1
      rw [List.size_toArray, ← hl]
      exact Option.some.inj h1
    exact PySem.W.ki_setBack ho (by omega) (by rw [List.size_toArray, ← hl]; exact h3) (by omega) (by rw [hk]; exact ⟨_, I', q⟩)
theorem slice_bounds (lo hi : Option Int) (n : Nat) : (sliceBounds lo hi none n).1 = ((HT.sIx n 0 lo : Nat) : Int) ∧ (sliceBounds lo hi none n).2.1 = ((HT.sIx n n hi : Nat) : Int) ∧ (sliceBounds lo hi none n).2.2 = 1 := by
  refine ⟨?_, ?_, rfl⟩
  · cases lo with
    | none => simp [sliceBounds, HT.sIx]
    | some i =>
      simp only [sliceBounds, HT.sIx, Option.getD_none, show (1 : Int) > 0 by decide, if_true]
      by_cases h : i < 0
      · simp only [h, if_true] <;> omega
      · simp only [h, if_false] <;> omega
  · cases hi with
    | none => simp [sliceBounds, HT.sIx]
    | some i =>
      simp only [sliceBounds, HT.sIx, Option.getD_none, show (1 : Int) > 0 by decide, if_true]
      by_cases h : i < 0
      · simp only [h, if_true] <;> omega
      · simp only [h, if_false] <;> omega
theorem slicePick_cut (its : List Value) (lo hi : Option Int) : slicePick its.toArray lo hi none = ((its.drop (HT.sIx its.length 0 lo)).take (HT.sIx its.length its.length hi - HT.sIx its.length 0 lo)).toArray := by
  obtain ⟨h1, h2, h3⟩ := slice_bounds lo hi its.toArray.size
  unfold slicePick
  rw [h1, h2, h3]
  simp only [sliceRange_one, pick_run, List.size_toArray] <;> rfl
noncomputable def rSlL (K : PySem.W.Frag) : V → Option Int → Option Int → Hp → VK → Prop := fun x lo hi H Q => ∃ a xs, x = .ref a ∧ SqL K H a xs ∧ ∀ p, H p = none → Q (.ref p) (upd H p (.lst (cutV xs lo hi)))
theorem sl_list : SlR X (rSlL X.K) := by
  intro pins s σ H x v vl vu lo hi sl Q I rx hs pl pu h
  obtain ⟨a, xs, rfl, hx, q⟩ := h
  cases rx
  obtain ⟨its, r, ht, hz⟩ := I.list hx
  have hlen := r.length
  refine ⟨"list", _, slot_list_getitem.lookup, ht.isList.typeIs, ?_⟩
  refine wpAny_getItem_list_slice ht.isList hs pl pu .none (by simp) ?_ (by rw [List.size_toArray] <;> omega)
  rw [slicePick_cut, ← hlen]
  refine ⟨.ref s.heap.objs.size, _, I.laid (t' := s.toks) (o := .lst (cutV xs lo hi)) (fun b ob q => Heap.get?_push_of_some _ q) (Nat.le_refl _) ?_, rfl, q _ (I.hok.fresh (Nat.le_refl _))⟩
  exact ⟨Nat.le_trans (cutV_length xs lo hi) hz, _, 0, (r.drop (HT.sIx xs.length 0 lo)).take (HT.sIx xs.length xs.length hi - HT.sIx xs.length 0 lo), Heap.get?_push_size _ rfl⟩
noncomputable def flatV : V → Bool
  | .non => true
  | .bl _ => true
  | .int _ => true
  | .str _ => true
  | _ => false
noncomputable def eqV : V → V → Bool
  | .non, .non => true
  | .bl a, .bl b => a == b
  | .bl a, .int b => (if a then 1 else 0) == b
  | .int a, .bl b => a == (if b then 1 else 0)
  | .int a, .int b => a == b
  | .str a, .str b => a == b
  | _, _ => false
theorem eqAt_V {A : Around} {s : Shared} {y x : V} {u v : Value} (ry : RelV y u) (rx : RelV x v) (fy : flatV y = true) (fx : flatV x = true) : SeqAt.EqAt A s u v (eqV y x) := by
  cases y with
  | non =>
    cases ry
    cases x with
    | non => cases rx; exact SeqAt.EqAt.same _
    | bl b => cases rx; exact SeqAt.EqAt.none_bool b
    | int b => obtain ⟨t, rfl⟩ := rx; exact SeqAt.EqAt.none_int b t
    | str b => obtain ⟨t, rfl⟩ := rx; exact SeqAt.EqAt.none_str b t
    | _ => exact absurd (show false = true from fx) Bool.false_ne_true
  | bl a =>
    cases ry
    cases x with
    | non => cases rx; exact SeqAt.EqAt.bool_none a
    | bl b => cases rx; exact SeqAt.EqAt.bool_bool a b
    | int b => obtain ⟨t, rfl⟩ := rx; exact SeqAt.EqAt.bool_int a b t
    | str b => obtain ⟨t, rfl⟩ := rx; exact SeqAt.EqAt.bool_str a b t
    | _ => exact absurd (show false = true from fx) Bool.false_ne_true
  | int a =>
    obtain ⟨t', rfl⟩ := ry
    cases x with
    | non => cases rx; exact SeqAt.EqAt.int_none a t'
    | bl b => cases rx; exact SeqAt.EqAt.int_bool a t' b
    | int b => obtain ⟨t, rfl⟩ := rx; exact SeqAt.EqAt.int_int a t' b t
    | str b => obtain ⟨t, rfl⟩ := rx; exact SeqAt.EqAt.int_str a t' b t
    | _ => exact absurd (show false = true from fx) Bool.false_ne_true
  | str a =>
    obtain ⟨t', rfl⟩ := ry
    cases x with
    | non => cases rx; exact SeqAt.EqAt.str_none a t'
    | bl b => cases rx; exact SeqAt.EqAt.str_bool a t' b
    | int b => obtain ⟨t, rfl⟩ := rx; exact SeqAt.EqAt.str_int a t' b t
    | str b => obtain ⟨t, rfl⟩ := rx; exact SeqAt.EqAt.str_str a t' b t
    | _ => exact absurd (show false = true from fx) Bool.false_ne_true
  | _ => exact absurd (show false = true from fy) Bool.false_ne_true
noncomputable def eqU (x : V) (u : Value) : Bool := match u with
  | .none => eqV .non x
  | .bool b => eqV (.bl b) x
  | .int i _ => eqV (.int i) x
  | .str z _ => eqV (.str z) x
  | _ => false
theorem eqU_of {x y : V} {u : Value} (r : RelV y u) (f : flatV y = true) : eqU x u = eqV y x := by
  cases y with
  | non => cases r; rfl
  | bl b => cases r; rfl
  | int i => obtain ⟨t, rfl⟩ := r; rfl
  | str z => obtain ⟨t, rfl⟩ := r; rfl
  | _ => exact absurd (show false = true from f) Bool.false_ne_true
theorem any_eqU {x : V} : ∀ {xs : List V} {us : List Value}, Vals xs us → xs.all flatV = true → us.any (eqU x) = xs.any fun y => eqV y x
  | _, _, .nil, _ => rfl
  | y :: xs, u :: us, .cons r t, f => by
    rw [List.all_cons, Bool.and_eq_true] at f
    rw [List.any_cons, List.any_cons, eqU_of r f.1, any_eqU t f.2]
theorem mem_eqAt {A : Around} {s : Shared} {x : V} {v : Value} (rx : RelV x v) (fx : flatV x = true) : ∀ {xs : List V} {us : List Value}, Vals xs us → xs.all flatV = true → ∀ u ∈ us, SeqAt.EqAt A s u v (eqU x u)
  | _, _, .nil, _ => fun u hu => by cases hu
  | y :: xs, u :: us, .cons r t, f => fun u' hu => by
    rw [List.all_cons, Bool.and_eq_true] at f
    rcases List.mem_cons.mp hu with rfl | hu
    · rw [eqU_of r f.1]; exact eqAt_V r rx f.1 fx
    · exact mem_eqAt rx fx t f.2 u' hu
noncomputable def inV (x : V) (xs : List V) : Bool := xs.any fun y => eqV y x
noncomputable def rIn (K : PySem.W.Frag) (neg : Bool) : R2 := fun x y H Q => ∃ p xs, y = .ref p ∧ (SqL K H p xs ∨ SqT K H p xs) ∧ flatV x = true ∧ xs.all flatV = true ∧ Q (.bl (if neg then !inV x xs else inV x xs)) H
theorem op_in_seq : OpR X (compareOp .In) (rIn X.K false) := by
  intro pins s σ H x y v u Q I rx ry h
  obtain ⟨p, xs, rfl, hq, fx, fs, q⟩ := h
  cases ry
  rcases hq with hq | hq
  · obtain ⟨its, r, pl, hz⟩ := I.list hq
    refine SeqAt.in_listAt (eqU x) pl.isList (fun w hw => mem_eqAt rx fx r fs w (by simpa using hw)) ⟨.bl _, H, I, rfl, ?_⟩
    rw [show its.toArray.any (eqU x) = its.any (eqU x) by simp, any_eqU r fs]
    exact q
  · obtain ⟨its, r, pl, hz⟩ := I.tuple hq
    refine SeqAt.in_tupleAt (eqU x) pl (fun w hw => mem_eqAt rx fx r fs w (by simpa using hw)) ⟨.bl _, H, I, rfl, ?_⟩
    rw [show its.toArray.any (eqU x) = its.any (eqU x) by simp, any_eqU r fs]
    exact q
theorem op_notIn_seq : OpR X (compareOp .NotIn) (rIn X.K true) := by
  intro pins s σ H x y v u Q I rx ry h
  obtain ⟨p, xs, rfl, hq, fx, fs, q⟩ := h
  cases ry
  rcases hq with hq | hq
  · obtain ⟨its, r, pl, hz⟩ := I.list hq
    refine SeqAt.notIn_listAt (eqU x) pl.isList (fun w hw => mem_eqAt rx fx r fs w (by simpa using hw)) ⟨.bl _, H, I, rfl, ?_⟩
    rw [show its.toArray.any (eqU x) = its.any (eqU x) by simp, any_eqU r fs]
    exact q
  · obtain ⟨its, r, pl, hz⟩ := I.tuple hq
    refine SeqAt.notIn_tupleAt (eqU x) pl (fun w hw => mem_eqAt rx fx r fs w (by simpa using hw)) ⟨.bl _, H, I, rfl, ?_⟩
    rw [show its.toArray.any (eqU x) = its.any (eqU x) by simp, any_eqU r fs]
    exact q
theorem call_list_of : CallR X (.type "list") (fun xs H Q => ∃ p ys, xs = [.ref p] ∧ (SqL X.K H p ys ∨ SqT X.K H p ys) ∧ ∀ l, H l = none → Q (.ref l) (upd H l (.lst ys))) := by
  intro pins s σ H xs us Q I r h
  obtain ⟨p, ys, rfl, hq, q⟩ := h
  obtain ⟨u, rfl, rx⟩ := vals1 r
  cases rx
  have fin : ∀ (its : List Value), Vals ys its → ys.length ≤ sizeLine → ∀ (h' : Heap) (c' : Nat), (∀ b o', s.heap.get? b = some o' → h'.get? b = some o') →
      h'.get? s.heap.objs.size = some { cls := .type "list", dict := none, data := .seq its.toArray c', slots := #[] } → EP X pins σ Q (.ref s.heap.objs.size) { s with heap := h' } := fun its r' hz h' c' kp e =>
    ⟨.ref s.heap.objs.size, _, I.laid (t' := s.toks) kp (Nat.le_refl _) (show ObjOk X.prog X.w _ h' _ (.lst ys) from ⟨hz, its, c', r', e⟩), rfl, q _ (I.hok.fresh (Nat.le_refl _))⟩
  rcases hq with hq | hq
  · obtain ⟨its, r', pl, hz⟩ := I.list hq
    have hlen := r'.length
    obtain ⟨o, ho, hc, n, hd⟩ := pl.isList
    exact call_list_seq p (.inl rfl) ho hc hd (fun h' c' kp e => fin its r' hz h' c' kp e) (by simp only [List.size_toArray] <;> omega)
  · obtain ⟨its, r', pl, hz⟩ := I.tuple hq
    have hlen := r'.length
    obtain ⟨o, ho, hc, n, hd⟩ := pl
    exact call_list_seq p (.inr rfl) ho hc hd (fun h' c' kp e => fin its r' hz h' c' kp e) (by simp only [List.size_toArray] <;> omega)
theorem call_tuple_of : CallR X (.type "tuple") (fun xs H Q => ∃ p ys, xs = [.ref p] ∧ ((SqL X.K H p ys ∧ ∀ l, H l = none → Q (.ref l) (upd H l (.tup ys))) ∨ (SqT X.K H p ys ∧ Q (.ref p) H))) := by
  intro pins s σ H xs us Q I r h
  obtain ⟨p, ys, rfl, h⟩ := h
  obtain ⟨u, rfl, rx⟩ := vals1 r
  cases rx
  rcases h with ⟨hq, q⟩ | ⟨hq, q⟩
  · obtain ⟨its, r', pl, hz⟩ := I.list hq
    have hlen := r'.length
    refine call_tuple_list pl.isList (fun h' kp => ?_) (by simp only [List.size_toArray] <;> omega)
    have I1 : Inv X pins σ H { s with heap := h' } := I.kept (t' := s.toks) kp
    have I2 : Inv X pins σ (upd H h'.objs.size (.tup ys)) { s with heap := h'.push { cls := .type "tuple", data := .seq its.toArray } } :=
      I1.laid (t' := s.toks) (fun b o e => Heap.get?_push_of_some _ e) (Nat.le_refl _) (show ObjOk X.prog X.w _ _ _ (.tup ys) from ⟨hz, its, r', TupN.new _ _⟩)
    exact ⟨.ref h'.objs.size, _, I2, rfl, q _ (I1.hok.fresh (Nat.le_refl _))⟩
  · obtain ⟨its, r', pl, hz⟩ := I.tuple hq
    exact call_tuple_same pl ⟨.ref p, H, I, rfl, q⟩
noncomputable def tyV (K : PySem.W.Frag) (T : String) (x : V) (H : Hp) : Prop := match x with
  | .str _ => T = "str"
  | .int _ => T = "int"
  | .ref p => (T = "list" ∧ ∃ xs, SqL K H p xs) ∨ (T = "tuple" ∧ ∃ o, K.lookup p = some o ∧ o.cls = .type "tuple" ∧ o.dict = none) ∨
      (T = "dict" ∧ ((∃ kvs, H p = some (.dK kvs)) ∨ ∃ kvs, H p = some (.dT kvs))) ∨ (T = "set" ∧ ∃ S n, H p = some (.set S n))
  | _ => False
theorem tyV_is {pins : List (Addr × Obj)} {σ : St} {H : Hp} {s : Shared} {T : String} {x : V} {v : Value} (I : Inv X pins σ H s) (r : RelV x v) (ty : tyV X.K T x H) :
    s.TypeIs v T ∧ ∀ a, v = .ref a → ∃ ob, s.heap.get? a = some ob ∧ ob.dict = none := by
  cases x with
  | str z =>
    obtain ⟨t, rfl⟩ := r
    cases (show T = "str" from ty)
    exact ⟨typeIs_str s z t, fun _ e => nomatch e⟩
  | int i =>
    obtain ⟨t, rfl⟩ := r
    cases (show T = "int" from ty)
    exact ⟨typeIs_int s i t, fun _ e => nomatch e⟩
  | ref p =>
    cases r
    rcases ty with ⟨rfl, xs, hq⟩ | ⟨rfl, o, hk, hc, hd⟩ | ⟨rfl, hk⟩ | ⟨rfl, S, n, hk⟩
    · obtain ⟨its, _, pl, _⟩ := I.list hq
      refine ⟨pl.isList.typeIs, fun a e => ?_⟩
      cases e
      obtain ⟨o, n, e, c, hd, _⟩ := pl
      exact ⟨o, e, hd⟩
    · refine ⟨⟨o, I.kIn p o hk, hc⟩, fun a e => ?_⟩
      cases e
      exact ⟨o, I.kIn _ o hk, hd⟩
    · have z : ∃ o, s.heap.get? p = some o ∧ o.ExactDict := by
        rcases hk with ⟨kvs, hk⟩ | ⟨kvs, hk⟩
        · obtain ⟨_, _, _, _, o, _, _, e, ex, _⟩ := I.hok p _ hk
          exact ⟨o, e, ex⟩
        · obtain ⟨_, _, _, _, o, _, _, e, ex, _⟩ := I.hok p _ hk
          exact ⟨o, e, ex⟩
      obtain ⟨o, e, ex⟩ := z
      refine ⟨⟨o, e, ex.1⟩, fun a e2 => ?_⟩
      cases e2
      exact ⟨o, e, ex.2.1⟩
    · obtain ⟨o, _, _, _, e, ex, _⟩ := I.hok p _ hk
      refine ⟨⟨o, e, ex.1⟩, fun a e2 => ?_⟩
      cases e2
      exact ⟨o, e, ex.2.1⟩
  | _ => exact False.elim ty
noncomputable def tBM0 (K : PySem.W.Frag) (T : String) (r : V → List V → Hp → VK → Prop) (to : TE) : TE := fun σ H Q => to σ H fun x H1 => tyV K T x H1 ∧ r x [] H1 Q
noncomputable def tBM (K : PySem.W.Frag) (T : String) (r : V → List V → Hp → VK → Prop) (to : TE) (t : TA) : TE := fun σ H Q => to σ H fun x H1 => tyV K T x H1 ∧ t σ H1 fun xs H2 => r x xs H2 Q
variable {o e : Expr} {es : List Expr} {to : TE} {t : TA} {name : Str} {apos cpos : Pos} {T id : String} {r : V → List V → Hp → VK → Prop}
theorem pe_bm0 (pa : PlainAttrs T) (slot : Slot T name id) (hty : typeOf (.builtin id) = pure (.type "method_descriptor")) (hm : MtR X id r) (ho : PE X o to)
    (hbase : attributeBase o name X.env (eval o X.env) = eval o X.env := by rfl) (hline : (apos.endLine == cpos.line) = true := by rfl) : PE X (.Call (.Attribute o name apos) [] [] cpos) (tBM0 X.K T r to) := by
  intro pins s σ H Q I h
  refine wpAny_Call_method0_late hbase hline (thn (ho pins s σ H _ I h) fun v s1 ⟨x, H1, I1, r1, ty, q1⟩ => ?_)
  obtain ⟨h1, h2⟩ := tyV_is I1 r1 ty
  exact ⟨T, id, pa, slot, hty, h1, h2, Calls.callWith_builtin rfl (PySem.evalArgs_none (hm pins s1 σ H1 x [] v [] Q I1 r1 .nil q1))⟩
theorem pe_bm (pa : PlainAttrs T) (slot : Slot T name id) (hty : typeOf (.builtin id) = pure (.type "method_descriptor")) (hm : MtR X id r) (ho : PE X o to) (ha : PA X (e :: es) t)
    (hbase : attributeBase o name X.env (eval o X.env) = eval o X.env := by rfl)
    (hfew : ((backTo cpos (starEach (e :: es) X.env)).all (fun x => !x.1) && (backToKw cpos (keywordEach [] X.env)).all (fun x => x.1.isSome)
      && decide ((e :: es).length + ([] : List Keyword).length + (if ([] : List Keyword).isEmpty then 0 else 1) < 30)) = true := by rfl)
    (hline : (apos.endLine == cpos.line) = true := by rfl) (hs : starEach (e :: es) X.env = (false, eval e X.env) :: starEach es X.env := by rfl) (hplain : (backTo cpos (starEach es X.env)).any (·.1) = false := by rfl) :
    PE X (.Call (.Attribute o name apos) (e :: es) [] cpos) (tBM X.K T r to t) := by
  intro pins s σ H Q I h
  refine wpAny_Call_method_late hbase hfew hline rfl (thn (ho pins s σ H _ I h) fun v s1 ⟨x, H1, I1, r1, ty, q1⟩ => ?_)
  obtain ⟨h1, h2⟩ := tyV_is I1 r1 ty
  refine ⟨T, id, pa, slot, hty, h1, h2, ?_⟩
  have hA := ha cpos pins s1 σ H1 _ I1 q1
  rw [hs] at hA ⊢
  refine Calls.callWith_builtin (by show (false || (backTo cpos (starEach es X.env)).any (·.1)) = false; rw [hplain] <;> rfl) (Calls.evalArgs_plain ?_)
  exact thn hA fun us s2 ⟨vs, H2, I2, r2, q2⟩ => hm pins s2 σ H2 x vs v us Q I2 r1 r2 q2
end
end L2
namespace L2
open PySem PySem.Spec PyProof.Rows
noncomputable def MtM (X : Cx) (id : String) (r : V → List V → Hp → VK → Prop) : Prop :=
  ∀ (pins : List (Addr × Obj)) (s : Shared) (σ : St) (H : Hp) (x : V) (xs : List V) (v : Value) (us : List Value) (Q : VK), Inv X pins σ H s → RelV x v → Vals xs us → r x xs H Q →
    wpAny (model X.prog X.w) X.A (call (.builtin id) (v :: us)) (EP X pins σ Q) X.xe s
theorem Vals.one : ∀ {x : V} {us : List Value}, Vals [x] us → ∃ u, us = [u] ∧ RelV x u
  | _, _, .cons r .nil => ⟨_, rfl, r⟩
section
variable {X : Cx} {pins : List (Addr × Obj)} {σ : St} {H : Hp} {s : Shared} {l b : Addr} {xs ys zs : List V}
theorem Inv.lset {its its' : List Value} {n : Nat} {f : Array Value → Array Value} {t' : Nat} (I : Inv X pins σ H s) (hH : H l = some (.lst xs))
    (e : s.heap.get? l = some { cls := .type "list", data := .seq its.toArray n }) (hf : f its.toArray = its'.toArray) (hv : Vals ys its') (hz : ys.length ≤ sizeLine) :
    Inv X pins σ (upd H l (.lst ys)) { s with heap := s.heap.update l (Obj.mapSeq f), toks := t' } := by
  have q := PySem.IsL.update e f
  rw [hf] at q
  refine I.write (x := l) (e := l) (by rw [hH]; exact trivial) (.inl rfl) (fun b' u hb hu => (Heap.get?_update_other s.heap (Obj.mapSeq f) (Ne.symm hb)).trans hu) ⟨_, q⟩ ?_
  exact ⟨hz, its', _, hv, q⟩
theorem Inv.lnew {its : List Value} {t' : Nat} (I : Inv X pins σ H s) (hv : Vals ys its) (hz : ys.length ≤ sizeLine) :
    Inv X pins σ (upd H s.heap.objs.size (.lst ys)) { s with heap := s.heap.push { cls := .type "list", data := .seq its.toArray }, toks := t' } :=
  I.laid (fun _ _ q => Heap.get?_push_of_some _ q) (Nat.le_refl _) ⟨hz, its, 0, hv, Heap.get?_push_size _ rfl⟩
theorem Inv.fresh (I : Inv X pins σ H s) : H s.heap.objs.size = none := I.hok.fresh (Nat.le_refl _)
theorem Inv.lstM (I : Inv X pins σ H s) (hH : H l = some (.lst xs)) : xs.length ≤ sizeLine ∧ ∃ (its : List Value) (n : Nat), Vals xs its ∧ xs.length = its.length ∧ s.heap.get? l = some { cls := .type "list", data := .seq its.toArray n } := by
  obtain ⟨z, its, n, r, e⟩ := I.hok l _ hH
  exact ⟨z, its, n, r, r.length, e⟩
end
section
variable {X : Cx}
noncomputable def rAppend : V → List V → Hp → VK → Prop := fun x vs H Q => ∃ l xs y, x = .ref l ∧ vs = [y] ∧ H l = some (.lst xs) ∧ xs.length < sizeLine ∧ Q .non (upd H l (.lst (xs ++ [y])))
theorem mt_append : MtM X "list.append" rAppend := by
  intro pins s σ H x vs v us Q I rx rv h
  obtain ⟨l, xs, y, rfl, rfl, hH, hz, q⟩ := h
  cases rx
  obtain ⟨u, rfl, ru⟩ := rv.one
  obtain ⟨z, its, n, r, hl, e⟩ := I.lstM hH
  refine call_meets F.slot_list_append ⟨_, e, rfl⟩ F.entry_list_append (F.args_list_append_2 _ _) (PySem.list_append l its.toArray n u (by rw [List.size_toArray]; omega)) ⟨e, ?_⟩
  refine ⟨.non, _, I.lset (its' := its ++ [u]) hH e (by simp) (r.append (.cons ru .nil)) ?_, rfl, q⟩
  rw [List.length_append, List.length_singleton]
  omega
noncomputable def rCat : R2 := fun x y H Q => ∃ l b xs zs, x = .ref l ∧ y = .ref b ∧ H l = some (.lst xs) ∧ H b = some (.lst zs) ∧ xs.length + zs.length ≤ sizeLine ∧ ∀ p, H p = none → Q (.ref p) (upd H p (.lst (xs ++ zs)))
theorem op_cat : OpR X (binaryOp .Add) rCat := by
  intro pins s σ H x y v u Q I rx ry h
  obtain ⟨l, b, xs, zs, rfl, rfl, hH, hB, hz, q⟩ := h
  cases rx
  cases ry
  obtain ⟨z, its, n, r, hl, e⟩ := I.lstM hH
  obtain ⟨z2, its2, n2, r2, hl2, e2⟩ := I.lstM hB
  refine PySem.P.add_list e e2 ?_ (by rw [List.size_toArray, List.size_toArray]; omega)
  have ea : its.toArray ++ its2.toArray = (its ++ its2).toArray := by simp
  rw [ea]
  exact ⟨.ref _, _, I.lnew (t' := s.toks) (r.append r2) (by rw [List.length_append]; omega), rfl, q _ I.fresh⟩
end
end L2
namespace L2
open PySem PySem.Spec PyProof.Rows
section
variable {κ : Type} [DecidableEq κ]
noncomputable def valV (kvs : List (κ × V)) (k : κ) : Option V := (kvs.find? fun kv => decide (kv.1 = k)).map (·.2)
noncomputable def putK (kvs : List (κ × V)) (k : κ) (v : V) : List (κ × V) :=
  if (kvs.any fun kv => decide (kv.1 = k)) = true then kvs.map (fun kv => if kv.1 = k then (kv.1, v) else kv) else kvs ++ [(k, v)]
theorem valV_nil {k : κ} : valV ([] : List (κ × V)) k = none := rfl
theorem valV_pos {p : κ × V} {r : List (κ × V)} {k : κ} (e : p.1 = k) : valV (p :: r) k = some p.2 := by simp [valV, List.find?_cons, e]
theorem valV_neg {p : κ × V} {r : List (κ × V)} {k : κ} (e : ¬ p.1 = k) : valV (p :: r) k = valV r k := by simp [valV, List.find?_cons, e]
theorem valV_any (k : κ) : ∀ kvs : List (κ × V), (kvs.any fun kv => decide (kv.1 = k)) = (valV kvs k).isSome
  | [] => rfl
  | p :: r => by
    rw [List.any_cons]
    by_cases e : p.1 = k
    · simp only [valV_pos e, decide_eq_true e, Bool.true_or, Option.isSome_some]
    · rw [valV_neg e, decide_eq_false e, Bool.false_or]; exact valV_any k r
theorem valV_map (k j : κ) (y : V) : ∀ kvs : List (κ × V), valV (kvs.map fun kv => if kv.1 = k then (kv.1, y) else kv) j = (valV kvs j).map fun x => if j = k then y else x
  | [] => rfl
  | p :: r => by
    have ih := valV_map k j y r
    rw [List.map_cons]
    by_cases h : p.1 = k
    · rw [if_pos h]
      by_cases e : p.1 = j
      · rw [valV_pos (p := (p.1, y)) e, valV_pos e, Option.map_some, if_pos (e.symm.trans h)]
      · rw [valV_neg (p := (p.1, y)) e, valV_neg e, ih]
    · rw [if_neg h]
      by_cases e : p.1 = j
      · rw [valV_pos (p := p) e, valV_pos e, Option.map_some, if_neg (fun z => h (e.trans z))]
      · rw [valV_neg (p := p) e, valV_neg e, ih]
theorem valV_snoc (k j : κ) (y : V) : ∀ kvs : List (κ × V), valV kvs k = none → valV (kvs ++ [(k, y)]) j = if j = k then some y else valV kvs j
  | [], _ => by
    by_cases e : k = j
    · rw [if_pos e.symm]; exact valV_pos (p := (k, y)) e
    · rw [if_neg (fun z => e z.symm)]; exact valV_neg (p := (k, y)) e
  | p :: r, hn => by
    rw [List.cons_append]
    have hk : ¬ p.1 = k := fun z => by rw [valV_pos z] at hn; cases hn
    rw [valV_neg hk] at hn
    have ih := valV_snoc k j y r hn
    by_cases e : p.1 = j
    · rw [valV_pos e, valV_pos e, if_neg (fun z => hk (e.trans z))]
    · rw [valV_neg e, valV_neg e, ih]
theorem valV_put (kvs : List (κ × V)) (k j : κ) (y : V) : valV (putK kvs k y) j = if j = k then some y else valV kvs j := by
  unfold putK
  by_cases a : (kvs.any fun kv => decide (kv.1 = k)) = true
  · rw [if_pos a, valV_map]
    rw [valV_any] at a
    by_cases e : j = k
    · obtain ⟨x, hx⟩ := Option.isSome_iff_exists.mp a
      rw [if_pos e, e, hx, Option.map_some, if_pos rfl]
    · rw [if_neg e]
      cases valV kvs j with
      | none => rfl
      | some x => rw [Option.map_some, if_neg e]
  · rw [if_neg a]
    refine valV_snoc k j y kvs ?_
    rw [valV_any] at a
    cases q : valV kvs k with
    | none => rfl
    | some x => rw [q] at a; exact (a rfl).elim
theorem length_putK (kvs : List (κ × V)) (k : κ) (v : V) : (putK kvs k v).length ≤ kvs.length + 1 := by
  unfold putK
  split
  · rw [List.length_map]; omega
  · rw [List.length_append, List.length_cons, List.length_nil]; omega
theorem putK_new {kvs : List (κ × V)} {k : κ} (v : V) (h : valV kvs k = none) : putK kvs k v = kvs ++ [(k, v)] := by
  unfold putK
  rw [valV_any, h]
  exact if_neg (by decide)
theorem RelO.isSome_eq {o : Option V} {u : Option Value} (r : RelO o u) : o.isSome = u.isSome := by
  cases o with
  | none => cases u with
    | none => rfl
    | some _ => exact (show False from r).elim
  | some _ => cases u with
    | none => exact (show False from r).elim
    | some _ => rfl
theorem KV.val {kvs : List (κ × V)} {vs : List (κ × Value)} (r : KV kvs vs) (k : κ) : RelO (valV kvs k) (valueAt vs k) := by
  unfold KV at r
  induction r with
  | nil => exact True.intro
  | @cons p q ps qs h t ih =>
    obtain ⟨h1, h2⟩ := h
    by_cases e : p.1 = k
    · have e' : q.1 = k := h1.symm.trans e
      have b : valueAt (q :: qs) k = some q.2 := by simp [valueAt, List.find?_cons, e']
      rw [valV_pos e, b]; exact h2
    · have e' : ¬ q.1 = k := fun z => e (h1.trans z)
      have b : valueAt (q :: qs) k = valueAt qs k := by simp [valueAt, List.find?_cons, e']
      rw [valV_neg e, b]; exact ih
theorem KV.any {kvs : List (κ × V)} {vs : List (κ × Value)} (r : KV kvs vs) (k : κ) : (kvs.any fun kv => decide (kv.1 = k)) = vs.any fun kv => decide (kv.1 = k) := by
  unfold KV at r
  induction r with
  | nil => rfl
  | cons h t ih => rw [List.any_cons, List.any_cons, ih, h.1]
theorem KV.repl {kvs : List (κ × V)} {vs : List (κ × Value)} (r : KV kvs vs) (k : κ) {y : V} {u : Value} (ry : RelV y u) :
    KV (kvs.map fun kv => if kv.1 = k then (kv.1, y) else kv) (vs.map fun kv => if kv.1 = k then (kv.1, u) else kv) := by
  unfold KV at r ⊢
  induction r with
  | nil => exact .nil
  | @cons p q ps qs h t ih =>
    rw [List.map_cons, List.map_cons]
    refine .cons ?_ ih
    obtain ⟨h1, h2⟩ := h
    by_cases e : p.1 = k
    · rw [if_pos e, if_pos (h1.symm.trans e)]; exact ⟨h1, ry⟩
    · rw [if_neg e, if_neg (fun z => e (h1.trans z))]; exact ⟨h1, h2⟩
theorem KV.put {kvs : List (κ × V)} {vs : List (κ × Value)} (r : KV kvs vs) (k : κ) {y : V} {u : Value} (ry : RelV y u) : KV (putK kvs k y) (stored vs k u) := by
  unfold putK stored
  rw [r.any k]
  by_cases e : (vs.any fun kv => decide (kv.1 = k)) = true
  · rw [if_pos e, if_pos e]; exact r.repl k ry
  · rw [if_neg e, if_neg e]; exact Paired.snoc r ⟨rfl, ry⟩
theorem KV.length {kvs : List (κ × V)} {vs : List (κ × Value)} (r : KV kvs vs) : kvs.length = vs.length := Paired.length r
end
theorem kV_is {P : Program} {w : World} {k : Key} {u : Value} (r : RelV (kV k) u) : (mixKind P w).is k u = true := by
  cases k with
  | inl i => obtain ⟨t, e⟩ := (show ∃ t, u = Value.int i t from r); subst e; exact mixKind_int P w i t
  | inr x => obtain ⟨t, e⟩ := (show ∃ t, u = Value.str x t from r); subst e; exact mixKind_str P w x t
theorem items_are {P : Program} {w : World} : ∀ {ks : List Key} {us : List Value}, Vals (ks.map kV) us → ItemsAre (mixKind P w) ks us
  | [], _, r => by rw [List.map_nil] at r; cases r; exact .nil
  | k :: ks, _, r => by
    rw [List.map_cons] at r
    cases r with
    | cons h t => exact .cons (kV_is h) (items_are t)
noncomputable abbrev KT (H : Hp) : List (List Key × V) → List (List Key × Addr × Value) → Prop := Paired fun p q => p.1 = q.1 ∧ H q.2.1 = some (.tup (p.1.map kV)) ∧ RelV p.2 q.2.2
theorem KT.val {H : Hp} {kvs : List (List Key × V)} {xs : List (List Key × Addr × Value)} (r : KT H kvs xs) (k : List Key) : RelO (valV kvs k) ((atKey xs k).map (·.2)) := by
  induction r with
  | nil => exact True.intro
  | @cons p q ps qs h t ih =>
    obtain ⟨h1, _, h2⟩ := h
    by_cases e : p.1 = k
    · have e' : q.1 = k := h1.symm.trans e
      have b : atKey (q :: qs) k = some q.2 := by simp [atKey, List.find?_cons, e']
      rw [valV_pos e, b]; exact h2
    · have e' : ¬ q.1 = k := fun z => e (h1.trans z)
      have b : atKey (q :: qs) k = atKey qs k := by simp [atKey, List.find?_cons, e']
      rw [valV_neg e, b]; exact ih
theorem KT.repl {H : Hp} {kvs : List (List Key × V)} {xs : List (List Key × Addr × Value)} (r : KT H kvs xs) (k : List Key) {y : V} {u : Value} (ry : RelV y u) :
    KT H (kvs.map fun kv => if kv.1 = k then (kv.1, y) else kv) (xs.map (putAt k u)) := by
  induction r with
  | nil => exact .nil
  | @cons p q ps qs h t ih =>
    rw [List.map_cons, List.map_cons]
    refine .cons ?_ ih
    obtain ⟨h1, h2, h3⟩ := h
    unfold putAt
    by_cases e : p.1 = k
    · rw [if_pos e, if_pos (h1.symm.trans e)]; exact ⟨h1, h2, ry⟩
    · rw [if_neg e, if_neg (fun z => e (h1.trans z))]; exact ⟨h1, h2, h3⟩
theorem KT.put {H : Hp} {kvs : List (List Key × V)} {xs : List (List Key × Addr × Value)} (r : KT H kvs xs) (k : List Key) {b : Addr} {y : V} {u : Value} (hb : H b = some (.tup (k.map kV))) (ry : RelV y u) :
    KT H (putK kvs k y) (storedH xs k b u) := by
  have e : (kvs.any fun kv => decide (kv.1 = k)) = (atKey xs k).isSome := by
    rw [valV_any, (r.val k).isSome_eq, Option.isSome_map]
  unfold putK storedH
  rw [e]
  by_cases q : (atKey xs k).isSome = true
  · rw [if_pos q, if_pos q]; exact r.repl k ry
  · rw [if_neg q, if_neg q]; exact Paired.snoc r ⟨rfl, hb, ry⟩
theorem KT.keeps {H H' : Hp} {kvs : List (List Key × V)} {xs : List (List Key × Addr × Value)} (r : KT H kvs xs) (ht : ∀ b ys, H b = some (.tup ys) → H' b = some (.tup ys)) : KT H' kvs xs :=
  Paired.mapP r fun _ _ z => ⟨z.1, ht _ _ z.2.1, z.2.2⟩
section
variable {P : Program} {w : World} {H : Hp} {h : Heap} {a : Addr}
theorem rd_of {u : HO} (ok : HOk P w H h) (e : Rd H a u) : ObjOk P w H h a u := e.ok ok
theorem dk_rd {kvs : List (Key × V)} (ok : HOk P w H h) (e : Rd H a (.dK kvs)) : kvs.length ≤ sizeLine ∧ (a == sysModules) = false ∧ ∃ vs, KV kvs vs ∧ h.DictOf (mixKind P w) a vs :=
  show ObjOk P w H h a (.dK kvs) from rd_of ok e
theorem dk_of {kvs : List (Key × V)} (ok : HOk P w H h) (e : H a = some (.dK kvs)) : kvs.length ≤ sizeLine ∧ (a == sysModules) = false ∧ ∃ vs, KV kvs vs ∧ h.DictOf (mixKind P w) a vs := dk_rd ok (.inl e)
theorem key_of {ks : List Key} (ok : HOk P w H h) (e : H a = some (.tup (ks.map kV))) : (tupleKind (mixKind P w)).is h ks a := by
  obtain ⟨_, its, r, o, h1, h2, n, h3, _⟩ := (show ObjOk P w H h a (.tup (ks.map kV)) from ok a _ e)
  exact ⟨o, its.toArray, n, h1, h2, h3, by simpa using items_are r⟩
theorem dt_rd {kvs : List (List Key × V)} (ok : HOk P w H h) (e : Rd H a (.dT kvs)) : kvs.length ≤ sizeLine ∧ (a == sysModules) = false ∧
    ∃ xs, KT H kvs xs ∧ h.DictOfH (tupleKind (mixKind P w)) a xs := by
  obtain ⟨z, y, xs, r, o, es, ep, h1, h2, h3, h4, h5⟩ := (show ObjOk P w H h a (.dT kvs) from rd_of ok e)
  refine ⟨z, y, xs, r, o, es, ep, h1, h2, h3, h4, fun x hx => ?_, h5⟩
  have all : ∀ {l : List (List Key × V)} {m : List (List Key × Addr × Value)}, KT H l m → ∀ x ∈ m, (tupleKind (mixKind P w)).is h x.1 x.2.1 := by
    intro l m q
    induction q with
    | nil => intro x hx; exact nomatch hx
    | @cons p q ps qs hq t ih =>
      intro x hx
      rcases List.mem_cons.mp hx with e | hx
      · subst e
        exact key_of ok (by rw [← hq.1]; exact hq.2.1)
      · exact ih x hx
  exact all r x hx
theorem dt_of {kvs : List (List Key × V)} (ok : HOk P w H h) (e : H a = some (.dT kvs)) : kvs.length ≤ sizeLine ∧ (a == sysModules) = false ∧
    ∃ xs, KT H kvs xs ∧ h.DictOfH (tupleKind (mixKind P w)) a xs := dt_rd ok (.inl e)
end
noncomputable def DGet (H : Hp) (a : Addr) (y : V) (r : Option V) : Prop :=
  (∃ kvs k, Rd H a (.dK kvs) ∧ y = kV k ∧ r = valV kvs k) ∨ ∃ kvs k b, Rd H a (.dT kvs) ∧ y = .ref b ∧ H b = some (.tup (k.map kV)) ∧ r = valV kvs k
noncomputable def DPut (H : Hp) (a : Addr) (y v : V) (H' : Hp) : Prop :=
  (∃ kvs k, H a = some (.dK kvs) ∧ y = kV k ∧ kvs.length < sizeLine ∧ H' = upd H a (.dK (putK kvs k v))) ∨
  ∃ kvs k b, H a = some (.dT kvs) ∧ y = .ref b ∧ H b = some (.tup (k.map kV)) ∧ kvs.length < sizeLine ∧ H' = upd H a (.dT (putK kvs k v))
theorem DGet.k {H : Hp} {a : Addr} {kvs : List (Key × V)} {k : Key} (e : H a = some (.dK kvs)) : DGet H a (kV k) (valV kvs k) := .inl ⟨kvs, k, .inl e, rfl, rfl⟩
theorem DGet.t {H : Hp} {a b : Addr} {kvs : List (List Key × V)} {k : List Key} (e : H a = some (.dT kvs)) (eb : H b = some (.tup (k.map kV))) : DGet H a (.ref b) (valV kvs k) := .inr ⟨kvs, k, b, .inl e, rfl, eb, rfl⟩
theorem DPut.k {H : Hp} {a : Addr} {kvs : List (Key × V)} {k : Key} {v : V} (e : H a = some (.dK kvs)) (hl : kvs.length < sizeLine) : DPut H a (kV k) v (upd H a (.dK (putK kvs k v))) := .inl ⟨kvs, k, e, rfl, hl, rfl⟩
theorem DPut.t {H : Hp} {a b : Addr} {kvs : List (List Key × V)} {k : List Key} {v : V} (e : H a = some (.dT kvs)) (eb : H b = some (.tup (k.map kV))) (hl : kvs.length < sizeLine) :
    DPut H a (.ref b) v (upd H a (.dT (putK kvs k v))) := .inr ⟨kvs, k, b, e, rfl, eb, hl, rfl⟩
section
variable {X : Cx} {pins : List (Addr × Obj)} {σ : St} {H : Hp} {s : Shared} {a : Addr} {y v : V} {u r : Value} {o : Option V} {A : Around} {E : Value → Shared → Prop}
theorem Inv.big (I : Inv X pins σ H s) : sysModules < s.heap.objs.size := by
  have h : mainGlobals < s.heap.objs.size := (I.mod.glob.keeps I.bk).lt
  exact Nat.lt_trans (by decide) h
theorem d_getItem {Q : Value → Shared → Prop} (hu : A.units + 1 < cLine) (I : Inv X pins σ H s) (g : DGet H a y (some v)) (ry : RelV y u) (h : ∀ w' s', Inv X pins σ H s' → RelV v w' → Q w' s') :
    wpAny (model X.prog X.w) A (getItem (.ref a) u) Q E s := by
  rcases g with ⟨kvs, k, e, ey, l⟩ | ⟨kvs, k, b, e, ey, eb, l⟩
  · subst ey
    obtain ⟨z, hd, vs, rel, dd⟩ := dk_rd I.hok e
    obtain ⟨w', hw, rw'⟩ := RelO.some_of (v := v) (o := valueAt vs k) (by rw [l]; exact rel.val k)
    exact wpAny_getItem_of (kV_is ry) dd.mapOf hw (h w' _ (I.tok _) rw')
  · subst ey
    cases (show u = Value.ref b from ry)
    obtain ⟨z, hd, xs, rel, dd⟩ := dt_rd I.hok e
    obtain ⟨w', hw, rw'⟩ := RelO.some_of (v := v) (o := (atKey xs k).map (·.2)) (by rw [l]; exact rel.val k)
    obtain ⟨p, hp, hp2⟩ := Option.map_eq_some_iff.mp hw
    refine wpAny_getItem_heap (tupleKind_room_in1 hu) (key_of I.hok eb) dd hp ?_
    rw [hp2]
    exact h w' _ (I.tok _) rw'
theorem d_in {Q : Value → Shared → Prop} (hu : A.units + 1 < cLine) (I : Inv X pins σ H s) (g : DGet H a y o) (ry : RelV y u) (h : ∀ s', Inv X pins σ H s' → Q (.bool o.isSome) s') :
    wpAny (model X.prog X.w) A (compareOp .In u (.ref a)) Q E s := by
  rcases g with ⟨kvs, k, e, ey, l⟩ | ⟨kvs, k, b, e, ey, eb, l⟩
  · subst ey
    obtain ⟨z, hd, vs, rel, dd⟩ := dk_rd I.hok e
    refine wpAny_in_of (kV_is ry) hd dd.mapOf ?_
    rw [← (rel.val k).isSome_eq, ← l]
    exact h _ (I.tok _)
  · subst ey
    cases (show u = Value.ref b from ry)
    obtain ⟨z, hd, xs, rel, dd⟩ := dt_rd I.hok e
    refine wpAny_in_heap (tupleKind_room_in1 hu) (key_of I.hok eb) hd dd ?_
    have q := (rel.val k).isSome_eq
    rw [Option.isSome_map] at q
    rw [← q, ← l]
    exact h _ (I.tok _)
theorem d_notIn {Q : Value → Shared → Prop} (hu : A.units + 1 < cLine) (I : Inv X pins σ H s) (g : DGet H a y o) (ry : RelV y u) (h : ∀ s', Inv X pins σ H s' → Q (.bool (!o.isSome)) s') :
    wpAny (model X.prog X.w) A (compareOp .NotIn u (.ref a)) Q E s := by
  rcases g with ⟨kvs, k, e, ey, l⟩ | ⟨kvs, k, b, e, ey, eb, l⟩
  · subst ey
    obtain ⟨z, hd, vs, rel, dd⟩ := dk_rd I.hok e
    refine wpAny_notIn_of (kV_is ry) hd dd.mapOf ?_
    rw [← (rel.val k).isSome_eq, ← l]
    exact h _ (I.tok _)
  · subst ey
    cases (show u = Value.ref b from ry)
    obtain ⟨z, hd, xs, rel, dd⟩ := dt_rd I.hok e
    refine wpAny_notIn_heap (tupleKind_room_in1 hu) (key_of I.hok eb) hd dd ?_
    have q := (rel.val k).isSome_eq
    rw [Option.isSome_map] at q
    rw [← q, ← l]
    exact h _ (I.tok _)
theorem d_write {h' : Heap} {t' : Nat} {ob : HO} (I : Inv X pins σ H s) (mu : Mut (H a)) (hs : Heap.SameBut a s.heap h') (he : ∃ q, h'.get? a = some q) (new : ObjOk X.prog X.w (upd H a ob) h' a ob) :
    Inv X pins σ (upd H a ob) { s with heap := h', toks := t' } :=
  I.write (x := a) (e := a) mu (.inl rfl) (fun b q hb z => (hs.2 b hb).trans z) he new
theorem dk_new {P : Program} {w : World} {H' : Hp} {h' : Heap} {kvs : List (Key × V)} {vs : List (Key × Value)} (z : kvs.length ≤ sizeLine) (hd : (a == sysModules) = false) (rel : KV kvs vs) (dd : h'.DictOf (mixKind P w) a vs) :
    ObjOk P w H' h' a (.dK kvs) := ⟨z, hd, vs, rel, dd⟩
theorem d_setItem {H' : Hp} {Q : Unit → Shared → Prop} (hu : A.units + 1 < cLine) (I : Inv X pins σ H s) (g : DPut H a y v H') (ry : RelV y u) (rv : RelV v r) (h : ∀ s', Inv X pins σ H' s' → Q () s') :
    wpAny (model X.prog X.w) A (setItem (.ref a) u r) Q E s := by
  rcases g with ⟨kvs, k, e, ey, l, eH⟩ | ⟨kvs, k, b, e, ey, eb, l, eH⟩
  · subst ey eH
    obtain ⟨z, hd, vs, rel, dd⟩ := dk_of I.hok e
    have hz : vs.length ≤ sizeLine := by rw [← rel.length]; exact z
    have hl : (putK kvs k v).length ≤ sizeLine := by have := length_putK kvs k v; omega
    refine wpAny_setItem_pairs (hsz := hz) (kV_is ry) dd fun h' dd' hs => h _ ?_
    have he : ∃ q, h'.get? a = some q := let ⟨q, _, _, hq, _⟩ := dd'; ⟨q, hq⟩
    exact d_write I (by rw [e]; exact True.intro) hs he (dk_new hl hd (rel.put k rv) dd')
  · subst ey eH
    cases (show u = Value.ref b from ry)
    obtain ⟨z, hd, xs, rel, dd⟩ := dt_of I.hok e
    have hz : xs.length ≤ sizeLine := by rw [← Paired.length rel]; exact z
    have hl : (putK kvs k v).length ≤ sizeLine := by have := length_putK kvs k v; omega
    refine wpAny_setItem_heap (hsz := hz) (tupleKind_room_in1 hu) (key_of I.hok eb) dd fun h' dd' hs => h _ ?_
    obtain ⟨q, es, ep, hq, h2, h3, h4, _, h5⟩ := dd'
    refine d_write I (by rw [e]; exact True.intro) hs ⟨q, hq⟩ ⟨hl, hd, _, (rel.put k eb rv).keeps fun c ys ec => ?_, q, es, ep, hq, h2, h3, h4, h5⟩
    rw [upd_ne (ne_of ec e (fun z => nomatch z))]
    exact ec
end
section
variable {X : Cx} {pins : List (Addr × Obj)} {σ : St} {H : Hp} {s : Shared} {a : Addr} {kvs : List (Key × V)} {k : Key} {u : Value} {A : Around} {E : Value → Shared → Prop}
theorem d_len {Q : Value → Shared → Prop} (I : Inv X pins σ H s) (e : Rd H a (.dK kvs)) (h : ∀ t s', Inv X pins σ H s' → Q (.int kvs.length t) s') : wpAny (model X.prog X.w) A (call (.builtin "len") [.ref a]) Q E s := by
  obtain ⟨z, hd, vs, rel, dd⟩ := dk_rd I.hok e
  refine call_len_dict hd dd (by rw [← rel.length]; rw [sizeLine_eq] at z; omega) ?_
  rw [← rel.length]
  exact h _ _ (I.tok _)
end
theorem dict_typeIs {X : Cx} {pins : List (Addr × Obj)} {σ : St} {H : Hp} {s : Shared} {a : Addr} {y : V} {o : Option V} (I : Inv X pins σ H s) (g : DGet H a y o) : s.TypeIs (.ref a) "dict" := by
  rcases g with ⟨kvs, k, e, _, _⟩ | ⟨kvs, k, b, e, _, _, _⟩
  · obtain ⟨_, _, vs, _, dd⟩ := dk_rd I.hok e
    exact dd.typeIs
  · obtain ⟨_, _, xs, _, dd⟩ := dt_rd I.hok e
    exact dd.typeIs
theorem dk_empty {P : Program} {w : World} {H : Hp} (h : Heap) (hb : sysModules < h.objs.size) : ObjOk P w H (h.push { cls := .type "dict", data := .dict #[] }) h.objs.size (.dK []) :=
  ⟨Nat.zero_le _, beq_eq_false_iff_ne.mpr (Ne.symm (Nat.ne_of_lt hb)), [], .nil, Heap.DictOf.new h⟩
theorem dt_empty {P : Program} {w : World} {H : Hp} (h : Heap) (hb : sysModules < h.objs.size) : ObjOk P w H (h.push { cls := .type "dict", data := .dict #[] }) h.objs.size (.dT []) :=
  ⟨Nat.zero_le _, beq_eq_false_iff_ne.mpr (Ne.symm (Nat.ne_of_lt hb)), [], .nil, _, #[], 0, Heap.get?_push_size _ rfl, ⟨rfl, rfl, rfl⟩, rfl, rfl, List.nodup_nil⟩
noncomputable def tDNewK : TE := fun _ H Q => ∀ p, H p = none → Q (.ref p) (upd H p (.dK []))
noncomputable def tDNewT : TE := fun _ H Q => ∀ p, H p = none → Q (.ref p) (upd H p (.dT []))
section
variable {X : Cx} {pos : Pos}
theorem pe_dnewK : PE X (.Dict [] [] pos) tDNewK := fun pins s σ H Q I h =>
  wpAny_Dict_empty ⟨.ref s.heap.objs.size, _, I.laid (a := s.heap.objs.size) (o := .dK []) (t' := s.toks) (fun _ _ q => Heap.get?_push_of_some _ q) (Nat.le_refl _) (dk_empty s.heap I.big), rfl, h _ (I.hok.fresh (Nat.le_refl _))⟩
theorem pe_dnewT : PE X (.Dict [] [] pos) tDNewT := fun pins s σ H Q I h =>
  wpAny_Dict_empty ⟨.ref s.heap.objs.size, _, I.laid (a := s.heap.objs.size) (o := .dT []) (t' := s.toks) (fun _ _ q => Heap.get?_push_of_some _ q) (Nat.le_refl _) (dt_empty s.heap I.big), rfl, h _ (I.hok.fresh (Nat.le_refl _))⟩
end
end L2
namespace Att
open PySem PySem.W PySem.Calls PyProof.Rows
theorem ints_of_wellAll {P : Params} {h : Heap} : ∀ (ns : List Int) (vs : List Value), WellAll P h vs (ns.map WData.int) → IntsAre vs ns := by
  intro ns
  induction ns with
  | nil =>
    intro vs w
    rw [List.map_nil] at w
    cases w
    exact .nil
  | cons n ns ih =>
    intro vs w
    rw [List.map_cons] at w
    cases w with
    | cons a b =>
      cases a
      exact .cons _ _ (ih _ b)
theorem script_of {l : OpenLaw} {n : Nat} (hn : l.most = some n) {P : Params} {h : Heap} {args : List WData} {vals : List Value}
    (hpre : l.row.toRowW.claim.pre args = true) (hwl : WellAll P h vals args) :
    ∃ a vs ns, vals = [Value.ref a] ∧ args = [WData.list (ns.map WData.int)] ∧ h.get? a = some { cls := .type "list", data := .seq vs.toArray } ∧ IntsAre vs ns ∧ ns.length ≤ n := by
  have hsh : WShape.hasAll [] args [.list .int] = true := (pre_splitW hpre).1
  have hc : l.pre.holds [] { args := args } = true := (pre_splitW hpre).2
  obtain ⟨d, r, rfl, h1, h2⟩ := hasAllW_cons hsh
  obtain rfl := hasAllW_nil h2
  obtain ⟨xs, rfl, h3⟩ := hasW_list h1
  obtain ⟨ns, rfl⟩ := items_int h3
  have hlen : ns.length ≤ n := by
    unfold OpenLaw.pre at hc
    have h4 : (WTm.not (.lt (.lit (.int (n : Int))) (.len (.arg 0)))).holds [] { args := [.list (ns.map .int)] } = true := by
      have h4 := (holds_andW hc).1
      rw [hn] at h4
      exact h4
    have h5 := condW_of h4 (w_not (w_lt w_lit (w_len_list (w_arg rfl))))
    rw [List.length_map] at h5
    refine Nat.le_of_not_lt fun q => ?_
    have q' : (n : Int) < ((ns.length : Nat) : Int) := by omega
    first
      | (rw [decide_eq_true q'] at h5; exact absurd h5 (by decide))
      | (simp at h5; omega)
  cases hwl with
  | cons w1 w2 =>
    cases w2
    cases w1 with
    | list ho hall => exact ⟨_, _, ns, rfl, rfl, ho, ints_of_wellAll ns _ hall, hlen⟩
theorem post_true (l : OpenLaw) (args : List WData) : l.row.toRowW.claim.post args (.bool true) args = true :=
  postW_of (r := l.row.toRowW) (X := (true == true))
    (show WShape.has [] (.bool true) .bool = true by first | rfl | decide | simp [WShape.has, WShape.arms, WShape.armsAll])
    (show (WTm.eq .res (.lit (.bool true))).value [] { args := args, res := some (.bool true), after := args } = some (.bool (true == true)) from w_eq_bool (w_res rfl) w_lit) rfl
theorem attach_call {l : OpenLaw} {n : Nat} {q : Program} {loose : List Str} {XP : (Str → Option Value) → Heap → Prop} {YP : World → Heap → Prop} {d : DefRec}
    (hn : l.most = some n) (hdf : d.params.defaults = [])
    (call : ∀ (w : World) (s₀ s₁ : Shared) (mg mb : Str → Option Value) (fa : Addr) (o : Obj) (pm cd doc : Value) (a : Addr) (vs : List Value) (ns : List Int),
      Ground q loose [] XP w s₀ mg mb s₁.heap → YP w s₁.heap →
      s₁.heap.get? fa = some o → o.data = .func (docDef d.name d.params d.body d.scope pm cd doc) → s₁.heap.CodeRec cd d.name → mg d.name = some (.ref fa) →
      s₁.heap.get? a = some { cls := .type "list", data := .seq vs.toArray } → IntsAre vs ns → ns.length ≤ n → s₁.gens = #[] →
      codeAny (model l.prog w) callerA (.call (.ref fa) ⟨[.ref a], []⟩) (fun r s' => r = .ok (.ret (.bool true)) ∧ OldK s₁.heap s'.heap ∧ s'.os = s₁.os ∧ AllBare s'.gens) s₁) :
    WalkO q loose XP YP l.row.toRowW d [] (fun f vs => PySem.call f vs) := by
  intro w s₀ s₁ mg mb G Y fa o pm cd doc dV kV ho hd hcd hD hmg hg args vals as hpre hlay hrd hwl hlo
  obtain rfl : dV = .none := Dflts.none hD hdf
  obtain rfl : kV = .none := Dflts.noKw hD
  obtain ⟨a, vs, ns, rfl, rfl, hobj, hints, hlen⟩ := script_of hn hpre hwl
  refine enter_call (codeAny_mono (call w s₀ s₁ mg mb fa o pm cd doc a vs ns G Y ho (fd_plain hd) hcd hmg hobj hints hlen hg) fun r s' hq => ?_)
  obtain ⟨rfl, h2, h3, h4⟩ := hq
  exact ⟨.inl ⟨.bool true, .bool true, [], rfl, fun _ => rfl, .bool true, post_true l _, fun _ => ⟨List.Pairwise.nil, fun _ hm => (nomatch hm)⟩⟩, h2, h3, h4⟩
end Att
namespace L2
open PySem PySem.Spec PyProof.Rows
theorem vals_ints : ∀ {vs : List Value} {ns : List Int}, IntsAre vs ns → Vals (ns.map V.int) vs
  | _, _, .nil => .nil
  | _, _, .cons n t h => .cons ⟨t, rfl⟩ (vals_ints h)
noncomputable def Only (H : Hp) : Prop := ∀ b, H b = none ∨ ∃ o xs, H b = some (.frz o (.lst xs))
theorem law_call {P : Program} {w : World} {K : PySem.W.Frag} {mg mb : Str → Option Value} {CX : CXT} {k : Nat} {fa a : Addr} {fd : FuncData} {x : Str} {sp : Sp} {s₁ : Shared} {vs : List Value} {ns : List Int}
    (KX : K.In s₁.heap) (hns : s₁.heap.Ns mainGlobals mg) (hb : s₁.heap.Ns builtinsNs mb) (hbb : ∀ x : Str, x ≠ "__name__" → mb x = bootBuiltins x) (hlim : s₁.heap.NoLimit) (hg : s₁.gens = #[])
    (ha : s₁.heap.get? a = some { cls := .type "list", data := .seq vs.toArray }) (hi : IntsAre vs ns) (hl : ns.length ≤ sizeLine) (hr : Room k callerA)
    (F : ∀ base : Heap, K.In base → base.Ns mainGlobals mg → FnOk P w K mg base CX k fa fd [x] sp) (hbind : ∀ (s : Shared) (u : Value), BindsTo s fd ⟨[u], []⟩ [(x, u)])
    (hsp : ∀ H : Hp, Only H → SqL K H a (ns.map V.int) → sp [.ref a] H (fun v _ => v = .bl true) fun _ _ _ => False)
    (hCX : ∀ H e s', CX [] H s₁ (fun _ _ _ => False) e s' → False) :
    codeAny (model P w) callerA (.call (.ref fa) ⟨[.ref a], []⟩) (fun r s' => r = .ok (.ret (.bool true)) ∧ OldK s₁.heap s'.heap ∧ s'.os = s₁.os ∧ AllBare s'.gens) s₁ := by
  have rv := vals_ints hi
  have lenV := hi.length
  have core : ∀ H : Hp, Only H → SqL K H a (ns.map V.int) → HOk P w H s₁.heap → (∀ b, H b ≠ none → b = a) → (H a ≠ none → K.lookup a = none) →
      codeAny (model P w) callerA (.call (.ref fa) ⟨[.ref a], []⟩) (fun r s' => r = .ok (.ret (.bool true)) ∧ OldK s₁.heap s'.heap ∧ s'.os = s₁.os ∧ AllBare s'.gens) s₁ := by
    intro H hO hS hok hA hK
    have base_of : ∀ {b : Addr} {o : Obj}, s₁.heap.get? b = some o → H b = none → (hidT s₁.heap H).get? b = some o := fun e n => hidT_get e n
    have noA : ∀ {b : Addr} {o : Obj} {es : Array DictEntry} {ep : Nat}, s₁.heap.get? b = some o → o.data = .dict es ep → H b = none := fun {b o es ep} e d => by
      cases q : H b with
      | none => rfl
      | some u =>
        have e' : b = a := hA b (by rw [q]; simp)
        subst e'
        rw [ha] at e; cases e
        have d' : Data.seq vs.toArray _ = Data.dict es ep := d
        cases d'
    have nsK : ∀ {b : Addr} {m : Str → Option Value}, s₁.heap.Ns b m → (hidT s₁.heap H).Ns b m := fun {b m} ⟨o, es, ep, e, d, r⟩ => ⟨o, es, ep, base_of e (noA e d), d, r⟩
    have hKb : K.In (hidT s₁.heap H) := fun b o e => base_of (KX b o e) (by
      cases q : H b with
      | none => rfl
      | some u =>
        have e' : b = a := hA b (by rw [q]; simp)
        subst e'
        rw [hK (by rw [q]; simp)] at e; cases e)
    have hM : Mod K mg (hidT s₁.heap H) := ⟨hKb, nsK hns, ⟨mb, nsK hb, hbb⟩, let ⟨mc, h1, h2⟩ := hlim; ⟨mc, nsK h1, h2⟩⟩
    have e0 : Env0 P w K mg (hidT s₁.heap H) callerA [] s₁ H := ⟨rfl, hM, fun b o e => of_hidT e, Nat.le_of_eq (hidT_size _ _), trivial, fun b hb => absurd (show b ∈ ([] : List Addr) from hb) (by simp), hok, .of_eq hg⟩
    refine codeAny_mono ((F _ hKb (nsK hns)).run callerA [] s₁ H ⟨[.ref a], []⟩ [.ref a] [.ref a] _ _ hr e0 (hbind s₁ (.ref a)) (.cons rfl .nil) (hsp H hO hS)) fun r s' h => ?_
    cases r with
    | error e => exact (hCX H e s' h).elim
    | ok fl =>
      cases fl with
      | next => exact False.elim h
      | brk => exact False.elim h
      | cont => exact False.elim h
      | ret u =>
        obtain ⟨v, H', os, bare, un, hok', r', q⟩ := h
        have q' : v = .bl true := q
        subst q'
        obtain rfl : u = Value.bool true := r'
        refine ⟨rfl, OldK.of_keep fun b o e => ?_, os, bare⟩
        cases q : H b with
        | none => exact un.keep b o e q (by intro z; exact absurd (show b ∈ ([] : List Addr) from z) (by simp)) (by simp)
        | some u =>
          rcases hO b with z | ⟨ob, xs, z⟩
          · rw [q] at z; cases z
          · have z2 := un.frzs b ob _ z
            obtain ⟨e1, _⟩ := hok b _ z
            obtain ⟨e2, _⟩ := hok' b _ z2
            rw [e] at e1; cases e1
            exact e2
  cases hk : K.lookup a with
  | some o =>
    have e := KX a o hk
    rw [ha] at e
    cases e
    refine core (fun _ => none) (fun _ => .inl rfl) (.inr ⟨_, vs.toArray, _, hk, rfl, rfl, rfl, by rw [List.size_toArray, lenV]; exact hl, by simpa using rv⟩) (fun b u z => by have z' : (none : Option HO) = some u := z; cases z') (fun b z => absurd rfl z) fun z => absurd rfl z
  | none =>
    refine core (fun b => if b = a then some (.frz { cls := .type "list", data := .seq vs.toArray } (.lst (ns.map V.int))) else none) (fun b => ?_) (.inl (.inr ⟨{ cls := .type "list", data := .seq vs.toArray }, if_pos rfl⟩)) (fun b u z => ?_) (fun b z => ?_) fun _ => hk
    · by_cases hb : b = a
      · exact .inr ⟨_, _, if_pos hb⟩
      · exact .inl (if_neg hb)
    · by_cases hb : b = a
      · have z' := (if_pos hb).symm.trans z
        cases z'
        subst hb
        exact ⟨ha, by rw [List.length_map]; exact hl, vs, _, rv, ha⟩
      · have z' := (if_neg hb).symm.trans z
        cases z'
    · by_cases hb : b = a
      · exact hb
      · exact absurd (if_neg hb) z
end L2
namespace L2
open PySem PySem.Spec PyProof.Rows
theorem walk_of {l : PySem.W.OpenLaw} {n k : Nat} {q : Program} {loose : List Str} {XP : (Str → Option Value) → Heap → Prop} {YP : World → Heap → Prop} {d : DefRec} {K : Params → PySem.W.Frag} {CX : World → CXT} {sp : World → Sp} {x : Str}
    (hn : l.most = some n) (hn2 : n ≤ sizeLine) (hdf : d.params.defaults = []) (hr : Room k callerA)
    (hY : ∀ (w : World) (h : Heap), YP w h → (K w.params).In h)
    (F : ∀ (w : World) (mg : Str → Option Value) (fa : Addr) (h : Heap), (K w.params).In h → h.Ns mainGlobals mg → mg d.name = some (.ref fa) →
      ∃ fd : FuncData, (∀ (s : Shared) (u : Value), BindsTo s fd ⟨[u], []⟩ [(x, u)]) ∧
        ∀ base : Heap, (K w.params).In base → base.Ns mainGlobals mg → FnOk l.prog w (K w.params) mg base (CX w) k fa fd [x] (sp w))
    (hsp : ∀ (w : World) (H : Hp) (a : Addr) (ns : List Int), ns.length ≤ n → Only H → SqL (K w.params) H a (ns.map V.int) → sp w [.ref a] H (fun v _ => v = .bl true) fun _ _ _ => False)
    (hCX : ∀ (w : World) (H : Hp) (s : Shared) (e : Value) (s' : Shared), CX w [] H s (fun _ _ _ => False) e s' → False) :
    PySem.W.WalkO q loose XP YP l.row.toRowW d [] (fun f vs => PySem.call f vs) := by
  refine Att.attach_call hn hdf fun w s₀ s₁ mg mb fa o pm cd doc a vs ns G Y ho hd hcd hmg hobj hints hlen hg => ?_
  have KX := hY w _ Y
  obtain ⟨fd, hb, hF⟩ := F w mg fa _ KX G.T.g hmg
  exact law_call KX G.T.g G.T.b G.T.builtins G.T.nolimit hg hobj hints (Nat.le_trans hlen hn2) hr hF hb (fun H hO hS => hsp w H a ns hlen hO hS) fun H e s' => hCX w H s₁ e s'
end L2
namespace L2
open PySem PySem.Spec PyProof.Rows
noncomputable def defArgs (s : Stmt) : Arguments := match s with
  | .FunctionDef _ a _ _ _ _ _ _ _ _ => a
  | _ => { posonlyargs := [], args := [], vararg := none, kwonlyargs := [], kw_defaults := [], kwarg := none, defaults := [] }
noncomputable def defBody (s : Stmt) : List Stmt := match s with
  | .FunctionDef _ _ b _ _ _ _ _ _ _ => b
  | _ => []
noncomputable def defScope (s : Stmt) : Scope := match s with
  | .FunctionDef _ _ _ _ _ _ sc _ _ _ => sc
  | _ => { kind := .function, names := [], isGenerator := false, isCoroutine := false }
noncomputable abbrev CX0 : CXT := fun _ _ _ _ _ _ => False
noncomputable abbrev E0 : XK := fun _ _ _ => False
theorem pass0 {X : Cx} : Passes CX0 X E0 := fun _ _ _ _ _ _ _ h => h.elim
structure Fun (K : PySem.W.Frag) (x qual : Str) (st : Stmt) (f : Addr) (fd : FuncData) : Prop where
  ex : ∃ (oc : Value) (od : Option Addr) (kV doc pm : Value) (an : Option Addr) (cdv ct : Value) (osl : Array (Option Value)),
    fd = PySem.W.fnOf x qual (defArgs st) (defBody st) (defScope st) .none kV doc pm an cdv ct ∧ K.lookup f = some ⟨oc, od, .func fd, osl⟩ ∧ PySem.W.codeIn K cdv qual = true
  kp : PySem.W.keepIn K (.ref f) = true
section
variable {P : Program} {w : World} {K : PySem.W.Frag} {mg : Str → Option Value} {base : Heap}
theorem Fun.ok {x qual : Str} {st : Stmt} {f : Addr} {fd : FuncData} {N ps : List Str} {k : Nat} {sp : Sp} (F : Fun K x qual st f fd) (S : FnScope N ps (defScope st)) (len : ∀ vs H Q E, sp vs H Q E → vs.length = ps.length)
    (hbody : ∀ (cdv : Value) (A : Around) (outer : List Env) (s : Shared) (H : Hp) (vs : List V) (Q : VK) (E : XK), Room k (A.deeper (envOfC qual (defScope st) s.heap.objs.size f cdv)) → sp vs H Q E →
      ∃ t, PSs (cxOf CX0 P w K mg base N qual (defScope st) f cdv A outer s H E).nox (defBody st) t ∧ t { nx := fun _ H' => Q .non H', rt := Q } (start N vs) H) : FnOk P w K mg base CX0 (k + 1) f fd ps sp := by
  obtain ⟨oc, od, kV, doc, pm, an, cdv, ct, osl, rfl, lk, hcd⟩ := F.ex
  refine fn_of lk hcd S len fun A outer s H vs Q E hr hsp => ?_
  obtain ⟨t, h, q⟩ := hbody cdv A outer s H vs Q E hr hsp
  exact ⟨t, h.nox, q⟩
theorem Fun.binds {x qual : Str} {st : Stmt} {f : Addr} {fd : FuncData} {ps : List Str} (F : Fun K x qual st f fd)
    (h : ∀ (kV doc pm : Value) (an : Option Addr) (cdv ct : Value) (us : List Value), us.length = ps.length → bindArgs (PySem.W.fnOf x qual (defArgs st) (defBody st) (defScope st) .none kV doc pm an cdv ct) ⟨us, []⟩ = pure (ps.zip us)) : Binds K fd ps [] := by
  obtain ⟨oc, od, kV, doc, pm, an, cdv, ct, osl, rfl, lk, hcd⟩ := F.ex
  exact .all (h kV doc pm an cdv ct)
theorem fun_mk {x qual : Str} {st : Stmt} {f : Addr} {oc : Value} {od an : Option Addr} {osl : Array (Option Value)} {kV doc pm cdv ct : Value} (l : K.lookup f = some ⟨oc, od, .func (PySem.W.fnOf x qual (defArgs st) (defBody st) (defScope st) .none kV doc pm an cdv ct), osl⟩)
    (c : PySem.W.codeIn K cdv qual = true) (k : PySem.W.keepIn K (.ref f) = true) : Fun K x qual st f (PySem.W.fnOf x qual (defArgs st) (defBody st) (defScope st) .none kV doc pm an cdv ct) := ⟨⟨oc, od, kV, doc, pm, an, cdv, ct, osl, rfl, l, c⟩, k⟩
end
theorem small1000 {n : Nat} (h : n ≤ 1000) : n < sizeLine := Nat.lt_of_le_of_lt h (by decide)
section
variable {X : Cx}
theorem pv (i : Nat) {x : Str} {pos : Pos} (hN : X.N[i]? = some x := by rfl) (hv : Vis X.env.scope x := by first | exact Or.inl rfl | exact Or.inr (Or.inl rfl) | exact Or.inr (Or.inr rfl)) (hd : (x == ("__debug__" : Str)) = false := by decide)
    (hcd : (x == ("__classdict__" : Str)) = false := by decide) : PE X (.Name x pos) (tVar i) := pe_var hN hv hd hcd
theorem call_lenD : CallR X (.builtin "len") (fun xs H Q => ∃ a kvs, xs = [V.ref a] ∧ H a = some (.dK kvs) ∧ Q (.int kvs.length) H) := by
  intro pins s σ H xs us Q I r h
  obtain ⟨a, kvs, rfl, ha, q⟩ := h
  obtain ⟨u, rfl, ru⟩ := vals1 r
  cases ru
  exact d_len I (.inl ha) fun t s' I' => ⟨.int kvs.length, H, I', ⟨t, rfl⟩, q⟩
end
theorem iteF {A B : Prop} (h : B) : if false = true then A else B := by
  rw [if_neg Bool.false_ne_true]
  exact h
theorem iteT {A B : Prop} (h : A) : if true = true then A else B := by
  rw [if_pos rfl]
  exact h
theorem ite2 {c A B : Prop} [Decidable c] (h1 : c → A) (h2 : ¬ c → B) : if c then A else B := by
  by_cases h : c
  · rw [if_pos h]
    exact h1 h
  · rw [if_neg h]
    exact h2 h
noncomputable def Same (H H' : Hp) : Prop := ∀ b o, H b = some o → H' b = some o
theorem Same.refl (H : Hp) : Same H H := fun _ _ h => h
theorem Same.trans {H H1 H2 : Hp} (a : Same H H1) (b : Same H1 H2) : Same H H2 := fun c o h => b c o (a c o h)
section
variable {κ : Type} [DecidableEq κ]
theorem valV_not {kvs : List (κ × V)} {k : κ} (h : valV kvs k = none) : ¬ k ∈ kvs.map (·.1) := by
  intro m
  obtain ⟨p, hp, e⟩ := List.mem_map.mp m
  have q : (kvs.any fun kv => decide (kv.1 = k)) = true := List.any_eq_true.mpr ⟨p, hp, decide_eq_true e⟩
  rw [valV_any, h] at q
  exact absurd q (by simp)
theorem valV_in {kvs : List (κ × V)} {k : κ} {v : V} (h : valV kvs k = some v) : k ∈ kvs.map (·.1) := by
  have q : (kvs.any fun kv => decide (kv.1 = k)) = true := by
    rw [valV_any, h]
    all_goals rfl
  obtain ⟨p, hp, e⟩ := List.any_eq_true.mp q
  exact List.mem_map.mpr ⟨p, hp, of_decide_eq_true e⟩
theorem nd_snoc : ∀ {l : List κ} {k : κ}, l.Nodup → ¬ k ∈ l → (l ++ [k]).Nodup
  | [], k, _, _ => by simp
  | a :: r, k, h, hk => by
    obtain ⟨h1, h2⟩ := List.nodup_cons.mp h
    show (a :: (r ++ [k])).Nodup
    refine List.nodup_cons.mpr ⟨fun m => ?_, nd_snoc h2 fun m => hk (List.mem_cons.mpr (Or.inr m))⟩
    rcases List.mem_append.mp m with q | q
    · exact h1 q
    · exact hk (List.mem_cons.mpr (Or.inl (List.mem_singleton.mp q).symm))
theorem nd_putK {kvs : List (κ × V)} {k : κ} (v : V) (hn : (kvs.map (·.1)).Nodup) (h : valV kvs k = none) : ((putK kvs k v).map (·.1)).Nodup := by
  rw [putK_new v h, List.map_append]
  exact nd_snoc hn (valV_not h)
end
end L2
set_option maxHeartbeats 4000000
namespace L2
open PySem PySem.Spec PyProof.Rows
theorem clos_go {env : Env} {f : Str × NameKind → List (Str × Addr) → Sem (ForInStep (List (Str × Addr)))}
    (f1 : ∀ n k r, k ≠ NameKind.free → f (n, k) r = pure (.yield r))
    (f2 : ∀ n c r, env.cells.lookup n = some c → f (n, NameKind.free) r = pure (.yield ((n, c) :: r))) :
    ∀ (names : List (Str × NameKind)) (acc : List (Str × Addr)),
    (∀ y ∈ names, y.2 = NameKind.free → ∃ c, env.cells.lookup y.1 = some c) →
    (∀ x c, acc.lookup x = some c → env.cells.lookup x = some c) →
    ∃ cl, forIn names acc f = (pure cl : Sem (List (Str × Addr))) ∧ (∀ x c, cl.lookup x = some c → env.cells.lookup x = some c) ∧
      (∀ x, (acc.lookup x).isSome = true → (cl.lookup x).isSome = true) ∧ ∀ y ∈ names, y.2 = NameKind.free → (cl.lookup y.1).isSome = true
  | [], acc, _, h => ⟨acc, by rw [List.forIn_nil], h, fun _ q => q, fun y hy => nomatch hy⟩
  | (n, k) :: r, acc, hn, h => by
    by_cases hk : k = NameKind.free
    · subst hk
      obtain ⟨c, hc⟩ := hn (n, .free) List.mem_cons_self rfl
      have hc' : env.cells.lookup n = some c := hc
      obtain ⟨cl, e, a, b, d⟩ := clos_go f1 f2 r ((n, c) :: acc) (fun y hy => hn y (List.mem_cons_of_mem _ hy)) (fun x c' q => by
        rw [List.lookup_cons] at q
        cases e : x == n with
        | true =>
          rw [e] at q
          cases q
          rw [show x = n from LawfulBEq.eq_of_beq e]
          exact hc'
        | false =>
          rw [e] at q
          exact h x c' q)
      refine ⟨cl, ?_, a, fun x q => b x ?_, fun y hy hf => ?_⟩
      · rw [List.forIn_cons, f2 n c acc hc', pure_bind]
        exact e
      · rw [List.lookup_cons]
        cases x == n with
        | true => rfl
        | false => exact q
      · rcases List.mem_cons.mp hy with rfl | hy
        · refine b _ ?_
          rw [List.lookup_cons]
          simp
        · exact d y hy hf
    · obtain ⟨cl, e, a, b, d⟩ := clos_go f1 f2 r acc (fun y hy => hn y (List.mem_cons_of_mem _ hy)) h
      refine ⟨cl, ?_, a, b, fun y hy hf => ?_⟩
      · rw [List.forIn_cons, f1 n k acc hk, pure_bind]
        exact e
      · rcases List.mem_cons.mp hy with rfl | hy
        · exact absurd hf hk
        · exact d y hy hf
theorem clos_ok {scope : Scope} {env : Env} (hf : ∀ y ∈ scope.names, y.2 = NameKind.free → ∃ c, env.cells.lookup y.1 = some c) :
    ∃ cl, closureFor scope env = pure cl ∧ (∀ x c, cl.lookup x = some c → env.cells.lookup x = some c) ∧
      ∀ y ∈ scope.names, y.2 = NameKind.free → ∃ c, cl.lookup y.1 = some c := by
  have go := clos_go (env := env) (f := fun (x : Str × NameKind) (r : List (Str × Addr)) => match x with
      | (name, kind) => if (kind == NameKind.free) = true then do let c ← cellOf env name; pure (ForInStep.yield ((name, c) :: r)) else pure (ForInStep.yield r))
    (fun n k r hk => by
      have z : (k == NameKind.free) = false := by simpa using hk
      simp only [z, Bool.false_eq_true, if_false])
    (fun n c r hc => by
      simp only [beq_self_eq_true, if_true, cellOf, hc, pure_bind])
    scope.names [] hf (fun x c q => by cases q)
  obtain ⟨cl, e, a, _, d⟩ := go
  refine ⟨cl, ?_, a, fun y hy z => Option.isSome_iff_exists.mp (d y hy z)⟩
  simp only [closureFor]
  first
    | exact e
    | (simp only [bind_pure]; exact e)
    | (refine Eq.trans ?_ e; simp only [bind_pure])
noncomputable def cxC (X : Cx) (scope : Scope) (N : List Str) (cl : List (Str × Addr)) (C : Addr) (s₀ : Shared) (H₀ : Hp) (ex : List Addr) : Cx where
  prog := X.prog
  w := X.w
  K := X.K
  mg := X.mg
  base := X.base
  A := X.A
  N := N
  s₀ := s₀
  H₀ := H₀
  env := compEnvC scope cl C X.env
  outer := X.stack
  stack := X.stack
  ex := ex
  fn := fun _ => false
  calm := X.calm
  pn := []
  xe := fun _ _ => False
noncomputable def inSt (k : Nat) (fr : List Nat) (σ : St) : St := List.replicate k none ++ fr.map fun i => (σ[i]?).join
noncomputable def frOk (osc scope : Scope) (NX : List Str) (fr : List Nat) : Bool := fr.all fun i => match NX[i]? with
  | some x => (decide (osc.names.lookup x = some .cell) || decide (osc.names.lookup x = some .free)) && decide (scope.names.lookup x = some .free)
  | none => false
structure CompSc (osc scope : Scope) (NX own : List Str) (fr : List Nat) (N : List Str) : Prop where
  kind : scope.kind = .function
  nocell : ∀ y ∈ scope.names, y.2 ≠ NameKind.cell
  loc : ∀ y ∈ scope.names, y.2 = NameKind.local → scope.names.lookup y.1 = some .local
  free : ∀ y ∈ scope.names, y.2 = NameKind.free → osc.names.lookup y.1 = some .cell ∨ osc.names.lookup y.1 = some .free
  names : N.map some = own.map some ++ fr.map fun i => NX[i]?
  outer : frOk osc scope NX fr = true
noncomputable def compOk (osc scope : Scope) (NX own : List Str) (fr : List Nat) (N : List Str) : Bool :=
  decide (scope.kind = .function) && (scope.names.all (fun y => decide (y.2 ≠ NameKind.cell)) && (scope.names.all (fun y => decide (y.2 = NameKind.local → scope.names.lookup y.1 = some .local)) &&
    (scope.names.all (fun y => decide (y.2 = NameKind.free → (osc.names.lookup y.1 = some .cell ∨ osc.names.lookup y.1 = some .free))) && (decide (N.map some = own.map some ++ fr.map fun i => NX[i]?) && frOk osc scope NX fr))))
theorem CompSc.of {osc scope : Scope} {NX own : List Str} {fr : List Nat} {N : List Str} (h : compOk osc scope NX own fr N = true) : CompSc osc scope NX own fr N := by
  unfold compOk at h
  simp only [Bool.and_eq_true, decide_eq_true_eq, List.all_eq_true] at h
  obtain ⟨h1, h2, h3, h4, h5, h6⟩ := h
  exact ⟨h1, h2, h3, h4, h5, h6⟩
theorem CompSc.len {osc scope : Scope} {NX own : List Str} {fr : List Nat} {N : List Str} (S : CompSc osc scope NX own fr N) : N.length = own.length + fr.length := by
  have h := congrArg List.length S.names
  simpa using h
theorem lookup_relabel_free {env : Env} : ∀ {names : List (Str × NameKind)} {x : Str}, names.lookup x = some .free →
    (names.map fun (n, k) => if (k == NameKind.free && env.scope.kind == .function && env.kindOf n == some .cell) then (n, NameKind.cell) else (n, k)).lookup x = some .cell ∨
    (names.map fun (n, k) => if (k == NameKind.free && env.scope.kind == .function && env.kindOf n == some .cell) then (n, NameKind.cell) else (n, k)).lookup x = some .free
  | [], _, h => by simp at h
  | (n, k) :: r, x, h => by
    have ih := @lookup_relabel_free env r x
    cases hx : x == n with
    | true =>
      simp only [List.lookup_cons, hx] at h
      cases h
      simp only [List.map_cons]
      split
      · left; simp [List.lookup_cons, hx]
      · right; simp [List.lookup_cons, hx]
    | false =>
      simp only [List.lookup_cons, hx] at h
      simp only [List.map_cons]
      split
      · simp only [List.lookup_cons, hx]; exact ih h
      · simp only [List.lookup_cons, hx]; exact ih h
theorem of_relabel {env : Env} : ∀ {names : List (Str × NameKind)} {x : Str} {k' : NameKind},
    (names.map fun (n, k) => if (k == NameKind.free && env.scope.kind == .function && env.kindOf n == some .cell) then (n, NameKind.cell) else (n, k)).lookup x = some k' →
    k' = .cell ∨ k' = .free → (∀ y ∈ names, y.2 ≠ NameKind.cell) → ∃ y ∈ names, y.1 = x ∧ y.2 = .free
  | [], _, _, h, _, _ => by simp at h
  | (n, k) :: r, x, k', h, hk, nc => by
    have ih := @of_relabel env r x k'
    simp only [List.map_cons] at h
    cases hx : x == n with
    | true =>
      have ex : x = n := LawfulBEq.eq_of_beq hx
      refine ⟨(n, k), List.mem_cons_self, ex.symm, ?_⟩
      have nck : k ≠ .cell := nc (n, k) List.mem_cons_self
      by_cases z : k = .free
      · exact z
      · have zb : (k == NameKind.free) = false := by simpa using z
        simp only [zb, Bool.false_and, Bool.false_eq_true, if_false, List.lookup_cons, hx] at h
        cases h
        rcases hk with q | q
        · exact absurd q nck
        · exact absurd q z
    | false =>
      have h' : (r.map fun (n, k) => if (k == NameKind.free && env.scope.kind == .function && env.kindOf n == some .cell) then (n, NameKind.cell) else (n, k)).lookup x = some k' := by
        split at h
        · simpa only [List.lookup_cons, hx] using h
        · simpa only [List.lookup_cons, hx] using h
      obtain ⟨y, hy, a, b⟩ := ih h' hk fun z hz => nc z (List.mem_cons_of_mem _ hz)
      exact ⟨y, List.mem_cons_of_mem _ hy, a, b⟩
section
variable {X : Cx} {pins : List (Addr × Obj)} {σ : St} {H : Hp} {s : Shared}
noncomputable def PTs (X : Cx) (ifs : List Expr) (t : TT) : Prop :=
  ∀ (pins : List (Addr × Obj)) (s : Shared) (σ : St) (H : Hp) (Q : Bool → Hp → Prop), Inv X pins σ H s → t σ H Q →
    wpAny (model X.prog X.w) X.A (forIn ifs true fun c r => if r = true then do let ok ← isTrue c X.env (eval c X.env); pure (ForInStep.yield ok) else pure (ForInStep.yield r)) (TP X pins σ Q) X.xe s
noncomputable def tYes : TT := fun _ H Q => Q true H
theorem pts_nil : PTs X [] tYes := fun _ _ _ H _ I h => wpAny_tests_nil ⟨H, I, h⟩
theorem pts_one {c : Expr} {t : TT} (h : PT X c t) : PTs X [c] t := fun pins s σ H Q I q => wpAny_tests_one (h pins s σ H Q I q)
theorem nx {α : Type} {t : Sem α} {Q Q' : α → Shared → Prop} {M : Model} {A : Around} {E : Value → Shared → Prop} {s : Shared} (h : wpAny M A t Q (fun _ _ => False) s) (hQ : ∀ a s, Q a s → Q' a s) : wpAny M A t Q' E s :=
  wpAny_mono h hQ fun _ _ f => f.elim
theorem inv_block {scope : Scope} {own : List Str} {fr : List Nat} {N : List Str} {cl : List (Str × Addr)} {s3 s4 : Shared} {H3 : Hp} {fp : List Addr} {m : Str → Option Value}
    (hc : X.calm = true) (S : CompSc X.env.scope scope X.N own fr N)
    (c1 : ∀ x c, cl.lookup x = some c → X.env.cells.lookup x = some c) (c2 : ∀ y ∈ scope.names, y.2 = NameKind.free → ∃ c, cl.lookup y.1 = some c)
    (I3 : Inv X pins σ H3 s3) (f3 : ∀ b ∈ fp, FpOk X pins H3 b ∧ b < s3.heap.objs.size)
    (hk : ∀ b o, s3.heap.get? b = some o → s4.heap.get? b = some o) (hn : s4.heap.Ns s3.heap.objs.size m) (ho : s4.os = s3.os) (hg : s4.gens = s3.gens) :
    Inv (cxC X scope N cl s3.heap.objs.size s3 H3 fp) [] (inSt own.length fr σ) H3 s4 := by
  have kindF : (compEnvC scope cl s3.heap.objs.size X.env).scope.kind = .function := by
    show (relabel scope X.env).kind = .function
    exact S.kind
  refine ⟨⟨I3.ok.mod, kindF, I3.ok.glob, I3.ok.blt, Nat.le_refl _, ?_, ?_, ?_, I3.ok.hd, I3.ok.frames, .inl rfl, ?_, ?_, ?_, ?_, ?_, I3.stack, I3.stkFree⟩, ho, ?_, Un.kept hk, ⟨m, hn, ?_⟩, ?_, ?_, ?_, ?_, I3.hok.kept hk, ?_⟩
  · exact fun x y c h1 h2 => I3.ok.inj x y c (c1 x c h1) (c1 y c h2)
  · intro x hx
    have hx' : (relabel scope X.env).names.lookup x = some .cell ∨ (relabel scope X.env).names.lookup x = some .free := hx
    obtain ⟨k', hk', hkk⟩ : ∃ k', (relabel scope X.env).names.lookup x = some k' ∧ (k' = NameKind.cell ∨ k' = NameKind.free) := by
      rcases hx' with q | q
      · exact ⟨_, q, .inl rfl⟩
      · exact ⟨_, q, .inr rfl⟩
    obtain ⟨y, hy, e, hf⟩ := of_relabel (env := X.env) hk' hkk S.nocell
    subst e
    exact c2 y hy hf
  · exact fun x c h => by cases h
  · intro b hb
    obtain ⟨f, hl⟩ := f3 b hb
    refine ⟨Nat.ne_of_lt hl, fun x c h => f.2.2.2.2.1 x c (c1 x c h)⟩
  · exact fun b o e => I3.bs b o e
  · exact Nat.le_trans I3.ok.bsz I3.sz
  · intro b o e hb
    obtain ⟨f, hl⟩ := f3 b hb
    rcases f.2.2.2.1 with z | z
    · exact I3.ok.noex b o e z
    · exact absurd (Nat.lt_of_lt_of_le (Heap.lt_size e) (Nat.le_trans I3.ok.bsz z)) (Nat.lt_irrefl _)
  · intro b hb
    obtain ⟨f, hl⟩ := f3 b hb
    show b ∉ frs X.stack
    intro z
    rcases List.mem_cons.mp (I3.stkSub b z) with q | q
    · exact f.2.1 q
    · exact f.2.2.1 q
  · rw [hg]; exact I3.bare
  · intro i x v h1 h2 h3
    have h1 : N[i]? = some x := h1
    obtain ⟨m0, hn0, hl0⟩ := I3.loc
    have hi : own.length ≤ i := by
      refine Nat.le_of_not_lt fun q => ?_
      unfold inSt at h2
      rw [List.getElem?_append_left (by simpa using q), List.getElem?_replicate] at h2
      split at h2 <;> cases h2
    obtain ⟨j, rfl⟩ := Nat.exists_eq_add_of_le hi
    have h2' : (fr.map fun i => (σ[i]?).join)[j]? = some (some v) := by
      unfold inSt at h2
      rw [List.getElem?_append_right (by simp)] at h2
      simpa using h2
    rw [List.getElem?_map] at h2'
    cases ej : fr[j]? with
    | none => rw [ej] at h2'; cases h2'
    | some k =>
      rw [ej] at h2'
      have e2 : (σ[k]?).join = some v := Option.some.inj h2'
      have eσ : σ[k]? = some (some v) := by
        cases q : σ[k]? with
        | none => rw [q] at e2; cases e2
        | some o => rw [q] at e2; exact congrArg some e2
      have eN : X.N[k]? = some x := by
        have q := congrArg (fun l => l[own.length + j]?) S.names
        simp only [List.getElem?_map, h1, List.getElem?_append_right (show (own.map some).length ≤ own.length + j by simp), List.length_map, Nat.add_sub_cancel_left, ej, Option.map_some] at q
        exact (Option.some.inj q).symm
      have ok := List.all_eq_true.mp S.outer k (List.mem_of_getElem? ej)
      rw [eN] at ok
      simp only [Bool.and_eq_true, Bool.or_eq_true, decide_eq_true_eq] at ok
      obtain ⟨ok1, ok2⟩ := ok
      have vis : Vis X.env.scope x := .inr ok1
      obtain ⟨u, r, l⟩ := hl0 k x v eN eσ vis
      refine ⟨u, r, ?_⟩
      rcases l with ⟨l, _⟩ | ⟨_, c, e, z⟩
      · have l : X.env.scope.names.lookup x = some .local := l
        rcases ok1 with q | q
        · rw [l] at q; cases q
        · rw [l] at q; cases q
      · obtain ⟨c', e'⟩ := c2 (x, .free) (PySem.mem_of_lookup ok2) rfl
        have e' : cl.lookup x = some c' := e'
        have ec : c' = c := Option.some.inj ((c1 x c' e').symm.trans e)
        subst ec
        refine .inr ⟨lookup_relabel_free (env := X.env) ok2, c', e', ?_⟩
        obtain ⟨o, h1, h2⟩ := z
        exact ⟨o, hk _ _ h1, h2⟩
  · intro x c e
    obtain ⟨v, o, h1, h2⟩ := I3.cell x c (c1 x c e)
    exact ⟨v, o, hk _ _ h1, h2⟩
  · exact I3.hok.fresh (Nat.le_refl _)
  · exact fun x c e => I3.freeC x c (c1 x c e)
  · intro p hp
    exact absurd hp (by simp [cxC])
  · show (inSt own.length fr σ).length = N.length
    rw [S.len]
    simp [inSt]
end
section
variable {prog : Program} {w : World} {A : Around} {R : Result → Shared → Prop} {s : Shared}
theorem comp_loop {elt tg iter : Expr} {ifs : List Expr} {scope : Scope} {pos : Pos} {it acc : Value} {env : Env} (J : Nat → Shared → Prop)
    (turn : ∀ k s, J k s → ∀ E : Value → Shared → Prop, wpAny (model prog w) A (pyNext it) (fun r s1 => match r with
      | none => R (.ok .next) s1
      | some v => wpAny (model prog w) A (letOwnedTupleGo tg it v) (fun _ s2 => wpAny (model prog w) A (assign tg env v) (fun _ s3 =>
          wpAny (model prog w) A (forIn ifs true fun c r => if r = true then do let ok ← isTrue c env (eval c env); pure (ForInStep.yield ok) else pure (ForInStep.yield r)) (fun ok s4 =>
            if ok = true then wpAny (model prog w) A (eval elt env) (fun x s5 => wpAny (model prog w) A (call (.builtin "list.append") [acc, x]) (fun _ s6 => ∃ m, m < k ∧ J m s6) E s5) E s4
            else ∃ m, m < k ∧ J m s4) E s3) E s2) E s1) E s)
    (k : Nat) (h : J k s) : codeAny (model prog w) A (.compLoop (.ListComp elt [⟨tg, iter, ifs, 0⟩] scope pos) 0 it acc env) R s := by
  refine codeAny_loop rfl J (fun k s hJ => ?_) k h
  show wpAny _ A ((compTurn (.ListComp elt [⟨tg, iter, ifs, 0⟩] scope pos) 0 it acc env).onRaise (fun e => do noteFrame e env; theTreesLotGoes e)) _ _ s
  refine wpAny_noted ?_
  rw [compTurn_list]
  refine wpAny_bind (wpAny_standAt (wpAny_bind (thn (turn k s hJ _) fun r s1 h1 => ?_)))
  cases r with
  | none => exact wpAny_pure h1
  | some v =>
    refine wpAny_bind (thn h1 fun _ s2 h2 => wpAny_bind (thn h2 fun _ s3 h3 => wpAny_bind (thn h3 fun ok s4 h4 => ?_)))
    cases ok with
    | false => exact wpAny_pure ⟨rfl, h4⟩
    | true => exact wpAny_bind (wpAny_bind (thn h4 fun x s5 h5 => wpAny_bind (thn h5 fun _ s6 h6 => wpAny_pure (wpAny_pure ⟨rfl, h6⟩))))
end
noncomputable def tCompW (k : Nat) (fr : List Nat) (g : TG) (tc : TT) (te : TE) (J : It) (σ : St) (H1 : Hp) (Q : VK) : Prop :=
  ∀ D, H1 D = none → ∃ W : Nat → Nat → List V → St → Hp → Prop, (∃ m, W 0 m [] (inSt k fr σ) (upd H1 D (.lst []))) ∧ ∀ i m acc σ' H', W i m acc σ' H' → H' D = some (.lst acc) →
    (J.stop i H' ∧ Q (.ref D) H') ∨ (J.go i H' ∧ ∃ N : List V → St → Hp → Prop, (∀ acc' σ2 H2, N acc' σ2 H2 → ∃ m', m' < m ∧ W (i + 1) m' acc' σ2 H2) ∧ ∀ x H2, J.yld i H' x H2 → g x σ' H2 fun σ2 H3 => tc σ2 H3 fun b H4 =>
      if b = true then te σ2 H4 fun y H5 => H5 D = some (.lst acc) ∧ acc.length < sizeLine ∧ N (acc ++ [y]) σ2 (upd H5 D (.lst (acc ++ [y])))
      else H4 D = some (.lst acc) ∧ N acc σ2 H4)
noncomputable def tComp (k : Nat) (fr : List Nat) (wi : TI) (g : TG) (tc : TT) (te : TE) : TE := fun σ H Q => wi σ H fun J H1 => tCompW k fr g tc te J σ H1 Q
section
variable {X : Cx} {pins : List (Addr × Obj)} {σ : St} {H : Hp} {s : Shared} {tg elt iter : Expr} {ifs : List Expr} {scope : Scope} {pos : Pos}
theorem comp_block {own : List Str} {fr : List Nat} {N : List Str} {cl : List (Str × Addr)} {H2 : Hp} {s2 : Shared} {fp : List Addr} {it : Addr} {J : It} {tn : Nat → Heap → Prop} {g : TG} {tc : TT} {te : TE} {Q : VK} {E : Value → Shared → Prop} {POST : Value → Addr → Result → Shared → Prop}
    (hc : X.calm = true) (S : CompSc X.env.scope scope X.N own fr N)
    (c1 : ∀ x c, cl.lookup x = some c → X.env.cells.lookup x = some c) (c2 : ∀ y ∈ scope.names, y.2 = NameKind.free → ∃ c, cl.lookup y.1 = some c)
    (hg : ∀ C s₀ H₀ ex, PG (cxC X scope N cl C s₀ H₀ ex) tg g) (ht : ∀ C s₀ H₀ ex, PTs (cxC X scope N cl C s₀ H₀ ex) ifs tc) (he : ∀ C s₀ H₀ ex, PE (cxC X scope N cl C s₀ H₀ ex) elt te)
    (I2 : Inv X pins σ H2 s2) (T : Turn X.prog X.w X.K tg J fp it tn) (t2 : tn 0 s2.heap) (f2 : ∀ b ∈ fp, FpOk X pins H2 b) (q : tCompW own.length fr g tc te J σ H2 Q)
    (fin : ∀ D C s' H' m, Inv X pins σ H' s' → FpOk X pins H' C → s'.heap.Ns C m → Q (.ref D) H' → POST (.ref D) C (.ok .next) s') :
    wpAny (model X.prog X.w) X.A (newList []) (fun acc s3 => wpAny (model X.prog X.w) X.A (newFunctionEnv scope X.env.globals cl [] X.env.qual none .none (some X.env)) (fun cenv s4 =>
      codeAny (model X.prog X.w) X.A (.compStart (.ListComp elt [⟨tg, iter, ifs, 0⟩] scope pos) 0 (.ref it) acc { cenv with scope := relabel scope X.env }) (POST acc cenv.locals) s4) E s3) E s2 := by
  refine wpAny_newObj_type (wpAny_newFunctionEnv S.nocell (by intro y hy; simp at hy) (fun h4 ns4 sb4 => ?_) S.kind)
  dsimp only at ns4 sb4 ⊢
  have hD : H2 s2.heap.objs.size = none := I2.hok.fresh (Nat.le_refl _)
  obtain ⟨W, ⟨m0, w0⟩, turn⟩ := q s2.heap.objs.size hD
  have I3 : Inv X pins σ (upd H2 s2.heap.objs.size (.lst [])) { s2 with heap := s2.heap.push { cls := .type "list", dict := none, data := .seq ([] : List Value).toArray }, toks := s2.toks } :=
    I2.laid (fun b u q => Heap.get?_push_of_some _ q) (Nat.le_refl _) ⟨Nat.zero_le _, [], _, .nil, Heap.get?_push_size _ rfl⟩
  generalize hh3 : s2.heap.push { cls := .type "list", dict := none, data := .seq ([] : List Value).toArray } = h3 at *
  have z3 : h3.objs.size = s2.heap.objs.size + 1 := by rw [← hh3, Heap.size_push]
  have k23 : ∀ b o, s2.heap.get? b = some o → h3.get? b = some o := fun b o e => by rw [← hh3]; exact Heap.get?_push_of_some _ e
  have k34 : ∀ b o, h3.get? b = some o → h4.get? b = some o := fun b o e => sb4.extBut b o (Nat.ne_of_lt (Heap.lt_size e)) (Heap.get?_push_of_some _ e)
  have fpl : ∀ b ∈ fp, b < s2.heap.objs.size := fun b hb => by
    obtain ⟨o, e, _⟩ := T.obj _ _ t2 b hb
    exact Heap.lt_size e
  have f3 : ∀ b ∈ fp, FpOk X pins (upd H2 s2.heap.objs.size (.lst [])) b ∧ b < h3.objs.size := fun b hb => by
    refine ⟨⟨?_, (f2 b hb).2⟩, by rw [z3]; exact Nat.lt_succ_of_lt (fpl b hb)⟩
    rw [upd_ne (Nat.ne_of_lt (fpl b hb))]
    exact (f2 b hb).1
  generalize hs3 : ({ s2 with heap := h3, toks := s2.toks } : Shared) = s3 at I3
  have es3 : s3.heap = h3 := by rw [← hs3]
  have hs3' : ({ s2 with heap := h3 } : Shared) = s3 := hs3
  have I4 := inv_block (s3 := s3) (s4 := { s3 with heap := h4, toks := s3.toks + ([] : List (Str × Value)).length }) hc S c1 c2 I3 (by rw [es3]; exact f3) (by rw [es3]; exact k34) (m := fun x => ([] : List (Str × Value)).reverse.lookup x) (by rw [es3]; exact ns4) rfl rfl
  rw [es3] at I4
  have stat : ∀ {H' : Hp} {s' : Shared} {σ' : St} {pl : List (Addr × Obj)}, Inv (cxC X scope N cl h3.objs.size s3 (upd H2 s2.heap.objs.size (.lst [])) fp) pl σ' H' s' → (∀ p ∈ pl, p.1 ∉ fp) → (∀ b ∈ fp, H' b = none) → ∀ b ∈ fp, FpOk (cxC X scope N cl h3.objs.size s3 (upd H2 s2.heap.objs.size (.lst [])) fp) pl H' b := fun {H' s' σ' pl} I' hpl hn b hb => by
    refine ⟨hn b hb, Nat.ne_of_lt (f3 b hb).2, I'.ok.exfs b hb, .inl hb, fun x c e => (f2 b hb).2.2.2.2.1 x c (c1 x c e), fun p hp => ?_⟩
    intro z
    exact hpl p (by simpa [cxC] using hp) (z ▸ hb)
  have loop : ∀ s4 : Shared, s4 = { s3 with heap := h4, toks := s3.toks + ([] : List (Str × Value)).length } →
      codeAny (model X.prog X.w) X.A (.compLoop (.ListComp elt [⟨tg, iter, ifs, 0⟩] scope pos) 0 (.ref it) (.ref s2.heap.objs.size) (compEnvC scope cl h3.objs.size X.env)) (POST (.ref s2.heap.objs.size) h3.objs.size) s4 := by
    rintro s4 rfl
    refine comp_loop (fun n s' => ∃ i acc σ' H', Inv (cxC X scope N cl h3.objs.size s3 (upd H2 s2.heap.objs.size (.lst [])) fp) [] σ' H' s' ∧ tn i s'.heap ∧ (∀ b ∈ fp, H' b = none) ∧ H' s2.heap.objs.size = some (.lst acc) ∧ W i n acc σ' H') ?_ m0
      ⟨0, [], _, _, I4, T.keep _ _ _ t2 fun b hb o e => k34 b o (k23 b o e), fun b hb => (f3 b hb).1.1, upd_same, w0⟩
    rintro n s5 ⟨i, acc, σ5, H5, I5, t5, fr5, d5, w5⟩ E'
    rcases turn i n acc σ5 H5 w5 d5 with ⟨stop, qn⟩ | ⟨go, NN, hNN, step⟩
    · refine thn (T.done (cxC X scope N cl h3.objs.size s3 (upd H2 s2.heap.objs.size (.lst [])) fp) rfl rfl rfl hc i [] s5 σ5 H5 E' I5 (stat I5 (by simp) fr5) t5 stop) fun r s6 ⟨hr, I6⟩ => ?_
      subst hr
      obtain ⟨m6, n6, _⟩ := id I6.loc
      have J6 : Inv X pins σ H5 s6 := I3.call' (ch := fp) I6.os I6.base I6.hok I6.bare fun b hb => ⟨(f2 b hb).2.2.2.1, (f2 b hb).2.1, (f2 b hb).2.2.2.2.1, (f2 b hb).2.2.2.2.2⟩
      exact fin _ _ s6 H5 m6 J6 (I2.fpOk (by rw [z3]; exact Nat.le_succ _) I6.free) n6 qn
    · refine thn (T.item (cxC X scope N cl h3.objs.size s3 (upd H2 s2.heap.objs.size (.lst [])) fp) rfl rfl rfl hc i [] s5 σ5 H5 E' I5 (stat I5 (by simp) fr5) t5 go) fun r s6 ⟨u, hr, h6⟩ => ?_
      subst hr
      refine thn h6 fun _ s7 ⟨x, H7, I7, r7, y7, t7, fr7⟩ => ?_
      have I7' := I7.pinned (stat I7 (by simp) fr7) (T.obj _ _ t7)
      have backTn : ∀ {s' : Shared} {H' : Hp} {σ' : St}, Inv (cxC X scope N cl h3.objs.size s3 (upd H2 s2.heap.objs.size (.lst [])) fp) ([] ++ pinsAt fp s7.heap) σ' H' s' → tn (i + 1) s'.heap ∧ ∀ b ∈ fp, H' b = none := fun {s' H' σ'} I' => by
        refine ⟨T.keep _ _ _ t7 fun b hb o e => (I'.pin (b, o) (List.mem_append_right _ (List.mem_append_right _ (mem_pinsAt hb e)))).1, fun b hb => ?_⟩
        obtain ⟨o, e, _⟩ := T.obj _ _ t7 b hb
        exact (I'.pin (b, o) (List.mem_append_right _ (List.mem_append_right _ (mem_pinsAt hb e)))).2.1
      refine nx (hg _ _ _ _ _ s7 σ5 H7 x u _ I7' r7 (step x H7 y7)) fun _ s8 ⟨σ8, H8, I8, q8⟩ => ?_
      refine nx (ht _ _ _ _ _ s8 σ8 H8 _ I8 q8) fun ok s9 ⟨H9, I9, q9⟩ => ?_
      cases ok with
      | false =>
        obtain ⟨d9, n9⟩ := q9
        obtain ⟨m', hm, w9⟩ := hNN _ _ _ n9
        obtain ⟨a1, a2⟩ := backTn I9
        exact ⟨m', hm, i + 1, acc, σ8, H9, I9.unpinned, a1, a2, d9, w9⟩
      | true =>
        rw [if_pos rfl]
        refine nx (he _ _ _ _ _ s9 σ8 H9 _ I9 q9) fun y s10 ⟨v, H10, I10, r10, d10, l10, n10⟩ => ?_
        obtain ⟨m', hm, w10⟩ := hNN _ _ _ n10
        refine nx (mt_append _ s10 σ8 H10 (.ref s2.heap.objs.size) [v] (.ref s2.heap.objs.size) [y] (fun _ H' => H' = upd H10 s2.heap.objs.size (.lst (acc ++ [v]))) I10 rfl (.cons r10 .nil) ⟨_, acc, v, rfl, rfl, d10, l10, rfl⟩) fun _ s11 ⟨_, H11, I11, _, e11⟩ => ?_
        subst e11
        obtain ⟨a1, a2⟩ := backTn I11
        exact ⟨m', hm, i + 1, _, σ8, _, I11.unpinned, a1, a2, upd_same, w10⟩
  exact codeAny_compStart_list (loop _ (by rw [← hs3])) (T.self _ 0 _ _ _ (T.keep _ _ _ t2 fun b hb o e => k34 b o (k23 b o e)) (loop _ (by rw [← hs3])))
theorem pe_comp (osc : Scope) (NX own : List Str) (fr : List Nat) (N : List Str) {wi : TI} {g : TG} {tc : TT} {te : TE} (hc : X.calm = true)
    (hi : PI X tg iter wi) (hg : ∀ cl C s₀ H₀ ex, PG (cxC X scope N cl C s₀ H₀ ex) tg g) (ht : ∀ cl C s₀ H₀ ex, PTs (cxC X scope N cl C s₀ H₀ ex) ifs tc) (he : ∀ cl C s₀ H₀ ex, PE (cxC X scope N cl C s₀ H₀ ex) elt te)
    (hs : ∀ x, foldedSetIterable iter X.env x = pure x := by intro _; rfl) (hosc : X.env.scope = osc := by rfl) (hNX : X.N = NX := by rfl) (hS : compOk osc scope NX own fr N = true := by decide +kernel) :
    PE X (.ListComp elt [⟨tg, iter, ifs, 0⟩] scope pos) (tComp own.length fr wi g tc te) := by
  intro pins s σ H Q I h
  have S : CompSc X.env.scope scope X.N own fr N := by rw [hosc, hNX]; exact CompSc.of hS
  obtain ⟨cl, ecl, c1, c2⟩ := clos_ok (scope := scope) (env := X.env) fun y hy hf => I.ok.has y.1 (S.free y hy hf)
  rw [eval_ListComp]
  refine wpAny_comprehension_free (use := none) rfl hs ecl S.kind S.loc (thn (hi pins s σ H _ I h) fun v s1 h1 => thn h1 fun itv s2 h2 => ?_)
  obtain ⟨it, fp, tn, J, H2, e, I2, T, t2, f2, q⟩ := h2
  subst e
  refine comp_block (POST := fun acc C => compPost (model X.prog X.w) X.A X.xe none (EP X pins σ Q) acc C) hc S c1 c2 (hg cl) (ht cl) (he cl) I2 T t2 f2 q fun D C s' H' m I' fC ns q' => ?_
  refine ⟨m, ns, fun h' sb => ⟨.ref D, H', ?_, rfl, q'⟩⟩
  obtain ⟨g0, g1, _, g3, g4, g5⟩ := fC
  exact I'.turned (t' := s'.toks) (fun b o hb e => (sb.2 b hb).trans e) g0 g1 g3 g4 g5
theorem ps_setC {wi : TI} {g : TG} {tc : TT} {te : TE} {i : Nat} {x : Str} {px spos : Pos} (hN : X.N.Nodup) (hi' : X.N[i]? = some x) (hx : X.env.scope.names.lookup x = some .local)
    (hsw : swapsWith (.ListComp elt [⟨tg, iter, ifs, 0⟩] scope pos) (some (.Name x px)) spos.line X.env = pure true)
    (osc : Scope) (NX own : List Str) (fr : List Nat) (N : List Str) (hc : X.calm = true)
    (hi : PI X tg iter wi) (hg : ∀ cl C s₀ H₀ ex, PG (cxC X scope N cl C s₀ H₀ ex) tg g) (ht : ∀ cl C s₀ H₀ ex, PTs (cxC X scope N cl C s₀ H₀ ex) ifs tc) (he : ∀ cl C s₀ H₀ ex, PE (cxC X scope N cl C s₀ H₀ ex) elt te)
    (hs : ∀ x, foldedSetIterable iter X.env x = pure x := by intro _; rfl) (hosc : X.env.scope = osc := by rfl) (hNX : X.N = NX := by rfl) (hS : compOk osc scope NX own fr N = true := by decide +kernel) :
    PS X (.Assign [.Name x px] (.ListComp elt [⟨tg, iter, ifs, 0⟩] scope pos) spos) (tAsg (tComp own.length fr wi g tc te) (gName i)) := by
  intro pins s σ H D I h
  have S : CompSc X.env.scope scope X.N own fr N := by rw [hosc, hNX]; exact CompSc.of hS
  obtain ⟨cl, ecl, c1, c2⟩ := clos_ok (scope := scope) (env := X.env) fun y hy hf => I.ok.has y.1 (S.free y hy hf)
  rw [exec_Assign_Name_used _ _ _ _ hsw]
  refine wpAny_bind (wpAny_standAt (wpAny_bind ?_))
  show wpAny _ X.A (do let _ ← comprehension (.ListComp elt [⟨tg, iter, ifs, 0⟩] scope pos) scope X.env _ (newList []) false (eval iter X.env) (some (assign (.Name x px) X.env))) _ _ s
  refine wpAny_bind (thn (wpAny_comprehension_free (use := some (assign (.Name x px) X.env)) (Q := fun _ s' => SP X pins D .next s') rfl hs ecl S.kind S.loc (thn (hi pins s σ H _ I h) fun v s1 h1 => thn h1 fun itv s2 h2 => ?_)) fun _ s' hq => wpAny_pure (wpAny_pure hq))
  obtain ⟨it, fp, tn, J, H2, e, I2, T, t2, f2, q⟩ := h2
  subst e
  refine comp_block (POST := fun acc C => compPost (model X.prog X.w) X.A X.xe (some (assign (.Name x px) X.env)) (fun _ s' => SP X pins D .next s') acc C) hc S c1 c2 (hg cl) (ht cl) (he cl) I2 T t2 f2 q fun D' C s' H' m I' fC ns q' => ?_
  show wpAny _ X.A (assign (.Name x px) X.env (.ref D')) _ _ s'
  refine wpAny_assign_Name (store_ok2 I' hN hi' (.inl hx) (show RelV (.ref D') (.ref D') from rfl) (fun s3 I3 sb => ?_) (.inr hx))
  obtain ⟨a, sb, ha⟩ := sb
  obtain ⟨g0, g1, g2, g3, g4, g5⟩ := fC
  have aC : C ≠ a := by
    rcases ha with z | z
    · rw [z]; exact g1
    · exact fun w => g4 x a z w.symm
  refine ⟨m, ns.sameBut sb aC, fun h' sb' => ⟨_, H', ?_, q'⟩⟩
  exact I3.turned (t' := s3.toks) (fun b o hb e => (sb'.2 b hb).trans e) g0 g1 g3 g4 g5
end
end L2
namespace L2
open PySem PySem.Spec PyProof.Rows
noncomputable def sgV (x : Str) (i : Nat) : Option V := (x.cps[i]?).map fun c => V.str ⟨#[c]⟩
noncomputable def Its (x : Str) : It := ⟨fun i _ => i < x.cps.size, fun i H v H' => H' = H ∧ sgV x i = some v, fun i _ => x.cps.size ≤ i⟩
theorem turn_signs {P : Program} {w : World} {K : PySem.W.Frag} {tg : Expr} (T : String) (it : Addr) (x : Str) (t : Tok)
    (hn : ["enumerate", "zip", "dict_itemiterator", "dict_reverseitemiterator", "odict_iterator", "itertools.zip_longest", "itertools.pairwise"].contains T = false)
    (W : ∀ A : Around, A.handled = none → Walks P w A it [it] [it] x.cps.size (SignAt x) (fun i h => h.IsStrIter it T x t i))
    (hs : ∀ (A : Around) (i : Nat) (s : Shared) (Q : Value → Shared → Prop) (E : Value → Shared → Prop), s.heap.IsStrIter it T x t i → Q (.ref it) s → wpAny (model P w) A (pyIter (.ref it)) Q E s) :
    Turn P w K tg (Its x) [it] it (fun i h => h.IsStrIter it T x t i ∧ i ≤ x.cps.size) where
  mem := by simp
  obj := fun i h st b hb => by
    have e : b = it := by simpa using hb
    subst e
    obtain ⟨o, e, c, d⟩ := st.1
    exact ⟨o, e, fun v z => by rw [d] at z; cases z⟩
  keep := fun i h h' st k => ⟨by
    obtain ⟨o, e, c⟩ := st.1
    exact ⟨o, k it (by simp) o e, c⟩, st.2⟩
  item := by
    intro X hP hw hK hc i pins s σ H E I hf st hg
    subst hP hw hK
    obtain ⟨f0, f1, f2, f3, f4, f5⟩ := hf it (by simp)
    refine (W X.A (I.ok.hd hc)).item i s _ _ hg st.1 fun v h' tk hv st' kk => ?_
    obtain ⟨c, u, hcp, rfl⟩ := hv
    have I1 : Inv X pins σ H { s with heap := h', toks := tk } := I.turned (fun b o hb e => kk b o (by simpa using hb) e) f0 f1 f3 f4 f5
    obtain ⟨o, e, cc, d⟩ := id st'
    refine ⟨_, rfl, go_of (s := { s with heap := h', toks := tk }) e cc d hn ⟨.str ⟨#[c]⟩, H, I1, ⟨u, rfl⟩, ⟨rfl, ?_⟩, ⟨st', ?_⟩, fun b hb => (hf b hb).1⟩⟩
    · unfold sgV; rw [hcp]; rfl
    · exact hg
  done := by
    intro X hP hw hK hc i pins s σ H E I hf st hg
    subst hP hw hK
    obtain ⟨f0, f1, f2, f3, f4, f5⟩ := hf it (by simp)
    have e : i = x.cps.size := Nat.le_antisymm st.2 hg
    subst e
    exact (W X.A (I.ok.hd hc)).done s _ _ st.1 fun h' tk kk => ⟨rfl, I.turned (fun b o hb e => kk b o (by simpa using hb) e) f0 f1 f3 f4 f5⟩
  self := fun A i s Q E st h => hs A i s Q E st.1 h
noncomputable def iStr (tl : TE) : TI := fun σ H R => tl σ H fun x H1 => ∃ z, x = .str z ∧ R (Its z) H1
theorem pi_str {X : Cx} {tg l : Expr} {tl : TE} (hl : PE X l tl) : PI X tg l (iStr tl) := by
  intro pins s σ H R I h
  refine thn (hl pins s σ H _ I h) fun v s1 ⟨x, H1, I1, r1, q1⟩ => ?_
  obtain ⟨z, e, q⟩ := q1
  subst e
  obtain ⟨t, rfl⟩ := r1
  have fin : ∀ (T : String), ["enumerate", "zip", "dict_itemiterator", "dict_reverseitemiterator", "odict_iterator", "itertools.zip_longest", "itertools.pairwise"].contains T = false →
      (∀ A : Around, A.handled = none → Walks X.prog X.w A s1.heap.objs.size [s1.heap.objs.size] [s1.heap.objs.size] z.cps.size (SignAt z) (fun i h => h.IsStrIter s1.heap.objs.size T z t i)) →
      (∀ (A : Around) (i : Nat) (s : Shared) (Q : Value → Shared → Prop) (E : Value → Shared → Prop), s.heap.IsStrIter s1.heap.objs.size T z t i → Q (.ref s1.heap.objs.size) s → wpAny (model X.prog X.w) A (pyIter (.ref s1.heap.objs.size)) Q E s) →
      PIE X pins σ tg R (.ref s1.heap.objs.size) { s1 with heap := s1.heap.push { cls := .type T, data := .fields #[.str z t, .int 0 0] } } := fun T hn W hs => by
    refine ⟨_, [s1.heap.objs.size], _, _, H1, rfl, I1.kept (t' := s1.toks) fun b o e => Heap.get?_push_of_some _ e, turn_signs T _ z t hn W hs, ⟨⟨_, Heap.get?_push_size _ rfl, rfl, rfl⟩, Nat.zero_le _⟩, fun b hb => ?_, q⟩
    have e : b = s1.heap.objs.size := by simpa using hb
    subst e
    exact I1.fpOk (Nat.le_refl _) (I1.hok.fresh (Nat.le_refl _))
  cases ha : z.cps.all (· < 128)
  · exact wpAny_pyIter_wide ha (fin "str_iterator" (by decide) (fun A hA => Walks.strWide hA _ z t) fun A i s Q E st h => wpAny_pyIter_striter_wide st h)
  · exact wpAny_pyIter_ascii ha (fin "str_ascii_iterator" (by decide) (fun A hA => Walks.strAscii hA _ z t) fun A i s Q E st h => wpAny_pyIter_striter_ascii st h)
noncomputable def Ite (K : PySem.W.Frag) (a : Addr) : It :=
  ⟨fun i H => ∃ xs x, SqL K H a xs ∧ xs[i]? = some x, fun i H v H' => ∃ p x, H p = none ∧ v = .ref p ∧ (∀ xs, SqL K H a xs → xs[i]? = some x) ∧ H' = upd H p (.tup [.int i, x]), fun i H => ∃ xs, SqL K H a xs ∧ xs.length ≤ i⟩
theorem turn_enum {P : Program} {w : World} {K : PySem.W.Frag} {elts : List Expr} {k : Nat} {tp : Pos} (a e it : Addr) (hne : e ≠ it) :
    Turn P w K (.Tuple elts k tp) (Ite K a) [e, it] e (fun i h => (∃ old, IsEnum h e it i old) ∧ h.IsListIter it a i) where
  mem := by simp
  obj := fun i h st b hb => by
    obtain ⟨⟨old, he⟩, hit⟩ := st
    have hb : b = e ∨ b = it := by simpa using hb
    rcases hb with z | z
    · subst z
      exact ⟨_, he, fun v z => by cases z⟩
    · subst z
      obtain ⟨o, e1, c, d⟩ := hit
      exact ⟨o, e1, fun v z => by rw [d] at z; cases z⟩
  keep := fun i h h' st kk => by
    obtain ⟨⟨old, he⟩, hit⟩ := st
    exact ⟨⟨old, kk e (by simp) _ he⟩, hit.at fun o q => kk it (by simp) o q⟩
  item := by
    intro X hP hw hK hc i pins s σ H E I hf st hg
    subst hP hw hK
    obtain ⟨⟨old, he⟩, hit⟩ := st
    obtain ⟨xs, x, hq, hx⟩ := hg
    obtain ⟨its, rv, p, hz⟩ := I.list hq
    obtain ⟨u, hu, ru⟩ := rv.get hx
    obtain ⟨f0, f1, f2, f3, f4, f5⟩ := hf e (by simp)
    obtain ⟨g0, g1, g2, g3, g4, g5⟩ := hf it (by simp)
    refine wpAny_pyNext_enum_item he hit p.isList (x := u) (by simpa using hu) hne fun h1 ho hit1 ht1 hz1 k1 => ?_
    have hel : e < s.heap.objs.size := Heap.lt_size he
    have hil : it < s.heap.objs.size := by obtain ⟨o, q, _⟩ := hit; exact Heap.lt_size q
    refine ⟨_, rfl, wpAny_letOwnedTupleGo_enum ho fun h2 he2 sb2 => ?_⟩
    have sb2 : Heap.SameBut e h1 h2 := sb2
    have T2 : h2.get? s.heap.objs.size = some { cls := .type "tuple", data := .seq #[.int i s.toks, u] } := (sb2.2 _ (Nat.ne_of_gt hel)).trans ht1
    have hp : H s.heap.objs.size = none := I.hok.fresh (Nat.le_refl _)
    have nit : ∀ b v, H b = some v → b ≠ e ∧ b ≠ it := fun b v q => ⟨fun z => (by rw [z, f0] at q; cases q), fun z => (by rw [z, g0] at q; cases q)⟩
    have kk : ∀ b o, b ≠ e → b ≠ it → s.heap.get? b = some o → h2.get? b = some o := fun b o n1 n2 q => (sb2.2 b n1).trans (k1 b o n1 n2 q)
    have up : ∀ b v, H b = some v → upd H s.heap.objs.size (.tup [.int i, x]) b = some v := fun b v q => by rw [upd_ne (ne_of_none q hp)]; exact q
    have I1 : Inv X pins σ (upd H s.heap.objs.size (.tup [.int i, x])) { s with heap := h2, gens := s.gens, drawn := s.drawn, toks := s.toks + 1 } := by
      refine I.step (g' := s.gens) (d' := s.drawn) (ch := [e, it]) (fun b hb => ?_) (fun b o _ _ hb q _ => kk b o (fun z => hb (by simp [z])) (fun z => hb (by simp [z])) q) (fun b o _ _ hb q _ => ⟨o.slots, kk b o (fun z => hb (by simp [z])) (fun z => hb (by simp [z])) q⟩) (fun b o _ q n => ?_)
        (fun b o hb q => ⟨o, kk b o (fun z => hb (by simp [z])) (fun z => hb (by simp [z])) q⟩) (fun b ys q => up b _ q) (fun b o v q => up b _ q) (fun b ps q => ⟨#[], by rw [up b _ q]; simp⟩) (fun m hm => ?_) (fun b v q => ?_) I.bare
      · have hb : b = e ∨ b = it := by simpa using hb
        rcases hb with z | z
        · subst z; exact ⟨f3, f1, f4, f5⟩
        · subst z; exact ⟨g3, g1, g4, g5⟩
      · rw [upd_ne (Nat.ne_of_lt (Heap.lt_size q))]; exact n
      · obtain ⟨o, es, ep, ho, r⟩ := hm
        exact ⟨o, es, ep, kk _ o (Ne.symm f1) (Ne.symm g1) ho, r⟩
      · by_cases hb : b = s.heap.objs.size
        · subst hb
          rw [upd_same] at q
          have q' : HO.tup [V.int i, x] = v := Option.some.inj q
          subst q'
          exact ⟨by show 2 ≤ sizeLine; decide, [.int i s.toks, u], .cons ⟨_, rfl⟩ (.cons ru .nil), ⟨_, T2, rfl, _, rfl, rfl⟩⟩
        · rw [upd_ne hb] at q
          refine (I.hok b v q).stay (fun c v' hc q' => ?_) (fun c q => up c _ q) fun c ys q => up c _ q
          rcases hc with z | z
          · rw [z] at q' ⊢; exact kk b v' (nit b v q).1 (nit b v q).2 q'
          · exact kk c v' (nit c _ z).1 (nit c _ z).2 q'
    refine ⟨.ref s.heap.objs.size, upd H s.heap.objs.size (.tup [.int i, x]), I1, rfl, ⟨_, x, hp, rfl, fun ys hy => by rw [I.list_inj hy hq]; exact hx, rfl⟩, ⟨⟨u, ?_⟩, ?_⟩, fun b hb => ?_⟩
    · exact (by simpa using he2)
    · exact hit1.at fun o q => (sb2.2 it (Ne.symm hne)).trans q
    · have hb : b = e ∨ b = it := by simpa using hb
      rcases hb with z | z
      · rw [z, upd_ne (Nat.ne_of_lt hel)]; exact f0
      · rw [z, upd_ne (Nat.ne_of_lt hil)]; exact g0
  done := by
    intro X hP hw hK hc i pins s σ H E I hf st hg
    subst hP hw hK
    obtain ⟨⟨old, he⟩, hit⟩ := st
    obtain ⟨xs, hq, hx⟩ := hg
    obtain ⟨its, rv, p, hz⟩ := I.list hq
    obtain ⟨g0, g1, g2, g3, g4, g5⟩ := hf it (by simp)
    have hl := rv.length
    exact wpAny_pyNext_enum_end (I.ok.hd hc) he hit p.isList (by simp; omega) fun h' eb => ⟨rfl, I.turned (t' := s.toks) (fun b o hb q => eb b o hb q) g0 g1 g3 g4 g5⟩
  self := fun _ _ _ _ _ st h => by
    obtain ⟨⟨old, he⟩, _⟩ := st
    exact wpAny_pyIter_enum he h
noncomputable def iEnum (K : PySem.W.Frag) (ta : TA) : TI := fun σ H R => ta σ H fun vs H1 => ∃ a, vs = [.ref a] ∧ (∃ xs, SqL K H1 a xs) ∧ R (Ite K a) H1
theorem pi_enum {X : Cx} {elts : List Expr} {k : Nat} {tp : Pos} {a : Expr} {ta : TA} {p pos : Pos} (hg : Gl X "enumerate") (hm : X.mg "enumerate" = none) (ha : PA X [a] ta) (hs : starEach [a] X.env = [(false, eval a X.env)] := by rfl) :
    PI X (.Tuple elts k tp) (.Call (.Name "enumerate" p) [a] [] pos) (iEnum X.K ta) := by
  intro pins s σ H R I h
  refine Call_ (ld_blt I hg hm boot_enumerate (PyProof.Rows.callWith_type1 (thn (ha pos pins s σ H _ I h) fun us s1 ⟨vs, H1, I1, r1, q1⟩ => ?_) hs rfl))
  obtain ⟨a, e, ⟨xs, hq⟩, q⟩ := q1
  subst e
  obtain ⟨u, rfl, ru⟩ := vals1 r1
  cases ru
  obtain ⟨its, rv, pl, hz⟩ := I1.list hq
  refine call_enumerate_list pl.isList fun h' he hit hz' k' => ?_
  refine wpAny_pyIter_enum (s := { s1 with heap := h' }) he ?_
  refine ⟨_, [s1.heap.objs.size + 1, s1.heap.objs.size], _, _, H1, rfl, I1.kept (t' := s1.toks) k', turn_enum a _ _ (Nat.succ_ne_self _), ⟨⟨_, he⟩, hit⟩, fun b hb => ?_, q⟩
  have hb : b = s1.heap.objs.size + 1 ∨ b = s1.heap.objs.size := by simpa using hb
  rcases hb with z | z
  · subst z; exact I1.fpOk (Nat.le_succ _) (I1.hok.fresh (Nat.le_succ _))
  · subst z; exact I1.fpOk (Nat.le_refl _) (I1.hok.fresh (Nat.le_refl _))
end L2
namespace L2
open PySem PySem.Spec PyProof.Rows
mutual
inductive Rep (H : Hp) : V → PyData → Prop
  | non : Rep H .non .none
  | bl (b : Bool) : Rep H (.bl b) (.bool b)
  | int (i : Int) : Rep H (.int i) (.int i)
  | str (x : Str) : Rep H (.str x) (.str x)
  | lst {a : Addr} {xs : List V} {ds : List PyData} : H a = some (.lst xs) → RepAll H xs ds → Rep H (.ref a) (.list ds)
  | tup {a : Addr} {xs : List V} {ds : List PyData} : H a = some (.tup xs) → RepAll H xs ds → Rep H (.ref a) (.tuple ds)
inductive RepAll (H : Hp) : List V → List PyData → Prop
  | nil : RepAll H [] []
  | cons {x : V} {xs : List V} {d : PyData} {ds : List PyData} : Rep H x d → RepAll H xs ds → RepAll H (x :: xs) (d :: ds)
end
mutual
theorem Rep.reads {P : Program} {w : World} {H : Hp} {h : Heap} (ok : HOk P w H h) : ∀ {v : V} {d : PyData} {u : Value}, Rep H v d → RelV v u → ∃ as, Reads h u d as
  | _, _, _, .non, r => by cases r; exact ⟨_, .none⟩
  | _, _, _, .bl b, r => by cases r; exact ⟨_, .bool b⟩
  | _, _, _, .int i, r => by obtain ⟨t, rfl⟩ := r; exact ⟨_, .int i t⟩
  | _, _, _, .str x, r => by obtain ⟨t, rfl⟩ := r; exact ⟨_, .str x t⟩
  | _, _, _, .lst (a := a) (xs := xs) e rs, r => by
    cases r
    obtain ⟨_, its, n, rv, eh⟩ := (show ObjOk P w H h a (.lst xs) from ok a _ e)
    obtain ⟨as, z⟩ := RepAll.reads ok rs rv
    exact ⟨_, .list eh rfl rfl (by simpa using z)⟩
  | _, _, _, .tup (a := a) (xs := xs) e rs, r => by
    cases r
    obtain ⟨_, its, rv, o, eh, hc, n, hd, _⟩ := (show ObjOk P w H h a (.tup xs) from ok a _ e)
    obtain ⟨as, z⟩ := RepAll.reads ok rs rv
    exact ⟨_, .tuple eh hc hd (by simpa using z)⟩
theorem RepAll.reads {P : Program} {w : World} {H : Hp} {h : Heap} (ok : HOk P w H h) : ∀ {vs : List V} {ds : List PyData} {us : List Value}, RepAll H vs ds → Vals vs us → ∃ as, ReadsAll h us ds as
  | _, _, _, .nil, r => by cases r; exact ⟨_, .nil⟩
  | _, _, _, .cons q qs, r => by
    cases r with
    | cons r1 r2 =>
      obtain ⟨as, z⟩ := Rep.reads ok q r1
      obtain ⟨bs, zs⟩ := RepAll.reads ok qs r2
      exact ⟨_, .cons z zs⟩
end
mutual
theorem Rep.same {H H' : Hp} (s : Same H H') : ∀ {v : V} {d : PyData}, Rep H v d → Rep H' v d
  | _, _, .non => .non
  | _, _, .bl b => .bl b
  | _, _, .int i => .int i
  | _, _, .str x => .str x
  | _, _, .lst e rs => .lst (s _ _ e) (rs.same s)
  | _, _, .tup e rs => .tup (s _ _ e) (rs.same s)
theorem RepAll.same {H H' : Hp} (s : Same H H') : ∀ {vs : List V} {ds : List PyData}, RepAll H vs ds → RepAll H' vs ds
  | _, _, .nil => .nil
  | _, _, .cons q qs => .cons (q.same s) (qs.same s)
end
section
variable {X : Cx}
noncomputable def shp (d : PyData) : Prop := SeqAt.shaped d = true
noncomputable def rEqD : R2 := fun x y H Q => ∃ da db, Rep H x da ∧ Rep H y db ∧ shp da ∧ shp db ∧ Q (.bl (PyData.eqv da db)) H
noncomputable def rNeD : R2 := fun x y H Q => ∃ da db, Rep H x da ∧ Rep H y db ∧ shp da ∧ shp db ∧ Q (.bl (!PyData.eqv da db)) H
theorem op_eqD (hu : X.A.units + 64 < cLine) : OpR X (compareOp .Eq) rEqD := by
  intro pins s σ H x y v u Q I rx ry h
  obtain ⟨da, db, ra, rb, sa, sb, q⟩ := h
  obtain ⟨as, za⟩ := ra.reads I.hok rx
  obtain ⟨bs, zb⟩ := rb.reads I.hok ry
  exact eq_dataH za zb sa sb hu ⟨.bl _, H, I, rfl, q⟩
theorem op_neD (hu : X.A.units + 64 < cLine) : OpR X (compareOp .NotEq) rNeD := by
  intro pins s σ H x y v u Q I rx ry h
  obtain ⟨da, db, ra, rb, sa, sb, q⟩ := h
  obtain ⟨as, za⟩ := ra.reads I.hok rx
  obtain ⟨bs, zb⟩ := rb.reads I.hok ry
  exact ne_dataH za zb sa sb hu ⟨.bl _, H, I, rfl, q⟩
theorem op_le_str : OpR X (compareOp .LtE) (fun x y H Q => ∃ i j, x = .str i ∧ y = .str j ∧ Q (.bl (!decide (j.cps.toList < i.cps.toList))) H) := by
  intro pins s σ H x y v u Q I rx ry h
  obtain ⟨i, j, rfl, rfl, q⟩ := h
  obtain ⟨t, rfl⟩ := rx
  obtain ⟨t', rfl⟩ := ry
  exact PySem.P.le_str (fin_bl I q (by simp))
theorem all_range (bs : List Bool) : ((List.range bs.length).all fun i => bs.getD i false) = bs.all id := by
  rw [Bool.eq_iff_iff, List.all_eq_true, List.all_eq_true]
  constructor
  · intro h b hb
    obtain ⟨i, hi, rfl⟩ := List.mem_iff_getElem.mp hb
    have := h i (by simpa using hi)
    simpa [List.getD_eq_getElem?_getD, hi] using this
  · intro h i hi
    have hi : i < bs.length := by simpa using hi
    have := h bs[i] (List.getElem_mem hi)
    simpa [List.getD_eq_getElem?_getD, hi] using this
theorem vals_bl {bs : List Bool} {its : List Value} (r : Vals (bs.map V.bl) its) {i : Nat} {v : Value} (e : its[i]? = some v) : v = .bool (bs.getD i false) := by
  have hl := r.length
  rw [List.length_map] at hl
  have hi : i < bs.length := by rw [hl]; exact (List.getElem?_eq_some_iff.mp e).1
  obtain ⟨u, hu, ru⟩ := r.get (i := i) (x := V.bl (bs.getD i false)) (by rw [List.getElem?_map]; simp [List.getD_eq_getElem?_getD, hi])
  rw [e] at hu
  cases hu
  exact ru
theorem call_all_bl (hc : X.calm = true) : CallR X (.builtin "all") (fun xs H Q => ∃ p bs, xs = [.ref p] ∧ H p = some (.lst (List.map V.bl bs)) ∧ Q (.bl (bs.all id)) H) := by
  intro pins s σ H xs us Q I r h
  obtain ⟨p, bs, rfl, e, q⟩ := h
  obtain ⟨u, rfl, ru⟩ := vals1 r
  cases ru
  obtain ⟨hz, its, n, rv, eh⟩ := (show ObjOk X.prog X.w H s.heap p (.lst (List.map V.bl bs)) from I.hok p _ e)
  have hl : s.heap.IsList p its.toArray := ⟨_, eh, rfl, n, rfl⟩
  have hlen : its.length = bs.length := by have := rv.length; rw [List.length_map] at this; exact this.symm
  have hpl : p < s.heap.objs.size := Heap.lt_size eh
  refine call_all_walk (wpAny_pyIter_list hl ?_)
  refine ⟨s.heap.objs.size, [s.heap.objs.size, p], [s.heap.objs.size], its.toArray.size, _, _, fun i => bs.getD i false, rfl,
    Walks.list (A := X.A.in1) (I.ok.hd hc) _ p (Nat.ne_of_lt hpl) its.toArray, ⟨⟨_, Heap.get?_push_size _ rfl, rfl, rfl⟩, ⟨_, Heap.get?_push_of_some _ eh, rfl, n, rfl⟩⟩, ?_, fun h' tk hk => ?_⟩
  · intro i v s' Q' E' hv hQ'
    have hv : its[i]? = some v := by simpa using hv
    rw [vals_bl rv hv]
    exact wpAny_pure hQ'
  · refine ⟨.bl _, H, I.kept fun b o eb => hk b o (by simpa using Nat.ne_of_lt (Heap.lt_size eb)) (Heap.get?_push_of_some _ eb), rfl, ?_⟩
    rw [List.size_toArray, hlen, all_range]
    exact q
theorem strs_of : ∀ {ys : List Str} {us : List Value}, Vals (ys.map V.str) us → StrsAre us ys
  | [], us, r => by cases r; exact .nil
  | y :: ys, us, r => by
    cases r with
    | cons r1 r2 =>
      obtain ⟨t, rfl⟩ := r1
      exact .cons y t (strs_of r2)
noncomputable def rJoin : V → List V → Hp → VK → Prop := fun x xs H Q => ∃ z p ys, x = .str z ∧ xs = [.ref p] ∧ H p = some (.lst (List.map V.str ys)) ∧ (ys.map (·.length)).sum + ys.length * z.length ≤ 16777216 ∧ Q (.str (Txt.join z ys)) H
theorem mt_join : MtR X "str.join" rJoin := by
  intro pins s σ H x xs v us Q I rx rv h
  obtain ⟨z, p, ys, rfl, rfl, e, hz, q⟩ := h
  obtain ⟨t, rfl⟩ := rx
  obtain ⟨u, rfl, ru⟩ := vals1 rv
  cases ru
  obtain ⟨_, its, n, rv, eh⟩ := (show ObjOk X.prog X.w H s.heap p (.lst (List.map V.str ys)) from I.hok p _ e)
  exact join_list (D := p) (items := its.toArray) ⟨_, eh, rfl, n, rfl⟩ (by simpa using strs_of rv) hz fun t' k => ⟨.str _, H, I.tok k, ⟨t', rfl⟩, q⟩
noncomputable def rSlS : V → Option Int → Option Int → Hp → VK → Prop := fun x lo hi H Q => ∃ z, x = .str z ∧ z.length ≤ sizeLine ∧ Q (.str (Txt.slice z lo hi)) H
theorem sl_str : SlR X rSlS := by
  intro pins s σ H x v vl vu lo hi sl Q I rx hs pl pu h
  obtain ⟨z, rfl, hz, q⟩ := h
  obtain ⟨t, rfl⟩ := rx
  refine ⟨"str", _, PySem.F.slot_str_getitem.lookup, typeIs_str _ _ _, ?_⟩
  obtain ⟨o, h1, h2, h3⟩ := hs
  have fin : ∀ t' k, EP X pins σ Q (.str (Txt.slice z lo hi) t') { s with toks := k } := fun t' k => ⟨.str _, H, I.tok k, ⟨t', rfl⟩, q⟩
  cases pl with
  | none => cases pu with
    | none => exact wpAny_getItem_str_slice (l := none) (u := none) (st := none) ⟨o, h1, h2, h3⟩ rfl (post_val_or_str ⟨Nat.le_trans (Txt.slice_le z _ _) hz, fin⟩)
    | int j tj => exact wpAny_getItem_str_slice (l := none) (u := some (j, tj)) (st := none) ⟨o, h1, h2, h3⟩ rfl (post_val_or_str ⟨Nat.le_trans (Txt.slice_le z _ _) hz, fin⟩)
  | int i ti => cases pu with
    | none => exact wpAny_getItem_str_slice (l := some (i, ti)) (u := none) (st := none) ⟨o, h1, h2, h3⟩ rfl (post_val_or_str ⟨Nat.le_trans (Txt.slice_le z _ _) hz, fin⟩)
    | int j tj => exact wpAny_getItem_str_slice (l := some (i, ti)) (u := some (j, tj)) (st := none) ⟨o, h1, h2, h3⟩ rfl (post_val_or_str ⟨Nat.le_trans (Txt.slice_le z _ _) hz, fin⟩)
noncomputable def rIsi (K : PySem.W.Frag) (c : String) : List V → Hp → VK → Prop := fun xs H Q => ∃ x t b, xs = [x, .ty c] ∧ TyOf K H x t ∧ PySem.W.kitOne K t (.type c) = some b ∧ Q (.bl b) H
theorem call_isi (c : String) : CallR X (.builtin "isinstance") (rIsi X.K c) := by
  intro pins s σ H xs us Q I r h
  obtain ⟨x, t, b, rfl, ty, e, q⟩ := h
  obtain ⟨u, w', rfl, ru, rw'⟩ := vals2 r
  cases rw'
  exact isinst_ok I ru ty e fun tk => ⟨.bl b, H, I.tok tk, rfl, q⟩
noncomputable def isFl : V → Bool
  | .non | .bl _ | .int _ | .str _ => true
  | _ => false
noncomputable def flD : V → PyData
  | .bl b => .bool b
  | .int i => .int i
  | .str x => .str x
  | _ => .none
theorem fl_reads {h : Heap} {v : V} {u : Value} (f : isFl v = true) (r : RelV v u) : Reads h u (flD v) [] := by
  cases v with
  | non => cases r; exact .none
  | bl b => cases r; exact .bool b
  | int i => obtain ⟨t, rfl⟩ := r; exact .int i t
  | str x => obtain ⟨t, rfl⟩ := r; exact .str x t
  | _ => cases f
theorem fl_pairs {P : Program} {w : World} {h : Heap} : ∀ {kvs : List (Key × V)} {vs : List (Key × Value)} {es : List DictEntry}, KV kvs vs → Pairs (mixKind P w) es vs → kvs.all (fun p => isFl p.2) = true →
    ReadsAll h (es.map (·.key)) ((kvs.map fun p => (flD (kV p.1), flD p.2)).map (·.1)) [] ∧ ReadsAll h (es.map (·.val)) ((kvs.map fun p => (flD (kV p.1), flD p.2)).map (·.2)) []
  | [], _, _, r, q, _ => by
    cases r
    cases q
    exact ⟨.nil, .nil⟩
  | p :: kvs, vs, es, r, q, f => by
    cases r with
    | @cons _ b _ vs' r1 r2 =>
      cases q with
      | cons qk qv q2 =>
        rw [List.all_cons, Bool.and_eq_true] at f
        obtain ⟨a1, a2⟩ := fl_pairs r2 q2 f.2
        rename_i en es'
        have k1 : Reads h en.key (flD (kV p.1)) [] := by
          have hk := qk
          rw [← r1.1] at hk
          rcases keyIs_shape hk with ⟨i, t, e1, e2⟩ | ⟨x, t, e1, e2⟩
          · rw [e1, e2]; exact .int i t
          · rw [e1, e2]; exact .str x t
        have v1 : Reads h en.val (flD p.2) [] := by
          rw [qv]
          exact fl_reads f.1 r1.2
        exact ⟨.cons k1 a1, .cons v1 a2⟩
noncomputable def dictD (kvs : List (Key × V)) : PyData := .dict (kvs.map fun p => (flD (kV p.1), flD p.2))
theorem any_readOf {P : Program} {w : World} {H : Hp} {h : Heap} (ok : HOk P w H h) {d : PyData} : ∀ {xs : List V} {ds : List PyData} {us : List Value}, RepAll H xs ds → Vals xs us → PyData.canLayAll0 ds = true → us.any (fun u => PyData.eqv (SeqAt.readOf h u) d) = ds.any fun e => PyData.eqv e d
  | _, _, _, .nil, r, _ => by cases r; rfl
  | _, _, _, .cons q qs, r, hl => by
    cases r with
    | cons r1 r2 =>
      have hl' := Bool.and_eq_true_iff.mp (show (PyData.canLay0 _ && PyData.canLayAll0 _) = true from hl)
      obtain ⟨as, z⟩ := q.reads ok r1
      rw [List.any_cons, List.any_cons, SeqAt.readOf_eq hl'.1 z, any_readOf ok qs r2 hl'.2]
theorem mem_readOf {P : Program} {w : World} {H : Hp} {A : Around} {s : Shared} (ok : HOk P w H s.heap) {d : PyData} {x : V} {v : Value} {bs : List Addr} (zx : Reads s.heap v d bs) (hd : d.canLay0 = true) (hu : A.units + d.depth < cLine) :
    ∀ {xs : List V} {ds : List PyData} {us : List Value}, RepAll H xs ds → Vals xs us → PyData.canLayAll0 ds = true → ∀ u ∈ us, SeqAt.EqAt A s u v (PyData.eqv (SeqAt.readOf s.heap u) d)
  | _, _, _, .nil, r, _ => by cases r; intro u hu; cases hu
  | _, _, _, .cons q qs, r, hl => by
    cases r with
    | cons r1 r2 =>
      have hl' := Bool.and_eq_true_iff.mp (show (PyData.canLay0 _ && PyData.canLayAll0 _) = true from hl)
      intro u hm
      rcases List.mem_cons.mp hm with rfl | hm
      · obtain ⟨as, z⟩ := q.reads ok r1
        rw [SeqAt.readOf_eq hl'.1 z]
        exact SeqAt.eqAt_reads _ _ _ _ _ _ _ _ z zx hl'.1 hd (Nat.lt_of_le_of_lt (Nat.add_le_add_left (Nat.min_le_right _ _) _) hu)
      · exact mem_readOf (x := x) ok zx hd hu qs r2 hl'.2 u hm
noncomputable def rInD (neg : Bool) : R2 := fun x y H Q => ∃ p xs ds d, y = .ref p ∧ H p = some (.lst xs) ∧ RepAll H xs ds ∧ Rep H x d ∧ PyData.canLayAll0 ds = true ∧ d.canLay0 = true ∧ d.depth ≤ 16 ∧
  Q (.bl (if neg then !(ds.any fun e => PyData.eqv e d) else ds.any fun e => PyData.eqv e d)) H
theorem op_inD (hu : X.A.units + 64 < cLine) : OpR X (compareOp .In) (rInD false) := by
  intro pins s σ H x y v u Q I rx ry h
  obtain ⟨p, xs, ds, d, rfl, e, rs, r, cs, c, dp, q⟩ := h
  cases ry
  obtain ⟨_, its, n, rv, eh⟩ := (show ObjOk X.prog X.w H s.heap p (.lst xs) from I.hok p _ e)
  obtain ⟨bs, zx⟩ := r.reads I.hok rx
  refine SeqAt.in_listAt (fun u => PyData.eqv (SeqAt.readOf s.heap u) d) ⟨_, eh, rfl, n, rfl⟩ (fun w hw => mem_readOf (x := x) I.hok zx c (by show X.A.units + 1 + d.depth < cLine; omega) rs rv cs w (by simpa using hw)) ⟨.bl _, H, I, rfl, ?_⟩
  rw [show its.toArray.any (fun u => PyData.eqv (SeqAt.readOf s.heap u) d) = its.any (fun u => PyData.eqv (SeqAt.readOf s.heap u) d) by simp, any_readOf I.hok rs rv cs]
  exact q
theorem op_notInD (hu : X.A.units + 64 < cLine) : OpR X (compareOp .NotIn) (rInD true) := by
  intro pins s σ H x y v u Q I rx ry h
  obtain ⟨p, xs, ds, d, rfl, e, rs, r, cs, c, dp, q⟩ := h
  cases ry
  obtain ⟨_, its, n, rv, eh⟩ := (show ObjOk X.prog X.w H s.heap p (.lst xs) from I.hok p _ e)
  obtain ⟨bs, zx⟩ := r.reads I.hok rx
  refine SeqAt.notIn_listAt (fun u => PyData.eqv (SeqAt.readOf s.heap u) d) ⟨_, eh, rfl, n, rfl⟩ (fun w hw => mem_readOf (x := x) I.hok zx c (by show X.A.units + 1 + d.depth < cLine; omega) rs rv cs w (by simpa using hw)) ⟨.bl _, H, I, rfl, ?_⟩
  rw [show its.toArray.any (fun u => PyData.eqv (SeqAt.readOf s.heap u) d) = its.any (fun u => PyData.eqv (SeqAt.readOf s.heap u) d) by simp, any_readOf I.hok rs rv cs]
  exact q
end
end L2
namespace L2
open PySem PySem.Spec PyProof.Rows
structure Cal (P : Program) (w : World) (K : PySem.W.Frag) (mg : Str → Option Value) (base : Heap) (k : Nat) (x : Str) (ps : List Str) (sp : Sp) : Prop where
  ex : ∃ (f : Addr) (fd : FuncData), FnOk P w K mg base CX0 k f fd ps sp ∧ mg x = some (.ref f) ∧ PySem.W.keepIn K (.ref f) = true ∧ Binds K fd ps []
section
variable {X : Cx} {x : Str} {ps : List Str} {sp : Sp} {k j : Nat} {p pos : Pos} {e : Expr} {es : List Expr} {t : TA}
theorem pe_cal (c : Cal X.prog X.w X.K X.mg X.base k x ps sp) (hr : Room k X.A) (hg : Gl X x) (ha : PA X (e :: es) t)
    (hs : starEach (e :: es) X.env = (false, eval e X.env) :: starEach es X.env := by rfl) (hpl : (backTo pos (starEach es X.env)).any (·.1) = false := by rfl) (hdb : (x == ("__debug__" : Str)) = false := by decide) :
    PE X (.Call (.Name x p) (e :: es) [] pos) (tCall sp [] E0 t) := by
  obtain ⟨f, fd, G, mf, kp, b⟩ := c.ex
  exact pe_call G hr hg mf kp b .nil pass0 ha (hdb := hdb) (he := hs) (hpl := hpl)
end
section
variable {X : Cx}
inductive AddR (H : Hp) : V → V → VK → Prop
  | int {i j : Int} {Q : VK} : Q (.int (i + j)) H → AddR H (.int i) (.int j) Q
  | str {i j : Str} {Q : VK} : i.length + j.length ≤ sizeLine → Q (.str (i ++ j)) H → AddR H (.str i) (.str j) Q
  | lst {l b : Addr} {xs zs : List V} {Q : VK} : H l = some (.lst xs) → H b = some (.lst zs) → xs.length + zs.length ≤ sizeLine → (∀ p, H p = none → Q (.ref p) (upd H p (.lst (xs ++ zs)))) → AddR H (.ref l) (.ref b) Q
theorem op_addX : OpR X (binaryOp .Add) (fun x y H Q => AddR H x y Q) := by
  intro pins s σ H x y v u Q I rx ry h
  cases h with
  | int q => exact op_add pins s σ H _ _ v u Q I rx ry ⟨_, _, rfl, rfl, q⟩
  | str hz q => exact op_add_str pins s σ H _ _ v u Q I rx ry ⟨_, _, rfl, rfl, hz, q⟩
  | lst h1 h2 hz q => exact op_cat pins s σ H _ _ v u Q I rx ry ⟨_, _, _, _, rfl, rfl, h1, h2, hz, q⟩
inductive EqR (neg : Bool) (H : Hp) : V → V → VK → Prop
  | sc {x y : V} {Q : VK} : scal x y = true → Q (.bl (if neg then !decide (x = y) else decide (x = y))) H → EqR neg H x y Q
  | tr {x y : V} {da db : PyData} {Q : VK} : Rep H x da → Rep H y db → shp da → shp db → Q (.bl (if neg then !PyData.eqv da db else PyData.eqv da db)) H → EqR neg H x y Q
theorem op_eqX (hu : X.A.units + 64 < cLine) : OpR X (compareOp .Eq) (fun x y H Q => EqR false H x y Q) := by
  intro pins s σ H x y v u Q I rx ry h
  cases h with
  | sc h q => exact op_eq pins s σ H _ _ v u Q I rx ry ⟨h, q⟩
  | tr ra rb sa sb q => exact op_eqD hu pins s σ H _ _ v u Q I rx ry ⟨_, _, ra, rb, sa, sb, q⟩
theorem op_neX (hu : X.A.units + 64 < cLine) : OpR X (compareOp .NotEq) (fun x y H Q => EqR true H x y Q) := by
  intro pins s σ H x y v u Q I rx ry h
  cases h with
  | sc h q => exact op_ne pins s σ H _ _ v u Q I rx ry ⟨h, q⟩
  | tr ra rb sa sb q => exact op_neD hu pins s σ H _ _ v u Q I rx ry ⟨_, _, ra, rb, sa, sb, q⟩
inductive SlX (K : PySem.W.Frag) (H : Hp) : V → Option Int → Option Int → VK → Prop
  | str {z : Str} {lo hi : Option Int} {Q : VK} : z.length ≤ sizeLine → Q (.str (Txt.slice z lo hi)) H → SlX K H (.str z) lo hi Q
  | lst {a : Addr} {xs : List V} {lo hi : Option Int} {Q : VK} : SqL K H a xs → (∀ p, H p = none → Q (.ref p) (upd H p (.lst (cutV xs lo hi)))) → SlX K H (.ref a) lo hi Q
theorem sl_X : SlR X (fun x lo hi H Q => SlX X.K H x lo hi Q) := by
  intro pins s σ H x v vl vu lo hi sl Q I rx hs pl pu h
  cases h with
  | str hz q => exact sl_str pins s σ H _ v vl vu lo hi sl Q I rx hs pl pu ⟨_, rfl, hz, q⟩
  | lst h1 q => exact sl_list pins s σ H _ v vl vu lo hi sl Q I rx hs pl pu ⟨_, _, rfl, h1, q⟩
end
section
variable {X : Cx}
inductive CmR (f : Int → Int → Bool) (g : Str → Str → Bool) (H : Hp) : V → V → VK → Prop
  | int {i j : Int} {Q : VK} : Q (.bl (f i j)) H → CmR f g H (.int i) (.int j) Q
  | str {i j : Str} {Q : VK} : Q (.bl (g i j)) H → CmR f g H (.str i) (.str j) Q
theorem op_leX : OpR X (compareOp .LtE) (fun x y H Q => CmR (fun i j => decide (i ≤ j)) (fun i j => !decide (j.cps.toList < i.cps.toList)) H x y Q) := by
  intro pins s σ H x y v u Q I rx ry h
  cases h with
  | int q => exact op_le pins s σ H _ _ v u Q I rx ry ⟨_, _, rfl, rfl, q⟩
  | str q => exact op_le_str pins s σ H _ _ v u Q I rx ry ⟨_, _, rfl, rfl, q⟩
theorem op_ltX : OpR X (compareOp .Lt) (fun x y H Q => CmR (fun i j => decide (i < j)) (fun i j => decide (i.cps.toList < j.cps.toList)) H x y Q) := by
  intro pins s σ H x y v u Q I rx ry h
  cases h with
  | int q => exact op_lt pins s σ H _ _ v u Q I rx ry ⟨_, _, rfl, rfl, q⟩
  | str q => exact op_lt_str pins s σ H _ _ v u Q I rx ry ⟨_, _, rfl, rfl, q⟩
inductive IsB (neg : Bool) (H : Hp) : V → V → VK → Prop
  | int {i : Int} {b : Bool} {Q : VK} : Q (.bl neg) H → IsB neg H (.int i) (.bl b) Q
  | bl {c b : Bool} {Q : VK} : Q (.bl (if neg then !decide (c = b) else decide (c = b))) H → IsB neg H (.bl c) (.bl b) Q
  | non {x : V} {Q : VK} : Q (.bl (if neg then !decide (x = .non) else decide (x = .non))) H → IsB neg H x .non Q
theorem op_isNotX : OpR X (compareOp .IsNot) (fun x y H Q => IsB true H x y Q) := by
  intro pins s σ H x y v u Q I rx ry h
  cases h with
  | int q =>
    obtain ⟨t, rfl⟩ := rx
    cases ry
    exact wpAny_isNot_other (by rfl) (by intro z; cases z) ⟨.bl _, H, I, rfl, q⟩
  | @bl c b _ q =>
    cases rx
    cases ry
    exact wpAny_isNot_plain (by rfl) (fin_bl I q (by cases c <;> cases b <;> rfl))
  | non q => exact op_notN pins s σ H _ _ v u Q I rx ry ⟨rfl, q⟩
theorem m_join (K : PySem.W.Frag) {o e : Expr} {to : TE} {t : TA} {apos cpos : Pos} (ho : PE X o to) (ha : PA X [e] t)
    (hbase : attributeBase o "join" X.env (eval o X.env) = eval o X.env := by rfl)
    (hfew : ((backTo cpos (starEach [e] X.env)).all (fun x => !x.1) && (backToKw cpos (keywordEach [] X.env)).all (fun x => x.1.isSome)
      && decide ([e].length + ([] : List Keyword).length + (if ([] : List Keyword).isEmpty then 0 else 1) < 30)) = true := by rfl)
    (hline : (apos.endLine == cpos.line) = true := by rfl) (hs : starEach [e] X.env = (false, eval e X.env) :: starEach [] X.env := by rfl) (hplain : (backTo cpos (starEach [] X.env)).any (·.1) = false := by rfl) (hK : X.K = K := by rfl) :
    PE X (.Call (.Attribute o "join" apos) [e] [] cpos) (tBM K "str" rJoin to t) := hK ▸ pe_bm PySem.F.plainAttrs_str PySem.F.slot_str_join PySem.F.type_str_join mt_join ho ha hbase hfew hline hs hplain
theorem m_append (K : PySem.W.Frag) {o e : Expr} {to : TE} {t : TA} {apos cpos : Pos} (ho : PE X o to) (ha : PA X [e] t)
    (hbase : attributeBase o "append" X.env (eval o X.env) = eval o X.env := by rfl)
    (hfew : ((backTo cpos (starEach [e] X.env)).all (fun x => !x.1) && (backToKw cpos (keywordEach [] X.env)).all (fun x => x.1.isSome)
      && decide ([e].length + ([] : List Keyword).length + (if ([] : List Keyword).isEmpty then 0 else 1) < 30)) = true := by rfl)
    (hline : (apos.endLine == cpos.line) = true := by rfl) (hs : starEach [e] X.env = (false, eval e X.env) :: starEach [] X.env := by rfl) (hplain : (backTo cpos (starEach [] X.env)).any (·.1) = false := by rfl) (hK : X.K = K := by rfl) :
    PE X (.Call (.Attribute o "append" apos) [e] [] cpos) (tBM K "list" rAppend to t) := hK ▸ pe_bm PySem.F.plainAttrs_list PySem.F.slot_list_append PySem.F.type_list_append mt_append ho ha hbase hfew hline hs hplain
theorem sl_K (K : PySem.W.Frag) (hK : X.K = K := by rfl) : SlR X (fun x lo hi H Q => SlX K H x lo hi Q) := hK ▸ sl_X
theorem pi_listK (K : PySem.W.Frag) {tg l : Expr} {tl : TE} (hl : PE X l tl) (hK : X.K = K := by rfl) : PI X tg l (iList K tl) := hK ▸ pi_list hl
theorem pi_tupK (K : PySem.W.Frag) {tg l : Expr} {tl : TE} (hl : PE X l tl) (hK : X.K = K := by rfl) : PI X tg l (iTup K tl) := hK ▸ pi_tup hl
end
theorem gYes {i : Nat} {v : V} {σ : St} {H : Hp} {A B : St → Hp → Prop} (h : A (σ.set i (some v)) H) : gName i v σ H fun σ2 H3 => tYes σ2 H3 fun b H4 => if b = true then A σ2 H4 else B σ2 H4 := by
  show (if true = true then A (σ.set i (some v)) H else B (σ.set i (some v)) H)
  rw [if_pos rfl]
  exact h
section
variable {K : PySem.W.Frag} {k : Nat} {fr : List Nat} {g : TG} {tc : TT} {te : TE} {σ : St} {H1 : Hp} {Q : VK}
theorem comp_items {J : It} (xs : List V) (Ok : Hp → Prop) (hgo : ∀ i H, Ok H → i < xs.length → J.go i H) (hyl : ∀ i H x H', Ok H → i < xs.length → J.yld i H x H' → H' = H ∧ xs[i]? = some x) (hst : ∀ H, Ok H → J.stop xs.length H)
    (Pv : Addr → Nat → List V → St → Hp → Prop)
    (h : ∀ D, H1 D = none → Pv D 0 [] (inSt k fr σ) (upd H1 D (.lst [])) ∧ (∀ i acc σ' H', i ≤ xs.length → Pv D i acc σ' H' → H' D = some (.lst acc) → Ok H') ∧
      (∀ i acc σ' H' x, xs[i]? = some x → Pv D i acc σ' H' → H' D = some (.lst acc) → g x σ' H' fun σ2 H3 => tc σ2 H3 fun b H4 =>
        if b = true then te σ2 H4 fun y H5 => H5 D = some (.lst acc) ∧ acc.length < sizeLine ∧ Pv D (i + 1) (acc ++ [y]) σ2 (upd H5 D (.lst (acc ++ [y]))) else H4 D = some (.lst acc) ∧ Pv D (i + 1) acc σ2 H4) ∧
      ∀ acc σ' H', Pv D xs.length acc σ' H' → H' D = some (.lst acc) → Q (.ref D) H') : tCompW k fr g tc te J σ H1 Q := by
  intro D hD
  obtain ⟨h0, hok, hs, hd⟩ := h D hD
  refine ⟨fun i m acc σ' H' => m = xs.length - i ∧ i ≤ xs.length ∧ Pv D i acc σ' H', ⟨xs.length, by simp, Nat.zero_le _, h0⟩, ?_⟩
  rintro i m acc σ' H' ⟨rfl, hi, p⟩ hacc
  have ok := hok i acc σ' H' hi p hacc
  by_cases hlt : i < xs.length
  · refine .inr ⟨hgo i H' ok hlt, Pv D (i + 1), fun acc' σ2 H2 p' => ⟨xs.length - (i + 1), by omega, rfl, hlt, p'⟩, fun x H2 y => ?_⟩
    obtain ⟨e, hx⟩ := hyl i H' x H2 ok hlt y
    subst e
    exact hs i acc σ' H2 x hx p hacc
  · have e : i = xs.length := by omega
    subst e
    exact .inl ⟨hst H' ok, hd acc σ' H' p hacc⟩
noncomputable def rngV (n : Nat) : List V := (List.range n).map fun i => V.int (0 + (i : Nat))
theorem comp_range {n : Nat} (Pv : Addr → Nat → List V → St → Hp → Prop)
    (h : ∀ D, H1 D = none → Pv D 0 [] (inSt k fr σ) (upd H1 D (.lst [])) ∧
      (∀ i acc σ' H', i < n → Pv D i acc σ' H' → H' D = some (.lst acc) → g (.int (0 + (i : Nat))) σ' H' fun σ2 H3 => tc σ2 H3 fun b H4 =>
        if b = true then te σ2 H4 fun y H5 => H5 D = some (.lst acc) ∧ acc.length < sizeLine ∧ Pv D (i + 1) (acc ++ [y]) σ2 (upd H5 D (.lst (acc ++ [y]))) else H4 D = some (.lst acc) ∧ Pv D (i + 1) acc σ2 H4) ∧
      ∀ acc σ' H', Pv D n acc σ' H' → H' D = some (.lst acc) → Q (.ref D) H') : tCompW k fr g tc te (Itr 0 n) σ H1 Q := by
  have hl : (rngV n).length = n := by simp [rngV]
  refine comp_items (rngV n) (fun _ => True) (fun i H _ hi => by rw [hl] at hi; exact hi) (fun i H x H' _ hi y => ⟨y.1, ?_⟩) (fun H _ => by show n ≤ (rngV n).length; rw [hl]; exact Nat.le_refl _) Pv fun D hD => ?_
  · rw [hl] at hi
    rw [y.2]
    simp [rngV, hi]
  · obtain ⟨a, b, c⟩ := h D hD
    refine ⟨a, fun _ _ _ _ _ _ _ => trivial, fun i acc σ' H' x hx p hacc => ?_, by rw [hl]; exact c⟩
    have hi : i < n := by rw [← hl]; exact (List.getElem?_eq_some_iff.mp hx).1
    have e : x = V.int (0 + (i : Nat)) := by
      simp [rngV, hi] at hx
      rw [← hx]; simp
    subst e
    exact b i acc σ' H' hi p hacc
theorem comp_list {a : Addr} (xs : List V) (Pv : Addr → Nat → List V → St → Hp → Prop)
    (h : ∀ D, H1 D = none → Pv D 0 [] (inSt k fr σ) (upd H1 D (.lst [])) ∧ (∀ i acc σ' H', i ≤ xs.length → Pv D i acc σ' H' → H' D = some (.lst acc) → SqL K H' a xs) ∧
      (∀ i acc σ' H' x, xs[i]? = some x → Pv D i acc σ' H' → H' D = some (.lst acc) → g x σ' H' fun σ2 H3 => tc σ2 H3 fun b H4 =>
        if b = true then te σ2 H4 fun y H5 => H5 D = some (.lst acc) ∧ acc.length < sizeLine ∧ Pv D (i + 1) (acc ++ [y]) σ2 (upd H5 D (.lst (acc ++ [y]))) else H4 D = some (.lst acc) ∧ Pv D (i + 1) acc σ2 H4) ∧
      ∀ acc σ' H', Pv D xs.length acc σ' H' → H' D = some (.lst acc) → Q (.ref D) H') : tCompW k fr g tc te (Itl K a) σ H1 Q :=
  comp_items xs (fun H => SqL K H a xs) (fun i H q hi => ⟨xs, xs[i], q, by simp [hi]⟩) (fun i H x H' q hi y => ⟨y.1, y.2 xs q⟩) (fun H q => ⟨xs, q, Nat.le_refl _⟩) Pv h
theorem comp_tup {a : Addr} (xs : List V) (Pv : Addr → Nat → List V → St → Hp → Prop)
    (h : ∀ D, H1 D = none → Pv D 0 [] (inSt k fr σ) (upd H1 D (.lst [])) ∧ (∀ i acc σ' H', i ≤ xs.length → Pv D i acc σ' H' → H' D = some (.lst acc) → SqT K H' a xs) ∧
      (∀ i acc σ' H' x, xs[i]? = some x → Pv D i acc σ' H' → H' D = some (.lst acc) → g x σ' H' fun σ2 H3 => tc σ2 H3 fun b H4 =>
        if b = true then te σ2 H4 fun y H5 => H5 D = some (.lst acc) ∧ acc.length < sizeLine ∧ Pv D (i + 1) (acc ++ [y]) σ2 (upd H5 D (.lst (acc ++ [y]))) else H4 D = some (.lst acc) ∧ Pv D (i + 1) acc σ2 H4) ∧
      ∀ acc σ' H', Pv D xs.length acc σ' H' → H' D = some (.lst acc) → Q (.ref D) H') : tCompW k fr g tc te (Itt K a) σ H1 Q :=
  comp_items xs (fun H => SqT K H a xs) (fun i H q hi => ⟨xs, xs[i], q, by simp [hi]⟩) (fun i H x H' q hi y => ⟨y.1, y.2 xs q⟩) (fun H q => ⟨xs, q, Nat.le_refl _⟩) Pv h
noncomputable def signsV (z : Str) : List V := z.cps.toList.map fun c => V.str ⟨#[c]⟩
theorem comp_str {z : Str} (Pv : Addr → Nat → List V → St → Hp → Prop)
    (h : ∀ D, H1 D = none → Pv D 0 [] (inSt k fr σ) (upd H1 D (.lst [])) ∧
      (∀ i acc σ' H' c, z.cps.toList[i]? = some c → Pv D i acc σ' H' → H' D = some (.lst acc) → g (.str ⟨#[c]⟩) σ' H' fun σ2 H3 => tc σ2 H3 fun b H4 =>
        if b = true then te σ2 H4 fun y H5 => H5 D = some (.lst acc) ∧ acc.length < sizeLine ∧ Pv D (i + 1) (acc ++ [y]) σ2 (upd H5 D (.lst (acc ++ [y]))) else H4 D = some (.lst acc) ∧ Pv D (i + 1) acc σ2 H4) ∧
      ∀ acc σ' H', Pv D z.cps.toList.length acc σ' H' → H' D = some (.lst acc) → Q (.ref D) H') : tCompW k fr g tc te (Its z) σ H1 Q := by
  have hl : (signsV z).length = z.cps.toList.length := by simp [signsV]
  refine comp_items (signsV z) (fun _ => True) (fun i H _ hi => by rw [hl] at hi; show i < z.cps.size; simpa using hi) (fun i H x H' _ hi y => ⟨y.1, ?_⟩) (fun H _ => by show z.cps.size ≤ (signsV z).length; rw [hl]; simp) Pv fun D hD => ?_
  · have y2 := y.2
    unfold sgV at y2
    simp only [signsV, List.getElem?_map, Array.getElem?_toList]
    exact y2
  · obtain ⟨a, b, c⟩ := h D hD
    refine ⟨a, fun _ _ _ _ _ _ _ => trivial, fun i acc σ' H' x hx p hacc => ?_, by rw [hl]; exact c⟩
    simp only [signsV, List.getElem?_map] at hx
    cases e : z.cps.toList[i]? with
    | none => rw [e] at hx; cases hx
    | some cc =>
      rw [e] at hx
      cases hx
      exact b i acc σ' H' cc e p hacc
end
noncomputable def But (p : Addr) (H H' : Hp) : Prop := ∀ b o, b ≠ p → H b = some o → H' b = some o
theorem But.refl (p : Addr) (H : Hp) : But p H H := fun _ _ _ h => h
theorem But.trans {p : Addr} {H H1 H2 : Hp} (a : But p H H1) (b : But p H1 H2) : But p H H2 := fun c o n h => b c o n (a c o n h)
theorem But.upd {p : Addr} {H : Hp} {o : HO} : But p H (upd H p o) := fun b o' n h => by rw [upd_ne n]; exact h
theorem But.of_same {p : Addr} {H H' : Hp} (s : Same H H') : But p H H' := fun b o _ h => s b o h
theorem Same.new {H : Hp} {p : Addr} {o : HO} (h : H p = none) : Same H (upd H p o) := fun b o' e => by rw [upd_ne (ne_of_none e h)]; exact e
theorem Rd.but {p : Addr} {H H' : Hp} (b : But p H H') {a : Addr} {u : HO} (n : a ≠ p) (h : Rd H a u) : Rd H' a u := by
  rcases h with h | ⟨o, h⟩
  · exact .inl (b _ _ n h)
  · exact .inr ⟨o, b _ _ n h⟩
theorem SqL.but {K : PySem.W.Frag} {p : Addr} {H H' : Hp} (b : But p H H') {a : Addr} {xs : List V} (n : a ≠ p) (h : SqL K H a xs) : SqL K H' a xs := by
  rcases h with h | h
  · exact .inl (h.but b n)
  · exact .inr h
structure Blt (mg : Str → Option Value) : Prop where
  len : mg "len" = none
  range : mg "range" = none
  abs : mg "abs" = none
  all : mg "all" = none
  repr : mg "repr" = none
  isinstance : mg "isinstance" = none
  str : mg "str" = none
  int : mg "int" = none
  bool : mg "bool" = none
  enumerate : mg "enumerate" = none
  list : mg "list" = none
  tuple : mg "tuple" = none
  dict : mg "dict" = none
  min : mg "min" = none
  max : mg "max" = none
section
variable {X : Cx} {p pos : Pos} {e f : Expr} {t : TA}
noncomputable def rLen (K : PySem.W.Frag) : List V → Hp → VK → Prop := fun xs H Q => ∃ x n, xs = [x] ∧ LenV K x H n ∧ Q (.int n) H
noncomputable def rAbs : List V → Hp → VK → Prop := fun xs H Q => ∃ i, xs = [.int i] ∧ Q (.int (if i < 0 then -i else i)) H
noncomputable def rAll : List V → Hp → VK → Prop := fun xs H Q => ∃ p bs, xs = [.ref p] ∧ H p = some (.lst (List.map V.bl bs)) ∧ Q (.bl (bs.all id)) H
theorem b_len (K : PySem.W.Frag) (B : Blt X.mg) (ha : PA X [e] t) (hg : Gl X "len" := by rfl) (he : starEach [e] X.env = (false, eval e X.env) :: starEach [] X.env := by rfl) (hpl : (backTo pos (starEach [] X.env)).any (·.1) = false := by rfl) (hK : X.K = K := by rfl) : PE X (.Call (.Name "len" p) [e] [] pos) (tCB (rLen K) t) :=
  hK ▸ pe_callB call_len hg B.len PySem.boot_len ha (by decide) (by decide) he hpl
theorem b_abs (B : Blt X.mg) (ha : PA X [e] t) (hg : Gl X "abs" := by rfl) (he : starEach [e] X.env = (false, eval e X.env) :: starEach [] X.env := by rfl) (hpl : (backTo pos (starEach [] X.env)).any (·.1) = false := by rfl) : PE X (.Call (.Name "abs" p) [e] [] pos) (tCB rAbs t) :=
  pe_callB call_abs hg B.abs boot_abs ha (by decide) (by decide) he hpl
theorem b_all (hc : X.calm = true) (B : Blt X.mg) (ha : PA X [e] t) (hg : Gl X "all" := by rfl) (he : starEach [e] X.env = (false, eval e X.env) :: starEach [] X.env := by rfl) (hpl : (backTo pos (starEach [] X.env)).any (·.1) = false := by rfl) : PE X (.Call (.Name "all" p) [e] [] pos) (tCB rAll t) :=
  pe_callB (call_all_bl hc) hg B.all boot_all ha (by decide) (by decide) he hpl
theorem b_isi (K : PySem.W.Frag) (c : String) (B : Blt X.mg) (ha : PA X [e, f] t) (hg : Gl X "isinstance" := by rfl) (he : starEach [e, f] X.env = (false, eval e X.env) :: starEach [f] X.env := by rfl) (hpl : (backTo pos (starEach [f] X.env)).any (·.1) = false := by rfl) (hK : X.K = K := by rfl) : PE X (.Call (.Name "isinstance" p) [e, f] [] pos) (tCB (rIsi K c) t) :=
  hK ▸ pe_callB (call_isi c) hg B.isinstance boot_isinstance ha (by decide) (by decide) he hpl
theorem g_str (B : Blt X.mg) (hg : Gl X "str" := by rfl) : PE X (.Name "str" p) (tC (.ty "str")) := pe_bltn hg B.str PyProof.Rows.boot_str rfl
theorem g_int (B : Blt X.mg) (hg : Gl X "int" := by rfl) : PE X (.Name "int" p) (tC (.ty "int")) := pe_bltn hg B.int PyProof.Rows.boot_int rfl
theorem g_bool (B : Blt X.mg) (hg : Gl X "bool" := by rfl) : PE X (.Name "bool" p) (tC (.ty "bool")) := pe_bltn hg B.bool PyProof.Rows.boot_bool rfl
theorem g_list (B : Blt X.mg) (hg : Gl X "list" := by rfl) : PE X (.Name "list" p) (tC (.ty "list")) := pe_bltn hg B.list (show bootBuiltins "list" = some (.type "list") by decide +kernel) rfl
end
end L2
namespace L2
open PySem PySem.Spec PyProof.Rows PySem.Builtin PySem.Builtin.Str
noncomputable def Asc (z : Str) : Prop := ∀ c ∈ z.cps.toList, c < 128
theorem len_app (x y : Str) : (x ++ y).length = x.length + y.length := by
  show (x.cps ++ y.cps).size = x.cps.size + y.cps.size
  rw [Array.size_append]
theorem sum_le {ys : List Str} {n : Nat} (h : ∀ y ∈ ys, y.length ≤ n) : (ys.map (·.length)).sum ≤ ys.length * n := by
  induction ys with
  | nil => simp
  | cons y r ih =>
    have h1 := h y (by simp)
    have h2 := ih fun z hz => h z (List.mem_cons_of_mem _ hz)
    simp only [List.map_cons, List.sum_cons, List.length_cons]
    rw [Nat.succ_mul]
    omega
theorem at_ok {α : Type} {xs : List α} {j : Int} (h0 : 0 ≤ j) (h1 : j < xs.length) : ∃ v, atI xs j = some v ∧ v ∈ xs := by
  obtain ⟨k, rfl⟩ := Int.eq_ofNat_of_zero_le h0
  have hk : k < xs.length := by omega
  exact ⟨xs[k], atI_nat (by simp [hk]), List.getElem_mem hk⟩
theorem at_int {ns : List Int} {j : Int} (h0 : 0 ≤ j) (h1 : j < (ns.map V.int).length) : ∃ c, atI (ns.map V.int) j = some (.int c) := by
  obtain ⟨v, e, m⟩ := at_ok h0 h1
  obtain ⟨c, _, rfl⟩ := List.mem_map.mp m
  exact ⟨c, e⟩
theorem fst_small (x : Int) : -(2 ^ 64) < x % 2147483647 ∧ x % 2147483647 < 2 ^ 64 := by
  have h1 := Int.emod_nonneg x (show (2147483647 : Int) ≠ 0 by decide)
  have h2 := Int.emod_lt_of_pos x (show (0 : Int) < 2147483647 by decide)
  omega
noncomputable def PenV (H : Hp) (p a : Addr) : Prop := ∃ (i n : Int), H p = some (.lst [.ref a, .int i, .int n]) ∧ 0 ≤ i ∧ 0 ≤ n
noncomputable def Pen (K : PySem.W.Frag) (H : Hp) (p a : Addr) : Prop := (∃ ns : List Int, ∀ H', But p H H' → SqL K H' a (ns.map V.int)) ∧ PenV H p a
theorem Pen.but {K : PySem.W.Frag} {H H' : Hp} {p a : Addr} (h : Pen K H p a) (b : But p H H') (v : PenV H' p a) : Pen K H' p a := ⟨let ⟨ns, q⟩ := h.1; ⟨ns, fun H2 b2 => q H2 (b.trans b2)⟩, v⟩
theorem Pen.new {K : PySem.W.Frag} {H : Hp} {p a : Addr} {ns : List Int} {o : HO} (h : SqL K H a (ns.map V.int)) (hp : H p = none) (v : PenV (upd H p o) p a) : Pen K (upd H p o) p a := by
  refine ⟨⟨ns, fun H' b => ?_⟩, v⟩
  rcases h with h | h
  · have n : a ≠ p := by
      rcases h with h | ⟨ob, h⟩
      · exact ne_of_none h hp
      · exact ne_of_none h hp
    have s : Same H (upd H p o) := Same.new hp
    exact SqL.but (fun c o' n' e => b c o' n' (s c o' e)) n (.inl h)
  · exact .inr h
theorem PenV.upd {H : Hp} {p a D : Addr} {o : HO} (h : PenV H p a) (n : p ≠ D) : PenV (L2.upd H D o) p a := let ⟨i, m, e, q⟩ := h; ⟨i, m, by rw [upd_ne n]; exact e, q⟩
theorem PenV.ne {H : Hp} {p a D : Addr} (h : PenV H p a) (e : H D = none) : p ≠ D := let ⟨_, _, q, _⟩ := h; ne_of_none q e
theorem But.at {p D : Addr} {H H' : Hp} {o : HO} (b : But p H H') (hD : H D = none) : But p H (L2.upd H' D o) := fun c o' n h => by rw [upd_ne (ne_of_none h hD)]; exact b c o' n h
theorem But.of_eq {p : Addr} {H H' : Hp} (h : ∀ b, b ≠ p → H' b = H b) : But p H H' := fun b o n e => (h b n).trans e
theorem But.free {p D : Addr} {H H' : Hp} (b : But p H H') (n : D ≠ p) (h : H' D = none) : H D = none := by
  cases e : H D with
  | none => rfl
  | some o => rw [b D o n e] at h; cases h
noncomputable def spDraw (K : PySem.W.Frag) : Sp := fun vs H Q _ => ∃ (p a : Addr) (m : Int), vs = [.ref p, .int m] ∧ Pen K H p a ∧ 0 < m ∧ m < 1073741824 ∧ ∀ r H', 0 ≤ r → r < m → PenV H' p a → (∀ b, b ≠ p → H' b = H b) → Q (.int r) H'
end L2
namespace L2
open PySem PySem.Spec PyProof.Rows
section
variable {X : Cx}
inductive InR (K : PySem.W.Frag) (neg : Bool) (H : Hp) : V → V → VK → Prop
  | dic {a : Addr} {y : V} {o : Option V} {Q : VK} : DGet H a y o → Q (.bl (if neg then !o.isSome else o.isSome)) H → InR K neg H y (.ref a) Q
  | seq {p : Addr} {x : V} {xs : List V} {Q : VK} : (SqL K H p xs ∨ SqT K H p xs) → flatV x = true → xs.all flatV = true → Q (.bl (if neg then !inV x xs else inV x xs)) H → InR K neg H x (.ref p) Q
  | tr {p : Addr} {x : V} {xs : List V} {ds : List PyData} {d : PyData} {Q : VK} : H p = some (.lst xs) → RepAll H xs ds → Rep H x d → PyData.canLayAll0 ds = true → d.canLay0 = true → d.depth ≤ 16 →
      Q (.bl (if neg then !(ds.any fun e => PyData.eqv e d) else ds.any fun e => PyData.eqv e d)) H → InR K neg H x (.ref p) Q
theorem op_inX (K : PySem.W.Frag) (hu : X.A.units + 64 < cLine) (hK : X.K = K := by rfl) : OpR X (compareOp .In) (fun x y H Q => InR K false H x y Q) := by
  subst hK
  intro pins s σ H x y v u Q I rx ry h
  cases h with
  | dic g q =>
    cases ry
    exact d_in (by omega) I g rx fun s' I' => ⟨.bl _, H, I', rfl, q⟩
  | seq hq fx fs q => exact op_in_seq pins s σ H _ _ v u Q I rx ry ⟨_, _, rfl, hq, fx, fs, q⟩
  | tr e rs r cs c dp q => exact op_inD hu pins s σ H _ _ v u Q I rx ry ⟨_, _, _, _, rfl, e, rs, r, cs, c, dp, q⟩
theorem op_notInX (K : PySem.W.Frag) (hu : X.A.units + 64 < cLine) (hK : X.K = K := by rfl) : OpR X (compareOp .NotIn) (fun x y H Q => InR K true H x y Q) := by
  subst hK
  intro pins s σ H x y v u Q I rx ry h
  cases h with
  | dic g q =>
    cases ry
    exact d_notIn (by omega) I g rx fun s' I' => ⟨.bl _, H, I', rfl, q⟩
  | seq hq fx fs q => exact op_notIn_seq pins s σ H _ _ v u Q I rx ry ⟨_, _, rfl, hq, fx, fs, q⟩
  | tr e rs r cs c dp q => exact op_notInD hu pins s σ H _ _ v u Q I rx ry ⟨_, _, _, _, rfl, e, rs, r, cs, c, dp, q⟩
inductive IxX (K : PySem.W.Frag) (H : Hp) : V → V → VK → Prop
  | lst {p : Addr} {xs : List V} {i : Int} {v : V} {Q : VK} : SqL K H p xs → atI xs i = some v → Q v H → IxX K H (.ref p) (.int i) Q
  | tup {p : Addr} {xs : List V} {i : Int} {v : V} {Q : VK} : SqT K H p xs → atI xs i = some v → Q v H → IxX K H (.ref p) (.int i) Q
  | str {z : Str} {i : Int} {c : Nat} {Q : VK} : z.length ≤ sizeLine → atI z.cps.toList i = some c → Q (.str ⟨#[c]⟩) H → IxX K H (.str z) (.int i) Q
  | dic {a : Addr} {y v : V} {Q : VK} : DGet H a y (some v) → Q v H → IxX K H (.ref a) y Q
theorem ix_X (K : PySem.W.Frag) (hu : X.A.units + 64 < cLine) (hK : X.K = K := by rfl) : IxR X (fun x y H Q => IxX K H x y Q) := by
  subst hK
  intro value slice pins s σ H x y v u Q I rx ry h hs
  cases h with
  | lst hq e q => exact ix_list value slice pins s σ H _ _ v u Q I rx ry ⟨_, _, _, _, rfl, rfl, hq, e, q⟩ hs
  | tup hq e q => exact ix_tup value slice pins s σ H _ _ v u Q I rx ry ⟨_, _, _, _, rfl, rfl, hq, e, q⟩ hs
  | str hz e q => exact ix_str value slice pins s σ H _ _ v u Q I rx ry ⟨_, _, _, rfl, rfl, hz, e, q⟩ hs
  | dic g q =>
    cases rx
    exact tail_any (dict_typeIs I g) PySem.F.slot_dict_getitem.lookup (d_getItem (by omega) I g ry fun w' s3 I3 rw' => ⟨_, H, I3, rw', q⟩) hs
inductive SetX (H : Hp) : V → V → V → (Hp → Prop) → Prop
  | lst {p : Addr} {xs : List V} {k : Int} {j : Nat} {v : V} {Q : Hp → Prop} : H p = some (.lst xs) → ixN xs.length k = some j → Q (upd H p (.lst (xs.set j v))) → SetX H (.ref p) (.int k) v Q
  | dic {a : Addr} {y v : V} {H' : Hp} {Q : Hp → Prop} : DPut H a y v H' → Q H' → SetX H (.ref a) y v Q
theorem set_X (hu : X.A.units + 64 < cLine) : PSet X (fun o i v H Q => SetX H o i v Q) := by
  intro pins s σ H o i v ov iv u Q I ro ri rv h
  cases h with
  | lst e ej q => exact set_list pins s σ H _ _ _ ov iv u Q I ro ri rv ⟨_, _, _, _, rfl, rfl, e, ej, q⟩
  | dic g q =>
    cases ro
    exact d_setItem (by omega) I g ri rv fun s4 I4 => ⟨_, I4, q⟩
theorem pg_tupK (K : PySem.W.Frag) {es : List Expr} {k : Nat} {pos : Pos} {t : TGs} {n : Nat} (hc : X.calm = true) (h : PGs X es t)
    (hn : (assignEach es X.env).length = n := by rfl) (hst : (assignEach es X.env).findIdx? (·.1) = none := by rfl) (hK : X.K = K := by rfl) : PG X (.Tuple es k pos) (gTup K n t) := hK ▸ pg_tup hc h hn hst
theorem pi_enumK (K : PySem.W.Frag) {elts : List Expr} {k : Nat} {tp : Pos} {a : Expr} {ta : TA} {p pos : Pos} (hg : Gl X "enumerate") (hm : X.mg "enumerate" = none) (ha : PA X [a] ta) (hs : starEach [a] X.env = [(false, eval a X.env)] := by rfl) (hK : X.K = K := by rfl) :
    PI X (.Tuple elts k tp) (.Call (.Name "enumerate" p) [a] [] pos) (iEnum K ta) := hK ▸ pi_enum hg hm ha hs
variable {p pos p2 pos2 : Pos} {e f : Expr} {t : TA}
noncomputable def rSorted (K : PySem.W.Frag) : List V → Hp → VK → Prop := fun xs H Q => ∃ a ns, xs = [.ref a] ∧ SqL K H a (List.map V.int ns) ∧ ns.length < 64 ∧ ∀ l ns', H l = none → ns'.Perm ns → ns'.Pairwise (· ≤ ·) → Q (.ref l) (upd H l (.lst (List.map V.int ns')))
theorem call_sorted : CallR X (.builtin "sorted") (rSorted X.K) := by
  intro pins s σ H xs us Q I r h
  obtain ⟨a, ns, rfl, hq, hl, q⟩ := h
  obtain ⟨u, rfl, ru⟩ := vals1 r
  cases ru
  obtain ⟨its, rv, pl, hz⟩ := I.list hq
  have hi := intsAre_of rv
  have hlen : its.length = ns.length := by have := rv.length; rw [List.length_map] at this; exact this.symm
  refine sorted_ints pl.isList hi (by omega) fun out ns' a1 a2 a3 => ?_
  obtain ⟨e, he⟩ := sortedAll_at s.heap its out
  have hz' : (List.map V.int ns').length ≤ sizeLine := by
    rw [List.length_map, a2.length_eq]
    exact Nat.le_of_lt (small1000 (by omega))
  have I1 := I.laid (a := s.heap.objs.size + 1) (o := .lst (List.map V.int ns')) (t' := s.toks) (h' := sortedAll s.heap its out) (fun b o e => sortedAll_old e) (Nat.le_succ _) ⟨hz', out.toList, _, vals_ints a1, by simpa [seqObj] using he⟩
  exact ⟨.ref _, _, I1, rfl, q _ _ (I.hok.fresh (Nat.le_succ _)) a2 a3⟩
end
end L2
namespace L2
open PySem PySem.Spec PyProof.Rows
section
variable {X : Cx} {p pos p2 pos2 : Pos} {e f : Expr} {t : TA}
theorem b_sorted (K : PySem.W.Frag) (hm : X.mg "sorted" = none) (ha : PA X [e] t) (hg : Gl X "sorted" := by rfl) (he : starEach [e] X.env = (false, eval e X.env) :: starEach [] X.env := by rfl) (hpl : (backTo pos (starEach [] X.env)).any (·.1) = false := by rfl) (hK : X.K = K := by rfl) :
    PE X (.Call (.Name "sorted" p) [e] [] pos) (tCB (rSorted K) t) := hK ▸ pe_callB call_sorted hg hm (show bootBuiltins "sorted" = some (.builtin "sorted") by decide +kernel) ha (by decide) (by decide) he hpl
noncomputable def rTupL (K : PySem.W.Frag) : List V → Hp → VK → Prop := fun xs H Q => ∃ a ys, xs = [.ref a] ∧ SqL K H a ys ∧ ∀ l, H l = none → Q (.ref l) (upd H l (.tup ys))
theorem b_tuple (K : PySem.W.Frag) (B : Blt X.mg) (ha : PA X [e] t) (hg : Gl X "tuple" := by rfl) (he : starEach [e] X.env = (false, eval e X.env) :: starEach [] X.env := by rfl) (hpl : (backTo pos (starEach [] X.env)).any (·.1) = false := by rfl) (hK : X.K = K := by rfl) :
    PE X (.Call (.Name "tuple" p) [e] [] pos) (tCB (rTupL K) t) := by
  subst hK
  refine pe_callTy (r := rTupL X.K) (fun pins s σ H xs us Q I r h => ?_) hg B.tuple (show bootBuiltins "tuple" = some (.type "tuple") by decide +kernel) ha (by decide) (by decide) he hpl
  obtain ⟨a, ys, rfl, hq, q⟩ := h
  exact call_tuple_of pins s σ H _ us Q I r ⟨a, ys, rfl, .inl ⟨hq, q⟩⟩
inductive LstR (K : PySem.W.Frag) (H : Hp) : V → VK → Prop
  | seq {a : Addr} {ys : List V} {Q : VK} : (SqL K H a ys ∨ SqT K H a ys) → (∀ l, H l = none → Q (.ref l) (upd H l (.lst ys))) → LstR K H (.ref a) Q
  | rng {a : Addr} {n : Nat} {Q : VK} : H a = some (.rng 0 (n : Int)) → n ≤ 1000 → (∀ l, H l = none → Q (.ref l) (upd H l (.lst (rngV n)))) → LstR K H (.ref a) Q
noncomputable def rLst (K : PySem.W.Frag) : List V → Hp → VK → Prop := fun xs H Q => ∃ x, xs = [x] ∧ LstR K H x Q
theorem vals_rng {n : Nat} {its : List Value} (hl : its.length = n) (h : ∀ i v, its[i]? = some v → ∃ t, v = Value.int (0 + (i : Nat) * 1) t) : Vals (rngV n) its := by
  subst hl
  have key : ∀ (its : List Value) (k : Nat), (∀ i v, its[i]? = some v → ∃ t, v = Value.int (0 + ((k + i : Nat) : Int)) t) → Vals ((List.range' k its.length).map fun i => V.int (0 + (i : Nat))) its := by
    intro its
    induction its with
    | nil => intro k _; exact .nil
    | cons u r ih =>
      intro k h
      rw [List.length_cons, List.range'_succ, List.map_cons]
      refine .cons ?_ (ih (k + 1) fun i v e => ?_)
      · obtain ⟨t, e⟩ := h 0 u rfl
        exact ⟨t, by rw [e, Nat.add_zero]⟩
      · obtain ⟨t, e'⟩ := h (i + 1) v (by simpa using e)
        exact ⟨t, by rw [e', show ((k + (i + 1) : Nat) : Int) = ((k + 1 + i : Nat) : Int) by omega]⟩
  have := key its 0 fun i v e => by
    obtain ⟨t, e'⟩ := h i v e
    exact ⟨t, by rw [e', Int.mul_one, Nat.zero_add]⟩
  rw [rngV, List.range_eq_range']
  exact this
theorem b_list (K : PySem.W.Frag) (hc : X.calm = true) (B : Blt X.mg) (ha : PA X [e] t) (hg : Gl X "list" := by rfl) (he : starEach [e] X.env = (false, eval e X.env) :: starEach [] X.env := by rfl) (hpl : (backTo pos (starEach [] X.env)).any (·.1) = false := by rfl) (hK : X.K = K := by rfl) :
    PE X (.Call (.Name "list" p) [e] [] pos) (tCB (rLst K) t) := by
  subst hK
  refine pe_callTy (r := rLst X.K) (fun pins s σ H xs us Q I r h => ?_) hg B.list (show bootBuiltins "list" = some (.type "list") by decide +kernel) ha (by decide) (by decide) he hpl
  obtain ⟨x, rfl, h⟩ := h
  cases h with
  | seq hq q => exact call_list_of pins s σ H _ us Q I r ⟨_, _, rfl, hq, q⟩
  | @rng a n _ ea hn q =>
    obtain ⟨u, rfl, ru⟩ := vals1 r
    cases ru
    obtain ⟨t1, t2, t3, eh⟩ := (show ObjOk X.prog X.w H s.heap a (.rng 0 (n : Int)) from I.hok a _ ea)
    refine call_list_range (n := n) (I.ok.hd hc) eh (small_one (by decide) (by decide) (by omega) (by omega)) (by rw [rangeSize_one]; split <;> omega) (by omega) fun h' tk acc' c' hk hl hi => ?_
    have hv : Vals (rngV n) acc'.toList := vals_rng (by simpa using hi.1) fun i v e => hi.2 i v (by simpa using e)
    refine ⟨.ref _, _, I.laid (o := .lst (rngV n)) hk (Nat.le_refl _) ⟨?_, acc'.toList, c', hv, by simpa using hl⟩, rfl, q _ (I.hok.fresh (Nat.le_refl _))⟩
    have : (rngV n).length = n := by simp [rngV]
    rw [this]
    exact Nat.le_of_lt (small1000 hn)
theorem b_min (hc : X.calm = true) (B : Blt X.mg) (ha : PA X [e, f] t) (hg : Gl X "min" := by rfl) (he : starEach [e, f] X.env = (false, eval e X.env) :: starEach [f] X.env := by rfl) (hpl : (backTo pos (starEach [f] X.env)).any (·.1) = false := by rfl) :
    PE X (.Call (.Name "min" p) [e, f] [] pos) (tCB (fun xs H Q => ∃ i j, xs = [.int i, .int j] ∧ Q (.int (if j < i then j else i)) H) t) :=
  pe_callB (call_min2 hc) hg B.min (show bootBuiltins "min" = some (.builtin "min") by decide +kernel) ha (by decide) (by decide) he hpl
theorem b_max (hc : X.calm = true) (B : Blt X.mg) (ha : PA X [e, f] t) (hg : Gl X "max" := by rfl) (he : starEach [e, f] X.env = (false, eval e X.env) :: starEach [f] X.env := by rfl) (hpl : (backTo pos (starEach [f] X.env)).any (·.1) = false := by rfl) :
    PE X (.Call (.Name "max" p) [e, f] [] pos) (tCB (fun xs H Q => ∃ i j, xs = [.int i, .int j] ∧ Q (.int (if j > i then j else i)) H) t) :=
  pe_callB (call_max2 hc) hg B.max (show bootBuiltins "max" = some (.builtin "max") by decide +kernel) ha (by decide) (by decide) he hpl
theorem ins_at {its : List Value} {u : Value} {k : Nat} {x : Int} (hx : x = (k : Int)) (hk : k ≤ its.length) :
    (fun xs : Array Value => have k := if x < 0 then (x + (xs.size : Int)).toNat else min x.toNat xs.size; (xs.extract 0 k).push u ++ xs.extract k) its.toArray = (its.take k ++ u :: its.drop k).toArray := by
  subst hx
  simp only [List.size_toArray]
  rw [if_neg (by omega), Int.toNat_natCast, Nat.min_eq_left hk]
  simp [List.extract_eq_drop_take]
  exact List.take_of_length_le (by rw [List.length_drop]; omega)
noncomputable def rInsert : V → List V → Hp → VK → Prop := fun x vs H Q => ∃ l xs i k y, x = .ref l ∧ vs = [.int i, y] ∧ i = ((k : Nat) : Int) ∧ H l = some (.lst xs) ∧ k ≤ xs.length ∧ xs.length < sizeLine ∧ Q .non (upd H l (.lst (xs.take k ++ y :: xs.drop k)))
theorem mt_insert : MtR X "list.insert" rInsert := by
  intro pins s σ H x vs v us Q I rx rv h
  obtain ⟨l, xs, i, k, y, rfl, rfl, hi, hH, hk, hz, q⟩ := h
  cases rx
  obtain ⟨u1, u2, rfl, r1, r2⟩ := vals2 rv
  obtain ⟨t, rfl⟩ := r1
  obtain ⟨z, its, n, r, hl, e⟩ := I.lstM hH
  have hs : its.length ≤ sizeLine := by omega
  have hfit : Builtin.List.listFitsIndex i = true := by
    have h1 : i < 2 ^ 63 := by have := line63; omega
    exact fitsIndex_both (by omega) h1
  have ME := PySem.AutoSeq1.list_insert_list_int_val_1 l its.toArray n i t u2 (by simp [hfit]) (by rw [List.size_toArray]; exact hs)
  refine call_meets F.slot_list_insert ⟨_, e, rfl⟩ F.entry_list_insert (F.args_list_insert_3 _ _ _) ME ⟨e, ?_⟩
  refine ⟨.non, _, I.lset (its' := its.take k ++ u2 :: its.drop k) hH e (ins_at hi (by omega)) (Vals.append (r.take k) (.cons r2 (r.drop k))) ?_, rfl, q⟩
  simp only [List.length_append, List.length_cons, List.length_take, List.length_drop]
  omega
theorem m_insert (K : PySem.W.Frag) {o e f : Expr} {to : TE} {t : TA} {apos cpos : Pos} (ho : PE X o to) (ha : PA X [e, f] t)
    (hbase : attributeBase o "insert" X.env (eval o X.env) = eval o X.env := by rfl)
    (hfew : ((backTo cpos (starEach [e, f] X.env)).all (fun x => !x.1) && (backToKw cpos (keywordEach [] X.env)).all (fun x => x.1.isSome)
      && decide ([e, f].length + ([] : List Keyword).length + (if ([] : List Keyword).isEmpty then 0 else 1) < 30)) = true := by rfl)
    (hline : (apos.endLine == cpos.line) = true := by rfl) (hs : starEach [e, f] X.env = (false, eval e X.env) :: starEach [f] X.env := by rfl) (hplain : (backTo cpos (starEach [f] X.env)).any (·.1) = false := by rfl) (hK : X.K = K := by rfl) :
    PE X (.Call (.Attribute o "insert" apos) [e, f] [] cpos) (tBM K "list" rInsert to t) := hK ▸ pe_bm PySem.F.plainAttrs_list PySem.F.slot_list_insert PySem.F.type_list_insert mt_insert ho ha hbase hfew hline hs hplain
end
end L2
namespace L2
open PySem PySem.Spec PyProof.Rows
noncomputable def Nm (s : Str) : Prop := 1 ≤ s.length ∧ s.length ≤ 8 ∧ ∀ c ∈ s.cps.toList, 97 ≤ c ∧ c ≤ 122
theorem Nm.asc {s : Str} (h : Nm s) : Asc s := fun c hc => by have := h.2.2 c hc; omega
noncomputable def pairD (e : Str × Str) : PyData := .tuple [.str e.1, .str e.2]
noncomputable def webD (ss : List Str) (ts : List (Str × Str)) : PyData := .tuple [.tuple (ss.map .str), .tuple (ts.map pairD)]
section
variable {H H' : Hp}
theorem Rep.tupI {v : V} {ds : List PyData} (h : Rep H v (.tuple ds)) : ∃ a xs, v = .ref a ∧ H a = some (.tup xs) ∧ RepAll H xs ds := by
  cases h with
  | tup e r => exact ⟨_, _, rfl, e, r⟩
theorem Rep.strI {v : V} {s : Str} (h : Rep H v (.str s)) : v = .str s := by cases h; rfl
theorem RepAll.nilI {xs : List V} (h : RepAll H xs []) : xs = [] := by cases h; rfl
theorem RepAll.consI {xs : List V} {d : PyData} {ds : List PyData} (h : RepAll H xs (d :: ds)) : ∃ y ys, xs = y :: ys ∧ Rep H y d ∧ RepAll H ys ds := by
  cases h with
  | cons a b => exact ⟨_, _, rfl, a, b⟩
theorem RepAll.strs : ∀ {xs : List V} {ss : List Str}, RepAll H xs (ss.map PyData.str) → xs = ss.map V.str
  | _, [], h => by rw [h.nilI]; rfl
  | _, s :: ss, h => by
    obtain ⟨y, ys, rfl, a, b⟩ := RepAll.consI h
    rw [a.strI, RepAll.strs b]; rfl
theorem RepAll.of_strs : ∀ (ss : List Str), RepAll H (ss.map V.str) (ss.map PyData.str)
  | [] => .nil
  | s :: ss => .cons (.str s) (RepAll.of_strs ss)
theorem RepAll.len {xs : List V} {ds : List PyData} (h : RepAll H xs ds) : xs.length = ds.length := by
  induction ds generalizing xs with
  | nil => rw [h.nilI]; rfl
  | cons d ds ih =>
    obtain ⟨y, ys, rfl, a, b⟩ := h.consI
    simp [ih b]
theorem RepAll.get {xs : List V} {ds : List PyData} (h : RepAll H xs ds) {i : Nat} {x : V} (e : xs[i]? = some x) : ∃ d, ds[i]? = some d ∧ Rep H x d := by
  induction ds generalizing xs i with
  | nil => rw [h.nilI] at e; simp at e
  | cons d ds ih =>
    obtain ⟨y, ys, rfl, a, b⟩ := h.consI
    cases i with
    | zero => simp at e; subst e; exact ⟨d, rfl, a⟩
    | succ i => simpa using ih b (by simpa using e)
theorem RepAll.append {xs ys : List V} {ds es : List PyData} (h : RepAll H xs ds) (g : RepAll H ys es) : RepAll H (xs ++ ys) (ds ++ es) := by
  induction ds generalizing xs with
  | nil => rw [h.nilI]; exact g
  | cons d ds ih =>
    obtain ⟨y, zs, rfl, a, b⟩ := h.consI
    exact .cons a (ih b)
theorem RepAll.take {xs : List V} {ds : List PyData} (h : RepAll H xs ds) : ∀ k, RepAll H (xs.take k) (ds.take k) := by
  induction ds generalizing xs with
  | nil => intro k; rw [h.nilI]; simp; exact .nil
  | cons d ds ih =>
    obtain ⟨y, zs, rfl, a, b⟩ := h.consI
    intro k
    cases k with
    | zero => exact .nil
    | succ k => exact .cons a (ih b k)
theorem RepAll.drop {xs : List V} {ds : List PyData} (h : RepAll H xs ds) : ∀ k, RepAll H (xs.drop k) (ds.drop k) := by
  induction ds generalizing xs with
  | nil => intro k; rw [h.nilI]; simp; exact .nil
  | cons d ds ih =>
    obtain ⟨y, zs, rfl, a, b⟩ := h.consI
    intro k
    cases k with
    | zero => exact .cons a b
    | succ k => exact ih b k
theorem pair_at {v : V} {e : Str × Str} (h : Rep H v (pairD e)) : ∃ a, v = .ref a ∧ H a = some (.tup [.str e.1, .str e.2]) := by
  obtain ⟨a, xs, rfl, ha, r⟩ := Rep.tupI h
  obtain ⟨y, ys, rfl, r1, r⟩ := r.consI
  obtain ⟨z, zs, rfl, r2, r⟩ := r.consI
  have e1 := RepAll.nilI r
  subst e1
  rw [r1.strI, r2.strI] at ha
  exact ⟨a, rfl, ha⟩
theorem pair_rep {a : Addr} {s t : Str} (h : H a = some (.tup [.str s, .str t])) : Rep H (.ref a) (pairD (s, t)) := .tup h (.cons (.str _) (.cons (.str _) .nil))
theorem web_at {v : V} {ss : List Str} {ts : List (Str × Str)} (h : Rep H v (webD ss ts)) : ∃ q a b xs, v = .ref q ∧ H q = some (.tup [.ref a, .ref b]) ∧ H a = some (.tup (ss.map V.str)) ∧ H b = some (.tup xs) ∧ RepAll H xs (ts.map pairD) := by
  obtain ⟨q, ws, rfl, hq, r0⟩ := Rep.tupI h
  obtain ⟨y, ys, rfl, r1, r3⟩ := r0.consI
  obtain ⟨z, zs, rfl, r2, r4⟩ := r3.consI
  obtain ⟨a, xa, rfl, ha, ra⟩ := Rep.tupI r1
  obtain ⟨b, xb, rfl, hb, rb⟩ := Rep.tupI r2
  have e1 := RepAll.nilI r4
  subst e1
  have e2 := RepAll.strs ra
  subst e2
  exact ⟨q, a, b, xb, rfl, hq, ha, hb, rb⟩
end
end L2
set_option autoImplicit false
namespace MG
variable {α : Type}
noncomputable def Walk (R : α → α → Prop) : Nat → α → α → Prop
  | 0, x, y => x = y
  | n + 1, x, y => ∃ z, Walk R n x z ∧ R z y
noncomputable def Rch (R : α → α → Prop) (x y : α) : Prop := ∃ n, Walk R n x y
variable {R : α → α → Prop} {x : α}
theorem Rch.refl : Rch R x x := ⟨0, rfl⟩
theorem Rch.step {y z : α} (h : Rch R x y) (r : R y z) : Rch R x z := by
  obtain ⟨n, w⟩ := h
  exact ⟨n + 1, y, w, r⟩
theorem Rch.closed {S : α → Prop} (h0 : S x) (hs : ∀ y z, S y → R y z → S z) {y : α} (h : Rch R x y) : S y := by
  obtain ⟨n, w⟩ := h
  induction n generalizing y with
  | zero => have : x = y := w
            subst this; exact h0
  | succ n ih =>
    obtain ⟨z, w, r⟩ := w
    exact hs z y (ih w) r
end MG
namespace MG
variable {α : Type} {R : α → α → Prop} {x : α}
end MG
namespace L2
open PySem PySem.Spec PyProof.Rows
noncomputable def namesD (ss : List Str) : PyData := .list (ss.map .str)
theorem names_rep {H : Hp} {a : Addr} {ss : List Str} (h : H a = some (.lst (ss.map V.str))) : Rep H (.ref a) (namesD ss) := .lst h (RepAll.of_strs ss)
theorem canLay_nm {s : Str} (h : Nm s) : PyData.canLay0 (.str s) = true := by
  show (s.cps.all (· < 0x110000)) = true
  rw [← Array.all_toList, List.all_eq_true]
  intro c hc
  have := h.2.2 c hc
  exact decide_eq_true (by omega)
theorem textFrom_le {n : Nat} : ∀ (ts : List Str) (k : Nat) (acc : Str), (∀ t ∈ ts, t.length ≤ n) → (textFrom k acc ts).length ≤ acc.length + ts.length * (n + 2)
  | [], k, acc, _ => by show acc.length ≤ acc.length + 0 * _; omega
  | t :: r, k, acc, h => by
    have h1 := textFrom_le r (k + 1) (acc ++ (if k > 0 then ", " else "" : String) ++ t) fun u hu => h u (List.mem_cons_of_mem _ hu)
    have h2 := h t (by simp)
    have e : (acc ++ (if k > 0 then ", " else "" : String) ++ t).length ≤ acc.length + 2 + t.length := by
      rw [len_app, len_app]
      have : (Str.ofString (if k > 0 then ", " else "" : String)).length ≤ 2 := by split <;> decide
      show acc.length + (Str.ofString (if k > 0 then ", " else "" : String)).length + t.length ≤ _
      omega
    show (textFrom (k + 1) (acc ++ (if k > 0 then ", " else "" : String) ++ t) r).length ≤ acc.length + (r.length + 1) * (n + 2)
    rw [Nat.succ_mul]
    omega
theorem Nm.repr {s : Str} (h : Nm s) : (reprText s).length ≤ 82 := by
  have := StrLaws.reprText_len s fun c hc => Nat.lt_trans (h.asc c hc) (by decide)
  have := h.2.1
  omega
theorem for_enum {K : PySem.W.Frag} {a : Addr} {xs : List V} {g : TG} {tb : TS} {D : Ends} {σ : St} {H : Hp} (Pv : Nat → St → Hp → Prop) (h0 : Pv 0 σ H) (hl : ∀ i σ H, i ≤ xs.length → Pv i σ H → SqL K H a xs)
    (hs : ∀ i x σ H p, xs[i]? = some x → Pv i σ H → H p = none → g (.ref p) σ (upd H p (.tup [.int i, x])) fun σ2 H2 => tb { D with nx := Pv (i + 1), ct := Pv (i + 1), bk := D.nx } σ2 H2) (hd : ∀ σ H, Pv xs.length σ H → D.nx σ H) :
    ∃ W : Nat → Nat → St → Hp → Prop, (∃ m, W 0 m σ H) ∧ ∀ i m σ H, W i m σ H →
      ((Ite K a).stop i H ∧ D.nx σ H) ∨ ((Ite K a).go i H ∧ ∃ N : St → Hp → Prop, (∀ σ' H', N σ' H' → ∃ m', m' < m ∧ W (i + 1) m' σ' H') ∧ ∀ x H', (Ite K a).yld i H x H' → g x σ H' fun σ2 H2 => tb { D with nx := N, ct := N, bk := D.nx } σ2 H2) := by
  refine ⟨fun i m σ H => m = xs.length - i ∧ i ≤ xs.length ∧ Pv i σ H, ⟨xs.length, by simp, Nat.zero_le _, h0⟩, ?_⟩
  rintro i m σ H ⟨rfl, hi, p⟩
  have q := hl i σ H hi p
  by_cases hlt : i < xs.length
  · refine .inr ⟨⟨xs, xs[i], q, by simp [hlt]⟩, Pv (i + 1), fun σ' H' p' => ⟨xs.length - (i + 1), by omega, rfl, hlt, p'⟩, fun x H' y => ?_⟩
    obtain ⟨r, z, hr, rfl, hz, rfl⟩ := y
    exact hs i z σ H r (hz xs q) p hr
  · have e : i = xs.length := by omega
    subst e
    exact .inl ⟨⟨xs, q, Nat.le_refl _⟩, hd σ H p⟩
noncomputable def spPlaces : Sp := fun vs H Q _ => ∃ a xs, vs = [.ref a] ∧ H a = some (.lst (List.map V.str xs)) ∧ xs.length ≤ 1000 ∧
  ∀ d kvs H', Same H H' → H d = none → H' d = some (.dK kvs) → (∀ s, (valV kvs (.inr s)).isSome = true ↔ s ∈ xs) → (∀ s v, valV kvs (.inr s) = some v → ∃ j : Nat, v = .int j ∧ xs[j]? = some s) → Q (.ref d) H'
structure Web (H : Hp) (v : V) (ss : List Str) (ts : List (Str × Str)) : Prop where
  rep : Rep H v (webD ss ts)
  nd : ss.Nodup
  nm : ∀ s ∈ ss, Nm s
  len : ss.length ≤ 60
  few : ts.length ≤ 401
  inn : ∀ e ∈ ts, e.1 ∈ ss ∧ e.2 ∈ ss
theorem Web.same {H H' : Hp} {v : V} {ss : List Str} {ts : List (Str × Str)} (h : Web H v ss ts) (s : Same H H') : Web H' v ss ts := ⟨h.rep.same s, h.nd, h.nm, h.len, h.few, h.inn⟩
noncomputable def flipE (ts : List (Str × Str)) : List (Str × Str) := ts.map fun e => (e.2, e.1)
theorem mem_flip {ts : List (Str × Str)} {a b : Str} : (a, b) ∈ flipE ts ↔ (b, a) ∈ ts := by
  unfold flipE
  rw [List.mem_map]
  constructor
  · rintro ⟨⟨x, y⟩, h, e⟩
    cases e; exact h
  · intro h; exact ⟨(b, a), h, rfl⟩
noncomputable def Tie (ts : List (Str × Str)) (a b : Str) : Prop := (a, b) ∈ ts
end L2
namespace MG
variable {α : Type} {R : α → α → Prop} {x : α}
variable {es : List (Nat × Nat)} {goal : Nat}
end MG
namespace MG
variable {es : List (Nat × Nat)}
end MG
namespace L2
open PySem PySem.Spec PyProof.Rows
theorem same_free {H H' : Hp} {b : Addr} (s : Same H H') (h : H' b = none) : H b = none := by
  cases q : H b with
  | none => rfl
  | some o => rw [s _ _ q] at h; cases h
theorem same_at {H H' : Hp} {b : Addr} {o : HO} (s : Same H H') (h : H b = none) : Same H (upd H' b o) := fun c o' hc => by
  rw [upd_ne (ne_of_none hc h)]; exact s _ _ hc
theorem penSame {H H' : Hp} {p a : Addr} (s : Same H H') (v : PenV H p a) : PenV H' p a := let ⟨i, m, e, q⟩ := v; ⟨i, m, s _ _ e, q⟩
section
variable {X : Cx} {p pos p2 pos2 : Pos} {e f : Expr} {t : TA}
noncomputable def rIndex : V → List V → Hp → VK → Prop := fun x vs H Q => ∃ l xs y j z, x = .ref l ∧ vs = [y] ∧ H l = some (.lst xs) ∧ flatV y = true ∧ xs.all flatV = true ∧ xs[j]? = some z ∧ eqV z y = true ∧ (∀ (m : Nat) z', m < j → xs[m]? = some z' → eqV z' y = false) ∧ Q (.int ((j : Nat) : Int)) H
theorem vals_get {xs : List V} {us : List Value} (r : Vals xs us) {j : Nat} {u : Value} (e : us[j]? = some u) : ∃ x, xs[j]? = some x ∧ RelV x u := by
  induction r generalizing j with
  | nil => simp at e
  | @cons a b as bs h t ih =>
    cases j with
    | zero => simp at e; subst e; exact ⟨a, rfl, h⟩
    | succ j => simpa using ih (by simpa using e)
theorem mt_index : MtR X "list.index" rIndex := by
  intro pins s σ H x vs v us Q I rx rv h
  obtain ⟨l, xs, y, j, z, rfl, rfl, hH, fy, fs, hj, hz, hno, q⟩ := h
  cases rx
  obtain ⟨u, rfl, ru⟩ := vals1 rv
  obtain ⟨zz, its, n, r, hl, e⟩ := I.lstM hH
  have hjl := (List.getElem?_eq_some_iff.mp hj).1
  have hlen := r.length
  have hat : ∀ m (hm : m < its.length), ∃ z', xs[m]? = some z' ∧ eqU y its[m] = eqV z' y := fun m hm => by
    obtain ⟨z', hz', rz⟩ := vals_get r (List.getElem?_eq_getElem hm)
    refine ⟨z', hz', eqU_of rz ?_⟩
    exact List.all_eq_true.mp fs z' (List.mem_of_getElem? hz')
  have h63 : (j : Int) < 2 ^ 63 - 1 := by
    have h1 : xs.length ≤ sizeLine := by omega
    have h2 : (sizeLine : Nat) < 2 ^ 62 := by decide
    omega
  refine call_meets F.slot_list_index ⟨_, e, rfl⟩ F.entry_list_index (F.args_list_index_2 _ _)
    (SeqAt.list_indexAt l its.toArray n _ _ u (eqU y) j (by simpa using (by omega : j < its.length)) h63 ?_ ?_) ⟨e, fun w hw => mem_eqAt ru fy r fs w (by simpa using hw), ⟨.int _, H, ?_, ⟨_, rfl⟩, q⟩⟩
  · obtain ⟨z', h1, h2⟩ := hat j (by omega)
    rw [hj] at h1
    cases h1
    simpa using h2.trans hz
  · intro m hm hlt
    obtain ⟨z', h1, h2⟩ := hat m (by simpa using hm)
    simpa using h2.trans (hno m z' hlt h1)
  · exact I.kept fun b o eb => eb
theorem m_index (K : PySem.W.Frag) {o e : Expr} {to : TE} {t : TA} {apos cpos : Pos} (ho : PE X o to) (ha : PA X [e] t)
    (hbase : attributeBase o "index" X.env (eval o X.env) = eval o X.env := by rfl)
    (hfew : ((backTo cpos (starEach [e] X.env)).all (fun x => !x.1) && (backToKw cpos (keywordEach [] X.env)).all (fun x => x.1.isSome)
      && decide ([e].length + ([] : List Keyword).length + (if ([] : List Keyword).isEmpty then 0 else 1) < 30)) = true := by rfl)
    (hline : (apos.endLine == cpos.line) = true := by rfl) (hs : starEach [e] X.env = (false, eval e X.env) :: starEach [] X.env := by rfl) (hplain : (backTo cpos (starEach [] X.env)).any (·.1) = false := by rfl) (hK : X.K = K := by rfl) :
    PE X (.Call (.Attribute o "index" apos) [e] [] cpos) (tBM K "list" rIndex to t) := hK ▸ pe_bm PySem.F.plainAttrs_list PySem.F.slot_list_index PySem.F.type_list_index mt_index ho ha hbase hfew hline hs hplain
end
end L2
namespace MG
section
variable {α : Type} [DecidableEq α]
noncomputable def ix : List α → α → Nat
  | [], _ => 0
  | a :: r, x => if a = x then 0 else ix r x + 1
end
variable {es : List (Nat × Nat)}
noncomputable def Fwd (es : List (Nat × Nat)) : Prop := ∃ r : Nat → Nat, ∀ e ∈ es, r e.1 < r e.2
end MG
namespace L2
open PySem PySem.Spec PyProof.Rows
open PySem.AutoSeq1 (wpAny_loadPart')
section
variable {prog : Program} {w : World} {A : Around} {E : Value → Shared → Prop} {s : Shared}
theorem nextT_item {jt tt : Addr} {i : Nat} {its : Array Value} {y : Value} {Q : Value → Shared → Prop} (hj : s.heap.IsTupleIter jt tt i) (htt : s.heap.IsTuple tt its) (hy : its[i]? = some y)
    (hQ : ∀ h', h'.IsTupleIter jt tt (i + 1) → Heap.SameBut jt s.heap h' → Q y { s with heap := h' }) : wpAny (model prog w) A (Builtin.SmallTypes.nextOf (.ref jt)) Q E s := by
  obtain ⟨oj, hoj, cj, dj⟩ := id hj
  obtain ⟨ot, hot, _, nt, dt⟩ := htt
  unfold Builtin.SmallTypes.nextOf
  refine wpAny_bind (wpAny_callSpecial?_slot (name := Str.ofString "__next__") hj.typeIs F.slot_tuple_iterator_next (wpAny_call_entry F.slot_tuple_iterator_next hj.typeIs F.entry_tuple_iterator_next ?_ (F.args_tuple_iterator_next_1 _)))
  show wpAny _ _ (field (.ref jt) 0 >>= _) _ _ s
  refine wpAny_bind (wpAny_field hoj dj (x := .ref tt) rfl ?_)
  show wpAny _ _ (if (Value.ref tt == Value.none) = true then _ else _) _ _ s
  rw [if_neg (show ¬ ((Value.ref tt == Value.none) = true) from Bool.false_ne_true)]
  show wpAny _ _ (field (.ref jt) 1 >>= _) _ _ s
  refine wpAny_bind (wpAny_field hoj dj (x := .int i 0) rfl (wpAny_bind (wpAny_seqItems hot dt ?_)))
  simp only [Int.toNat_natCast, hy]
  refine wpAny_bind (wpAny_setField hoj dj (by simp) (wpAny_pure ⟨y, rfl, wpAny_pure (hQ _ ?_ (Heap.SameBut.update ..))⟩))
  exact ⟨_, Heap.get?_update_self _ hoj (Obj.isFreed_of_fields (Obj.data_mapFields dj _)), (Obj.cls_mapFields ..).trans cj, by rw [Obj.data_mapFields dj]; simp [rawInt]⟩
theorem nextT_end {jt tt : Addr} {i : Nat} {its : Array Value} {Q : Value → Shared → Prop} (hh : A.handled = none) (hj : s.heap.IsTupleIter jt tt i) (htt : s.heap.IsTuple tt its) (hy : its[i]? = none)
    (hE : ∀ h' e, Heap.ExtBut jt s.heap h' → (∃ o, h'.get? e = some o ∧ o.cls = .type "StopIteration") → E (.ref e) { s with heap := h' }) : wpAny (model prog w) A (Builtin.SmallTypes.nextOf (.ref jt)) Q E s := by
  obtain ⟨oj, hoj, cj, dj⟩ := id hj
  obtain ⟨ot, hot, _, nt, dt⟩ := htt
  unfold Builtin.SmallTypes.nextOf
  refine wpAny_bind (wpAny_callSpecial?_slot (name := Str.ofString "__next__") hj.typeIs F.slot_tuple_iterator_next (wpAny_call_entry F.slot_tuple_iterator_next hj.typeIs F.entry_tuple_iterator_next ?_ (F.args_tuple_iterator_next_1 _)))
  show wpAny _ _ (field (.ref jt) 0 >>= _) _ _ s
  refine wpAny_bind (wpAny_field hoj dj (x := .ref tt) rfl ?_)
  show wpAny _ _ (if (Value.ref tt == Value.none) = true then _ else _) _ _ s
  rw [if_neg (show ¬ ((Value.ref tt == Value.none) = true) from Bool.false_ne_true)]
  show wpAny _ _ (field (.ref jt) 1 >>= _) _ _ s
  refine wpAny_bind (wpAny_field hoj dj (x := .int i 0) rfl (wpAny_bind (wpAny_seqItems hot dt ?_)))
  simp only [Int.toNat_natCast, hy]
  refine wpAny_bind (wpAny_rule (wpAny_bind (wpAny_setField hoj dj (by simp) ?_)))
  show wpAny _ _ (newExc (.type "StopIteration") [] >>= _) _ _ _
  refine wpAny_bind ?_
  simp only [newExc, newTuple]
  refine wpAny_bind (wpAny_newObj_type (wpAny_bind (m := firstArgMember _ _) (wpAny_of_eq (a := Value.none) (by first | rfl | (simp only [firstArgMember]; rfl)) ?_)) (by size_fits))
  refine wpAny_newObj_type ?_ (by size_fits)
  simp only [raiseNew]
  refine wpAny_bind (wpAny_handled ?_)
  first | rw [show A.in1.handled = none from hh] | rw [hh]
  refine wpAny_bind (wpAny_pure (wpAny_throw (hE _ _ (((Heap.SameBut.update ..).extBut.push _).push _) ⟨_, Heap.get?_push_size _ rfl, rfl⟩)))
theorem drawsT {prog : Program} {w : World} {A : Around} (hh : A.handled = none) (jt tt : Addr) (hne : tt ≠ jt) (its : Array Value) :
    Draws prog w A jt [jt, tt] its.size (fun i y => its[i]? = some y) (fun i h => h.IsTupleIter jt tt i ∧ h.IsTuple tt its) where
  live := fun i h st => let ⟨o, e, _⟩ := st.1; ⟨o, e⟩
  frame := fun i h h' st k => ⟨let ⟨o, e, r⟩ := st.1; ⟨o, k jt (by simp) o e, r⟩, let ⟨o, e, r⟩ := st.2; ⟨o, k tt (by simp) o e, r⟩⟩
  item := fun i s Q E hi st hQ => nextT_item st.1 st.2 (y := its[i]) (by simp [hi]) fun h' j' sb => hQ _ h' s.toks (by simp [hi]) ⟨j', st.2.extBut sb.extBut hne⟩ sb
  done := fun s Q E st hE => nextT_end hh st.1 st.2 (by simp) hE
set_option maxHeartbeats 1000000 in
theorem meets_enumT (l : Addr) (its : Array Value) (n : Nat) (dct : Option Addr) (sl : Array (Option Value)) :
    Meets (Builtin.«enumerate.__new__» ⟨[.type "enumerate", .ref l], []⟩) (fun _ R s => s.heap.get? l = some { cls := .type "tuple", dict := dct, data := .seq its n, slots := sl } ∧
      R (.ok (.ret (.ref (s.heap.push { cls := .type "tuple_iterator", data := .fields #[.ref l, .int 0 0] }).objs.size)))
        { s with heap := (s.heap.push { cls := .type "tuple_iterator", data := .fields #[.ref l, .int 0 0] }).push { cls := .type "enumerate", data := .fields #[.none, .bool false, .ref s.heap.objs.size, rawInt 0, .none, .none] } }) :=
  .of_wp fun prog w A R s h => by
    obtain ⟨h0, g0, d0, t0, os0⟩ := s
    obtain ⟨hl, h⟩ := h
    have hsub := sub_enumerate
    have hT : Heap.IsTuple (Shared.heap ⟨h0, g0, d0, t0, os0⟩) l its := ⟨_, hl, rfl, n, rfl⟩
    wp_walk using wpAny_loadPart' hl
    refine wpAny_stack_any fun st => wpAny_pure ?_
    split
    · rename_i c _ _ _ _ _
      cases (c == Value.type "enumerate")
      · wp_walk using wpAny_loadPart' hl, wpAny_pyIter_tuple hT
        exact ⟨_, rfl, h⟩
      · wp_walk using wpAny_loadPart' hl, wpAny_pyIter_tuple hT
        exact ⟨_, rfl, h⟩
    · wp_walk using wpAny_loadPart' hl, wpAny_pyIter_tuple hT
      exact ⟨_, rfl, h⟩
theorem call_enumT {l : Addr} {its : Array Value} {Q : Value → Shared → Prop} (hT : s.heap.IsTuple l its)
    (h : ∀ h', IsEnum h' (s.heap.objs.size + 1) s.heap.objs.size 0 .none → h'.IsTupleIter s.heap.objs.size l 0 → (∀ b o, s.heap.get? b = some o → h'.get? b = some o) → Q (.ref (s.heap.objs.size + 1)) { s with heap := h' }) :
    wpAny (model prog w) A (call (.type "enumerate") [.ref l]) Q E s := by
  obtain ⟨⟨c, dct, dt, sl⟩, hl, hc, n, hd⟩ := hT
  replace hc : c = .type "tuple" := hc
  replace hd : dt = .seq its n := hd
  subst hc hd
  refine callType_new F.called_enumerate (by decide) (F.typeCall_enumerate_1 _) (F.newCall_enumerate_1 _) (fun obj => F.args_object_init_2 obj _) F.entry_enumerate_new (meets_enumT l its n dct sl) ⟨hl, ?_⟩
  have hz : (s.heap.push { cls := .type "tuple_iterator", data := .fields #[.ref l, .int 0 0] }).objs.size = s.heap.objs.size + 1 := Heap.size_push ..
  show _ ∧ _
  rw [hz]
  have he : IsEnum ((s.heap.push { cls := .type "tuple_iterator", data := .fields #[.ref l, .int 0 0] }).push { cls := .type "enumerate", data := .fields #[.none, .bool false, .ref s.heap.objs.size, rawInt 0, .none, .none] }) (s.heap.objs.size + 1) s.heap.objs.size 0 .none := by
    have := Heap.get?_push_size (s.heap.push { cls := .type "tuple_iterator", data := .fields #[.ref l, .int 0 0] }) (o := { cls := .type "enumerate", data := .fields #[.none, .bool false, .ref s.heap.objs.size, rawInt 0, .none, .none] }) rfl
    rw [hz] at this; exact this
  exact ⟨⟨_, he, rfl⟩, h _ he ⟨_, Heap.get?_push_of_some _ (Heap.get?_push_size _ rfl), rfl, rfl⟩ fun b o x => Heap.get?_push_of_some _ (Heap.get?_push_of_some _ x)⟩
end
noncomputable def IteT (K : PySem.W.Frag) (a : Addr) : It :=
  ⟨fun i H => ∃ xs x, SqT K H a xs ∧ xs[i]? = some x, fun i H v H' => ∃ p x, H p = none ∧ v = .ref p ∧ (∀ xs, SqT K H a xs → xs[i]? = some x) ∧ H' = upd H p (.tup [.int i, x]), fun i H => ∃ xs, SqT K H a xs ∧ xs.length ≤ i⟩
theorem turn_enumT {P : Program} {w : World} {K : PySem.W.Frag} {elts : List Expr} {k : Nat} {tp : Pos} (a e it : Addr) (hne : e ≠ it) :
    Turn P w K (.Tuple elts k tp) (IteT K a) [e, it] e (fun i h => (∃ old, IsEnum h e it i old) ∧ h.IsTupleIter it a i) where
  mem := by simp
  obj := fun i h st b hb => by
    obtain ⟨⟨old, he⟩, hit⟩ := st
    have hb : b = e ∨ b = it := by simpa using hb
    rcases hb with z | z
    · subst z
      exact ⟨_, he, fun v z => by cases z⟩
    · subst z
      obtain ⟨o, e1, c, d⟩ := hit
      exact ⟨o, e1, fun v z => by rw [d] at z; cases z⟩
  keep := fun i h h' st kk => by
    obtain ⟨⟨old, he⟩, hit⟩ := st
    exact ⟨⟨old, kk e (by simp) _ he⟩, let ⟨o, q, r⟩ := hit; ⟨o, kk it (by simp) o q, r⟩⟩
  item := by
    intro X hP hw hK hc i pins s σ H E I hf st hg
    subst hP hw hK
    obtain ⟨⟨old, he⟩, hit⟩ := st
    obtain ⟨xs, x, hq, hx⟩ := hg
    obtain ⟨its, rv, p, hz⟩ := I.tuple hq
    obtain ⟨u, hu, ru⟩ := rv.get hx
    obtain ⟨f0, f1, f2, f3, f4, f5⟩ := hf e (by simp)
    obtain ⟨g0, g1, g2, g3, g4, g5⟩ := hf it (by simp)
    have hel : e < s.heap.objs.size := Heap.lt_size he
    have hil : it < s.heap.objs.size := by obtain ⟨o, q, _⟩ := hit; exact Heap.lt_size q
    have hae : a ≠ e := fun z => by
      obtain ⟨o, q, c, _⟩ := p
      rw [z, he] at q; cases q; simp at c
    have hai : a ≠ it := fun z => by
      obtain ⟨o, q, c, _⟩ := p
      obtain ⟨o', q', c', _⟩ := hit
      rw [z, q'] at q; cases q; rw [c] at c'; simp at c'
    have hul := (List.getElem?_eq_some_iff.mp hu).1
    refine wpAny_pyNext_enum_itemD (drawsT (A := X.A.in1) (show X.A.in1.handled = none from I.ok.hd hc) it a hai its.toArray) he ⟨hit, p⟩ (by simpa using hul) hne (by simp [hne, Ne.symm hae]) fun u' h1 tk hu' ho hit1 ht1 hz1 k1 => ?_
    have eu : u' = u := by
      have : its[i]? = some u' := by simpa using hu'
      rw [hu] at this
      exact (Option.some.inj this).symm
    subst eu
    refine ⟨_, rfl, wpAny_letOwnedTupleGo_enum ho fun h2 he2 sb2 => ?_⟩
    have sb2 : Heap.SameBut e h1 h2 := sb2
    have T2 : h2.get? s.heap.objs.size = some { cls := .type "tuple", data := .seq #[.int i tk, u'] } := (sb2.2 _ (Nat.ne_of_gt hel)).trans ht1
    have hp : H s.heap.objs.size = none := I.hok.fresh (Nat.le_refl _)
    have nit : ∀ b v, H b = some v → b ≠ e ∧ b ≠ it := fun b v q => ⟨fun z => (by rw [z, f0] at q; cases q), fun z => (by rw [z, g0] at q; cases q)⟩
    have kk : ∀ b o, b ≠ e → b ≠ it → s.heap.get? b = some o → h2.get? b = some o := fun b o n1 n2 q => (sb2.2 b n1).trans (k1 b o n1 n2 q)
    have up : ∀ b v, H b = some v → upd H s.heap.objs.size (.tup [.int i, x]) b = some v := fun b v q => by rw [upd_ne (ne_of_none q hp)]; exact q
    have I1 : Inv X pins σ (upd H s.heap.objs.size (.tup [.int i, x])) { s with heap := h2, gens := s.gens, drawn := s.drawn, toks := tk + 1 } := by
      refine I.step (g' := s.gens) (d' := s.drawn) (ch := [e, it]) (fun b hb => ?_) (fun b o _ _ hb q _ => kk b o (fun z => hb (by simp [z])) (fun z => hb (by simp [z])) q) (fun b o _ _ hb q _ => ⟨o.slots, kk b o (fun z => hb (by simp [z])) (fun z => hb (by simp [z])) q⟩) (fun b o _ q n => ?_)
        (fun b o hb q => ⟨o, kk b o (fun z => hb (by simp [z])) (fun z => hb (by simp [z])) q⟩) (fun b ys q => up b _ q) (fun b o v q => up b _ q) (fun b ps q => ⟨#[], by rw [up b _ q]; simp⟩) (fun m hm => ?_) (fun b v q => ?_) I.bare
      · have hb : b = e ∨ b = it := by simpa using hb
        rcases hb with z | z
        · subst z; exact ⟨f3, f1, f4, f5⟩
        · subst z; exact ⟨g3, g1, g4, g5⟩
      · rw [upd_ne (Nat.ne_of_lt (Heap.lt_size q))]; exact n
      · obtain ⟨o, es, ep, ho, r⟩ := hm
        exact ⟨o, es, ep, kk _ o (Ne.symm f1) (Ne.symm g1) ho, r⟩
      · by_cases hb : b = s.heap.objs.size
        · subst hb
          rw [upd_same] at q
          have q' : HO.tup [V.int i, x] = v := Option.some.inj q
          subst q'
          exact ⟨by show 2 ≤ sizeLine; decide, [.int i tk, u'], .cons ⟨_, rfl⟩ (.cons ru .nil), ⟨_, T2, rfl, _, rfl, rfl⟩⟩
        · rw [upd_ne hb] at q
          refine (I.hok b v q).stay (fun c v' hc q' => ?_) (fun c q => up c _ q) fun c ys q => up c _ q
          rcases hc with z | z
          · rw [z] at q' ⊢; exact kk b v' (nit b v q).1 (nit b v q).2 q'
          · exact kk c v' (nit c _ z).1 (nit c _ z).2 q'
    refine ⟨.ref s.heap.objs.size, upd H s.heap.objs.size (.tup [.int i, x]), I1, rfl, ⟨_, x, hp, rfl, fun ys hy => by rw [I.tuple_inj hy hq]; exact hx, rfl⟩, ⟨⟨u', ?_⟩, ?_⟩, fun b hb => ?_⟩
    · exact (by simpa using he2)
    · obtain ⟨o, q, r⟩ := hit1.1
      exact ⟨o, (sb2.2 it (Ne.symm hne)).trans q, r⟩
    · have hb : b = e ∨ b = it := by simpa using hb
      rcases hb with z | z
      · rw [z, upd_ne (Nat.ne_of_lt hel)]; exact f0
      · rw [z, upd_ne (Nat.ne_of_lt hil)]; exact g0
  done := by
    intro X hP hw hK hc i pins s σ H E I hf st hg
    subst hP hw hK
    obtain ⟨⟨old, he⟩, hit⟩ := st
    obtain ⟨xs, hq, hx⟩ := hg
    obtain ⟨its, rv, p, hz⟩ := I.tuple hq
    obtain ⟨g0, g1, g2, g3, g4, g5⟩ := hf it (by simp)
    have hl := rv.length
    have hT : s.TypeIs (.ref e) "enumerate" := ⟨_, he, rfl⟩
    unfold pyNext
    refine wpAny_bind (wpAny_attempt (wpAny_callSpecial?_slot (name := Str.ofString "__next__") hT F.slot_enumerate_next (wpAny_call_entry F.slot_enumerate_next hT F.entry_enumerate_next ?_ (F.args_enumerate_next_1 _))))
    show wpAny _ _ (field (.ref e) 2 >>= _) _ _ _
    refine wpAny_bind (wpAny_field he rfl (x := .ref it) rfl (wpAny_bind (nextT_end (I.ok.hd hc) hit p (by simp; omega) fun h' x he' hx' => ?_)))
    obtain ⟨o, ho, hc'⟩ := hx'
    refine wpAny_bind (wpAny_isInstance (T := "StopIteration") (b := true) ⟨o, ho, hc'⟩ isSubtype_stop ?_)
    exact wpAny_pure ⟨rfl, I.turned (t' := s.toks) (fun b o hb q => he' b o hb q) g0 g1 g3 g4 g5⟩
  self := fun _ _ _ _ _ st h => by
    obtain ⟨⟨old, he⟩, _⟩ := st
    exact wpAny_pyIter_enum he h
inductive EnmR (K : PySem.W.Frag) (H : Hp) : V → (It → Hp → Prop) → Prop
  | lst {a : Addr} {xs : List V} {R : It → Hp → Prop} : SqL K H a xs → R (Ite K a) H → EnmR K H (.ref a) R
  | tup {a : Addr} {xs : List V} {R : It → Hp → Prop} : SqT K H a xs → R (IteT K a) H → EnmR K H (.ref a) R
noncomputable def iEnumX (K : PySem.W.Frag) (ta : TA) : TI := fun σ H R => ta σ H fun vs H1 => ∃ x, vs = [x] ∧ EnmR K H1 x R
theorem pi_enumX (K : PySem.W.Frag) {X : Cx} {elts : List Expr} {k : Nat} {tp : Pos} {a : Expr} {ta : TA} {p pos : Pos} (hg : Gl X "enumerate") (hm : X.mg "enumerate" = none) (ha : PA X [a] ta) (hs : starEach [a] X.env = [(false, eval a X.env)] := by rfl) (hK : X.K = K := by rfl) :
    PI X (.Tuple elts k tp) (.Call (.Name "enumerate" p) [a] [] pos) (iEnumX K ta) := by
  subst hK
  intro pins s σ H R I h
  refine Call_ (ld_blt I hg hm boot_enumerate (PyProof.Rows.callWith_type1 (thn (ha pos pins s σ H _ I h) fun us s1 ⟨vs, H1, I1, r1, q1⟩ => ?_) hs rfl))
  obtain ⟨x, e, q⟩ := q1
  subst e
  obtain ⟨u, rfl, ru⟩ := vals1 r1
  have fin : ∀ b, b = s1.heap.objs.size + 1 ∨ b = s1.heap.objs.size → FpOk X pins H1 b := fun b hb => by
    rcases hb with z | z
    · subst z; exact I1.fpOk (Nat.le_succ _) (I1.hok.fresh (Nat.le_succ _))
    · subst z; exact I1.fpOk (Nat.le_refl _) (I1.hok.fresh (Nat.le_refl _))
  cases q with
  | lst hq q =>
    cases ru
    obtain ⟨its, rv, pl, hz⟩ := I1.list hq
    refine call_enumerate_list pl.isList fun h' he hit hz' k' => wpAny_pyIter_enum (s := { s1 with heap := h' }) he ?_
    exact ⟨_, [s1.heap.objs.size + 1, s1.heap.objs.size], _, _, H1, rfl, I1.kept (t' := s1.toks) k', turn_enum _ _ _ (Nat.succ_ne_self _), ⟨⟨_, he⟩, hit⟩, fun b hb => fin b (by simpa using hb), q⟩
  | tup hq q =>
    cases ru
    obtain ⟨its, rv, pl, hz⟩ := I1.tuple hq
    refine call_enumT pl fun h' he hit k' => wpAny_pyIter_enum (s := { s1 with heap := h' }) he ?_
    exact ⟨_, [s1.heap.objs.size + 1, s1.heap.objs.size], _, _, H1, rfl, I1.kept (t' := s1.toks) k', turn_enumT _ _ _ (Nat.succ_ne_self _), ⟨⟨_, he⟩, hit⟩, fun b hb => fin b (by simpa using hb), q⟩
theorem for_enumT {K : PySem.W.Frag} {a : Addr} {xs : List V} {g : TG} {tb : TS} {D : Ends} {σ : St} {H : Hp} (Pv : Nat → St → Hp → Prop) (h0 : Pv 0 σ H) (hl : ∀ i σ H, i ≤ xs.length → Pv i σ H → SqT K H a xs)
    (hs : ∀ i x σ H p, xs[i]? = some x → Pv i σ H → H p = none → g (.ref p) σ (upd H p (.tup [.int i, x])) fun σ2 H2 => tb { D with nx := Pv (i + 1), ct := Pv (i + 1), bk := D.nx } σ2 H2) (hd : ∀ σ H, Pv xs.length σ H → D.nx σ H) :
    ∃ W : Nat → Nat → St → Hp → Prop, (∃ m, W 0 m σ H) ∧ ∀ i m σ H, W i m σ H →
      ((IteT K a).stop i H ∧ D.nx σ H) ∨ ((IteT K a).go i H ∧ ∃ N : St → Hp → Prop, (∀ σ' H', N σ' H' → ∃ m', m' < m ∧ W (i + 1) m' σ' H') ∧ ∀ x H', (IteT K a).yld i H x H' → g x σ H' fun σ2 H2 => tb { D with nx := N, ct := N, bk := D.nx } σ2 H2) := by
  refine ⟨fun i m σ H => m = xs.length - i ∧ i ≤ xs.length ∧ Pv i σ H, ⟨xs.length, by simp, Nat.zero_le _, h0⟩, ?_⟩
  rintro i m σ H ⟨rfl, hi, p⟩
  have q := hl i σ H hi p
  by_cases hlt : i < xs.length
  · refine .inr ⟨⟨xs, xs[i], q, by simp [hlt]⟩, Pv (i + 1), fun σ' H' p' => ⟨xs.length - (i + 1), by omega, rfl, hlt, p'⟩, fun x H' y => ?_⟩
    obtain ⟨r, z, hr, rfl, hz, rfl⟩ := y
    exact hs i z σ H r (hz xs q) p hr
  · have e : i = xs.length := by omega
    subst e
    exact .inl ⟨⟨xs, q, Nat.le_refl _⟩, hd σ H p⟩
end L2
namespace L2
open PySem PySem.Spec PyProof.Rows
noncomputable abbrev Zp (h : Heap) (z TI TO : Addr) (f0 : Value) (f1 : Bool) : Prop := h.get? z = some { cls := .type "zip", dict := none, data := .fields #[f0, .bool f1, .bool false, .ref TI, .ref TO], slots := #[] }
noncomputable def F0 (f0 : Value) : Prop := f0 = .none ∨ ∃ T : Nat, f0 = rawInt (T : Int)
section
variable {prog : Program} {w : World} {A : Around} {E : Value → Shared → Prop} {s : Shared}
theorem alive_any {a : Addr} {Q : Option Obj → Shared → Prop} (h : Q (s.heap.get? a) s) : wpAny (model prog w) A (loadIfAlive a) Q E s := fun _ _ _ => h
theorem zp_free {z TI TO : Addr} {f0 : Value} {f1 : Bool} (hf : F0 f0) (hz : Zp s.heap z TI TO f0 f1) {Q : Bool → Shared → Prop} (h : ∀ b f1' h', Zp h' z TI TO f0 f1' → Heap.SameBut z s.heap h' → Q b { s with heap := h' }) :
    wpAny (model prog w) A (Builtin.SmallTypes.ownedTupleIsFree (.ref z)) Q E s := by
  unfold Builtin.SmallTypes.ownedTupleIsFree
  rcases hf with rfl | ⟨T, rfl⟩
  · exact wpAny_bind (wpAny_field hz rfl (x := .none) rfl (wpAny_pure (h true f1 s.heap hz (Heap.SameBut.refl ..))))
  · refine wpAny_bind (wpAny_field hz rfl (x := rawInt (T : Int)) rfl ?_)
    refine wpAny_bind (alive_any ?_)
    cases s.heap.get? (T : Int).toNat with
    | none => exact wpAny_pure (h true f1 s.heap hz (Heap.SameBut.refl ..))
    | some o =>
      show wpAny _ _ (field (.ref z) 1 >>= _) _ _ _
      refine wpAny_bind (wpAny_field hz rfl (x := .bool f1) rfl ?_)
      cases f1 with
      | true => exact wpAny_pure (h false true s.heap hz (Heap.SameBut.refl ..))
      | false =>
        show wpAny _ _ (setField (.ref z) 1 (.bool true) >>= _) _ _ _
        exact wpAny_bind (wpAny_setField_rec hz (by simp) fun h1 hz1 sb => wpAny_pure (h false true h1 hz1 sb))
theorem zpn_item {z TI TO i1 i2 l1 l2 : Addr} {k1 k2 : Nat} {f0 : Value} {f1 : Bool} {xs ys : Array Value} {x y a b : Value} {Q : Value → Shared → Prop} (D : ZipApart z TI TO i1 i2 l1 l2) (hf : F0 f0)
    (hz : Zp s.heap z TI TO f0 f1) (hTI : IsPair s.heap TI (.ref i1) (.ref i2)) (hTO : IsPair s.heap TO a b)
    (h1 : s.heap.IsListIter i1 l1 k1) (h2 : s.heap.IsListIter i2 l2 k2) (hl1 : s.heap.IsList l1 xs) (hl2 : s.heap.IsList l2 ys) (hx : xs[k1]? = some x) (hy : ys[k2]? = some y)
    (hQ : ∀ h' f0' f1', F0 f0' → Zp h' z TI TO f0' f1' → (∃ a b, IsPair h' TO a b) → h'.IsListIter i1 l1 (k1 + 1) → h'.IsListIter i2 l2 (k2 + 1) → IsPair h' s.heap.objs.size x y →
      (∀ c o, c ≠ z → c ≠ TO → c ≠ i1 → c ≠ i2 → s.heap.get? c = some o → h'.get? c = some o) → Q (.ref s.heap.objs.size) { s with heap := h' }) :
    wpAny (model prog w) A (Builtin.«zip.__next__» ⟨[.ref z], []⟩) (fun fin s' => ∃ v, fin = .done (.ret v) ∧ Q v s') E s := by
  show wpAny _ _ (field (.ref z) 2 >>= _) _ _ _
  refine wpAny_bind (wpAny_field hz rfl (x := .bool false) rfl ?_)
  show wpAny _ _ (field (.ref z) 3 >>= _) _ _ _
  refine wpAny_bind (wpAny_field hz rfl (x := .ref TI) rfl (wpAny_bind (wpAny_seqItems hTI rfl ?_)))
  refine wpAny_bind (zp_free hf hz fun own f1' g0 hz0 sb0 => ?_)
  have sz0 : g0.objs.size = s.heap.objs.size := sb0.1
  cases own with
  | true =>
    simp only [if_true]
    refine wpAny_bind (wpAny_rule ?_)
    refine wpAny_bind (wpAny_field (s := { s with heap := g0 }) hz0 rfl (x := .ref TO) rfl ?_)
    refine wpAny_bind (wpAny_setField_rec (s := { s with heap := g0 }) hz0 (by simp) fun g1 hz1 sb1 => ?_)
    replace hz1 : Zp g1 z TI TO .ellipsis f1' := hz1
    refine wpAny_bind ?_
    simp only [List.zipIdx_cons, List.zipIdx_nil, List.forIn_cons, List.forIn_nil]
    refine wpAny_bind (wpAny_bind (wpAny_onRaise ?_))
    show wpAny _ _ (Builtin.SmallTypes.nextOf (.ref i1) >>= _) _ _ _
    have up1 : ∀ c o, c ≠ z → s.heap.get? c = some o → g1.get? c = some o := fun c o n e => sb1.extBut _ _ n (sb0.extBut _ _ n e)
    refine wpAny_bind (wpAny_nextOf_list_item (h1.at fun o e => up1 _ o D.i1z e) (hl1.at fun o e => up1 _ o D.l1z e) hx fun g2 j1 sb2 => wpAny_pure ?_)
    have hTO2 : IsPair g2 TO a b := sb2.extBut _ _ D.TOi1 (up1 _ _ D.TOz hTO)
    refine wpAny_bind (wpAny_seqItems hTO2 rfl (wpAny_bind (wpAny_updateSeq_pair hTO2 fun g3 hTO3 sb3 => ?_)))
    replace hTO3 : IsPair g3 TO x b := hTO3
    refine wpAny_bind (wpAny_letGo (wpAny_pure (wpAny_bind (wpAny_bind (wpAny_onRaise ?_)))))
    show wpAny _ _ (Builtin.SmallTypes.nextOf (.ref i2) >>= _) _ _ _
    have up3 : ∀ c o, c ≠ z → c ≠ i1 → c ≠ TO → s.heap.get? c = some o → g3.get? c = some o := fun c o n1 n2 n3 e => sb3.extBut _ _ n3 (sb2.extBut _ _ n2 (up1 _ _ n1 e))
    refine wpAny_bind (wpAny_nextOf_list_item (h2.at fun o e => up3 _ o D.i2z D.i12.symm D.TOi2.symm e) (hl2.at fun o e => up3 _ o D.l2z D.l2i1 D.l2TO e) hy fun g4 j2 sb4 => wpAny_pure ?_)
    have hTO4 : IsPair g4 TO x b := sb4.extBut _ _ D.TOi2 hTO3
    refine wpAny_bind (wpAny_seqItems hTO4 rfl (wpAny_bind (wpAny_updateSeq_pair hTO4 fun g5 hTO5 sb5 => ?_)))
    replace hTO5 : IsPair g5 TO x y := hTO5
    refine wpAny_bind (wpAny_letGo (wpAny_pure (wpAny_pure ?_)))
    refine wpAny_bind (wpAny_seqItems hTO5 rfl (wpAny_bind (wpAny_newTuple ?_)))
    have hsz : g5.objs.size = s.heap.objs.size := by rw [sb5.1, sb4.1, sb3.1, sb2.1, sb1.1, sz0]
    have hz5 : Zp g5 z TI TO .ellipsis f1' := sb5.extBut _ _ D.TOz.symm (sb4.extBut _ _ D.i2z.symm (sb3.extBut _ _ D.TOz.symm (sb2.extBut _ _ D.i1z.symm hz1)))
    have j15 : g5.IsListIter i1 l1 (k1 + 1) := j1.at fun o e => sb5.extBut _ _ D.TOi1.symm (sb4.extBut _ _ D.i12 (sb3.extBut _ _ D.TOi1.symm e))
    have j25 : g5.IsListIter i2 l2 (k2 + 1) := j2.at fun o e => sb5.extBut _ _ D.TOi2.symm e
    have hk5 : ∀ c o, c ≠ z → c ≠ TO → c ≠ i1 → c ≠ i2 → s.heap.get? c = some o → g5.get? c = some o := fun c o c1 c2 c3 c4 e => sb5.extBut _ _ c2 (sb4.extBut _ _ c4 (up3 _ _ c1 c3 c2 e))
    have hzlt : z < g5.objs.size := Heap.lt_size hz5
    show wpAny _ _ (Builtin.SmallTypes.ownedTupleHandOut (.ref z) (.ref g5.objs.size) >>= _) _ _ _
    refine wpAny_bind ?_
    unfold Builtin.SmallTypes.ownedTupleHandOut
    have hz6 : Zp (g5.push { cls := .type "tuple", data := .seq #[x, y] }) z TI TO .ellipsis f1' := Heap.get?_push_of_some _ hz5
    refine wpAny_bind (wpAny_setField_rec hz6 (by simp) fun g7 hz7 sb7 => ?_)
    replace hz7 : Zp g7 z TI TO (rawInt g5.objs.size) f1' := hz7
    refine wpAny_setField_rec hz7 (by simp) fun g8 hz8 sb8 => ?_
    replace hz8 : Zp g8 z TI TO (rawInt g5.objs.size) false := hz8
    have up : ∀ c o, c ≠ z → g5.get? c = some o → g8.get? c = some o := fun c o c1 e => sb8.extBut _ _ c1 (sb7.extBut _ _ c1 (Heap.get?_push_of_some _ e))
    have hT8 : IsPair g8 g5.objs.size x y := sb8.extBut _ _ (Nat.ne_of_gt hzlt) (sb7.extBut _ _ (Nat.ne_of_gt hzlt) (Heap.get?_push_size _ rfl))
    refine wpAny_pure ⟨_, rfl, ?_⟩
    show Q (.ref g5.objs.size) _
    rw [hsz] at hz8 hT8 ⊢
    exact hQ g8 _ _ (.inr ⟨_, rfl⟩) hz8 ⟨x, y, up _ _ D.TOz hTO5⟩ (j15.at fun o e => up _ o D.i1z e) (j25.at fun o e => up _ o D.i2z e) hT8 fun c o c1 c2 c3 c4 e => up c o c1 (hk5 c o c1 c2 c3 c4 e)
  | false =>
    simp only [Bool.false_eq_true, if_false]
    refine wpAny_bind ?_
    rw [← Array.forIn_toList]
    simp only [List.forIn_cons, List.forIn_nil]
    refine wpAny_bind (wpAny_bind (wpAny_holding ?_))
    show wpAny _ _ (Builtin.SmallTypes.nextOf (.ref i1) >>= _) _ _ _
    have up1 : ∀ c o, c ≠ z → s.heap.get? c = some o → g0.get? c = some o := fun c o n e => sb0.extBut _ _ n e
    refine wpAny_bind (wpAny_nextOf_list_item (s := { s with heap := g0 }) (h1.at fun o e => up1 _ o D.i1z e) (hl1.at fun o e => up1 _ o D.l1z e) hx fun g2 j1 sb2 => wpAny_pure ?_)
    replace sb2 : Heap.SameBut i1 g0 g2 := sb2
    refine wpAny_pure (wpAny_bind (wpAny_bind (wpAny_holding ?_)))
    show wpAny _ _ (Builtin.SmallTypes.nextOf (.ref i2) >>= _) _ _ _
    have up2 : ∀ c o, c ≠ z → c ≠ i1 → s.heap.get? c = some o → g2.get? c = some o := fun c o n1 n2 e => sb2.extBut _ _ n2 (up1 _ _ n1 e)
    refine wpAny_bind (wpAny_nextOf_list_item (h2.at fun o e => up2 _ o D.i2z D.i12.symm e) (hl2.at fun o e => up2 _ o D.l2z D.l2i1 e) hy fun g4 j2 sb4 => wpAny_pure ?_)
    replace sb4 : Heap.SameBut i2 g2 g4 := sb4
    refine wpAny_pure (wpAny_pure ?_)
    show wpAny _ _ (newTuple [x, y] >>= _) _ _ _
    refine wpAny_bind (wpAny_newTuple (wpAny_pure ⟨_, rfl, ?_⟩))
    have hsz : g4.objs.size = s.heap.objs.size := by rw [sb4.1, sb2.1, sz0]
    show Q (.ref g4.objs.size) _
    have pu : ∀ c o, g4.get? c = some o → (g4.push { cls := .type "tuple", data := .seq #[x, y] }).get? c = some o := fun c o e => Heap.get?_push_of_some _ e
    have hT8 : IsPair (g4.push { cls := .type "tuple", data := .seq #[x, y] }) g4.objs.size x y := Heap.get?_push_size _ rfl
    rw [hsz] at hT8 ⊢
    exact hQ _ _ _ hf (pu _ _ (sb4.extBut _ _ D.i2z.symm (sb2.extBut _ _ D.i1z.symm hz0))) ⟨a, b, pu _ _ (sb4.extBut _ _ D.TOi2 (up2 _ _ D.TOz D.TOi1 hTO))⟩ (j1.at fun o e => pu _ o (sb4.extBut _ _ D.i12 e)) (j2.at fun o e => pu _ o e) hT8 fun c o c1 c2 c3 c4 e => pu _ _ (sb4.extBut _ _ c4 (up2 _ _ c1 c3 e))
theorem zpn_end {z TI TO i1 i2 l1 l2 : Addr} {k1 k2 : Nat} {f0 : Value} {f1 : Bool} {xs ys : Array Value} {a b : Value} {Q : Fin → Shared → Prop} (hh : A.handled = none) (D : ZipApart z TI TO i1 i2 l1 l2) (hf : F0 f0)
    (hz : Zp s.heap z TI TO f0 f1) (hTI : IsPair s.heap TI (.ref i1) (.ref i2)) (hTO : IsPair s.heap TO a b)
    (h1 : s.heap.IsListIter i1 l1 k1) (h2 : s.heap.IsListIter i2 l2 k2) (hl1 : s.heap.IsList l1 xs) (hl2 : s.heap.IsList l2 ys) (hend : xs[k1]? = none ∨ ys[k2]? = none)
    (hE : ∀ h' e, (∀ c o, c ≠ z → c ≠ TO → c ≠ i1 → c ≠ i2 → s.heap.get? c = some o → h'.get? c = some o) → (∃ o, h'.get? e = some o ∧ o.cls = .type "StopIteration") → E (.ref e) { s with heap := h' }) :
    wpAny (model prog w) A (Builtin.«zip.__next__» ⟨[.ref z], []⟩) Q E s := by
  show wpAny _ _ (field (.ref z) 2 >>= _) _ _ _
  refine wpAny_bind (wpAny_field hz rfl (x := .bool false) rfl ?_)
  show wpAny _ _ (field (.ref z) 3 >>= _) _ _ _
  refine wpAny_bind (wpAny_field hz rfl (x := .ref TI) rfl (wpAny_bind (wpAny_seqItems hTI rfl ?_)))
  refine wpAny_bind (zp_free hf hz fun own f1' g0 hz0 sb0 => ?_)
  cases own with
  | true =>
    simp only [if_true]
    refine wpAny_bind (wpAny_rule ?_)
    refine wpAny_bind (wpAny_field (s := { s with heap := g0 }) hz0 rfl (x := .ref TO) rfl ?_)
    refine wpAny_bind (wpAny_setField_rec (s := { s with heap := g0 }) hz0 (by simp) fun g1 hz1 sb1 => ?_)
    replace hz1 : Zp g1 z TI TO .ellipsis f1' := hz1
    refine wpAny_bind ?_
    simp only [List.zipIdx_cons, List.zipIdx_nil, List.forIn_cons, List.forIn_nil]
    refine wpAny_bind (wpAny_bind (wpAny_onRaise ?_))
    show wpAny _ _ (Builtin.SmallTypes.nextOf (.ref i1) >>= _) _ _ _
    have up1 : ∀ c o, c ≠ z → s.heap.get? c = some o → g1.get? c = some o := fun c o n e => sb1.extBut _ _ n (sb0.extBut _ _ n e)
    cases hx : xs[k1]? with
    | none =>
      refine wpAny_bind (wpAny_nextOf_list_end hh (h1.at fun o e => up1 _ o D.i1z e) (hl1.at fun o e => up1 _ o D.l1z e) hx fun g2 e sb2 he => ?_)
      obtain ⟨oe, hoe, hce⟩ := he
      have hz2 : Zp g2 z TI TO .ellipsis f1' := sb2 _ _ D.i1z.symm hz1
      have hez : e ≠ z := fun q => by subst q; rw [hz2] at hoe; cases hoe; simp at hce
      exact wpAny_setField_rec hz2 (by simp) fun g3 _ sb3 => hE g3 e (fun c o c1 _ c3 _ q => sb3.extBut _ _ c1 (sb2 _ _ c3 (up1 _ _ c1 q))) ⟨oe, sb3.extBut _ _ hez hoe, hce⟩
    | some x =>
      have hy : ys[k2]? = none := by rcases hend with q | q; rw [hx] at q; cases q; exact q
      refine wpAny_bind (wpAny_nextOf_list_item (h1.at fun o e => up1 _ o D.i1z e) (hl1.at fun o e => up1 _ o D.l1z e) hx fun g2 j1 sb2 => wpAny_pure ?_)
      have hTO2 : IsPair g2 TO a b := sb2.extBut _ _ D.TOi1 (up1 _ _ D.TOz hTO)
      refine wpAny_bind (wpAny_seqItems hTO2 rfl (wpAny_bind (wpAny_updateSeq_pair hTO2 fun g3 hTO3 sb3 => ?_)))
      refine wpAny_bind (wpAny_letGo (wpAny_pure (wpAny_bind (wpAny_bind (wpAny_onRaise ?_)))))
      show wpAny _ _ (Builtin.SmallTypes.nextOf (.ref i2) >>= _) _ _ _
      have up3 : ∀ c o, c ≠ z → c ≠ i1 → c ≠ TO → s.heap.get? c = some o → g3.get? c = some o := fun c o n1 n2 n3 e => sb3.extBut _ _ n3 (sb2.extBut _ _ n2 (up1 _ _ n1 e))
      refine wpAny_bind (wpAny_nextOf_list_end hh (h2.at fun o e => up3 _ o D.i2z D.i12.symm D.TOi2.symm e) (hl2.at fun o e => up3 _ o D.l2z D.l2i1 D.l2TO e) hy fun g4 e sb4 he => ?_)
      obtain ⟨oe, hoe, hce⟩ := he
      have hz4 : Zp g4 z TI TO .ellipsis f1' := sb4 _ _ D.i2z.symm (sb3.extBut _ _ D.TOz.symm (sb2.extBut _ _ D.i1z.symm hz1))
      have hez : e ≠ z := fun q => by subst q; rw [hz4] at hoe; cases hoe; simp at hce
      exact wpAny_setField_rec hz4 (by simp) fun g5 _ sb5 => hE g5 e (fun c o c1 c2 c3 c4 q => sb5.extBut _ _ c1 (sb4 _ _ c4 (up3 _ _ c1 c3 c2 q))) ⟨oe, sb5.extBut _ _ hez hoe, hce⟩
  | false =>
    simp only [Bool.false_eq_true, if_false]
    refine wpAny_bind ?_
    rw [← Array.forIn_toList]
    simp only [List.forIn_cons, List.forIn_nil]
    refine wpAny_bind (wpAny_bind (wpAny_holding ?_))
    show wpAny _ _ (Builtin.SmallTypes.nextOf (.ref i1) >>= _) _ _ _
    have up1 : ∀ c o, c ≠ z → s.heap.get? c = some o → g0.get? c = some o := fun c o n e => sb0.extBut _ _ n e
    cases hx : xs[k1]? with
    | none =>
      refine wpAny_bind (wpAny_nextOf_list_end (s := { s with heap := g0 }) hh (h1.at fun o e => up1 _ o D.i1z e) (hl1.at fun o e => up1 _ o D.l1z e) hx fun g2 e sb2 he => ?_)
      exact hE g2 e (fun c o c1 _ c3 _ q => sb2 _ _ c3 (up1 _ _ c1 q)) he
    | some x =>
      have hy : ys[k2]? = none := by rcases hend with q | q; rw [hx] at q; cases q; exact q
      refine wpAny_bind (wpAny_nextOf_list_item (s := { s with heap := g0 }) (h1.at fun o e => up1 _ o D.i1z e) (hl1.at fun o e => up1 _ o D.l1z e) hx fun g2 j1 sb2 => wpAny_pure ?_)
      replace sb2 : Heap.SameBut i1 g0 g2 := sb2
      refine wpAny_pure (wpAny_bind (wpAny_bind (wpAny_holding ?_)))
      show wpAny _ _ (Builtin.SmallTypes.nextOf (.ref i2) >>= _) _ _ _
      have up2 : ∀ c o, c ≠ z → c ≠ i1 → s.heap.get? c = some o → g2.get? c = some o := fun c o n1 n2 e => sb2.extBut _ _ n2 (up1 _ _ n1 e)
      refine wpAny_bind (wpAny_nextOf_list_end hh (h2.at fun o e => up2 _ o D.i2z D.i12.symm e) (hl2.at fun o e => up2 _ o D.l2z D.l2i1 e) hy fun g4 e sb4 he => ?_)
      exact hE g4 e (fun c o c1 c2 c3 c4 q => sb4 _ _ c4 (up2 _ _ c1 c3 q)) he
end
end L2
namespace L2
open PySem PySem.Spec PyProof.Rows
theorem zip_next_typed {prog : Program} {w : World} {A : Around} {E : Value → Shared → Prop} {s : Shared} {z : Addr} {Q : Option Value → Shared → Prop} (hT : s.TypeIs (.ref z) "zip")
    (h : wpAny (model prog w) A.in1 (Builtin.«zip.__next__» ⟨[.ref z], []⟩) (fun fin s' => ∃ v, fin = .done (.ret v) ∧ Q (some v) s') (fun e s' => (∃ o, s'.heap.get? (match e with | .ref a => a | _ => 0) = some o ∧ o.cls = .type "StopIteration") ∧ (∃ a, e = .ref a) ∧ Q none s') s) :
    wpAny (model prog w) A (pyNext (.ref z)) Q E s := by
  unfold pyNext
  refine wpAny_bind (wpAny_attempt (wpAny_callSpecial?_slot (name := Str.ofString "__next__") hT F.slot_zip_next (wpAny_call_entry F.slot_zip_next hT F.entry_zip_next (wpAny_mono h (fun fin s' ⟨v, e, q⟩ => ⟨v, e, wpAny_pure q⟩) fun e s' q => ?_) (F.args_zip_next_1 _))))
  obtain ⟨⟨o, ho, hc⟩, ⟨a, rfl⟩, q⟩ := q
  exact wpAny_bind (wpAny_isInstance (T := "StopIteration") (b := true) ⟨o, ho, hc⟩ isSubtype_stop (wpAny_pure q))
noncomputable def Itz (K : PySem.W.Frag) (a b : Addr) : It :=
  ⟨fun i H => ∃ xs ys x y, SqL K H a xs ∧ SqL K H b ys ∧ xs[i]? = some x ∧ ys[i]? = some y,
   fun i H v H' => ∃ p x y, H p = none ∧ v = .ref p ∧ (∀ xs, SqL K H a xs → xs[i]? = some x) ∧ (∀ ys, SqL K H b ys → ys[i]? = some y) ∧ H' = upd H p (.tup [x, y]),
   fun i H => ∃ xs ys, SqL K H a xs ∧ SqL K H b ys ∧ (xs.length ≤ i ∨ ys.length ≤ i)⟩
theorem turn_zip {P : Program} {w : World} {K : PySem.W.Frag} {nm : Str} {tp : Pos} (a b z TI TO i1 i2 : Addr) (D : ZipApart z TI TO i1 i2 a b) :
    Turn P w K (.Name nm tp) (Itz K a b) [z, TI, TO, i1, i2] z (fun i h => (∃ f0 f1, F0 f0 ∧ Zp h z TI TO f0 f1) ∧ IsPair h TI (.ref i1) (.ref i2) ∧ (∃ c d, IsPair h TO c d) ∧ h.IsListIter i1 a i ∧ h.IsListIter i2 b i) where
  mem := by simp
  obj := fun i h st c hc => by
    obtain ⟨⟨f0, f1, _, hz⟩, hTI, ⟨u, v, hTO⟩, ⟨o1, e1, _, d1⟩, ⟨o2, e2, _, d2⟩⟩ := st
    have hc : c = z ∨ c = TI ∨ c = TO ∨ c = i1 ∨ c = i2 := by simpa using hc
    rcases hc with rfl | rfl | rfl | rfl | rfl
    · exact ⟨_, hz, fun v q => by cases q⟩
    · exact ⟨_, hTI, fun v q => by cases q⟩
    · exact ⟨_, hTO, fun v q => by cases q⟩
    · exact ⟨_, e1, fun v q => by rw [d1] at q; cases q⟩
    · exact ⟨_, e2, fun v q => by rw [d2] at q; cases q⟩
  keep := fun i h h' st k => by
    obtain ⟨⟨f0, f1, hf, hz⟩, hTI, ⟨u, v, hTO⟩, h1, h2⟩ := st
    exact ⟨⟨f0, f1, hf, k z (by simp) _ hz⟩, k TI (by simp) _ hTI, ⟨u, v, k TO (by simp) _ hTO⟩, h1.at fun o e => k i1 (by simp) o e, h2.at fun o e => k i2 (by simp) o e⟩
  item := by
    intro X hP hw hK hc i pins s σ H E I hf st hg
    subst hP hw hK
    obtain ⟨⟨f0, f1, hf0, hz⟩, hTI, ⟨ta, tb, hTO⟩, h1, h2⟩ := st
    obtain ⟨xs, ys, x, y, hqa, hqb, hx, hy⟩ := hg
    obtain ⟨its, rv, pa, _⟩ := I.list hqa
    obtain ⟨jts, rw', pb, _⟩ := I.list hqb
    obtain ⟨u, hu, ru⟩ := rv.get hx
    obtain ⟨v, hv, rv'⟩ := rw'.get hy
    refine zip_next_typed ⟨_, hz, rfl⟩ (zpn_item D hf0 hz hTI hTO h1 h2 pa.isList pb.isList (x := u) (y := v) (by simpa using hu) (by simpa using hv) fun h' f0' f1' hf' hz' hTO' j1 j2 hpr k => ⟨_, rfl, ?_⟩)
    refine wpAny_pure (s := { s with heap := h' }) ?_
    have hp : H s.heap.objs.size = none := I.hok.fresh (Nat.le_refl _)
    have fr : ∀ c ∈ [z, TI, TO, i1, i2], H c = none := fun c hc => (hf c hc).1
    have nit : ∀ c o, H c = some o → c ≠ z ∧ c ≠ TO ∧ c ≠ i1 ∧ c ≠ i2 := fun c o q => by
      refine ⟨?_, ?_, ?_, ?_⟩ <;> (intro e; rw [e, fr _ (by simp)] at q; cases q)
    have up : ∀ c o, H c = some o → upd H s.heap.objs.size (.tup [x, y]) c = some o := fun c o q => by rw [upd_ne (ne_of_none q hp)]; exact q
    have kk : ∀ c o, c ∉ [z, TO, i1, i2] → s.heap.get? c = some o → h'.get? c = some o := fun c o n q => k c o (fun e => n (by simp [e])) (fun e => n (by simp [e])) (fun e => n (by simp [e])) (fun e => n (by simp [e])) q
    have mem5 : ∀ c ∈ [z, TO, i1, i2], c ∈ [z, TI, TO, i1, i2] := fun c hc => by simp at hc ⊢; rcases hc with e | e | e | e <;> simp [e]
    have hlt : ∀ c ∈ [z, TI, TO, i1, i2], c < s.heap.objs.size := fun c hc => by
      have hc : c = z ∨ c = TI ∨ c = TO ∨ c = i1 ∨ c = i2 := by simpa using hc
      rcases hc with rfl | rfl | rfl | rfl | rfl
      · exact Heap.lt_size hz
      · exact Heap.lt_size hTI
      · exact Heap.lt_size hTO
      · obtain ⟨o, e, _⟩ := h1; exact Heap.lt_size e
      · obtain ⟨o, e, _⟩ := h2; exact Heap.lt_size e
    have I1 : Inv X pins σ (upd H s.heap.objs.size (.tup [x, y])) { s with heap := h', gens := s.gens, drawn := s.drawn, toks := s.toks } := by
      refine I.step (g' := s.gens) (d' := s.drawn) (ch := [z, TO, i1, i2]) (fun c hc => ?_) (fun c o _ _ n q _ => kk c o n q) (fun c o _ _ n q _ => ⟨o.slots, kk c o n q⟩) (fun c o _ q n => ?_) (fun c o n q => ⟨o, kk c o n q⟩) (fun c ys q => up c _ q) (fun c o v q => up c _ q) (fun c ps q => ⟨#[], by rw [up c _ q]; simp⟩) (fun m hm => ?_) (fun c o q => ?_) I.bare
      · obtain ⟨_, g1, _, g3, g4, g5⟩ := hf c (mem5 c hc)
        exact ⟨g3, g1, g4, g5⟩
      · rw [upd_ne (Nat.ne_of_lt (Heap.lt_size q))]; exact n
      · obtain ⟨o, es, ep, ho, r⟩ := hm
        refine ⟨o, es, ep, kk _ o (fun n => ?_) ho, r⟩
        exact (hf _ (mem5 _ n)).2.1 rfl
      · by_cases hb : c = s.heap.objs.size
        · subst hb
          rw [upd_same] at q
          have q' : HO.tup [x, y] = o := Option.some.inj q
          subst q'
          exact ⟨by show 2 ≤ sizeLine; decide, [u, v], .cons ru (.cons rv' .nil), ⟨_, hpr, rfl, _, rfl, rfl⟩⟩
        · rw [upd_ne hb] at q
          refine (I.hok c o q).stay (fun d o' hd q' => ?_) (fun d q => up d _ q) fun d ys q => up d _ q
          rcases hd with e | e
          · rw [e] at q' ⊢; obtain ⟨n1, n2, n3, n4⟩ := nit c o q; exact k c o' n1 n2 n3 n4 q'
          · obtain ⟨n1, n2, n3, n4⟩ := nit d _ e; exact k d o' n1 n2 n3 n4 q'
    refine ⟨.ref s.heap.objs.size, upd H s.heap.objs.size (.tup [x, y]), I1, rfl, ⟨_, x, y, hp, rfl, fun zs hz => by rw [I.list_inj hz hqa]; exact hx, fun zs hz => by rw [I.list_inj hz hqb]; exact hy, rfl⟩, ⟨⟨f0', f1', hf', hz'⟩, ?_, hTO', j1, j2⟩, fun c hc => ?_⟩
    · exact k TI _ D.TIz D.TITO D.TIi1 D.TIi2 hTI
    · rw [upd_ne (Nat.ne_of_lt (hlt c hc))]; exact fr c hc
  done := by
    intro X hP hw hK hc i pins s σ H E I hf st hg
    subst hP hw hK
    obtain ⟨⟨f0, f1, hf0, hz⟩, hTI, ⟨ta, tb, hTO⟩, h1, h2⟩ := st
    obtain ⟨xs, ys, hqa, hqb, hxy⟩ := hg
    obtain ⟨its, rv, pa, _⟩ := I.list hqa
    obtain ⟨jts, rw', pb, _⟩ := I.list hqb
    have l1 := rv.length
    have l2 := rw'.length
    have hend : its.toArray[i]? = none ∨ jts.toArray[i]? = none := by
      rcases hxy with q | q
      · exact .inl (by simp; omega)
      · exact .inr (by simp; omega)
    refine zip_next_typed ⟨_, hz, rfl⟩ (zpn_end (A := X.A.in1) (show X.A.in1.handled = none from I.ok.hd hc) D hf0 hz hTI hTO h1 h2 pa.isList pb.isList hend fun h' e k he => ⟨he, ⟨e, rfl⟩, rfl, ?_⟩)
    have fr : ∀ c ∈ [z, TI, TO, i1, i2], H c = none := fun c hc => (hf c hc).1
    have nit : ∀ c o, H c = some o → c ≠ z ∧ c ≠ TO ∧ c ≠ i1 ∧ c ≠ i2 := fun c o q => by
      refine ⟨?_, ?_, ?_, ?_⟩ <;> (intro e; rw [e, fr _ (by simp)] at q; cases q)
    have kk : ∀ c o, c ∉ [z, TO, i1, i2] → s.heap.get? c = some o → h'.get? c = some o := fun c o n q => k c o (fun e => n (by simp [e])) (fun e => n (by simp [e])) (fun e => n (by simp [e])) (fun e => n (by simp [e])) q
    have mem5 : ∀ c ∈ [z, TO, i1, i2], c ∈ [z, TI, TO, i1, i2] := fun c hc => by simp at hc ⊢; rcases hc with e | e | e | e <;> simp [e]
    refine I.step (h' := h') (g' := s.gens) (d' := s.drawn) (t' := s.toks) (ch := [z, TO, i1, i2]) (fun c hc => ?_) (fun c o _ _ n q _ => kk c o n q) (fun c o _ _ n q _ => ⟨o.slots, kk c o n q⟩) (fun c o _ q n => n) (fun c o n q => ⟨o, kk c o n q⟩) (fun c ys q => q) (fun c o v q => q) (fun c ps q => ⟨#[], by rw [q]; simp⟩) (fun m hm => ?_) (fun c o q => ?_) I.bare
    · obtain ⟨_, g1, _, g3, g4, g5⟩ := hf c (mem5 c hc)
      exact ⟨g3, g1, g4, g5⟩
    · obtain ⟨o, es, ep, ho, r⟩ := hm
      refine ⟨o, es, ep, kk _ o (fun n => ?_) ho, r⟩
      exact (hf _ (mem5 _ n)).2.1 rfl
    · refine (I.hok c o q).stay (fun d o' hd q' => ?_) (fun d q => q) fun d ys q => q
      rcases hd with e | e
      · rw [e] at q' ⊢; obtain ⟨n1, n2, n3, n4⟩ := nit c o q; exact k c o' n1 n2 n3 n4 q'
      · obtain ⟨n1, n2, n3, n4⟩ := nit d _ e; exact k d o' n1 n2 n3 n4 q'
  self := fun A i s Q E st h => by
    obtain ⟨⟨f0, f1, hf0, hz⟩, _⟩ := st
    have hT : s.TypeIs (.ref z) "zip" := ⟨_, hz, rfl⟩
    refine wpAny_pyIter_slot hT F.slot_zip_iter (wpAny_call_entry F.slot_zip_iter hT F.entry_zip_iter ?_ (F.args_zip_iter_1 _))
    show wpAny _ _ (ret (.ref z)) _ _ s
    exact wpAny_pure ⟨_, rfl, "zip", _, hT, F.slot_zip_next.lookup, h⟩
noncomputable def iZip (K : PySem.W.Frag) (ta : TA) : TI := fun σ H R => ta σ H fun vs H1 => ∃ a b xs ys, vs = [.ref a, .ref b] ∧ SqL K H1 a xs ∧ SqL K H1 b ys ∧ R (Itz K a b) H1
end L2
namespace L2
open PySem PySem.Spec PyProof.Rows
inductive Thg (H : Hp) : V → Prop
  | non : Thg H .non
  | bl (b : Bool) : Thg H (.bl b)
  | int (i : Int) : Thg H (.int i)
  | str {z : Str} : z.length ≤ sizeLine → Thg H (.str z)
  | lst {a : Addr} {xs : List V} : H a = some (.lst xs) → Thg H (.ref a)
  | tup {a : Addr} {xs : List V} : H a = some (.tup xs) → Thg H (.ref a)
  | dK {a : Addr} {kvs : List (Key × V)} : H a = some (.dK kvs) → Thg H (.ref a)
  | dT {a : Addr} {kvs : List (List Key × V)} : H a = some (.dT kvs) → Thg H (.ref a)
theorem Thg.same {H H' : Hp} {x : V} (h : Thg H x) (s : Same H H') : Thg H' x := by
  cases h with
  | non => exact .non
  | bl b => exact .bl b
  | int i => exact .int i
  | str z => exact .str z
  | lst e => exact .lst (s _ _ e)
  | tup e => exact .tup (s _ _ e)
  | dK e => exact .dK (s _ _ e)
  | dT e => exact .dT (s _ _ e)
noncomputable def isS : V → Bool
  | .str _ => true
  | _ => false
noncomputable def isI : V → Bool
  | .int _ | .bl _ => true
  | _ => false
noncomputable def isB : V → Bool
  | .bl _ => true
  | _ => false
noncomputable def isL (H : Hp) : V → Bool
  | .ref a => match H a with
    | some (.lst _) => true
    | _ => false
  | _ => false
noncomputable def isT (H : Hp) : V → Bool
  | .ref a => match H a with
    | some (.tup _) => true
    | _ => false
  | _ => false
theorem isL_of {H : Hp} {a : Addr} {xs : List V} (e : H a = some (.lst xs)) : isL H (.ref a) = true := by show (match H a with | some (.lst _) => true | _ => false) = true; rw [e]
theorem isT_of {H : Hp} {a : Addr} {xs : List V} (e : H a = some (.tup xs)) : isT H (.ref a) = true := by show (match H a with | some (.tup _) => true | _ => false) = true; rw [e]
theorem isL_not {H : Hp} {a : Addr} {o : HO} (e : H a = some o) (n : ∀ xs, o ≠ .lst xs) : isL H (.ref a) = false := by
  show (match H a with | some (.lst _) => true | _ => false) = false
  rw [e]; split
  · rename_i xs q; exact absurd (Option.some.inj q) (n xs)
  · rfl
theorem isT_not {H : Hp} {a : Addr} {o : HO} (e : H a = some o) (n : ∀ xs, o ≠ .tup xs) : isT H (.ref a) = false := by
  show (match H a with | some (.tup _) => true | _ => false) = false
  rw [e]; split
  · rename_i xs q; exact absurd (Option.some.inj q) (n xs)
  · rfl
theorem ty_thg {K : PySem.W.Frag} {H : Hp} {x : V} (h : Thg H x) : ∃ t, TyOf K H x t ∧ PySem.W.kitOne K t (.type "str") = some (isS x) ∧ PySem.W.kitOne K t (.type "int") = some (isI x) ∧ PySem.W.kitOne K t (.type "bool") = some (isB x) ∧
    PySem.W.kitOne K t (.type "list") = some (isL H x) ∧ PySem.W.kitOne K t (.type "tuple") = some (isT H x) := by
  cases h with
  | non => exact ⟨_, .non, by rfl, by rfl, by rfl, by rfl, by rfl⟩
  | bl b => exact ⟨_, .bl b, by rfl, by rfl, by rfl, by rfl, by rfl⟩
  | int i => exact ⟨_, .int i, by rfl, by rfl, by rfl, by rfl, by rfl⟩
  | str z => exact ⟨_, .str _, by rfl, by rfl, by rfl, by rfl, by rfl⟩
  | lst e => exact ⟨_, .lst e, by rfl, by rfl, by rfl, by rw [isL_of e]; rfl, by rw [isT_not e (fun _ z => by cases z)]; rfl⟩
  | tup e => exact ⟨_, .tup e, by rfl, by rfl, by rfl, by rw [isL_not e (fun _ z => by cases z)]; rfl, by rw [isT_of e]; rfl⟩
  | dK e => exact ⟨_, .dK e, by rfl, by rfl, by rfl, by rw [isL_not e (fun _ z => by cases z)]; rfl, by rw [isT_not e (fun _ z => by cases z)]; rfl⟩
  | dT e => exact ⟨_, .dT e, by rfl, by rfl, by rfl, by rw [isL_not e (fun _ z => by cases z)]; rfl, by rw [isT_not e (fun _ z => by cases z)]; rfl⟩
noncomputable def isLow (c : Nat) : Bool := decide (97 ≤ c) && decide (c ≤ 122)
noncomputable def isNm : V → Bool
  | .str z => decide (1 ≤ z.length) && (decide (z.length ≤ 8) && z.cps.toList.all isLow)
  | _ => false
theorem isNm_iff {z : Str} : isNm (.str z) = true ↔ Nm z := by
  show (decide (1 ≤ z.length) && (decide (z.length ≤ 8) && z.cps.toList.all isLow)) = true ↔ _
  rw [Bool.and_eq_true, Bool.and_eq_true, decide_eq_true_iff, decide_eq_true_iff, List.all_eq_true]
  unfold Nm
  constructor
  · rintro ⟨h1, h2, h3⟩
    refine ⟨h1, h2, fun c hc => ?_⟩
    have h := h3 c hc
    unfold isLow at h
    rw [Bool.and_eq_true, decide_eq_true_iff, decide_eq_true_iff] at h
    exact h
  · rintro ⟨h1, h2, h3⟩
    refine ⟨h1, h2, fun c hc => ?_⟩
    unfold isLow
    rw [Bool.and_eq_true, decide_eq_true_iff, decide_eq_true_iff]
    exact h3 c hc
theorem lt_one (c d : Nat) : decide ([c] < [d]) = decide (c < d) := by
  by_cases h : c < d
  · rw [decide_eq_true h]; exact decide_eq_true (List.Lex.rel h)
  · rw [decide_eq_false h]
    refine decide_eq_false fun z => ?_
    cases z with
    | rel z => exact h z
    | cons z => cases z
noncomputable def spIsName : Sp := fun vs H Q _ => ∃ x, vs = [x] ∧ Thg H x ∧ ∀ H', Same H H' → Q (.bl (isNm x)) H'
noncomputable def pK (e : Str × Str) : List Key := [.inr e.1, .inr e.2]
theorem pK_inj {e f : Str × Str} (h : pK e = pK f) : e = f := by
  unfold pK at h
  have h1 := List.cons.inj h
  have h2 := List.cons.inj h1.2
  exact Prod.ext (Sum.inr.inj h1.1) (Sum.inr.inj h2.1)
inductive PlR (H : Hp) : V → VK → Prop
  | nm {a : Addr} {xs : List Str} {Q : VK} : (H a = some (.lst (List.map V.str xs)) ∨ H a = some (.tup (List.map V.str xs))) → xs.length ≤ 1000 →
      (∀ d kvs H', Same H H' → H d = none → H' d = some (.dK kvs) → (∀ s, (valV kvs (.inr s)).isSome = true ↔ s ∈ xs) → (∀ s v, valV kvs (.inr s) = some v → ∃ j : Nat, v = .int j ∧ xs[j]? = some s) → (kvs.map (·.1)).Nodup → (∀ k ∈ kvs.map (·.1), ∃ s ∈ xs, k = Sum.inr s) → Q (.ref d) H') → PlR H (.ref a) Q
  | pr {a : Addr} {refs : List V} {ps : List (Str × Str)} {Q : VK} : (H a = some (.lst refs) ∨ H a = some (.tup refs)) → RepAll H refs (ps.map pairD) → ps.length ≤ 1000 →
      (∀ d kvs H', Same H H' → H d = none → H' d = some (.dT kvs) → (∀ e : Str × Str, (valV kvs (pK e)).isSome = true ↔ e ∈ ps) → Q (.ref d) H') → PlR H (.ref a) Q
noncomputable def spPlacesX : Sp := fun vs H Q _ => ∃ x, vs = [x] ∧ PlR H x Q
section
variable {X : Cx} {p pos p2 pos2 : Pos} {e f : Expr} {t : TA}
inductive IntR (H : Hp) : V → VK → Prop
  | int {i : Int} {Q : VK} : Q (.int i) H → IntR H (.int i) Q
  | bl {b : Bool} {Q : VK} : Q (.int (if b then 1 else 0)) H → IntR H (.bl b) Q
theorem b_int (B : Blt X.mg) (ha : PA X [e] t) (hg : Gl X "int" := by rfl) (he : starEach [e] X.env = (false, eval e X.env) :: starEach [] X.env := by rfl) (hpl : (backTo pos (starEach [] X.env)).any (·.1) = false := by rfl) :
    PE X (.Call (.Name "int" p) [e] [] pos) (tCB (fun xs H Q => ∃ x, xs = [x] ∧ IntR H x Q) t) := by
  refine pe_callTy (r := fun xs H Q => ∃ x, xs = [x] ∧ IntR H x Q) (fun pins s σ H xs us Q I r h => ?_) hg B.int PyProof.Rows.boot_int ha (by decide) (by decide) he hpl
  obtain ⟨x, rfl, h⟩ := h
  cases h with
  | int q => exact call_int1 pins s σ H _ us Q I r (.inl ⟨_, rfl, q⟩)
  | bl q => exact call_int1 pins s σ H _ us Q I r (.inr ⟨_, rfl, q⟩)
theorem g_tuple (B : Blt X.mg) (hg : Gl X "tuple" := by rfl) : PE X (.Name "tuple" p) (tC (.ty "tuple")) := pe_bltn hg B.tuple (show bootBuiltins "tuple" = some (.type "tuple") by decide +kernel) rfl
noncomputable def rIsi2 (K : PySem.W.Frag) (c d : String) : List V → Hp → VK → Prop := fun xs H Q => ∃ x a t b, xs = [x, .ref a] ∧ H a = some (.tup [.ty c, .ty d]) ∧ TyOf K H x t ∧ PySem.W.kitAny K t [.type c, .type d] = some b ∧ Q (.bl b) H
theorem isinst_tup {pins : List (Addr × Obj)} {σ : St} {H : Hp} {s : Shared} {A : Around} {E : Value → Shared → Prop} {Q : Value → Shared → Prop} {x : V} {u t : Value} {tp : Addr} {dd : Option Addr} {its : List Value} {n : Nat} {sl : Array (Option Value)} {b : Bool}
    (I : Inv X pins σ H s) (rx : RelV x u) (ty : TyOf X.K H x t) (htp : s.heap.get? tp = some ⟨.type "tuple", dd, .seq its.toArray n, sl⟩) (e : PySem.W.kitAny X.K t its = some b) (h : ∀ tk, Q (.bool b) { s with toks := tk }) :
    wpAny (model X.prog X.w) A (call (.builtin "isinstance") [u, .ref tp]) Q E s := by
  cases ty with
  | non => cases (show u = Value.none from rx); exact PySem.W.kia_tup PySem.W.kitx_none I.kIn True.intro htp e (fun z => nomatch z) h
  | bl y => cases (show u = Value.bool y from rx); exact PySem.W.kia_tup PySem.W.kitx_bool I.kIn True.intro htp e (fun z => nomatch z) h
  | int i => obtain ⟨t, q⟩ := (show ∃ t, u = Value.int i t from rx); cases q; exact PySem.W.kia_tup PySem.W.kitx_int I.kIn True.intro htp e (fun z => nomatch z) h
  | str y => obtain ⟨t, q⟩ := (show ∃ t, u = Value.str y t from rx); cases q; exact PySem.W.kia_tup PySem.W.kitx_str I.kIn True.intro htp e (fun z => nomatch z) h
  | flt y => obtain ⟨t, q⟩ := (show ∃ t, u = Value.float y t from rx); cases q; exact PySem.W.kia_tup PySem.W.kitx_float I.kIn True.intro htp e (fun z => nomatch z) h
  | @lst a xs ea =>
    cases (show u = Value.ref a from rx)
    obtain ⟨_, _, n, _, h1⟩ := (show ObjOk X.prog X.w H s.heap a (.lst xs) from I.hok a _ ea)
    exact PySem.W.kia_tup PySem.W.kitx_list I.kIn ⟨_, h1, rfl⟩ htp e (fun z => nomatch z) h
  | @frz a ob xs ea =>
    cases (show u = Value.ref a from rx)
    obtain ⟨_, _, _, n, _, h1⟩ := (show ObjOk X.prog X.w H s.heap a (.frz ob (.lst xs)) from I.hok a _ ea)
    exact PySem.W.kia_tup PySem.W.kitx_list I.kIn ⟨_, h1, rfl⟩ htp e (fun z => nomatch z) h
  | @tup a xs ea =>
    cases (show u = Value.ref a from rx)
    obtain ⟨_, _, _, p⟩ := (show ObjOk X.prog X.w H s.heap a (.tup xs) from I.hok a _ ea)
    obtain ⟨o, h1, h2, _⟩ := p
    exact PySem.W.kia_tup PySem.W.kitx_tuple I.kIn ⟨o, h1, h2⟩ htp e (fun z => nomatch z) h
  | @dK a kvs ea =>
    cases (show u = Value.ref a from rx)
    obtain ⟨_, _, vs, _, p⟩ := (show ObjOk X.prog X.w H s.heap a (.dK kvs) from I.hok a _ ea)
    obtain ⟨o, es, ep, h1, h2, _⟩ := p
    exact PySem.W.kia_tup PySem.W.kitx_dict I.kIn ⟨o, h1, h2.1⟩ htp e (fun z => nomatch z) h
  | @dT a kvs ea =>
    cases (show u = Value.ref a from rx)
    obtain ⟨_, _, xs, _, o, es, ep, h1, h2, _⟩ := (show ObjOk X.prog X.w H s.heap a (.dT kvs) from I.hok a _ ea)
    exact PySem.W.kia_tup PySem.W.kitx_dict I.kIn ⟨o, h1, h2.1⟩ htp e (fun z => nomatch z) h
  | @ins a C dx fs ea cl ha hn htk hm =>
    cases (show u = Value.ref a from rx)
    obtain ⟨mA, O, _⟩ := ins_get I.hok ea
    obtain ⟨od, J, _⟩ := O.look
    exact PySem.W.kia_tup (PySem.W.kitx_own (cl.get _) cl.hd ha hn htk hm) I.kIn J htp e (fun z => nomatch z) h
theorem call_isi2 (c d : String) : CallR X (.builtin "isinstance") (rIsi2 X.K c d) := by
  intro pins s σ H xs us Q I r h
  obtain ⟨x, a, t, b, rfl, ea, ty, e, q⟩ := h
  obtain ⟨u, w', rfl, ru, rw'⟩ := vals2 r
  cases rw'
  obtain ⟨_, its, rv, ⟨oc, od, odt, osl⟩, h1, h2, n, h3, _⟩ := (show ObjOk X.prog X.w H s.heap a (.tup [.ty c, .ty d]) from I.hok a _ ea)
  have h2 : oc = .type "tuple" := h2
  have h3 : odt = .seq its.toArray n := h3
  subst h2 h3
  obtain ⟨u1, u2, rfl, r1, r2⟩ := vals2 rv
  cases r1
  cases r2
  exact isinst_tup I ru ty h1 e fun tk => ⟨.bl b, H, I.tok tk, rfl, q⟩
theorem b_isi2 (K : PySem.W.Frag) (c d : String) (B : Blt X.mg) (ha : PA X [e, f] t) (hg : Gl X "isinstance" := by rfl) (he : starEach [e, f] X.env = (false, eval e X.env) :: starEach [f] X.env := by rfl) (hpl : (backTo pos (starEach [f] X.env)).any (·.1) = false := by rfl) (hK : X.K = K := by rfl) : PE X (.Call (.Name "isinstance" p) [e, f] [] pos) (tCB (rIsi2 K c d) t) :=
  hK ▸ pe_callB (call_isi2 c d) hg B.isinstance boot_isinstance ha (by decide) (by decide) he hpl
end
theorem kit_lt {K : PySem.W.Frag} {H : Hp} {x : V} {t : Value} (h1 : PySem.W.kitOne K t (.type "list") = some (isL H x)) (h2 : PySem.W.kitOne K t (.type "tuple") = some (isT H x)) : PySem.W.kitAny K t [.type "list", .type "tuple"] = some (isL H x || isT H x) := by
  unfold PySem.W.kitAny
  rw [h1]
  cases isL H x with
  | true => rfl
  | false =>
    show PySem.W.kitAny K t [.type "tuple"] = _
    unfold PySem.W.kitAny
    rw [h2]
    cases isT H x <;> rfl
end L2
namespace MG
variable {es : List (Nat × Nat)} {goal : Nat}
end MG
namespace L2
open PySem PySem.Spec PyProof.Rows
section
variable {X : Cx} {p pos : Pos} {e : Expr} {t : TA}
noncomputable def rLenD : List V → Hp → VK → Prop := fun xs H Q => ∃ a kvs, xs = [V.ref a] ∧ H a = some (.dK kvs) ∧ Q (.int kvs.length) H
theorem b_lenD (B : Blt X.mg) (ha : PA X [e] t) (hg : Gl X "len" := by rfl) (he : starEach [e] X.env = (false, eval e X.env) :: starEach [] X.env := by rfl) (hpl : (backTo pos (starEach [] X.env)).any (·.1) = false := by rfl) : PE X (.Call (.Name "len" p) [e] [] pos) (tCB rLenD t) :=
  pe_callB call_lenD hg B.len PySem.boot_len ha (by decide) (by decide) he hpl
end
theorem eqv_str (x y : Str) : PyData.eqv (.str x) (.str y) = decide (x = y) := by
  show (x == y) = _
  by_cases h : x = y
  · subst h; simp
  · rw [decide_eq_false h]; simpa using h
theorem twice_of {α : Type} [DecidableEq α] : ∀ {l : List α}, ¬ l.Nodup → ∃ l1 a l2, l = l1 ++ a :: l2 ∧ a ∈ l2
  | [], h => absurd List.nodup_nil h
  | x :: l, h => by
    by_cases q : x ∈ l
    · exact ⟨[], x, l, rfl, q⟩
    · have h : ¬ l.Nodup := fun z => h (List.nodup_cons.mpr ⟨q, z⟩)
      obtain ⟨l1, a, l2, e, m⟩ := twice_of h
      exact ⟨x :: l1, a, l2, by rw [e]; rfl, m⟩
theorem len_keys {α : Type} [DecidableEq α] {ks ws : List α} (nd : ks.Nodup) (h1 : ∀ k ∈ ks, k ∈ ws) (h2 : ∀ w ∈ ws, w ∈ ks) : ks.length = ws.length ↔ ws.Nodup := by
  constructor
  · intro hl
    refine Classical.byContradiction fun hn => ?_
    obtain ⟨l1, a, l2, e, m⟩ := twice_of hn
    have := nd.length_le_of_subset (l₂ := l1 ++ l2) fun k hk => by
      have := h1 k hk
      rw [e] at this
      rcases List.mem_append.mp this with q | q
      · exact List.mem_append_left _ q
      · rcases List.mem_cons.mp q with q | q
        · rw [q]; exact List.mem_append_right _ m
        · exact List.mem_append_right _ q
    rw [hl, e, List.length_append, List.length_append, List.length_cons] at this
    omega
  · intro hw
    exact Nat.le_antisymm (nd.length_le_of_subset h1) (hw.length_le_of_subset h2)
theorem len_kvs {kvs : List (Key × V)} {ws : List Str} (nd : (kvs.map (·.1)).Nodup) (ks : ∀ k ∈ kvs.map (·.1), ∃ s ∈ ws, k = Sum.inr s) (hin : ∀ s, (valV kvs (.inr s)).isSome = true ↔ s ∈ ws) : kvs.length = ws.length ↔ ws.Nodup := by
  have h := len_keys (ks := kvs.map (·.1)) (ws := ws.map (Sum.inr : Str → Key)) nd (fun k hk => by
      obtain ⟨s, hs, rfl⟩ := ks k hk
      exact List.mem_map.mpr ⟨s, hs, rfl⟩) (fun k hk => by
      obtain ⟨s, hs, rfl⟩ := List.mem_map.mp hk
      obtain ⟨v, hv⟩ := Option.isSome_iff_exists.mp ((hin s).mpr hs)
      exact valV_in hv)
  rw [List.length_map, List.length_map] at h
  rw [h]
  constructor
  · intro q
    exact List.Pairwise.of_map (Sum.inr : Str → Key) (fun a b n e => n (by rw [e])) q
  · intro q
    exact List.Pairwise.map _ (fun a b n e => n (Sum.inr.inj e)) q
end L2
namespace L2
open PySem PySem.Spec PyProof.Rows PySem.Builtin PySem.Builtin.Str
theorem idx_len (i j n : Nat) : (strSliceIndices (some (i : Int)) (some (j : Int)) 1 n).length ≤ j - i := by
  unfold strSliceIndices sliceRange
  simp only [show (1 : Int) > 0 by decide, if_true, List.length_map, List.length_range]
  split <;> (try simp only [Int.ediv_one]) <;> (repeat' split) <;> (try simp only [List.length_map, List.length_range, Int.ediv_one, List.length_nil]) <;> omega
theorem slice_len (z : Str) (i j : Nat) : (Txt.slice z (some (i : Int)) (some (j : Int))).length ≤ j - i := by
  unfold Txt.slice
  have h := idx_len i j z.length
  split
  · rename_i q
    have q : (strSliceIndices (some (i : Int)) (some (j : Int)) 1 z.length).length = z.length := by simpa using q
    omega
  · show (List.filterMap _ _).toArray.size ≤ _
    rw [List.size_toArray]
    exact Nat.le_trans (List.length_filterMap_le _ _) h
theorem slice_to {z : Str} {j : Nat} (h : j ≤ z.length) : (Txt.slice z none (some (j : Int))).length = j := by
  have e : Txt.slice z none (some (j : Int)) = StrLaws.sliceText z none (some (j : Int)) := rfl
  rw [e, StrLaws.sliceText_to ⟨by omega, by simp [Str.length] at h ⊢; omega⟩]
  show (List.take _ _).toArray.size = j
  rw [List.size_toArray]
  simp [Str.length] at h ⊢
  omega
theorem slice_toL (z : Str) (j : Nat) : (Txt.slice z none (some (j : Int))).length ≤ j := by
  by_cases h : j ≤ z.length
  · exact Nat.le_of_eq (slice_to h)
  · exact Nat.le_trans (Txt.slice_le z _ _) (by omega)
noncomputable def Lo (t : Str) : Prop := ∀ x ∈ t.cps.toList, 97 ≤ x ∧ x ≤ 122
theorem Lo.nil : Lo "" := fun c hc => by
  have hc : c ∈ ("" : Str).cps.toList := hc
  rw [show ("" : Str).cps.toList = [] by decide +kernel] at hc
  cases hc
theorem Lo.one {c : Nat} (h : 97 ≤ c ∧ c ≤ 122) : Lo ⟨#[c]⟩ := fun d hd => by
  have : d = c := by simpa using hd
  omega
theorem Lo.app {x y : Str} (hx : Lo x) (hy : Lo y) : Lo (x ++ y) := fun c hc => by
  have hc : c ∈ (x.cps ++ y.cps).toList := hc
  rw [Array.toList_append] at hc
  rcases List.mem_append.mp hc with h | h
  · exact hx c h
  · exact hy c h
theorem Lo.slice {x : Str} (h : Lo x) (l u : Option Int) : Lo (Txt.slice x l u) := by
  unfold Txt.slice
  split
  · exact h
  · intro c hc
    have hc : c ∈ (List.filterMap (x.cps[·]?) (strSliceIndices l u 1 x.length)).toArray.toList := hc
    rw [List.toList_toArray] at hc
    obtain ⟨i, _, e⟩ := List.mem_filterMap.mp hc
    exact h c (by simpa using Array.mem_of_getElem? e)
theorem Lo.joinS {sep : Str} (hs : Lo sep) : ∀ {ys : List Str}, (∀ y ∈ ys, Lo y) → Lo (Str.join sep ys)
  | [], _ => fun c hc => by
    have hc : c ∈ (#[] : Array Nat).toList := hc
    simp at hc
  | [y], h => h y (by simp)
  | y :: z :: r, h => by
    show Lo (y ++ sep ++ Str.join sep (z :: r))
    exact ((h y (by simp)).app hs).app (Lo.joinS hs fun x hx => h x (List.mem_cons_of_mem _ hx))
theorem Lo.join {sep : Str} {ys : List Str} (hs : Lo sep) (h : ∀ y ∈ ys, Lo y) : Lo (Txt.join sep ys) := by
  unfold Txt.join
  rw [StrLaws.glued_eq_join]
  exact Lo.joinS hs h
theorem Lo.nm {z : Str} (h : Lo z) (h1 : 1 ≤ z.length) (h2 : z.length ≤ 8) : Nm z := ⟨h1, h2, h⟩
noncomputable def abc (j : Int) : Str := ⟨#[97 + j.toNat]⟩
theorem abc_lo {j : Int} (h0 : 0 ≤ j) (h1 : j < 26) : Lo (abc j) := Lo.one (by omega)
theorem abc_len (j : Int) : (abc j).length = 1 := rfl
theorem abc_at {j : Int} (h0 : 0 ≤ j) (h1 : j < 26) : atI ("abcdefghijklmnopqrstuvwxyz" : Str).cps.toList j = some (97 + j.toNat) := by
  obtain ⟨k, rfl⟩ := Int.eq_ofNat_of_zero_le h0
  have hk : k < 26 := by omega
  exact (by decide +kernel : ∀ k : Nat, k < 26 → atI ("abcdefghijklmnopqrstuvwxyz" : Str).cps.toList (k : Int) = some (97 + (k : Int).toNat)) k hk
theorem join_len {ys : List Str} (h : ∀ y ∈ ys, y.length = 1) : (Txt.join "" ys).length = ys.length := by
  have e0 : ("" : Str).length = 0 := by decide +kernel
  unfold Txt.join
  rw [size_glued, e0, Nat.mul_zero, Nat.add_zero]
  induction ys with
  | nil => rfl
  | cons y r ih =>
    have h1 := h y (by simp)
    have h2 := ih fun z hz => h z (List.mem_cons_of_mem _ hz)
    simp only [List.map_cons, List.sum_cons, List.length_cons]
    omega
theorem nodup_by {α : Type} (f : Nat → α) (m : Nat) (h : ∀ i j, i < j → j < m → f i ≠ f j) : ((List.range m).map f).Nodup := by
  rw [List.nodup_iff_pairwise_ne, List.pairwise_map]
  refine List.Pairwise.imp_of_mem ?_ (List.pairwise_lt_range (n := m))
  intro a b ha hb hab
  exact h a b hab (List.mem_range.mp hb)
theorem range_snoc {α : Type} (f : Nat → α) (i : Nat) : (List.range (i + 1)).map f = (List.range i).map f ++ [f i] := by rw [List.range_succ, List.map_append]; rfl
theorem mem_by {α : Type} {f : Nat → α} {m : Nat} {x : α} (h : x ∈ (List.range m).map f) : ∃ i, i < m ∧ x = f i := by
  obtain ⟨i, hi, e⟩ := List.mem_map.mp h
  exact ⟨i, List.mem_range.mp hi, e.symm⟩
theorem star_c {c : Const} {j : Nat} {p : Pos} {es : List Expr} {env : Env} : starEach (.Constant c j p :: es) env = (false, eval (.Constant c j p) env) :: starEach es env := rfl
theorem star_n {x : Str} {p : Pos} {es : List Expr} {env : Env} : starEach (.Name x p :: es) env = (false, eval (.Name x p) env) :: starEach es env := rfl
theorem star_l {xs : List Expr} {p : Pos} {es : List Expr} {env : Env} : starEach (.List xs p :: es) env = (false, eval (.List xs p) env) :: starEach es env := rfl
theorem star_t {xs : List Expr} {k : Nat} {p : Pos} {es : List Expr} {env : Env} : starEach (.Tuple xs k p :: es) env = (false, eval (.Tuple xs k p) env) :: starEach es env := rfl
theorem star_s {x y : Expr} {p : Pos} {es : List Expr} {env : Env} : starEach (.Subscript x y p :: es) env = (false, eval (.Subscript x y p) env) :: starEach es env := rfl
theorem star_b {x y : Expr} {o : Operator} {p : Pos} {es : List Expr} {env : Env} : starEach (.BinOp x o y p :: es) env = (false, eval (.BinOp x o y p) env) :: starEach es env := rfl
theorem star_u {x : Expr} {o : UnaryOp} {p : Pos} {es : List Expr} {env : Env} : starEach (.UnaryOp o x p :: es) env = (false, eval (.UnaryOp o x p) env) :: starEach es env := rfl
theorem star_f {x : Expr} {xs : List Expr} {ks : List Keyword} {p : Pos} {es : List Expr} {env : Env} : starEach (.Call x xs ks p :: es) env = (false, eval (.Call x xs ks p) env) :: starEach es env := rfl
theorem star_d {xs : List (Option Expr)} {ys : List Expr} {p : Pos} {es : List Expr} {env : Env} : starEach (.Dict xs ys p :: es) env = (false, eval (.Dict xs ys p) env) :: starEach es env := rfl
end L2
namespace L2
open PySem PySem.Spec PyProof.Rows
noncomputable def SqA (H : Hp) (a : Addr) (xs : List V) : Prop := H a = some (.lst xs) ∨ H a = some (.tup xs)
theorem SqA.same {H H' : Hp} {a : Addr} {xs : List V} (h : SqA H a xs) (s : Same H H') : SqA H' a xs := by
  rcases h with h | h
  · exact .inl (s _ _ h)
  · exact .inr (s _ _ h)
theorem SqA.len {K : PySem.W.Frag} {H : Hp} {a : Addr} {xs : List V} (h : SqA H a xs) : LenV K (.ref a) H xs.length := by
  rcases h with h | h
  · exact .inl ⟨xs, .of h, rfl⟩
  · exact .inr ⟨xs, .of h, rfl⟩
theorem SqA.thg {H : Hp} {a : Addr} {xs : List V} (h : SqA H a xs) : Thg H (.ref a) := by
  rcases h with h | h
  · exact .lst h
  · exact .tup h
theorem SqA.lt {H : Hp} {a : Addr} {xs : List V} (h : SqA H a xs) : (isL H (.ref a) || isT H (.ref a)) = true := by
  rcases h with h | h
  · rw [isL_of h]; rfl
  · rw [isT_of h, Bool.or_true]
section
variable {X : Cx} {p pos p2 pos2 : Pos} {e f : Expr} {t : TA}
inductive TupR (K : PySem.W.Frag) (H : Hp) : V → VK → Prop
  | lst {a : Addr} {ys : List V} {Q : VK} : SqL K H a ys → (∀ l, H l = none → Q (.ref l) (upd H l (.tup ys))) → TupR K H (.ref a) Q
  | tup {a : Addr} {ys : List V} {Q : VK} : SqT K H a ys → Q (.ref a) H → TupR K H (.ref a) Q
theorem b_tupX (K : PySem.W.Frag) (B : Blt X.mg) (ha : PA X [e] t) (hg : Gl X "tuple" := by rfl) (he : starEach [e] X.env = (false, eval e X.env) :: starEach [] X.env := by rfl) (hpl : (backTo pos (starEach [] X.env)).any (·.1) = false := by rfl) (hK : X.K = K := by rfl) :
    PE X (.Call (.Name "tuple" p) [e] [] pos) (tCB (fun xs H Q => ∃ x, xs = [x] ∧ TupR K H x Q) t) := by
  subst hK
  refine pe_callTy (r := fun xs H Q => ∃ x, xs = [x] ∧ TupR X.K H x Q) (fun pins s σ H xs us Q I r h => ?_) hg B.tuple (show bootBuiltins "tuple" = some (.type "tuple") by decide +kernel) ha (by decide) (by decide) he hpl
  obtain ⟨x, rfl, h⟩ := h
  cases h with
  | lst h1 q => exact call_tuple_of pins s σ H _ us Q I r ⟨_, _, rfl, .inl ⟨h1, q⟩⟩
  | tup h1 q => exact call_tuple_of pins s σ H _ us Q I r ⟨_, _, rfl, .inr ⟨h1, q⟩⟩
end
end L2
namespace L2
open PySem PySem.Spec PyProof.Rows
theorem shownAll_map : ∀ ds : List PyData, PyData.shownAll ds = ds.map PyData.shown
  | [] => rfl
  | d :: ds => by
    show PyData.shown d :: PyData.shownAll ds = _
    rw [shownAll_map ds]; rfl
structure Sw (d : PyData) (n k : Nat) : Prop where
  lay : d.canLay0 = true
  sb : d.showable = true
  dp : d.depth ≤ k
  ln : d.shown.length ≤ n
theorem Sw.mono {d : PyData} {n k n' k' : Nat} (h : Sw d n k) (hn : n ≤ n') (hk : k ≤ k') : Sw d n' k' := ⟨h.lay, h.sb, Nat.le_trans h.dp hk, Nat.le_trans h.ln hn⟩
theorem Sw.nm {s : Str} (h : Nm s) : Sw (.str s) 82 0 := ⟨canLay_nm h, rfl, Nat.le_refl 0, h.repr⟩
theorem join_le {n : Nat} : ∀ (ts : List Str), (∀ t ∈ ts, t.length ≤ n) → (Str.join ", " ts).length ≤ ts.length * (n + 2)
  | [], _ => Nat.zero_le _
  | [y], h => by
    have := h y (by simp)
    show y.length ≤ 1 * (n + 2)
    omega
  | y :: z :: r, h => by
    have h1 := join_le (z :: r) fun t ht => h t (List.mem_cons_of_mem _ ht)
    have h2 := h y (by simp)
    have h3 : (Str.ofString ", ").length = 2 := rfl
    show (y ++ ", " ++ Str.join ", " (z :: r)).length ≤ ((z :: r).length + 1) * (n + 2)
    rw [len_app, len_app, Nat.succ_mul]
    show y.length + (Str.ofString ", ").length + _ ≤ _
    omega
end L2
namespace L2
open PySem PySem.Spec PyProof.Rows
section
variable {X : Cx} {p pos p2 pos2 : Pos} {e f : Expr} {t : TA}
theorem b_strI (B : Blt X.mg) (ha : PA X [e] t) (hg : Gl X "str" := by rfl) (he : starEach [e] X.env = (false, eval e X.env) :: starEach [] X.env := by rfl) (hpl : (backTo pos (starEach [] X.env)).any (·.1) = false := by rfl) :
    PE X (.Call (.Name "str" p) [e] [] pos) (tCB (fun xs H Q => ∃ i : Int, xs = [.int i] ∧ i.natAbs.log2 < 1920 ∧ Q (.str (toString i)) H) t) :=
  pe_callTy call_str_int hg B.str (show bootBuiltins "str" = some (.type "str") by decide +kernel) ha (by decide) (by decide) he hpl
end
end L2
namespace L2
open PySem PySem.Spec PyProof.Rows
theorem cutV_from (xs : List V) (k : Nat) : cutV xs (some (k : Int)) none = xs.drop k := by
  unfold cutV
  rw [HT.sIx_nat, HT.sIx_none]
  by_cases h : k ≤ xs.length
  · rw [Nat.min_eq_left h, List.take_of_length_le (by rw [List.length_drop]; omega)]
  · rw [Nat.min_eq_right (by omega), List.drop_of_length_le (Nat.le_refl _), List.drop_of_length_le (by omega)]; simp
theorem cutV_to (xs : List V) (k : Nat) (h : k ≤ xs.length) : cutV xs none (some (k : Int)) = xs.take k := by
  unfold cutV
  rw [HT.sIx_nat, HT.sIx_none, Nat.min_eq_left h, List.drop_zero, Nat.sub_zero]
end L2
namespace MG
variable {α : Type}
end MG
namespace L2
open PySem PySem.Spec PyProof.Rows
namespace SP
open PySem.Builtin PySem.Builtin.Str PySem.StrLaws
noncomputable abbrev one (c : Nat) : Str := ⟨#[c]⟩
end SP
end L2
namespace MG
variable {es : List (Nat × Nat)} {goal : Nat}
end MG
set_option maxHeartbeats 400000
namespace L2
open PySem PySem.Spec PyProof.Rows
section
variable {X : Cx}
noncomputable def rInDT (neg : Bool) : V → V → Hp → VK → Prop := fun x y H Q => ∃ p xs ds d, y = .ref p ∧ H p = some (.tup xs) ∧ RepAll H xs ds ∧ Rep H x d ∧ PyData.canLayAll0 ds = true ∧ d.canLay0 = true ∧ d.depth ≤ 16 ∧ Q (.bl (if neg then !(ds.any fun e => PyData.eqv e d) else ds.any fun e => PyData.eqv e d)) H
theorem op_notInDT (hu : X.A.units + 64 < cLine) : OpR X (compareOp .NotIn) (rInDT true) := by
  intro pins s σ H x y v u Q I rx ry h
  obtain ⟨p, xs, ds, d, rfl, e, rs, r, cs, c, dp, q⟩ := h
  cases ry
  obtain ⟨its, rv, pl, _⟩ := I.tuple (a := p) (xs := xs) (.of e)
  obtain ⟨bs, zx⟩ := r.reads I.hok rx
  refine SeqAt.notIn_tupleAt (fun u => PyData.eqv (SeqAt.readOf s.heap u) d) pl (fun w hw => mem_readOf (x := x) I.hok zx c (by show X.A.units + 1 + d.depth < cLine; omega) rs rv cs w (by simpa using hw)) ⟨.bl _, H, I, rfl, ?_⟩
  rw [show its.toArray.any (fun u => PyData.eqv (SeqAt.readOf s.heap u) d) = its.any (fun u => PyData.eqv (SeqAt.readOf s.heap u) d) by simp, any_readOf I.hok rs rv cs]
  exact q
end
end L2
set_option maxHeartbeats 4000000
namespace L2
open PySem PySem.Spec PyProof.Rows
theorem valV_mem {kvs : List (Key × V)} {k : Key} : (valV kvs k).isSome = true ↔ k ∈ kvs.map (·.1) := by
  rw [← valV_any, List.any_eq_true, List.mem_map]
  exact ⟨fun ⟨kv, hm, e⟩ => ⟨kv, hm, of_decide_eq_true e⟩, fun ⟨kv, hm, e⟩ => ⟨kv, hm, decide_eq_true e⟩⟩
theorem once {G T : Prop} (m : T → G) (t : T) : G := m t
theorem once2 {G : Prop} {T C : Nat → Hp → Prop} (m : (∀ y HC, C y HC → T y HC) → G) (t : ∀ y HC, C y HC → T y HC) : G := m t
end L2
namespace MG
noncomputable def mx : List Int → Int
  | [] => 0
  | x :: l => max x (mx l)
noncomputable def dp (es : List (Nat × Nat)) (W : Nat → Int) : Nat → Nat → Int
  | 0, _ => 0
  | k + 1, v => W v + mx ((es.filter fun e => decide (e.2 = v)).map fun e => dp es W k e.1)
end MG
namespace L2
open PySem
theorem len_shown {i : Int} {k : Nat} (hk : 0 < k) (h : i.natAbs < 10 ^ k) : (PyData.shown (.int i)).length ≤ k + 1 := by
  have e := (Nat.length_repr_le_iff (n := i.natAbs) hk).mpr h
  show (Str.ofString (toString i)).length ≤ k + 1
  rw [ofString_length]
  cases i with
  | ofNat m =>
    have e : m.repr.length ≤ k := e
    show m.repr.length ≤ k + 1
    omega
  | negSucc m =>
    have e : m.succ.repr.length ≤ k := e
    show ("-" ++ m.succ.repr).length ≤ k + 1
    rw [String.length_append]
    show 1 + m.succ.repr.length ≤ k + 1
    omega
theorem sw_int {i : Int} (h : i.natAbs < 10 ^ 40) : Sw (.int i) 41 0 := by
  refine ⟨rfl, ?_, Nat.le_refl 0, len_shown (by decide) h⟩
  show decide (i.natAbs.log2 < 1920) = true
  refine decide_eq_true ?_
  by_cases q : i.natAbs = 0
  · rw [q]; decide
  · rw [Nat.log2_lt q]
    exact Nat.lt_trans h (by decide +kernel)
noncomputable def intsD (zs : List Int) : PyData := .list (zs.map PyData.int)
theorem repAll_int {H : Hp} : ∀ zs : List Int, RepAll H (zs.map V.int) (zs.map PyData.int)
  | [] => .nil
  | x :: xs => .cons (.int _) (repAll_int xs)
end L2
namespace L2
open PySem PySem.Spec PyProof.Rows
section
variable {X : Cx}
noncomputable def rCatTA (K : PySem.W.Frag) : R2 := fun x y H Q => ∃ a b xs ys, x = .ref a ∧ y = .ref b ∧ SqT K H a xs ∧ SqT K H b ys ∧ xs.length + ys.length ≤ sizeLine ∧
  (xs = [] → Q (.ref b) H) ∧ (xs ≠ [] → ys = [] → Q (.ref a) H) ∧ (xs ≠ [] → ys ≠ [] → ∀ p, H p = none → Q (.ref p) (upd H p (.tup (xs ++ ys))))
theorem op_catTA (K : PySem.W.Frag) (hK : X.K = K := by rfl) : OpR X (binaryOp .Add) (rCatTA K) := by
  subst hK
  intro pins s σ H x y v u Q I rx ry h
  obtain ⟨a, b, xs, ys, rfl, rfl, ha, hb, hz, q0, q1, q2⟩ := h
  by_cases hx : xs = []
  · cases rx
    cases ry
    obtain ⟨its, r1, p1, _⟩ := I.tuple ha
    obtain ⟨its2, r2, p2, _⟩ := I.tuple hb
    have e1 : its = [] := r1.nil_iff.mpr hx
    obtain ⟨⟨cls, dd, data, sl⟩, ho, hc, n, hd⟩ := id p1
    obtain ⟨⟨cls2, dd2, data2, sl2⟩, ho2, hc2, n2, hd2⟩ := id p2
    simp only at hc hd hc2 hd2
    subst hc hd hc2 hd2
    exact concat_meets ⟨_, ho, rfl⟩ ⟨_, ho2, rfl⟩ noFill_tuple_add seq_tuple_add F.slot_tuple_add F.entry_tuple_add (F.args_tuple_add_2 _ _) (tuple_addW0 a b its.toArray its2.toArray n n2 dd dd2 sl sl2 (by simp [e1])) ⟨ho, ho2, ⟨.ref b, H, I, rfl, q0 hx⟩⟩
  · exact op_catT pins s σ H _ _ v u Q I rx ry ⟨a, b, xs, ys, rfl, rfl, ha, hb, hx, hz, q1 hx, q2 hx⟩
end
end L2
namespace L2
open PySem
theorem perm_of {α : Type} [DecidableEq α] : ∀ {l m : List α}, l.Nodup → (∀ x ∈ l, x ∈ m) → m.length ≤ l.length → l.Perm m
  | [], m, _, _, h => by
    have : m = [] := List.length_eq_zero_iff.mp (by have := h; rw [List.length_nil] at this; omega)
    rw [this]
  | x :: l, m, nd, sub, h => by
    obtain ⟨n1, n2⟩ := List.nodup_cons.mp nd
    have hx := sub x (by simp)
    have pe := (List.perm_cons_erase hx)
    have le := pe.length_eq
    rw [List.length_cons] at le h
    refine (List.Perm.cons x (perm_of n2 (fun y hy => ?_) (by omega))).trans pe.symm
    exact (List.mem_erase_of_ne (fun z : y = x => n1 (z ▸ hy))).mpr (sub y (List.mem_cons_of_mem _ hy))
noncomputable def setAll (r : List Str) (ps : List (Nat × Str)) : List Str := ps.foldl (fun r p => r.set p.1 p.2) r
theorem setAll_len : ∀ (ps : List (Nat × Str)) (r : List Str), (setAll r ps).length = r.length
  | [], r => rfl
  | p :: ps, r => by
    show (setAll (r.set p.1 p.2) ps).length = _
    rw [setAll_len ps, List.length_set]
theorem setAll_out : ∀ (ps : List (Nat × Str)) (r : List Str) (k : Nat), k ∉ ps.map (·.1) → (setAll r ps)[k]? = r[k]?
  | [], r, k, _ => rfl
  | p :: ps, r, k, h => by
    show (setAll (r.set p.1 p.2) ps)[k]? = _
    rw [List.map_cons, List.mem_cons] at h
    rw [setAll_out ps _ k (fun z => h (.inr z)), List.getElem?_set_ne (fun z => h (.inl z.symm))]
theorem setAll_in : ∀ (ps : List (Nat × Str)) (r : List Str) (k : Nat) (x : Str), (ps.map (·.1)).Nodup → (k, x) ∈ ps → k < r.length → (setAll r ps)[k]? = some x
  | p :: ps, r, k, x, nd, h, hk => by
    show (setAll (r.set p.1 p.2) ps)[k]? = _
    rw [List.map_cons] at nd
    obtain ⟨n1, n2⟩ := List.nodup_cons.mp nd
    rcases List.mem_cons.mp h with e | h
    · subst e
      rw [setAll_out ps _ k n1, List.getElem?_set_self hk]
    · exact setAll_in ps _ k x n2 h (by rw [List.length_set]; exact hk)
noncomputable def plc (os A : List Str) : List Nat := (List.range os.length).filter fun k => decide (os.getD k "" ∈ A)
noncomputable def laidL (os A : List Str) : List Str := setAll os ((plc os A).zip A)
theorem plc_lt {os A : List Str} {k : Nat} (h : k ∈ plc os A) : k < os.length := List.mem_range.mp (List.mem_filter.mp h).1
theorem plc_in {os A : List Str} {k : Nat} (h : k ∈ plc os A) : os.getD k "" ∈ A := of_decide_eq_true (List.mem_filter.mp h).2
theorem plc_nd (os A : List Str) : (plc os A).Nodup := List.Nodup.sublist List.filter_sublist List.nodup_range
theorem os_range (os : List Str) : os = (List.range os.length).map fun k => os.getD k "" := by
  apply List.ext_getElem
  · rw [List.length_map, List.length_range]
  · intro i h1 h2
    rw [List.getElem_map, List.getElem_range, List.getD_eq_getElem?_getD, List.getElem?_eq_getElem h1]; rfl
theorem plc_map (os A : List Str) : (plc os A).map (fun k => os.getD k "") = os.filter fun x => decide (x ∈ A) := by
  have e : os.filter (fun x => decide (x ∈ A)) = ((List.range os.length).map fun k => os.getD k "").filter fun x => decide (x ∈ A) := by rw [← os_range]
  rw [e, List.filter_map]
  rfl
theorem plc_len {os A : List Str} (ond : os.Nodup) (and_ : A.Nodup) (sub : ∀ x ∈ A, x ∈ os) : (plc os A).length = A.length := by
  have h := congrArg List.length (plc_map os A)
  rw [List.length_map] at h
  rw [h]
  have nd : (os.filter fun x => decide (x ∈ A)).Nodup := List.Nodup.sublist List.filter_sublist ond
  have l1 : (os.filter fun x => decide (x ∈ A)).length ≤ A.length := nd.length_le_of_subset fun x hx => of_decide_eq_true (List.mem_filter.mp hx).2
  have l2 : A.length ≤ (os.filter fun x => decide (x ∈ A)).length := and_.length_le_of_subset fun x hx => List.mem_filter.mpr ⟨sub x hx, decide_eq_true hx⟩
  omega
theorem laid_len (os A : List Str) : (laidL os A).length = os.length := setAll_len _ _
theorem zip_keys {os A : List Str} (h : (plc os A).length ≤ A.length) : ((plc os A).zip A).map (·.1) = plc os A := List.map_fst_zip h
theorem laid_at {os A : List Str} (ond : os.Nodup) (and_ : A.Nodup) (sub : ∀ x ∈ A, x ∈ os) {k : Nat} (hk : k < os.length) :
    (∃ (i : Nat) (x : Str), (plc os A)[i]? = some k ∧ A[i]? = some x ∧ (laidL os A)[k]? = some x) ∨ (k ∉ plc os A ∧ (laidL os A)[k]? = os[k]? ∧ os.getD k "" ∉ A) := by
  have pl := plc_len ond and_ sub
  have zk := zip_keys (os := os) (A := A) (by omega)
  by_cases q : k ∈ plc os A
  · obtain ⟨i, hi⟩ := List.getElem?_of_mem q
    have hil := (List.getElem?_eq_some_iff.mp hi).1
    obtain ⟨x, hx⟩ : ∃ x, A[i]? = some x := ⟨_, List.getElem?_eq_getElem (by omega)⟩
    refine .inl ⟨i, x, hi, hx, setAll_in _ _ k x (by rw [zk]; exact plc_nd os A) ?_ hk⟩
    exact List.mem_of_getElem? (i := i) (by rw [List.getElem?_zip_eq_some]; exact ⟨hi, hx⟩)
  · refine .inr ⟨q, setAll_out _ _ k (by rw [zk]; exact q), fun z => q (List.mem_filter.mpr ⟨List.mem_range.mpr hk, decide_eq_true z⟩)⟩
theorem laid_perm {os A : List Str} (ond : os.Nodup) (and_ : A.Nodup) (sub : ∀ x ∈ A, x ∈ os) : (laidL os A).Perm os := by
  have g : ∀ k, k < os.length → os[k]? = some (os.getD k "") := fun k hk => by rw [List.getD_eq_getElem?_getD, List.getElem?_eq_getElem hk]; rfl
  refine perm_of ?_ (fun x hx => ?_) (by rw [laid_len]; exact Nat.le_refl _)
  · rw [os_range (laidL os A), laid_len]
    refine nodup_by _ _ fun i j hij hj e => ?_
    have e : (laidL os A)[i]? = (laidL os A)[j]? := by
      have f : ∀ k, k < os.length → (laidL os A)[k]? = some ((laidL os A).getD k "") := fun k hk => by rw [List.getD_eq_getElem?_getD, List.getElem?_eq_getElem (by rw [laid_len]; exact hk)]; rfl
      rw [f i (by omega), f j hj, e]
    rcases laid_at ond and_ sub (show i < os.length by omega) with ⟨a, x, h1, h2, h3⟩ | ⟨h1, h2, h3⟩
    · rcases laid_at ond and_ sub hj with ⟨b, y, g1, g2, g3⟩ | ⟨g1, g2, g3⟩
      · have exy : x = y := Option.some.inj (h3.symm.trans (e.trans g3))
        subst exy
        have hab : a = b := (List.getElem?_inj (List.getElem?_eq_some_iff.mp h2).1 and_).mp (h2.trans g2.symm)
        subst hab
        have := Option.some.inj (h1.symm.trans g1)
        omega
      · rw [h3, g2, g j hj] at e
        have := Option.some.inj e
        exact g3 (this ▸ List.mem_of_getElem? h2)
    · rcases laid_at ond and_ sub hj with ⟨b, y, g1, g2, g3⟩ | ⟨g1, g2, g3⟩
      · rw [h2, g3, g i (by omega)] at e
        have := Option.some.inj e
        exact h3 (this ▸ List.mem_of_getElem? g2)
      · rw [h2, g2] at e
        have := (List.getElem?_inj (show i < os.length by omega) ond).mp e
        omega
  · obtain ⟨k, hk⟩ := List.getElem?_of_mem hx
    have hkl := (List.getElem?_eq_some_iff.mp hk).1
    rw [laid_len] at hkl
    rcases laid_at ond and_ sub hkl with ⟨a, y, h1, h2, h3⟩ | ⟨h1, h2, h3⟩
    · have : y = x := Option.some.inj (h3.symm.trans hk)
      exact this ▸ sub y (List.mem_of_getElem? h2)
    · rw [h2] at hk
      exact List.mem_of_getElem? hk
end L2
namespace L2
open PySem PySem.Spec PyProof.Rows
section
variable {prog : Program} {w : World} {A : Around} {E : Value → Shared → Prop} {s : Shared}
theorem go_zipP {elts : List Expr} {x1} {pos : Pos} {z TI TO T : Addr} {f0 : Value} {f1 : Bool} {Q : Unit → Shared → Prop} (hf : F0 f0) (hz : Zp s.heap z TI TO f0 f1)
    (hQ : ∀ h' f0', F0 f0' → Zp h' z TI TO f0' f1 → Heap.SameBut z s.heap h' → Q () { s with heap := h' }) : wpAny (model prog w) A (letOwnedTupleGo (.Tuple elts x1 pos) (.ref z) (.ref T)) Q E s := by
  unfold letOwnedTupleGo
  refine wpAny_bind (wpAny_load hz ?_)
  show wpAny _ A (if (["enumerate", "zip", "dict_itemiterator", "dict_reverseitemiterator", "odict_iterator", "itertools.zip_longest", "itertools.pairwise"].contains "zip" && _) = true then _ else _) Q E s
  split
  · refine wpAny_bind (wpAny_rule ?_)
    show wpAny _ A (setField (.ref z) 0 .none) Q E s
    exact wpAny_setField_rec hz (by simp) fun h' hz' sb => hQ h' _ (.inl rfl) hz' sb
  · exact wpAny_pure (hQ s.heap f0 hf hz (Heap.SameBut.refl _ _))
end
theorem turn_zipP {P : Program} {w : World} {K : PySem.W.Frag} {elts : List Expr} {x1} {tp : Pos} (a b z TI TO i1 i2 : Addr) (D : ZipApart z TI TO i1 i2 a b) :
    Turn P w K (.Tuple elts x1 tp) (Itz K a b) [z, TI, TO, i1, i2] z (fun i h => (∃ f0 f1, F0 f0 ∧ Zp h z TI TO f0 f1) ∧ IsPair h TI (.ref i1) (.ref i2) ∧ (∃ c d, IsPair h TO c d) ∧ h.IsListIter i1 a i ∧ h.IsListIter i2 b i) := by
  have T := turn_zip (P := P) (w := w) (K := K) (nm := "x") (tp := tp) a b z TI TO i1 i2 D
  refine ⟨T.mem, T.obj, T.keep, ?_, T.done, T.self⟩
  intro X hP hw hK hc i pins s σ H E I hf st hg
  refine thn (T.item X hP hw hK hc i pins s σ H E I hf st hg) fun r s1 ⟨u, hr, h⟩ => ⟨u, hr, ?_⟩
  have key : wpAny (model P w) X.A (letOwnedTupleGo (.Name "x" tp) (.ref z) u >>= fun _ => letOwnedTupleGo (.Tuple elts x1 tp) (.ref z) u) (fun _ s2 => ∃ x H', Inv X pins σ H' s2 ∧ RelV x u ∧ (Itz K a b).yld i H x H' ∧ ((∃ f0 f1, F0 f0 ∧ Zp s2.heap z TI TO f0 f1) ∧ IsPair s2.heap TI (.ref i1) (.ref i2) ∧ (∃ c d, IsPair s2.heap TO c d) ∧ s2.heap.IsListIter i1 a (i + 1) ∧ s2.heap.IsListIter i2 b (i + 1)) ∧ ∀ c ∈ [z, TI, TO, i1, i2], H' c = none) E s1 := by
    refine wpAny_bind (thn h fun _ s2 ⟨x, H', I', rx, yl, tn, hn⟩ => ?_)
    obtain ⟨p, x0, y0, hp, rfl, hx0, hy0, rfl⟩ := id yl
    cases rx
    obtain ⟨⟨f0, f1, hf0, hz⟩, hTI, ⟨ta, tb, hTO⟩, h1, h2⟩ := tn
    refine go_zipP hf0 hz fun h' f0' hf' hz' sb => ?_
    have kk : ∀ c o, c ≠ z → s2.heap.get? c = some o → h'.get? c = some o := fun c o n e => sb.extBut c o n e
    have nz : ∀ c o, upd H p (.tup [x0, y0]) c = some o → c ≠ z := fun c o q e => by rw [e, hn z (by simp)] at q; cases q
    refine ⟨.ref p, _, ?_, rfl, yl, ⟨⟨f0', f1, hf', hz'⟩, kk _ _ D.TIz hTI, ⟨ta, tb, kk _ _ D.TOz hTO⟩, h1.at fun o e => kk _ o D.i1z e, h2.at fun o e => kk _ o D.i2z e⟩, hn⟩
    have k1 : ∀ c o, c ∉ [z] → s2.heap.get? c = some o → h'.get? c = some o := fun c o n e => kk c o (fun q => n (by simp [q])) e
    refine I'.step (h' := h') (g' := s2.gens) (d' := s2.drawn) (t' := s2.toks) (ch := [z]) (fun c hc => ?_) (fun c o _ _ n q _ => k1 c o n q) (fun c o _ _ n q _ => ⟨o.slots, k1 c o n q⟩) (fun c o _ q n => n) (fun c o n q => ⟨o, k1 c o n q⟩) (fun c ys q => q) (fun c o v q => q) (fun c ps q => ⟨#[], by rw [q]; simp⟩) (fun m hm => ?_) (fun c o q => ?_) I'.bare
    · have hc : c = z := by simpa using hc
      subst hc
      obtain ⟨_, g1, _, g3, g4, g5⟩ := hf c (by simp)
      exact ⟨g3, g1, g4, g5⟩
    · obtain ⟨o, es, ep, ho, r⟩ := hm
      refine ⟨o, es, ep, k1 _ o (fun n => ?_) ho, r⟩
      exact (hf _ (by rw [List.mem_singleton.mp n]; simp)).2.1 rfl
    · refine (I'.hok c o q).stay (fun d o' hd q' => ?_) (fun d q => q) fun d ys q => q
      rcases hd with e | e
      · rw [e] at q' ⊢; exact kk c o' (nz c o q) q'
      · exact kk d o' (nz d _ e) q'
  exact key
theorem pi_zipP (K : PySem.W.Frag) {X : Cx} {elts : List Expr} {x1} {tp : Pos} {a b : Expr} {ta : TA} {p pos : Pos} (hg : Gl X "zip") (hm : X.mg "zip" = none) (ha : PA X [a, b] ta) (hs : starEach [a, b] X.env = (false, eval a X.env) :: starEach [b] X.env := by rfl) (hpl : (backTo pos (starEach [b] X.env)).any (·.1) = false := by rfl) (hK : X.K = K := by rfl) :
    PI X (.Tuple elts x1 tp) (.Call (.Name "zip" p) [a, b] [] pos) (iZip K ta) := by
  subst hK
  intro pins s σ H R I h
  refine Call_ (ld_blt I hg hm (show bootBuiltins "zip" = some (.type "zip") by decide +kernel) (PyProof.Rows.callWith_type1 (thn (ha pos pins s σ H _ I h) fun us s1 ⟨vs, H1, I1, r1, q1⟩ => ?_) hs hpl))
  obtain ⟨l1, l2, xs, ys, e, hqa, hqb, q⟩ := q1
  subst e
  obtain ⟨u1, u2, rfl, r1, r2⟩ := vals2 r1
  cases r1
  cases r2
  obtain ⟨its, rv, pa, _⟩ := I1.list hqa
  obtain ⟨jts, rw', pb, _⟩ := I1.list hqb
  have a1 : l1 < s1.heap.objs.size := by obtain ⟨_, e, _⟩ := pa.isList; exact Heap.lt_size e
  have a2 : l2 < s1.heap.objs.size := by obtain ⟨_, e, _⟩ := pb.isList; exact Heap.lt_size e
  refine call_zip_2 pa.isList pb.isList fun h' hz hTI hTO hi1 hi2 _ hk => ?_
  have T := turn_zipP (P := X.prog) (w := X.w) (K := X.K) (elts := elts) (x1 := x1) (tp := tp) l1 l2 _ _ _ _ _ (zipApart_new a1 a2)
  have t0 : (∃ f0 f1, F0 f0 ∧ Zp h' (s1.heap.objs.size + 4) (s1.heap.objs.size + 2) (s1.heap.objs.size + 3) f0 f1) ∧ IsPair h' (s1.heap.objs.size + 2) (.ref s1.heap.objs.size) (.ref (s1.heap.objs.size + 1)) ∧ (∃ c d, IsPair h' (s1.heap.objs.size + 3) c d) ∧ h'.IsListIter s1.heap.objs.size l1 0 ∧ h'.IsListIter (s1.heap.objs.size + 1) l2 0 := ⟨⟨_, _, .inl rfl, hz⟩, hTI, ⟨_, _, hTO⟩, hi1, hi2⟩
  refine T.self X.A 0 { s1 with heap := h' } _ _ t0 ?_
  refine ⟨_, _, _, _, H1, rfl, I1.kept (t' := s1.toks) hk, T, t0, fun b hb => ?_, q⟩
  have hb : b = s1.heap.objs.size + 4 ∨ b = s1.heap.objs.size + 2 ∨ b = s1.heap.objs.size + 3 ∨ b = s1.heap.objs.size ∨ b = s1.heap.objs.size + 1 := by simpa using hb
  have hle : s1.heap.objs.size ≤ b := by rcases hb with e | e | e | e | e <;> rw [e] <;> first | exact Nat.le_refl _ | exact Nat.le_add_right _ _
  exact I1.fpOk hle (I1.hok.fresh hle)
theorem for_zip {K : PySem.W.Frag} {a b : Addr} {xs ys : List V} {g : TG} {tb : TS} {D : Ends} {σ : St} {H : Hp} (Pv : Nat → St → Hp → Prop) (h0 : Pv 0 σ H) (hl : ∀ i σ H, i ≤ (xs.zip ys).length → Pv i σ H → SqL K H a xs ∧ SqL K H b ys)
    (hs : ∀ i x y p σ H, (xs.zip ys)[i]? = some (x, y) → Pv i σ H → H p = none → g (.ref p) σ (upd H p (.tup [x, y])) fun σ2 H2 => tb { D with nx := Pv (i + 1), ct := Pv (i + 1), bk := D.nx } σ2 H2) (hd : ∀ σ H, Pv (xs.zip ys).length σ H → D.nx σ H) :
    ∃ W : Nat → Nat → St → Hp → Prop, (∃ m, W 0 m σ H) ∧ ∀ i m σ H, W i m σ H →
      ((Itz K a b).stop i H ∧ D.nx σ H) ∨ ((Itz K a b).go i H ∧ ∃ N : St → Hp → Prop, (∀ σ' H', N σ' H' → ∃ m', m' < m ∧ W (i + 1) m' σ' H') ∧ ∀ x H', (Itz K a b).yld i H x H' → g x σ H' fun σ2 H2 => tb { D with nx := N, ct := N, bk := D.nx } σ2 H2) := by
  refine ⟨fun i m σ H => m = (xs.zip ys).length - i ∧ i ≤ (xs.zip ys).length ∧ Pv i σ H, ⟨(xs.zip ys).length, by simp, Nat.zero_le _, h0⟩, ?_⟩
  rintro i m σ H ⟨rfl, hi, p⟩
  obtain ⟨qa, qb⟩ := hl i σ H hi p
  have hlz : (xs.zip ys).length = min xs.length ys.length := List.length_zip
  by_cases hlt : i < (xs.zip ys).length
  · have h1 : i < xs.length := by omega
    have h2 : i < ys.length := by omega
    refine .inr ⟨⟨xs, ys, xs[i], ys[i], qa, qb, List.getElem?_eq_getElem h1, List.getElem?_eq_getElem h2⟩, Pv (i + 1), fun σ' H' q => ⟨(xs.zip ys).length - (i + 1), by omega, rfl, by omega, q⟩, ?_⟩
    rintro x H' ⟨q, u, v, hq, rfl, hu, hv, rfl⟩
    exact hs i u v q σ H (by rw [List.getElem?_zip_eq_some]; exact ⟨hu xs qa, hv ys qb⟩) p hq
  · have e : i = (xs.zip ys).length := by omega
    refine .inl ⟨⟨xs, ys, qa, qb, by omega⟩, hd σ H (e ▸ p)⟩
end L2
namespace L2
open PySem
theorem idxAt {os : List Str} (nd : os.Nodup) {j : Nat} {s : Str} (h : os[j]? = some s) : os.idxOf s = j := by
  have hj := (List.getElem?_eq_some_iff.mp h).1
  have hm := List.mem_of_getElem? h
  have hi := List.idxOf_lt_length_of_mem hm
  have e : os[os.idxOf s]? = some s := by rw [List.getElem?_eq_getElem hi, List.getElem_idxOf]
  exact ((List.getElem?_inj hj nd).mp (h.trans e.symm)).symm
theorem atIdx {os : List Str} {s : Str} (hm : s ∈ os) : os[os.idxOf s]? = some s := by
  have hi := List.idxOf_lt_length_of_mem hm
  rw [List.getElem?_eq_getElem hi, List.getElem_idxOf]
theorem getDIdx {os : List Str} {s : Str} (hm : s ∈ os) : os.getD (os.idxOf s) "" = s := by rw [List.getD_eq_getElem?_getD, atIdx hm]; rfl
theorem plc_idx {os A : List Str} (sub : ∀ x ∈ A, x ∈ os) {x : Str} (hx : x ∈ A) : os.idxOf x ∈ plc os A :=
  List.mem_filter.mpr ⟨List.mem_range.mpr (List.idxOf_lt_length_of_mem (sub x hx)), decide_eq_true (by rw [getDIdx (sub x hx)]; exact hx)⟩
theorem map_nd {α β : Type} {l : List α} {f : α → β} (nd : l.Nodup) (inj : ∀ x ∈ l, ∀ y ∈ l, f x = f y → x = y) : (l.map f).Nodup := by
  rw [List.Nodup, List.pairwise_map]
  exact List.Pairwise.imp_of_mem (fun {a b} ha hb hab z => hab (inj a ha b hb z)) nd
noncomputable def newP (os A : List Str) (k : Nat) : Nat := (plc os A).getD (A.idxOf (os.getD k "")) 0
theorem newP_at {os A : List Str} (ond : os.Nodup) (and_ : A.Nodup) (sub : ∀ x ∈ A, x ∈ os) {k : Nat} (hk : k ∈ plc os A) : (plc os A)[A.idxOf (os.getD k "")]? = some (newP os A k) ∧ A[A.idxOf (os.getD k "")]? = some (os.getD k "") := by
  have hx := plc_in hk
  have hi := List.idxOf_lt_length_of_mem hx
  refine ⟨?_, atIdx hx⟩
  unfold newP
  rw [List.getD_eq_getElem?_getD (l := plc os A), List.getElem?_eq_getElem (by rw [plc_len ond and_ sub]; exact hi)]; rfl
theorem laid_idx {os A : List Str} (ond : os.Nodup) (and_ : A.Nodup) (sub : ∀ x ∈ A, x ∈ os) {k : Nat} (hk : k ∈ plc os A) : (laidL os A).idxOf (os.getD k "") = newP os A k := by
  obtain ⟨a, b⟩ := newP_at ond and_ sub hk
  have lnd : (laidL os A).Nodup := (laid_perm ond and_ sub).nodup_iff.mpr ond
  refine idxAt lnd ?_
  have hp := List.mem_of_getElem? a
  unfold laidL
  refine setAll_in _ _ _ _ ?_ ?_ (plc_lt hp)
  · rw [zip_keys (by rw [plc_len ond and_ sub]; exact Nat.le_refl _)]; exact plc_nd os A
  · exact List.mem_of_getElem? (i := A.idxOf (os.getD k "")) (by rw [List.getElem?_zip_eq_some]; exact ⟨a, b⟩)
end L2
namespace L2
open PySem
theorem plc_up (os A : List Str) : (plc os A).Pairwise (· < ·) := (List.pairwise_lt_range (n := os.length)).filter _
section
variable {os A B : List Str} (ond : os.Nodup) (cnd : (A ++ B).Nodup) (sub : ∀ x ∈ A ++ B, x ∈ os)
theorem laid_new {i : Nat} {x : Str} (h : (A ++ B)[i]? = some x) (ond : os.Nodup) (cnd : (A ++ B).Nodup) (sub : ∀ x ∈ A ++ B, x ∈ os) : (plc os (A ++ B))[i]? = some ((laidL os (A ++ B)).idxOf x) := by
  have hx := List.mem_of_getElem? h
  have hk := plc_idx sub hx
  have g := getDIdx (sub x hx)
  have e := laid_idx ond cnd sub hk
  rw [g] at e
  obtain ⟨a, _⟩ := newP_at ond cnd sub hk
  rw [g, idxAt cnd h] at a
  rw [e]; exact a
theorem laid_out {x : Str} (hx : x ∈ os) (hn : x ∉ A ++ B) (ond : os.Nodup) (cnd : (A ++ B).Nodup) (sub : ∀ x ∈ A ++ B, x ∈ os) : (laidL os (A ++ B)).idxOf x = os.idxOf x := by
  have hk := List.idxOf_lt_length_of_mem hx
  rcases laid_at ond cnd sub hk with ⟨i, y, h1, h2, h3⟩ | ⟨_, h2, _⟩
  · exact absurd (getDIdx hx ▸ plc_in (List.mem_of_getElem? h1)) hn
  · refine idxAt ((laid_perm ond cnd sub).nodup_iff.mpr ond) ?_
    rw [h2]; exact atIdx hx
theorem laid_lt {i j : Nat} {x y : Str} (hi : (A ++ B)[i]? = some x) (hj : (A ++ B)[j]? = some y) (hij : i < j) (ond : os.Nodup) (cnd : (A ++ B).Nodup) (sub : ∀ x ∈ A ++ B, x ∈ os) : (laidL os (A ++ B)).idxOf x < (laidL os (A ++ B)).idxOf y := by
  have a := laid_new hi ond cnd sub
  have b := laid_new hj ond cnd sub
  obtain ⟨h1, e1⟩ := List.getElem?_eq_some_iff.mp a
  obtain ⟨h2, e2⟩ := List.getElem?_eq_some_iff.mp b
  have := List.pairwise_iff_getElem.mp (plc_up os (A ++ B)) i j h1 h2 hij
  rw [e1, e2] at this
  exact this
theorem laid_mem {x : Str} (hx : x ∈ A ++ B) (ond : os.Nodup) (cnd : (A ++ B).Nodup) (sub : ∀ x ∈ A ++ B, x ∈ os) : ∃ y ∈ A ++ B, (laidL os (A ++ B)).idxOf x = os.idxOf y := by
  obtain ⟨i, hi⟩ := List.getElem?_of_mem hx
  have a := List.mem_of_getElem? (laid_new hi ond cnd sub)
  refine ⟨_, plc_in a, ?_⟩
  have hl := plc_lt a
  exact (idxAt ond (by rw [List.getD_eq_getElem?_getD, List.getElem?_eq_getElem hl]; rfl)).symm
theorem idx_inj {x y : Str} (hx : x ∈ os) (hy : y ∈ os) (h : os.idxOf x = os.idxOf y) : x = y := by rw [← getDIdx hx, h, getDIdx hy]
theorem laid_down (oA : A.Pairwise fun x y => os.idxOf x < os.idxOf y) {x : Str} (hx : x ∈ A) (ond : os.Nodup) (cnd : (A ++ B).Nodup) (sub : ∀ x ∈ A ++ B, x ∈ os) : (laidL os (A ++ B)).idxOf x ≤ os.idxOf x := by
  obtain ⟨i, hi⟩ := List.getElem?_of_mem hx
  have hil := (List.getElem?_eq_some_iff.mp hi).1
  have hi2 : (A ++ B)[i]? = some x := by rw [List.getElem?_append_left hil]; exact hi
  have a := laid_new hi2 ond cnd sub
  obtain ⟨h1, e1⟩ := List.getElem?_eq_some_iff.mp a
  refine Nat.le_of_not_lt fun hlt => ?_
  have key : ((A.take (i + 1)).map os.idxOf).length ≤ ((plc os (A ++ B)).take i).length := by
    refine List.Nodup.length_le_of_subset (map_nd ((List.nodup_append.mp cnd).1.sublist (List.take_sublist _ _)) fun u hu v hv e => idx_inj (sub u (List.mem_append_left _ (List.mem_of_mem_take hu))) (sub v (List.mem_append_left _ (List.mem_of_mem_take hv))) e) fun k hk => ?_
    obtain ⟨u, hu, rfl⟩ := List.mem_map.mp hk
    have huA := List.mem_of_mem_take hu
    have hle : os.idxOf u ≤ os.idxOf x := by
      obtain ⟨j, hj⟩ := List.getElem?_of_mem hu
      have hjl := (List.getElem?_eq_some_iff.mp hj).1
      rw [List.length_take] at hjl
      rw [List.getElem?_take_of_lt (by omega)] at hj
      by_cases z : j = i
      · subst z; rw [hi] at hj; cases hj; exact Nat.le_refl _
      · obtain ⟨g1, g2⟩ := List.getElem?_eq_some_iff.mp hj
        obtain ⟨g3, g4⟩ := List.getElem?_eq_some_iff.mp hi
        have := List.pairwise_iff_getElem.mp oA j i g1 g3 (by omega)
        rw [g2, g4] at this
        omega
    have hp := plc_idx sub (List.mem_append_left B huA)
    obtain ⟨m, hm⟩ := List.getElem?_of_mem hp
    obtain ⟨m1, m2⟩ := List.getElem?_eq_some_iff.mp hm
    have hmi : m < i := by
      refine Nat.lt_of_not_le fun z => ?_
      rcases Nat.lt_or_eq_of_le z with z | z
      · have := List.pairwise_iff_getElem.mp (plc_up os (A ++ B)) i m h1 m1 z
        rw [e1, m2] at this
        omega
      · subst z
        rw [e1] at m2
        omega
    exact List.mem_of_getElem? (i := m) (by rw [List.getElem?_take_of_lt hmi]; exact hm)
  rw [List.length_map, List.length_take, List.length_take] at key
  omega
theorem laid_up (oB : B.Pairwise fun x y => os.idxOf x < os.idxOf y) {x : Str} (hx : x ∈ B) (ond : os.Nodup) (cnd : (A ++ B).Nodup) (sub : ∀ x ∈ A ++ B, x ∈ os) : os.idxOf x ≤ (laidL os (A ++ B)).idxOf x := by
  obtain ⟨i, hi⟩ := List.getElem?_of_mem hx
  have hil := (List.getElem?_eq_some_iff.mp hi).1
  have hi2 : (A ++ B)[A.length + i]? = some x := by rw [List.getElem?_append_right (by omega), Nat.add_sub_cancel_left]; exact hi
  have a := laid_new hi2 ond cnd sub
  obtain ⟨h1, e1⟩ := List.getElem?_eq_some_iff.mp a
  have pl := plc_len ond cnd sub
  rw [List.length_append] at pl
  refine Nat.le_of_not_lt fun hlt => ?_
  have key : ((B.drop i).map os.idxOf).length ≤ ((plc os (A ++ B)).drop (A.length + i + 1)).length := by
    refine List.Nodup.length_le_of_subset (map_nd ((List.nodup_append.mp cnd).2.1.sublist (List.drop_sublist _ _)) fun u hu v hv e => idx_inj (sub u (List.mem_append_right _ (List.mem_of_mem_drop hu))) (sub v (List.mem_append_right _ (List.mem_of_mem_drop hv))) e) fun k hk => ?_
    obtain ⟨u, hu, rfl⟩ := List.mem_map.mp hk
    have huB := List.mem_of_mem_drop hu
    have hle : os.idxOf x ≤ os.idxOf u := by
      obtain ⟨j, hj⟩ := List.getElem?_of_mem hu
      rw [List.getElem?_drop] at hj
      by_cases z : j = 0
      · subst z
        have hj : B[i]? = some u := hj
        rw [hi] at hj; cases hj; exact Nat.le_refl _
      · obtain ⟨g1, g2⟩ := List.getElem?_eq_some_iff.mp hj
        obtain ⟨g3, g4⟩ := List.getElem?_eq_some_iff.mp hi
        have := List.pairwise_iff_getElem.mp oB i (i + j) g3 g1 (by omega)
        rw [g2, g4] at this
        omega
    have hp := plc_idx sub (List.mem_append_right A huB)
    obtain ⟨m, hm⟩ := List.getElem?_of_mem hp
    obtain ⟨m1, m2⟩ := List.getElem?_eq_some_iff.mp hm
    have hmi : A.length + i < m := by
      refine Nat.lt_of_not_le fun z => ?_
      rcases Nat.lt_or_eq_of_le z with z | z
      · have := List.pairwise_iff_getElem.mp (plc_up os (A ++ B)) m (A.length + i) m1 h1 z
        rw [e1, m2] at this
        omega
      · subst z
        rw [e1] at m2
        omega
    refine List.mem_of_getElem? (i := m - (A.length + i + 1)) ?_
    rw [List.getElem?_drop, show A.length + i + 1 + (m - (A.length + i + 1)) = m by omega]
    exact hm
  rw [List.length_map, List.length_drop, List.length_drop] at key
  omega
end
theorem laid_keeps {os A B : List Str} (ond : os.Nodup) (cnd : (A ++ B).Nodup) (sub : ∀ x ∈ A ++ B, x ∈ os) (oA : A.Pairwise fun x y => os.idxOf x < os.idxOf y) (oB : B.Pairwise fun x y => os.idxOf x < os.idxOf y) {lo hi : Nat}
    (hin : ∀ x ∈ A ++ B, lo ≤ os.idxOf x ∧ os.idxOf x ≤ hi) {x y : Str} (hx : x ∈ os) (hy : y ∈ os) (hxy : os.idxOf x < os.idxOf y)
    (cA : y ∈ A → lo ≤ os.idxOf x → x ∈ A) (cB : x ∈ B → os.idxOf y ≤ hi → y ∈ B) (cN : ¬ (x ∈ B ∧ y ∈ A)) : (laidL os (A ++ B)).idxOf x < (laidL os (A ++ B)).idxOf y := by
  have pos : ∀ {l : List Str} {u v : Str}, l.Pairwise (fun x y => os.idxOf x < os.idxOf y) → u ∈ l → v ∈ l → os.idxOf u < os.idxOf v → ∃ i j, i < j ∧ l[i]? = some u ∧ l[j]? = some v := fun {l u v} pw hu hv huv => by
    obtain ⟨i, hi⟩ := List.getElem?_of_mem hu
    obtain ⟨j, hj⟩ := List.getElem?_of_mem hv
    obtain ⟨i1, i2⟩ := List.getElem?_eq_some_iff.mp hi
    obtain ⟨j1, j2⟩ := List.getElem?_eq_some_iff.mp hj
    refine ⟨i, j, Nat.lt_of_not_le fun z => ?_, hi, hj⟩
    rcases Nat.lt_or_eq_of_le z with z | z
    · have := List.pairwise_iff_getElem.mp pw j i j1 i1 z
      rw [i2, j2] at this
      omega
    · subst z; rw [hi] at hj; cases hj; omega
  have inL : ∀ {i : Nat} {u : Str}, A[i]? = some u → (A ++ B)[i]? = some u := fun {i u} h => by rw [List.getElem?_append_left (List.getElem?_eq_some_iff.mp h).1]; exact h
  have inR : ∀ {i : Nat} {u : Str}, B[i]? = some u → (A ++ B)[A.length + i]? = some u := fun {i u} h => by rw [List.getElem?_append_right (by omega), Nat.add_sub_cancel_left]; exact h
  by_cases xA : x ∈ A
  · by_cases yA : y ∈ A
    · obtain ⟨i, j, hij, h1, h2⟩ := pos oA xA yA hxy
      exact laid_lt (inL h1) (inL h2) hij ond cnd sub
    · by_cases yB : y ∈ B
      · obtain ⟨i, h1⟩ := List.getElem?_of_mem xA
        obtain ⟨j, h2⟩ := List.getElem?_of_mem yB
        have := (List.getElem?_eq_some_iff.mp h1).1
        exact laid_lt (inL h1) (inR h2) (by omega) ond cnd sub
      · have h1 := laid_down (B := B) oA xA ond cnd sub
        rw [laid_out hy (fun z => (List.mem_append.mp z).elim yA yB) ond cnd sub]
        omega
  · by_cases xB : x ∈ B
    · by_cases yA : y ∈ A
      · exact absurd ⟨xB, yA⟩ cN
      · by_cases yB : y ∈ B
        · obtain ⟨i, j, hij, h1, h2⟩ := pos oB xB yB hxy
          exact laid_lt (inR h1) (inR h2) (by omega) ond cnd sub
        · have hyh : hi < os.idxOf y := Nat.lt_of_not_le fun z => yB (cB xB z)
          obtain ⟨u, hu, eu⟩ := laid_mem (List.mem_append_right A xB) ond cnd sub
          have := (hin u hu).2
          rw [laid_out hy (fun z => (List.mem_append.mp z).elim yA yB) ond cnd sub]
          omega
    · rw [laid_out hx (fun z => (List.mem_append.mp z).elim xA xB) ond cnd sub]
      by_cases yA : y ∈ A
      · have hxl : os.idxOf x < lo := Nat.lt_of_not_le fun z => xA (cA yA z)
        obtain ⟨u, hu, eu⟩ := laid_mem (List.mem_append_left B yA) ond cnd sub
        have := (hin u hu).1
        omega
      · by_cases yB : y ∈ B
        · have := laid_up (A := A) oB yB ond cnd sub
          omega
        · rw [laid_out hy (fun z => (List.mem_append.mp z).elim yA yB) ond cnd sub]
          exact hxy
end L2
namespace L2
open PySem PySem.Spec PyProof.Rows
section
open PySem.W PySem.Calls Builtin Builtin.ObjectAttr Builtin.Getset_descriptor
variable {K : Frag} {x C : Addr} {h : Heap} {M : Model}
variable {prog : Program} {w : World} {A : Around} {E : Value → Shared → Prop} {s : Shared}
end
end L2
namespace L2
open PySem PySem.Spec PyProof.Rows
section
open PySem.W Builtin Builtin.ObjectAttr
variable {prog : Program} {w : World} {A : Around} {E : Value → Shared → Prop} {s : Shared} {K : Frag} {x C t : Addr} {f : Str} {v : Value}
end
end L2
namespace L2
open PySem PySem.Spec PyProof.Rows
section
open PySem.W PySem.Calls Builtin Builtin.ObjectAttr
variable {K : Frag} {x C : Addr} {h : Heap} {M : Model} {prog : Program} {w : World} {A : Around} {E : Value → Shared → Prop} {s : Shared} {ox od : Obj} {f : Str} {u : Value}
end
end L2
namespace L2
open PySem
theorem with_rest {R J : St → Hp → Prop} {G : Prop} (main : (∀ σ H, J σ H → R σ H) → G) (rest : ∀ σ H, J σ H → R σ H) : G := main rest
theorem onceU {G T : Prop} (m : (Unit → T) → G) (t : T) : G := m fun _ => t
end L2
namespace L2
open PySem PySem.Spec PyProof.Rows
variable {K : PySem.W.Frag} {mg : Str → Option Value} {base : Heap}
end L2
namespace MG
variable {es : List (Nat × Nat)} {goal : Nat}
end MG
namespace MG
variable {es : List (Nat × Nat)} {n : Nat} {ks ls : List Nat}
noncomputable def dueB (es : List (Nat × Nat)) (ks : List Nat) (v : Nat) : Bool := !decide (v ∈ ks) && es.all fun e => !decide (e.2 = v) || decide (e.1 ∈ ks)
end MG
namespace L2
open PySem PySem.Spec PyProof.Rows
mutual
inductive RpD (H : Hp) : V → PyData → Prop
  | tr {x : V} {d : PyData} : Rep H x d → d.hasDict = false → RpD H x d
  | dc {a : Addr} {kvs : List (Key × V)} : H a = some (.dK kvs) → kvs.all (fun p => isFl p.2) = true → RpD H (.ref a) (dictD kvs)
  | lst {a : Addr} {xs : List V} {ds : List PyData} : H a = some (.lst xs) → RpDs H xs ds → RpD H (.ref a) (.list ds)
  | tup {a : Addr} {xs : List V} {ds : List PyData} : H a = some (.tup xs) → RpDs H xs ds → RpD H (.ref a) (.tuple ds)
inductive RpDs (H : Hp) : List V → List PyData → Prop
  | nil : RpDs H [] []
  | cons {x : V} {d : PyData} {xs : List V} {ds : List PyData} : RpD H x d → RpDs H xs ds → RpDs H (x :: xs) (d :: ds)
end
mutual
theorem RpD.same {H H' : Hp} (s : Same H H') : ∀ {x : V} {d : PyData}, RpD H x d → RpD H' x d
  | _, _, .tr a b => .tr (a.same s) b
  | _, _, .dc a b => .dc (s _ _ a) b
  | _, _, .lst a b => .lst (s _ _ a) (RpDs.same s b)
  | _, _, .tup a b => .tup (s _ _ a) (RpDs.same s b)
theorem RpDs.same {H H' : Hp} (s : Same H H') : ∀ {xs : List V} {ds : List PyData}, RpDs H xs ds → RpDs H' xs ds
  | _, _, .nil => .nil
  | _, _, .cons a b => .cons (RpD.same s a) (RpDs.same s b)
end
mutual
theorem RpD.ks {P : Program} {w : World} {H : Hp} {h : Heap} (ok : HOk P w H h) : ∀ {x : V} {d : PyData} {u : Value}, RpD H x d → RelV x u → d.showable = true → d.shown.length ≤ sizeLine → ∃ as bs, Reads h u d as ∧ ReadAtMost h d.depth bs ∧ ReprK P w bs h d.depth u d.shown
  | _, _, _, .tr rep hd, r, hs, hz => by
    obtain ⟨as, rd⟩ := rep.reads ok r
    obtain ⟨bs, h1, h2⟩ := ReprK.of_reads (prog := P) (w := w) rd hs (PyData.noDict_hsm hd) hz
    exact ⟨as, bs, rd, h1, h2⟩
  | _, _, _, .dc (a := a) (kvs := kvs) e f, r, hs, hz => by
    cases r
    obtain ⟨_, hsys, vs, rv, o, es, ep, h1, h2, h3, _, h5, _⟩ := (show ObjOk P w H h a (.dK kvs) from ok a _ e)
    obtain ⟨k1, k2⟩ := fl_pairs (h := h) rv h5 f
    have rd : Reads h (.ref a) (dictD kvs) (a :: [] ++ []) := .dict h1 h2.1 h3 k1 k2
    obtain ⟨bs, g1, g2⟩ := ReprK.of_reads (prog := P) (w := w) rd hs (fun _ hm => by
      have : sysModules = a := by simpa using hm
      rw [this] at hsys
      simp at hsys) hz
    exact ⟨_, bs, rd, g1, g2⟩
  | _, _, _, .lst (a := a) (xs := xs) (ds := ds) e rs, r, hs, hz => by
    cases r
    obtain ⟨_, its, n, rv, eh⟩ := (show ObjOk P w H h a (.lst xs) from ok a _ e)
    have lz : (listText (PyData.shownAll ds)).length ≤ sizeLine := hz
    obtain ⟨as, bs, ra, hb, hk⟩ := RpDs.ks ok rs rv hs fun t ht => Nat.le_trans (listText_mem_le ht) lz
    have rd : Reads h (.ref a) (.list ds) _ := .list eh rfl rfl (by simpa using ra)
    have dl : PyData.depthAll ds < PyData.depth (.list ds) := Nat.lt_succ_self _
    have out := not_mem_of_deeper rd dl hb
    refine ⟨_, a :: bs, rd, ReadAtMost.cons rd (Nat.le_refl _) (hb.mono (Nat.le_of_lt dl)), ?_⟩
    show ReprK P w (a :: bs) h (PyData.depthAll ds + 1) (.ref a) (listText (PyData.shownAll ds))
    cases its with
    | nil =>
      cases ra
      exact ReprK.listEmpty eh rfl rfl
    | cons y l => exact ReprK.list eh rfl rfl out (by simpa using hk.length_eq) fun i z ez => hk.item i z (by simpa using ez)
  | _, _, _, .tup (a := a) (xs := xs) (ds := ds) e rs, r, hs, hz => by
    cases r
    obtain ⟨_, its, rv, pt⟩ := (show ObjOk P w H h a (.tup xs) from ok a _ e)
    obtain ⟨o, eh, hc, n, hd⟩ := pt.tup
    have tz : (tupleText (PyData.shownAll ds)).length ≤ sizeLine := hz
    obtain ⟨as, bs, ra, hb, hk⟩ := RpDs.ks ok rs rv hs fun t ht => Nat.le_trans (tupleText_mem_le ht) tz
    have rd : Reads h (.ref a) (.tuple ds) _ := .tuple eh hc hd (by simpa using ra)
    have dl : PyData.depthAll ds < PyData.depth (.tuple ds) := Nat.lt_succ_self _
    have out := not_mem_of_deeper rd dl hb
    exact ⟨_, a :: bs, rd, ReadAtMost.cons rd (Nat.le_refl _) (hb.mono (Nat.le_of_lt dl)), ReprK.tuple eh hc hd out (by simpa using hk)⟩
theorem RpDs.ks {P : Program} {w : World} {H : Hp} {h : Heap} (ok : HOk P w H h) : ∀ {xs : List V} {ds : List PyData} {us : List Value}, RpDs H xs ds → Vals xs us → PyData.showableAll ds = true → (∀ t ∈ PyData.shownAll ds, t.length ≤ sizeLine) → ∃ as bs, ReadsAll h us ds as ∧ ReadAtMost h (PyData.depthAll ds) bs ∧ ReprAllK P w bs h (PyData.depthAll ds) us (PyData.shownAll ds)
  | _, _, _, .nil, .nil, _, _ => ⟨[], [], .nil, (fun _ q => nomatch q), .nil⟩
  | _, _, _, .cons (d := d) (ds := ds) i is, .cons r rs, hs, hz => by
    have hs : (d.showable && PyData.showableAll ds) = true := hs
    rw [Bool.and_eq_true] at hs
    obtain ⟨a1, b1, r1, g1, k1⟩ := RpD.ks ok i r hs.1 (hz _ (List.mem_cons_self ..))
    obtain ⟨a2, b2, r2, g2, k2⟩ := RpDs.ks ok is rs hs.2 fun t ht => hz t (List.mem_cons_of_mem _ ht)
    have l1 : d.depth ≤ PyData.depthAll (d :: ds) := Nat.le_max_left ..
    have l2 : PyData.depthAll ds ≤ PyData.depthAll (d :: ds) := Nat.le_max_right ..
    exact ⟨a1 ++ a2, b1 ++ b2, .cons r1 r2, (g1.mono l1).append (g2.mono l2), .cons ((k1.more fun b hb => List.mem_append_left _ hb).level_le l1) (k2.more_le (fun b hb => List.mem_append_right _ hb) l2)⟩
end
noncomputable def rReprD : List V → Hp → VK → Prop := fun vs H Q => ∃ (a : Addr) (d : PyData), vs = [.ref a] ∧ ((∃ xs ds, H a = some (.lst xs) ∧ RpDs H xs ds ∧ d = .list ds ∧ ds ≠ []) ∨ ∃ xs ds, H a = some (.tup xs) ∧ RpDs H xs ds ∧ d = .tuple ds) ∧ d.showable = true ∧ d.depth ≤ 16 ∧ d.shown.length ≤ sizeLine ∧ Q (.str d.shown) H
section
variable {X : Cx}
theorem call_reprD (hg : X.A.guards = some []) (hu : X.A.units + 64 < cLine) : CallR X (.builtin "repr") rReprD := by
  intro pins s σ H vs us Q I r h
  obtain ⟨a, d, rfl, hd, hs, hdp, hz, q⟩ := h
  obtain ⟨u, rfl, ru⟩ := vals1 r
  cases ru
  rcases hd with ⟨xs, ds, e, rs, rfl, ne⟩ | ⟨xs, ds, e, rs, rfl⟩
  · obtain ⟨_, its, n, rv, eh⟩ := (show ObjOk X.prog X.w H s.heap a (.lst xs) from I.hok a _ e)
    have lz : (listText (PyData.shownAll ds)).length ≤ sizeLine := hz
    have dp : PyData.depthAll ds + 1 ≤ 16 := hdp
    obtain ⟨as, bs, ra, hb, hk⟩ := RpDs.ks (P := X.prog) (w := X.w) I.hok rs rv hs fun t ht => Nat.le_trans (listText_mem_le ht) lz
    have rd : Reads s.heap (.ref a) (.list ds) _ := .list eh rfl rfl (by simpa using ra)
    have out := not_mem_of_deeper rd (Nat.lt_succ_self (PyData.depthAll ds)) hb
    cases its with
    | nil => cases ra; exact absurd rfl ne
    | cons y l =>
      refine call_repr_slot (by omega) ⟨_, eh, rfl⟩ F.slot_list_repr.toG ?_
      exact call_list_reprK eh rfl rfl out (by simpa using hk.length_eq) (fun i z ez => hk.item i z (by simpa using ez)) (show X.A.in1.guards = some [] from hg) (fun b _ => Clear.nil b) (by show X.A.units + 1 + (PyData.depthAll ds + 1) < cLine; omega) (fun _ _ z => z) (fun h' u' tk hk' => ⟨_, _, rfl, .str _, H, I.kept hk', ⟨u', rfl⟩, q⟩) lz
  · obtain ⟨_, its, rv, pt⟩ := (show ObjOk X.prog X.w H s.heap a (.tup xs) from I.hok a _ e)
    obtain ⟨o, eh, hc, n, hd⟩ := pt.tup
    have tz : (tupleText (PyData.shownAll ds)).length ≤ sizeLine := hz
    have dp : PyData.depthAll ds + 1 ≤ 16 := hdp
    obtain ⟨as, bs, ra, hb, hk⟩ := RpDs.ks (P := X.prog) (w := X.w) I.hok rs rv hs fun t ht => Nat.le_trans (tupleText_mem_le ht) tz
    have rd : Reads s.heap (.ref a) (.tuple ds) _ := .tuple eh hc hd (by simpa using ra)
    have out := not_mem_of_deeper rd (Nat.lt_succ_self (PyData.depthAll ds)) hb
    refine call_repr_slot (by omega) ⟨_, eh, hc⟩ F.slot_tuple_repr ?_
    exact call_tuple_reprK eh hc hd out (by simpa using hk) (show X.A.in1.guards = some [] from hg) (fun b _ => Clear.nil b) (by show X.A.units + 1 + (PyData.depthAll ds + 1) < cLine; omega) (fun _ _ z => z) (fun h' u' tk hk' => ⟨_, _, rfl, .str _, H, I.kept hk', ⟨u', rfl⟩, q⟩) tz
variable {p pos : Pos} {e : Expr} {t : TA}
theorem b_reprD (gd : X.A.guards = some []) (hu : X.A.units + 64 < cLine) (B : Blt X.mg) (ha : PA X [e] t) (hg : Gl X "repr" := by rfl) (he : starEach [e] X.env = (false, eval e X.env) :: starEach [] X.env := by rfl) (hpl : (backTo pos (starEach [] X.env)).any (·.1) = false := by rfl) : PE X (.Call (.Name "repr" p) [e] [] pos) (tCB rReprD t) :=
  pe_callB (call_reprD gd hu) hg B.repr boot_repr ha (by decide) (by decide) he hpl
end
structure Sv (d : PyData) (n k : Nat) : Prop where
  sb : d.showable = true
  dp : d.depth ≤ k
  ln : d.shown.length ≤ n
theorem Sw.sv {d : PyData} {n k : Nat} (h : Sw d n k) : Sv d n k := ⟨h.sb, h.dp, h.ln⟩
theorem Sv.mono {d : PyData} {n k n' k' : Nat} (h : Sv d n k) (hn : n ≤ n') (hk : k ≤ k') : Sv d n' k' := ⟨h.sb, Nat.le_trans h.dp hk, Nat.le_trans h.ln hn⟩
theorem Sv.all {n k : Nat} : ∀ {ds : List PyData}, (∀ d ∈ ds, Sv d n k) → PyData.showableAll ds = true ∧ PyData.depthAll ds ≤ k
  | [], _ => ⟨rfl, Nat.zero_le _⟩
  | d :: ds, h => by
    obtain ⟨b, c⟩ := Sv.all fun x hx => h x (List.mem_cons_of_mem _ hx)
    have q := h d (by simp)
    refine ⟨?_, Nat.max_le.mpr ⟨q.dp, c⟩⟩
    show (PyData.showable d && PyData.showableAll ds) = true
    rw [q.sb, b]; rfl
theorem Sv.list {n k m : Nat} {ds : List PyData} (h : ∀ d ∈ ds, Sv d n k) (hm : ds.length ≤ m) : Sv (.list ds) (2 + m * (n + 2)) (k + 1) := by
  obtain ⟨b, c⟩ := Sv.all h
  refine ⟨b, Nat.succ_le_succ c, ?_⟩
  have g := textFrom_le (n := n) (ds.map PyData.shown) 0 "[" fun t ht => by
    obtain ⟨e, he, rfl⟩ := List.mem_map.mp ht
    exact (h e he).ln
  rw [List.length_map] at g
  have mm := Nat.mul_le_mul_right (n + 2) hm
  have o1 : (Str.ofString "[").length = 1 := rfl
  have o2 : (Str.ofString "]").length = 1 := rfl
  have g : (textFrom 0 (Str.ofString "[") (ds.map PyData.shown)).length ≤ (Str.ofString "[").length + ds.length * (n + 2) := g
  show (textFrom 0 "[" (PyData.shownAll ds) ++ "]").length ≤ _
  rw [shownAll_map, len_app]
  show (textFrom 0 (Str.ofString "[") (ds.map PyData.shown)).length + (Str.ofString "]").length ≤ _
  omega
theorem Sv.tuple {n k m : Nat} {ds : List PyData} (h : ∀ d ∈ ds, Sv d n k) (hm : ds.length ≤ m) : Sv (.tuple ds) (3 + m * (n + 2)) (k + 1) := by
  obtain ⟨b, c⟩ := Sv.all h
  refine ⟨b, Nat.succ_le_succ c, ?_⟩
  have g := join_le (n := n) (ds.map PyData.shown) fun t ht => by
    obtain ⟨e, he, rfl⟩ := List.mem_map.mp ht
    exact (h e he).ln
  rw [List.length_map] at g
  have mm := Nat.mul_le_mul_right (n + 2) hm
  have o1 : (Str.ofString "(").length = 1 := rfl
  have o2 : ∀ b : Bool, (Str.ofString (if b then ",)" else ")" : String)).length ≤ 2 := by intro b; cases b <;> decide
  show (tupleText (PyData.shownAll ds)).length ≤ _
  rw [shownAll_map]
  show (("(" : Str) ++ Str.join ", " (ds.map PyData.shown) ++ (if (ds.map PyData.shown).length == 1 then ",)" else ")" : String)).length ≤ _
  rw [len_app, len_app]
  have o3 := o2 ((ds.map PyData.shown).length == 1)
  show (Str.ofString "(").length + _ + (Str.ofString (if (ds.map PyData.shown).length == 1 then ",)" else ")" : String)).length ≤ _
  omega
end L2
namespace L2
open PySem PySem.Spec PyProof.Rows
section
variable {X : Cx} {p pos : Pos} {e : Expr} {t : TA}
noncomputable def rBool : List V → Hp → VK → Prop := fun xs H Q => ∃ i, xs = [.int i] ∧ Q (.bl (i != 0)) H
theorem b_bool (B : Blt X.mg) (ha : PA X [e] t) (hg : Gl X "bool" := by rfl) (he : starEach [e] X.env = (false, eval e X.env) :: starEach [] X.env := by rfl) (hpl : (backTo pos (starEach [] X.env)).any (·.1) = false := by rfl) :
    PE X (.Call (.Name "bool" p) [e] [] pos) (tCB rBool t) := by
  refine pe_callTy (r := rBool) (fun pins s σ H xs us Q I r h => ?_) hg B.bool (show bootBuiltins "bool" = some (.type "bool") by decide +kernel) ha (by decide) (by decide) he hpl
  obtain ⟨i, rfl, q⟩ := h
  obtain ⟨u, rfl, ru⟩ := vals1 r
  obtain ⟨tk, rfl⟩ := ru
  exact call_bool_int ⟨.bl (i != 0), H, I, rfl, q⟩
noncomputable def rUpper : V → List V → Hp → VK → Prop := fun x xs H Q => ∃ z, x = .str z ∧ xs = [] ∧ (Txt.upper z).length ≤ sizeLine ∧ Q (.str (Txt.upper z)) H
theorem mt_upper : MtR X "str.upper" rUpper := by
  intro pins s σ H x xs v us Q I rx rv h
  obtain ⟨z, rfl, rfl, hz, q⟩ := h
  obtain ⟨t, rfl⟩ := rx
  cases rv
  exact PySem.W.KXw.upper rfl (by unfold Builtin.Str.tooLong; have : sizeLine = 16777216 := sizeLine_eq; simp; omega) fun t' k => ⟨.str _, H, I.tok _, ⟨t', rfl⟩, q⟩
theorem m_upper (K : PySem.W.Frag) {o : Expr} {to : TE} {apos cpos : Pos} (ho : PE X o to) (hbase : attributeBase o "upper" X.env (eval o X.env) = eval o X.env := by rfl) (hline : (apos.endLine == cpos.line) = true := by rfl) (hK : X.K = K := by rfl) :
    PE X (.Call (.Attribute o "upper" apos) [] [] cpos) (tBM0 K "str" rUpper to) := hK ▸ pe_bm0 PySem.F.plainAttrs_str PySem.F.slot_str_upper PySem.F.type_str_upper mt_upper ho hbase hline
theorem sl_tupK (K : PySem.W.Frag) (hK : X.K = K := by rfl) : SlR X (rSlT K) := hK ▸ sl_tup
end
end L2
namespace L2
open PySem PySem.Spec PyProof.Rows
section
variable {X : Cx}
noncomputable def CDivB (i j : Int) : Prop := 0 < j ∧ j.natAbs.log2 < 9000
theorem op_fdivB : OpR X (binaryOp .FloorDiv) (rI CDivB fun i j => .int (i / j)) := opI fun i j _ _ _ _ _ hc q => by
  have h1 : (0 : Int) < j := hc.1
  exact floordiv_int (by omega) (by rw [Int.fdiv_eq_ediv_of_nonneg i (by omega)]; exact q) (.inl (PyProof.noPylong_of_log2 hc.2))
end
noncomputable def spDrawB (K : PySem.W.Frag) : Sp := fun vs H Q _ => ∃ (p a : Addr) (m : Int), vs = [.ref p, .int m] ∧ Pen K H p a ∧ 0 < m ∧ m.natAbs.log2 < 9000 ∧ ∀ r H', 0 ≤ r → r < m → PenV H' p a → (∀ b, b ≠ p → H' b = H b) → Q (.int r) H'
theorem drawB_of {K : PySem.W.Frag} {vs : List V} {H : Hp} {Q : VK} {E : XK} (h : spDraw K vs H Q E) : spDrawB K vs H Q E := by
  obtain ⟨p, a, m, e, hP, h1, h2, k⟩ := h
  refine ⟨p, a, m, e, hP, h1, ?_, k⟩
  by_cases q : m.natAbs = 0
  · rw [q]; decide
  · have : m.natAbs.log2 < 30 := (Nat.log2_lt q).mpr (by have : (2 : Nat) ^ 30 = 1073741824 := rfl; omega)
    omega
end L2
namespace L2
open PySem PySem.Spec PyProof.Rows PySem.W
noncomputable def up1 (c : Nat) : Nat := if 97 ≤ c ∧ c ≤ 122 then c - 32 else c
theorem upper_cps : ∀ l : List Nat, (∀ c ∈ l, c < 128) → Txt.upper (Str.mk l.toArray) = Str.mk (l.map up1).toArray
  | [], _ => by decide +kernel
  | c :: l, h => by
    have e : Str.mk (c :: l).toArray = Str.mk #[c] ++ Str.mk l.toArray := by
      apply PySem.Str.ext'
      rw [PySem.Str.cps_append]
      simp
    have e2 : Str.mk ((c :: l).map up1).toArray = Str.mk #[up1 c] ++ Str.mk (l.map up1).toArray := by
      apply PySem.Str.ext'
      rw [PySem.Str.cps_append]
      simp
    rw [e, e2, KOpn.upper_app, KOpn.upper_one (h c (by simp)), upper_cps l fun x hx => h x (List.mem_cons_of_mem _ hx)]
    rfl
theorem upper_nm {z : Str} (h : Nm z) : (Txt.upper z).cps.toList = z.cps.toList.map up1 := by
  have e : z = Str.mk z.cps.toList.toArray := by cases z; simp
  conv => lhs; rw [e]
  rw [upper_cps _ fun c hc => by have := h.2.2 c hc; omega]
theorem upper_ne {z : Str} (h : Nm z) : Txt.upper z ≠ z := fun e => by
  have e1 := upper_nm h
  rw [e] at e1
  have h1 := h.1
  cases q : z.cps.toList with
  | nil =>
    have : z.length = 0 := by
      show z.cps.size = 0
      rw [← Array.length_toList, q]; rfl
    omega
  | cons c l =>
    rw [q] at e1
    have e1 : c = up1 c := (List.cons.inj e1).1
    have hc := h.2.2 c (by rw [q]; simp)
    unfold up1 at e1
    rw [if_pos hc] at e1
    omega
theorem upper_len {z : Str} (h : Nm z) : (Txt.upper z).length ≤ 8 ∧ ∀ c ∈ (Txt.upper z).cps.toList, c < 128 := by
  refine ⟨?_, fun c hc => ?_⟩
  · have := h.2.1
    have e : (Txt.upper z).length = z.length := by
      show (Txt.upper z).cps.size = z.cps.size
      rw [← Array.length_toList, upper_nm h, List.length_map, Array.length_toList]
    omega
  · rw [upper_nm h] at hc
    obtain ⟨d, hd, rfl⟩ := List.mem_map.mp hc
    have := h.2.2 d hd
    unfold up1
    split <;> omega
theorem repr_asc {s : Str} {n : Nat} (h : ∀ c ∈ s.cps.toList, c < 128) (hn : s.length ≤ n) : (PyData.str s).shown.length ≤ 10 * n + 2 := by
  have := StrLaws.reprText_len s fun c hc => Nat.lt_trans (h c hc) (by decide)
  show (reprText s).length ≤ _
  omega
end L2
namespace K31
open PySem L2
noncomputable def top (i : Nat) : Stmt := PySem.Challenge.pw_orderkeep_k31_what_is_no_move.main.body.getD i (.Pass ⟨0, 0, 0, 0⟩)
noncomputable abbrev sIsName : Stmt := top 2
noncomputable abbrev sIsWhole : Stmt := top 3
noncomputable abbrev sWebOf : Stmt := top 10
noncomputable abbrev sPlaces : Stmt := top 11
noncomputable abbrev sAreThings : Stmt := top 12
noncomputable abbrev sUNm : Stmt := top 13
noncomputable abbrev sUnlike : Stmt := top 14
noncomputable abbrev sWrong : Stmt := top 15
noncomputable abbrev sAmong : Stmt := top 16
noncomputable abbrev sLets : Stmt := top 18
noncomputable abbrev sMoved : Stmt := top 19
noncomputable abbrev sAreMoves : Stmt := top 20
noncomputable abbrev sIsMove : Stmt := top 21
noncomputable abbrev sPen : Stmt := top 23
noncomputable abbrev sDraw : Stmt := top 24
noncomputable abbrev sNames : Stmt := top 25
noncomputable abbrev sTurned : Stmt := top 26
noncomputable abbrev sWeb : Stmt := top 27
noncomputable abbrev sReached : Stmt := top 28
noncomputable abbrev sPair : Stmt := top 29
noncomputable abbrev sDue : Stmt := top 30
noncomputable abbrev sLaid : Stmt := top 31
noncomputable abbrev sLMoves : Stmt := top 32
noncomputable abbrev sOdd : Stmt := top 33
noncomputable abbrev sBentMove : Stmt := top 34
noncomputable abbrev sBent : Stmt := top 35
noncomputable abbrev sLaw : Stmt := top 36
section
variable {P : Program} {w : World} {K : PySem.W.Frag} {mg : Str → Option Value} {base : Heap}
noncomputable def spNames (K : PySem.W.Frag) : Sp := fun vs H Q _ => ∃ (p a : Addr) (m : Nat), vs = [.ref p, .int (m : Int)] ∧ Pen K H p a ∧ m ≤ 60 ∧
  ∀ l ss H', ss.length = m → ss.Nodup → (∀ s ∈ ss, Nm s) → H' l = some (.lst (List.map V.str ss)) → H l = none → l ≠ p → PenV H' p a → But p H H' → Q (.ref l) H'
noncomputable def spPen (K : PySem.W.Frag) : Sp := fun vs H Q _ => ∃ (a : Addr) (ns : List Int), vs = [.ref a] ∧ SqL K H a (ns.map V.int) ∧ ∀ p H', Pen K H' p a → Q (.ref p) H'
theorem scPen : FnScope ["_law_script"] ["_law_script"] (defScope sPen) := ⟨rfl, rfl, rfl, by decide +kernel, rfl, by decide +kernel, by decide +kernel⟩
theorem ok_pen {f : Addr} {fd : FuncData} (F : Fun K "_law_pen" "_law_pen" sPen f fd) (B : Blt mg) : FnOk P w K mg base CX0 1 f fd ["_law_script"] (spPen K) := by
  refine F.ok scPen (fun vs H Q E h => ?_) (fun cdv A outer s H vs Q E hr h => ?_)
  · obtain ⟨a, ns, rfl, _⟩ := h
    rfl
  · obtain ⟨a, ns, rfl, hS, k⟩ := h
    have nd := scPen.nd
    refine ⟨_, (pss_one (ps_ret (pe_lst (pa_cons (pv 0) (pa_cons pe_int (pa_cons pe_int pa_nil)))))), ?_⟩
    refine ⟨_, rfl, (by show 3 ≤ sizeLine; decide), fun p hp => ?_⟩
    exact k p _ (Pen.new (ns := ns) hS hp ⟨0, 0, upd_same, by decide, by decide⟩)
theorem scDraw : FnScope ["_law_pen_here", "_law_most", "_law_found", "_law_place", "_law_cell", "_law_first", "_law_second"] ["_law_pen_here", "_law_most"] (defScope sDraw) := ⟨rfl, rfl, rfl, by decide +kernel, rfl, by decide +kernel, by decide +kernel⟩
end
end K31
namespace K31
open PySem L2
section
variable {P : Program} {w : World} {K : PySem.W.Frag} {mg : Str → Option Value} {base : Heap}
noncomputable abbrev letters : Str := "abcdefghijklmnopqrstuvwxyz"
theorem str_at {ss : List Str} {i : Nat} (h : i < ss.length) : atI (List.map V.str ss) (i : Int) = some (.str (ss.getD i "")) := atI_nat (by simp [h, List.getD_eq_getElem?_getD])
theorem getD_by {f : Nat → Str} {m i : Nat} (h : i < m) : ((List.range m).map f).getD i "" = f i := by rw [List.getD_eq_getElem?_getD, List.getElem?_map, List.getElem?_range h]; rfl
theorem mid_injG {x y y' : Str} {c d : Nat} (h : (x ++ ⟨#[c]⟩ ++ y : Str) = x ++ ⟨#[d]⟩ ++ y') : c = d := by
  have h : (x.cps ++ #[c] ++ y.cps).toList = (x.cps ++ #[d] ++ y'.cps).toList := congrArg (fun s : Str => s.cps.toList) h
  simp only [Array.toList_append, List.append_assoc, List.append_cancel_left_eq] at h
  have h : c :: y.cps.toList = d :: y'.cps.toList := by simpa using h
  exact (List.cons.inj h).1
theorem end2_inj {x : Str} {c d c' d' : Nat} (h : (x ++ ⟨#[c]⟩ ++ ⟨#[d]⟩ : Str) = x ++ ⟨#[c']⟩ ++ ⟨#[d']⟩) : c = c' ∧ d = d' := by
  have h : (x.cps ++ #[c] ++ #[d]).toList = (x.cps ++ #[c'] ++ #[d']).toList := congrArg (fun s : Str => s.cps.toList) h
  simp only [Array.toList_append, List.append_assoc, List.append_cancel_left_eq] at h
  simpa using h
theorem scNames : FnScope ["_law_pen_here", "_law_many", "_law_letters", "_law_base", "_law_at", "_law_turn", "_law_sort", "_law_signs"] ["_law_pen_here", "_law_many"] (defScope sNames) := ⟨rfl, rfl, rfl, by decide +kernel, rfl, by decide +kernel, by decide +kernel⟩
theorem ok_names {f : Addr} {fd : FuncData} (F : Fun K "_law_names" "_law_names" sNames f fd) (B : Blt mg) (c_law_draw : Cal P w K mg base 1 "_law_draw" ["_law_pen_here", "_law_most"] (spDraw K)) : FnOk P w K mg base CX0 2 f fd ["_law_pen_here", "_law_many"] (spNames K) := by
  refine F.ok scNames (fun vs H Q E h => ?_) (fun cdv A outer s H vs Q E hr h => ?_)
  · obtain ⟨p, a, m, rfl, _⟩ := h
    rfl
  · obtain ⟨p, a, m, rfl, hP, hm, k⟩ := h
    have nd := scNames.nd
    have v0 := hP.2
    have lL : letters.length ≤ sizeLine := by decide +kernel
    refine ⟨_, (pss_cons (ps_set (i := 2) nd rfl (Or.inr rfl) pe_str)
      (pss_cons (ps_set (i := 3) nd rfl (Or.inr rfl) (m_join K pe_str (pa_cons (pe_comp (defScope sNames) ["_law_pen_here", "_law_many", "_law_letters", "_law_base", "_law_at", "_law_turn", "_law_sort", "_law_signs"] ["_law_k"] [2, 0] ["_law_k", "_law_letters", "_law_pen_here"] rfl (pi_range1 rfl B.range (pa_cons pe_int pa_nil)) (fun _ _ _ _ _ => (pg_name (i := 0) (show (["_law_k", "_law_letters", "_law_pen_here"] : List Str).Nodup by decide) rfl (Or.inl rfl))) (fun _ _ _ _ _ => pts_nil) (fun _ _ _ _ _ => (pe_ix (ix_X K hr.units) (pv 1) (pe_cal c_law_draw (hr.mono (by decide)) rfl (pa_cons (pv 2) (pa_cons pe_int pa_nil))) (fun _ _ => rfl)))) pa_nil)))
      (pss_cons (ps_set (i := 4) nd rfl (Or.inr rfl) (pe_cal c_law_draw (hr.mono (by decide)) rfl (pa_cons (pv 0) (pa_cons pe_int pa_nil))))
      (pss_cons (ps_set (i := 5) nd rfl (Or.inr rfl) (pe_cal c_law_draw (hr.mono (by decide)) rfl (pa_cons (pv 0) (pa_cons pe_int pa_nil))))
      (pss_cons (ps_set (i := 6) nd rfl (Or.inl rfl) (pe_cal c_law_draw (hr.mono (by decide)) rfl (pa_cons (pv 0) (pa_cons pe_int pa_nil))))
      (pss_cons (ps_if (PW.pt (pw_and (pt_cmpR (op_eqX hr.units) (pv 6) pe_int (nomark _)) (pw_and1 (pt_cmpR op_ltX (pv 1) pe_int (nomark _))))) (pss_one (ps_ret (pe_comp (defScope sNames) ["_law_pen_here", "_law_many", "_law_letters", "_law_base", "_law_at", "_law_turn", "_law_sort", "_law_signs"] ["_law_k"] [3, 5] ["_law_k", "_law_base", "_law_turn"] rfl (pi_range1 rfl B.range (pa_cons (pv 1) pa_nil)) (fun _ _ _ _ _ => (pg_name (i := 0) (show (["_law_k", "_law_base", "_law_turn"] : List Str).Nodup by decide) rfl (Or.inl rfl))) (fun _ _ _ _ _ => pts_nil) (fun _ _ _ _ _ => (pe_slice (sl_K K) (pv 1) po_none (po_some (pe_op op_addX (pe_op op_mod (pe_op op_addX (pv 2) (pe_op op_mul pe_int (pv 0))) pe_int) pe_int))))))) pss_nil)
      (pss_cons (ps_if (PW.pt (pw_and (pt_cmpR (op_eqX hr.units) (pv 6) pe_int (nomark _)) (pw_and1 (pt_cmpR op_ltX (pv 1) pe_int (nomark _))))) (pss_cons (ps_set (i := 7) nd rfl (Or.inr rfl) (pe_comp (defScope sNames) ["_law_pen_here", "_law_many", "_law_letters", "_law_base", "_law_at", "_law_turn", "_law_sort", "_law_signs"] ["_law_k"] [2, 5] ["_law_k", "_law_letters", "_law_turn"] rfl (pi_range1 rfl B.range (pa_cons (pv 1) pa_nil)) (fun _ _ _ _ _ => (pg_name (i := 0) (show (["_law_k", "_law_letters", "_law_turn"] : List Str).Nodup by decide) rfl (Or.inl rfl))) (fun _ _ _ _ _ => pts_nil) (fun _ _ _ _ _ => (pe_ix (ix_X K hr.units) (pv 1) (pe_op op_mod (pe_op op_addX (pv 2) (pe_op op_mul pe_int (pv 0))) pe_int) (fun _ _ => rfl)))))
      (pss_one (ps_ret (pe_comp (defScope sNames) ["_law_pen_here", "_law_many", "_law_letters", "_law_base", "_law_at", "_law_turn", "_law_sort", "_law_signs"] ["_law_k"] [3, 7, 4] ["_law_k", "_law_base", "_law_signs", "_law_at"] rfl (pi_range1 rfl B.range (pa_cons (pv 1) pa_nil)) (fun _ _ _ _ _ => (pg_name (i := 0) (show (["_law_k", "_law_base", "_law_signs", "_law_at"] : List Str).Nodup by decide) rfl (Or.inl rfl))) (fun _ _ _ _ _ => pts_nil) (fun _ _ _ _ _ => (pe_op op_addX (pe_op op_addX (pe_slice (sl_K K) (pv 1) po_none (po_some (pv 3))) (pe_ix (ix_X K hr.units) (pv 2) (pv 0) (fun _ _ => rfl))) (pe_slice (sl_K K) (pv 1) (po_some (pe_op op_addX (pv 3) pe_int)) (po_some (pe_op op_addX (pe_op op_addX (pv 3) pe_int) (pe_op op_mod (pv 0) pe_int)))))))))) pss_nil)
      (pss_cons (ps_set (i := 7) nd rfl (Or.inr rfl) (pe_comp (defScope sNames) ["_law_pen_here", "_law_many", "_law_letters", "_law_base", "_law_at", "_law_turn", "_law_sort", "_law_signs"] ["_law_k"] [2, 5] ["_law_k", "_law_letters", "_law_turn"] rfl (pi_range1 rfl B.range (pa_cons (pv 1) pa_nil)) (fun _ _ _ _ _ => (pg_name (i := 0) (show (["_law_k", "_law_letters", "_law_turn"] : List Str).Nodup by decide) rfl (Or.inl rfl))) (fun _ _ _ _ _ => pts_nil) (fun _ _ _ _ _ => (pe_ix (ix_X K hr.units) (pv 1) (pe_op op_mod (pe_op op_addX (pv 2) (pe_op op_mul pe_int (pv 0))) pe_int) (fun _ _ => rfl)))))
      (pss_one (ps_ret (pe_comp (defScope sNames) ["_law_pen_here", "_law_many", "_law_letters", "_law_base", "_law_at", "_law_turn", "_law_sort", "_law_signs"] ["_law_k"] [2, 3, 7, 4] ["_law_k", "_law_letters", "_law_base", "_law_signs", "_law_at"] rfl (pi_range1 rfl B.range (pa_cons (pv 1) pa_nil)) (fun _ _ _ _ _ => (pg_name (i := 0) (show (["_law_k", "_law_letters", "_law_base", "_law_signs", "_law_at"] : List Str).Nodup by decide) rfl (Or.inl rfl))) (fun _ _ _ _ _ => pts_nil) (fun _ _ _ _ _ => (pe_op op_addX (pe_op op_addX (pe_slice (sl_K K) (pv 2) po_none (po_some (pv 4))) (pe_ix (ix_X K hr.units) (pv 3) (pv 0) (fun _ _ => rfl))) (pe_ix (ix_X K hr.units) (pv 1) (pe_op op_fdiv (pv 0) pe_int) (fun _ _ => rfl))))))))))))))), ?_⟩
    refine ⟨rfl, _, rfl, by decide, by decide, ?_⟩
    refine comp_range (fun D i acc σ' H' => ∃ o ys, σ' = [o, some (.str letters), some (.ref p)] ∧ acc = List.map V.str ys ∧ ys.length = i ∧ (∀ y ∈ ys, y.length = 1 ∧ Lo y) ∧ PenV H' p a ∧ But p H H' ∧ H D = none ∧ p ≠ D) fun D hD => ⟨?_, ?_, ?_⟩
    · have hDp := v0.ne hD
      exact ⟨none, [], rfl, rfl, rfl, (fun y hy => by cases hy), v0.upd hDp, (But.refl p H).at hD, hD, hDp⟩
    · rintro i acc σ' H' hi ⟨o, ys, rfl, rfl, hl, hys, v, b, hD0, hDp⟩ hacc
      refine gYes ?_
      refine ⟨_, rfl, _, rfl, p, a, 26, rfl, hP.but b v, by decide, by decide, fun r5 H5 h50 h51 v5 e5 => ?_⟩
      refine .str lL (abc_at h50 h51) ⟨(e5 D (Ne.symm hDp)).trans hacc, ?_, _, ys ++ [abc r5], rfl, by simp [abc], by simp [hl], ?_, v5.upd hDp, (b.trans (But.of_eq e5)).at hD0, hD0, hDp⟩
      · rw [List.length_map, hl]; exact small1000 (by simp at hi; omega)
      · intro y hy
        rcases List.mem_append.mp hy with hy | hy
        · exact hys y hy
        · have : y = abc r5 := by simpa using hy
          subst this
          exact ⟨rfl, abc_lo h50 h51⟩
    · rintro acc σ' H5 ⟨o, ys, rfl, rfl, hl, hys, v5, b5, hD0, hDp⟩ hacc
      have hj : Lo (Txt.join "" ys) := Lo.join Lo.nil fun y hy => (hys y hy).2
      have hz8 : (Txt.join "" ys).length = 8 := by rw [join_len fun y hy => (hys y hy).1]; simpa using hl
      have e0 : ("" : Str).length = 0 := by decide +kernel
      have hsum := sum_le (n := 1) fun y hy => Nat.le_of_eq (hys y hy).1
      refine ⟨_, D, ys, rfl, rfl, hacc, by rw [e0]; have := hl; simp at this; omega, ?_⟩
      generalize Txt.join "" ys = z at hj hz8 ⊢
      have hz : z.length ≤ sizeLine := Nat.le_of_lt (small1000 (by omega))
      clear hacc hys hl hsum
      refine ⟨_, rfl, p, a, 6, rfl, hP.but b5 v5, by decide, by decide, fun r7 H7 h70 h71 v7 e7 => ?_⟩
      have b7 := b5.trans (But.of_eq e7)
      refine ⟨_, rfl, p, a, 26, rfl, hP.but b7 v7, by decide, by decide, fun r8 H8 h80 h81 v8 e8 => ?_⟩
      have b8 := b7.trans (But.of_eq e8)
      refine ⟨_, rfl, p, a, 3, rfl, hP.but b8 v8, by decide, by decide, fun r9 H9 h90 h91 v9 e9 => ?_⟩
      have b9 := b8.trans (But.of_eq e9)
      obtain ⟨at_, rfl⟩ := Int.eq_ofNat_of_zero_le h70
      obtain ⟨tn, rfl⟩ := Int.eq_ofNat_of_zero_le h80
      clear e7 e8 e9 v5 v7 v8 b5 b7 b8
      have fin : ∀ (D : Addr) (ss : List Str) (H' : Hp), H' D = some (.lst (List.map V.str ss)) → ss.length = m → ss.Nodup → (∀ s ∈ ss, Nm s) → H D = none → p ≠ D → PenV H' p a → But p H H' → Q (.ref D) H' := fun D ss H' h1 h2 h3 h4 h5 h6 h7 h8 => k D ss H' h2 h3 h4 h1 h5 (Ne.symm h6) h7 h8
      have sl8 : 8 ≤ sizeLine := by decide
      refine ⟨_, rfl, .sc rfl ⟨_, rfl, ?_⟩⟩
      apply once
      intro tail
      refine ite2 (fun hm0 => ?a) (fun hm0 => tail)
      case' a =>
        refine ⟨_, rfl, .int ⟨_, rfl, ?_⟩⟩
        refine ite2 (fun h9 => ?c) (fun h9 => tail)
        case c =>
          have h9 : (m : Int) < 9 := of_decide_eq_true h9
          refine ⟨_, rfl, _, rfl, by omega, by omega, ?_⟩
          refine comp_range (fun D i acc σ' H' => ∃ o, σ' = [o, some (.str z), some (.int (tn : Int))] ∧ acc = List.map V.str ((List.range i).map fun k => Txt.slice z none (some (((tn + 3 * k) % 8 + 1 : Nat) : Int))) ∧ PenV H' p a ∧ But p H H' ∧ H D = none ∧ p ≠ D) fun D hD => ⟨?_, ?_, ?_⟩
          · have hDp := v9.ne hD
            have hD0 := b9.free (Ne.symm hDp) hD
            exact ⟨none, rfl, rfl, v9.upd hDp, b9.at hD0, hD0, hDp⟩
          · rintro i acc σ' H' hi ⟨o, rfl, rfl, v, b, hD0, hDp⟩ hacc
            refine gYes ?_
            refine ⟨_, rfl, _, rfl, _, rfl, _, _, rfl, rfl, .inl ⟨by decide, by decide⟩, .int ⟨_, _, rfl, rfl, (by show (0 : Int) < _; decide), .int ⟨_, rfl, .str hz ?_⟩⟩⟩
            rw [show ((tn : Int) + 3 * (0 + (i : Nat) : Int)) % 8 + 1 = (((tn + 3 * i) % 8 + 1 : Nat) : Int) by omega]
            refine ⟨hacc, ?_, _, rfl, ?_, v.upd hDp, b.at hD0, hD0, hDp⟩
            · rw [List.length_map, List.length_map, List.length_range]; exact small1000 (by simp at hi; omega)
            · rw [range_snoc, List.map_append]; rfl
          · rintro acc σ' H' ⟨o, rfl, rfl, v, b, hD0, hDp⟩ hacc
            have hmm : ((m : Int) - 0).toNat = m := by omega
            refine fin D _ H' hacc (by simp) (nodup_by _ _ fun i j hij hj e => ?_) (fun s hs => ?_) hD0 hDp v b
            · have e := congrArg Str.length e
              rw [slice_to (by omega), slice_to (by omega)] at e
              simp at hj
              omega
            · obtain ⟨i, hi, rfl⟩ := mem_by hs
              have hl := slice_to (z := z) (j := (tn + 3 * i) % 8 + 1) (by omega)
              exact (hj.slice _ _).nm (by rw [hl]; omega) (by rw [hl]; omega)
      all_goals
        refine ⟨_, rfl, .sc rfl ⟨_, rfl, ?_⟩⟩
        apply once
        intro tail
        refine ite2 (fun hm1 => ?_) (fun hm1 => tail)
        refine ⟨_, rfl, .int ⟨_, rfl, ?_⟩⟩
        refine ite2 (fun h27 => ?_) (fun h27 => tail)
        · have h27 : (m : Int) < 27 := of_decide_eq_true h27
          refine ⟨_, rfl, _, rfl, by omega, by omega, ?_⟩
          refine comp_range (fun D i acc σ' H' => ∃ o, σ' = [o, some (.str letters), some (.int (tn : Int))] ∧ acc = List.map V.str ((List.range i).map fun k => abc (((tn + 7 * k) % 26 : Nat) : Int)) ∧ PenV H' p a ∧ But p H H' ∧ H D = none ∧ p ≠ D) fun D hD => ⟨?_, ?_, ?_⟩
          · have hDp := v9.ne hD
            have hD0 := b9.free (Ne.symm hDp) hD
            exact ⟨none, rfl, rfl, v9.upd hDp, b9.at hD0, hD0, hDp⟩
          · rintro i acc σ' H' hi ⟨o, rfl, rfl, v, b, hD0, hDp⟩ hacc
            refine gYes ?_
            refine ⟨_, rfl, _, rfl, _, rfl, _, _, rfl, rfl, .inl ⟨by decide, by decide⟩, .int ⟨_, _, rfl, rfl, (by show (0 : Int) < _; decide), ?_⟩⟩
            refine .str lL (show atI _ (((tn : Int) + 7 * (0 + (i : Nat) : Int)) % 26) = some (97 + (((tn + 7 * i) % 26 : Nat) : Int).toNat) from by
              rw [show ((tn : Int) + 7 * (0 + (i : Nat) : Int)) % 26 = (((tn + 7 * i) % 26 : Nat) : Int) by omega]
              exact abc_at (by omega) (by omega)) ⟨hacc, ?_, _, rfl, ?_, v.upd hDp, b.at hD0, hD0, hDp⟩
            · rw [List.length_map, List.length_map, List.length_range]; exact small1000 (by simp at hi; omega)
            · rw [range_snoc, List.map_append]; rfl
          · rintro acc σ' HA ⟨o, rfl, rfl, vA, bA, hDA, hpA⟩ hacc
            have hmm : ((m : Int) - 0).toNat = m := by omega
            have hacc : HA D = some (.lst (List.map V.str ((List.range m).map fun k => abc (((tn + 7 * k) % 26 : Nat) : Int)))) := by first | exact hacc | (rw [hmm] at hacc; exact hacc)
            refine ⟨_, rfl, _, rfl, by omega, by omega, ?_⟩
            refine comp_range (fun D' i acc σ' H' => ∃ o, σ' = [o, some (.str z), some (.ref D), some (.int (at_ : Int))] ∧ acc = List.map V.str ((List.range i).map fun k => Txt.slice z none (some (at_ : Int)) ++ abc (((tn + 7 * k) % 26 : Nat) : Int) ++ Txt.slice z (some ((at_ + 1 : Nat) : Int)) (some ((at_ + 1 + k % 2 : Nat) : Int))) ∧ Same HA H' ∧ HA D' = none) fun D' hD' => ⟨?_, ?_, ?_⟩
            · exact ⟨none, rfl, rfl, Same.new hD', hD'⟩
            · rintro i acc σ' H' hi ⟨o, rfl, rfl, sm, hD0'⟩ hacc'
              have hi : i < m := by simpa using hi
              have l1 := slice_toL z at_
              have l2 := slice_len z (at_ + 1) (at_ + 1 + i % 2)
              refine gYes ?_
              refine ⟨_, rfl, _, rfl, _, rfl, .str hz ⟨_, rfl, _, rfl, .lst (.of (sm _ _ hacc)) (show atI _ (0 + (i : Nat) : Int) = some (.str (abc (((tn + 7 * i) % 26 : Nat) : Int))) from by
                rw [Int.zero_add, str_at (by simpa using hi), getD_by hi]) (.str (by rw [abc_len]; omega) ?_)⟩⟩
              refine ⟨_, rfl, _, rfl, .int ⟨_, rfl, _, rfl, .int ⟨_, rfl, _, _, rfl, rfl, (by show (0 : Int) < _; decide), .int ⟨_, rfl, .str hz ?_⟩⟩⟩⟩
              rw [show (at_ : Int) + 1 + (0 + (i : Nat) : Int) % 2 = ((at_ + 1 + i % 2 : Nat) : Int) by omega, show (at_ : Int) + 1 = ((at_ + 1 : Nat) : Int) by omega]
              refine .str ?_ ⟨hacc', ?_, _, rfl, ?_, ?_, hD0'⟩
              · rw [len_app, abc_len]; omega
              · rw [List.length_map, List.length_map, List.length_range]; exact small1000 (by omega)
              · rw [range_snoc, List.map_append]; rfl
              · exact same_at sm hD0'
            · rintro acc σ' H' ⟨o, rfl, rfl, sm, hD0'⟩ hacc'
              have hacc' : H' D' = some (.lst (List.map V.str ((List.range m).map fun k => Txt.slice z none (some (at_ : Int)) ++ abc (((tn + 7 * k) % 26 : Nat) : Int) ++ Txt.slice z (some ((at_ + 1 : Nat) : Int)) (some ((at_ + 1 + k % 2 : Nat) : Int))))) := by first | exact hacc' | (rw [hmm] at hacc'; exact hacc')
              refine fin D' _ H' hacc' (by simp) (nodup_by _ _ fun i j hij hj e => ?_) (fun s hs => ?_) (bA.free (Ne.symm (vA.ne hD0')) hD0') (vA.ne hD0') (penSame sm vA) (bA.trans (But.of_same sm))
              · have e := mid_injG e
                omega
              · obtain ⟨i, hi, rfl⟩ := mem_by hs
                have l1 := slice_to (z := z) (j := at_) (by omega)
                have l2 := slice_len z (at_ + 1) (at_ + 1 + i % 2)
                refine (((hj.slice _ _).app (abc_lo (by omega) (by omega))).app (hj.slice _ _)).nm ?_ ?_
                · rw [len_app, len_app, abc_len]; omega
                · rw [len_app, len_app, abc_len]; omega
        all_goals
          refine ⟨_, rfl, _, rfl, by omega, by omega, ?_⟩
          refine comp_range (fun D i acc σ' H' => ∃ o, σ' = [o, some (.str letters), some (.int (tn : Int))] ∧ acc = List.map V.str ((List.range i).map fun k => abc (((tn + 5 * k) % 26 : Nat) : Int)) ∧ PenV H' p a ∧ But p H H' ∧ H D = none ∧ p ≠ D) fun D hD => ⟨?_, ?_, ?_⟩
          · have hDp := v9.ne hD
            have hD0 := b9.free (Ne.symm hDp) hD
            exact ⟨none, rfl, rfl, v9.upd hDp, b9.at hD0, hD0, hDp⟩
          · rintro i acc σ' H' hi ⟨o, rfl, rfl, v, b, hD0, hDp⟩ hacc
            refine gYes ?_
            refine ⟨_, rfl, _, rfl, _, rfl, _, _, rfl, rfl, .inl ⟨by decide, by decide⟩, .int ⟨_, _, rfl, rfl, (by show (0 : Int) < _; decide), ?_⟩⟩
            refine .str lL (show atI _ (((tn : Int) + 5 * (0 + (i : Nat) : Int)) % 26) = some (97 + (((tn + 5 * i) % 26 : Nat) : Int).toNat) from by
              rw [show ((tn : Int) + 5 * (0 + (i : Nat) : Int)) % 26 = (((tn + 5 * i) % 26 : Nat) : Int) by omega]
              exact abc_at (by omega) (by omega)) ⟨hacc, ?_, _, rfl, ?_, v.upd hDp, b.at hD0, hD0, hDp⟩
            · rw [List.length_map, List.length_map, List.length_range]; exact small1000 (by simp at hi; omega)
            · rw [range_snoc, List.map_append]; rfl
          · rintro acc σ' HA ⟨o, rfl, rfl, vA, bA, hDA, hpA⟩ hacc
            have hmm : ((m : Int) - 0).toNat = m := by omega
            have hacc : HA D = some (.lst (List.map V.str ((List.range m).map fun k => abc (((tn + 5 * k) % 26 : Nat) : Int)))) := by first | exact hacc | (rw [hmm] at hacc; exact hacc)
            have t1 := slice_toL z at_
            have g1 := hj.slice none (some (at_ : Int))
            refine ⟨_, rfl, _, rfl, by omega, by omega, ?_⟩
            refine comp_range (fun D' i acc σ' H' => ∃ o, σ' = [o, some (.str letters), some (.str z), some (.ref D), some (.int (at_ : Int))] ∧ acc = List.map V.str ((List.range i).map fun k => Txt.slice z none (some (at_ : Int)) ++ abc (((tn + 5 * k) % 26 : Nat) : Int) ++ abc ((k / 26 : Nat) : Int)) ∧ Same HA H' ∧ HA D' = none) fun D' hD' => ⟨?_, ?_, ?_⟩
            · exact ⟨none, rfl, rfl, Same.new hD', hD'⟩
            · rintro i acc σ' H' hi ⟨o, rfl, rfl, sm, hD0'⟩ hacc'
              have hi : i < m := by simpa using hi
              refine gYes ?_
              refine ⟨_, rfl, _, rfl, _, rfl, .str hz ⟨_, rfl, _, rfl, .lst (.of (sm _ _ hacc)) (show atI _ (0 + (i : Nat) : Int) = some (.str (abc (((tn + 5 * i) % 26 : Nat) : Int))) from by
                rw [Int.zero_add, str_at (by simpa using hi), getD_by hi]) (.str (by rw [abc_len]; omega) ⟨_, rfl, _, rfl, _, _, rfl, rfl, ⟨by decide, by decide⟩, .str lL (show atI _ ((0 + (i : Nat) : Int) / 26) = some (97 + ((i / 26 : Nat) : Int).toNat) from by
                rw [show (0 + (i : Nat) : Int) / 26 = ((i / 26 : Nat) : Int) by omega]
                exact abc_at (by omega) (by omega)) (.str ?_ ⟨hacc', ?_, _, rfl, ?_, ?_, hD0'⟩)⟩)⟩⟩
              · rw [len_app, abc_len]; show _ + 1 + 1 ≤ sizeLine; omega
              · rw [List.length_map, List.length_map, List.length_range]; exact small1000 (by omega)
              · rw [range_snoc, List.map_append]; rfl
              · exact same_at sm hD0'
            · rintro acc σ' H' ⟨o, rfl, rfl, sm, hD0'⟩ hacc'
              have hacc' : H' D' = some (.lst (List.map V.str ((List.range m).map fun k => Txt.slice z none (some (at_ : Int)) ++ abc (((tn + 5 * k) % 26 : Nat) : Int) ++ abc ((k / 26 : Nat) : Int)))) := by first | exact hacc' | (rw [hmm] at hacc'; exact hacc')
              refine fin D' _ H' hacc' (by simp) (nodup_by _ _ fun i j hij hj e => ?_) (fun s hs => ?_) (bA.free (Ne.symm (vA.ne hD0')) hD0') (vA.ne hD0') (penSame sm vA) (bA.trans (But.of_same sm))
              · obtain ⟨e1, e2⟩ := end2_inj e
                omega
              · obtain ⟨i, hi, rfl⟩ := mem_by hs
                refine ((g1.app (abc_lo (by omega) (by omega))).app (abc_lo (by omega) (by omega))).nm ?_ ?_
                · rw [len_app, len_app, abc_len]; omega
                · rw [len_app, len_app, abc_len, abc_len]; omega
theorem Rep.pairBut {H H' : Hp} {p : Addr} {ys : List V} (hp : H p = some (.lst ys)) (b : But p H H') {v : V} {e : Str × Str} (h : Rep H v (pairD e)) : Rep H' v (pairD e) := by
  obtain ⟨a, rfl, ha⟩ := pair_at h
  exact pair_rep (b a _ (ne_of ha hp (by intro z; cases z)) ha)
theorem RepAll.pairBut {H H' : Hp} {p : Addr} {ys : List V} (hp : H p = some (.lst ys)) (b : But p H H') : ∀ {es : List (Str × Str)} {xs : List V}, RepAll H xs (es.map pairD) → RepAll H' xs (es.map pairD)
  | [], xs, h => by rw [RepAll.nilI h]; exact .nil
  | e :: es, xs, h => by
    obtain ⟨y, ys', rfl, a, c⟩ := RepAll.consI h
    exact .cons (Rep.pairBut hp b a) (RepAll.pairBut hp b c)
theorem penAt {H : Hp} {p a : Addr} (v : PenV H p a) : ∃ ys, H p = some (.lst ys) := let ⟨_, _, e, _⟩ := v; ⟨_, e⟩
end
end K31
namespace K31
open PySem L2
section
variable {P : Program} {w : World} {K : PySem.W.Frag} {mg : Str → Option Value} {base : Heap}
theorem scPlaces : FnScope ["things", "places", "place", "thing"] ["things"] (defScope sPlaces) := ⟨rfl, rfl, rfl, by decide +kernel, rfl, by decide +kernel, by decide +kernel⟩
theorem pair_get {H : Hp} {refs : List V} {ps : List (Str × Str)} (rp : RepAll H refs (ps.map pairD)) {j : Nat} {x : V} (hx : refs[j]? = some x) : ∃ e ta, ps[j]? = some e ∧ x = .ref ta ∧ H ta = some (.tup [.str e.1, .str e.2]) := by
  obtain ⟨d, hd, rd⟩ := rp.get hx
  rw [List.getElem?_map] at hd
  cases q : ps[j]? with
  | none => rw [q] at hd; cases hd
  | some e =>
    rw [q] at hd
    have hd : pairD e = d := Option.some.inj hd
    rw [← hd] at rd
    obtain ⟨ta, h1, h2⟩ := pair_at rd
    exact ⟨e, ta, rfl, h1, h2⟩
theorem str_get {ss : List Str} {i : Nat} {x : V} (h : (List.map V.str ss)[i]? = some x) : ∃ s, ss[i]? = some s ∧ V.str s = x := by
  rw [List.getElem?_map] at h
  cases q : ss[i]? with
  | none => rw [q] at h; cases h
  | some e => rw [q] at h; exact ⟨e, rfl, Option.some.inj h⟩
structure PlN (H H' : Hp) (d : Addr) (xs : List Str) (i : Nat) (kvs : List (Key × V)) : Prop where
  sm : Same H H'
  at_ : H' d = some (.dK kvs)
  len : kvs.length ≤ i
  inn : ∀ s, (valV kvs (.inr s)).isSome = true ↔ s ∈ xs.take i
  ix : ∀ s v, valV kvs (.inr s) = some v → ∃ j : Nat, v = .int j ∧ xs[j]? = some s
  nd : (kvs.map (·.1)).Nodup
  ks : ∀ k ∈ kvs.map (·.1), ∃ s ∈ xs, k = Sum.inr s
theorem map_putK {kvs : List (Key × V)} {k : Key} {v : V} (h : (valV kvs k).isSome = true) : (putK kvs k v).map (·.1) = kvs.map (·.1) := by
  unfold putK
  rw [if_pos (by rw [valV_any]; exact h), List.map_map]
  refine List.map_congr_left fun p _ => ?_
  show (if p.1 = k then (p.1, v) else p).1 = p.1
  split <;> rfl
theorem PlN.step {H H' : Hp} {d p : Addr} {xs : List Str} {i : Nat} {kvs : List (Key × V)} {t : Str} {o : HO} (h : PlN H H' d xs i kvs) (hd : H d = none) (hp : H' p = none) (ht : xs[i]? = some t) :
    PlN H (upd (upd H' p o) d (.dK (putK kvs (.inr t) (.int (i : Nat))))) d xs (i + 1) (putK kvs (.inr t) (.int (i : Nat))) := by
  refine ⟨?_, upd_same, ?_, ?_, ?_, ?_, ?_⟩
  · intro b o hb
    rw [upd_ne (ne_of_none hb hd)]
    exact Same.new hp _ _ (h.sm _ _ hb)
  · have := length_putK kvs (.inr t) (V.int (i : Nat))
    have := h.len
    omega
  · intro s
    rw [valV_put, List.take_add_one, ht, List.mem_append]
    by_cases q : s = t
    · subst q
      simp
    · rw [if_neg (fun z => q (Sum.inr.inj z)), h.inn s]
      simp [q]
  · intro s v e
    rw [valV_put] at e
    by_cases q : s = t
    · subst q
      rw [if_pos rfl] at e
      exact ⟨i, (Option.some.inj e).symm, ht⟩
    · rw [if_neg (fun z => q (Sum.inr.inj z))] at e
      exact h.ix s v e
  · cases q : valV kvs (.inr t) with
    | none => exact nd_putK _ h.nd q
    | some v => rw [map_putK (by rw [q]; rfl)]; exact h.nd
  · intro k hk
    cases q : valV kvs (.inr t) with
    | none =>
      rw [putK_new _ q, List.map_append] at hk
      rcases List.mem_append.mp hk with hk | hk
      · exact h.ks k hk
      · have : k = Sum.inr t := by simpa using hk
        exact ⟨t, List.mem_of_getElem? ht, this⟩
    | some v => rw [map_putK (by rw [q]; rfl)] at hk; exact h.ks k hk
theorem ok_placesX {f : Addr} {fd : FuncData} (F : Fun K "places_of" "places_of" sPlaces f fd) (B : Blt mg) : FnOk P w K mg base CX0 1 f fd ["things"] spPlacesX := by
  refine F.ok scPlaces (fun vs H Q E h => ?_) (fun cdv A outer s H vs Q E hr h => ?_)
  · obtain ⟨x, rfl, _⟩ := h
    rfl
  · obtain ⟨x, rfl, h⟩ := h
    have nd := scPlaces.nd
    cases h with
    | @nm a xs _ ha hl k =>
      refine ⟨_, (pss_cons (ps_set (i := 1) nd rfl (Or.inl rfl) pe_dnewK)
      (pss_cons (ps_for PassesOwn.never rfl (pi_enumX K rfl B.enumerate (pa_cons (pv 0) pa_nil)) (pg_tupK (n := 2) K rfl (pgs_cons (pg_name (i := 2) nd rfl (Or.inl rfl)) (pgs_cons (pg_name (i := 3) nd rfl (Or.inl rfl)) pgs_nil))) (pss_one (ps_asg (pv 2) (pg_sub (pv 1) (pv 3) (set_X hr.units)))))
      (pss_one (ps_ret (pv 1))))), ?_⟩
      intro d hd
      have s0 := Same.new (o := .dK []) hd
      have start : PlN H (upd H d (.dK [])) d xs 0 [] := ⟨s0, upd_same, Nat.le_refl _, (fun s => by simp [valV_nil]), (fun s v e => by cases e), List.nodup_nil, (fun k hk => by cases hk)⟩
      rcases ha with ha | ha
      · refine ⟨_, rfl, _, rfl, .lst (.of (s0 _ _ ha)) ?_⟩
        refine for_enum (xs := List.map V.str xs) (fun i σ H' => ∃ o1 o2 kvs, σ = [some (.ref a), some (.ref d), o1, o2] ∧ PlN H H' d xs i kvs) ?_ ?_ ?_ ?_
        · exact ⟨none, none, [], rfl, start⟩
        · rintro i σ H' hi ⟨o1, o2, kvs, rfl, pl⟩
          exact .of (pl.sm _ _ ha)
        · rintro i x σ H' p hx ⟨o1, o2, kvs, rfl, pl⟩ hp
          obtain ⟨t, ht, rfl⟩ := str_get hx
          have hil := (List.getElem?_eq_some_iff.mp ht).1
          have hdp : d ≠ p := ne_of_none pl.at_ hp
          have := pl.len
          refine ⟨p, _, rfl, .of upd_same, rfl, _, _, rfl, _, _, rfl, rfl, ?_⟩
          exact ⟨_, rfl, _, rfl, _, rfl, .dic (DPut.k (k := .inr t) (by rw [upd_ne hdp]; exact pl.at_) (small1000 (by omega))) ⟨_, _, _, rfl, pl.step hd hp ht⟩⟩
        · rintro σ H' ⟨o1, o2, kvs, rfl, pl⟩
          have hin := pl.inn
          rw [List.length_map, List.take_of_length_le (Nat.le_refl _)] at hin
          exact ⟨_, rfl, k d kvs H' pl.sm hd pl.at_ hin pl.ix pl.nd pl.ks⟩
      · refine ⟨_, rfl, _, rfl, .tup (.of (s0 _ _ ha)) ?_⟩
        refine for_enumT (xs := List.map V.str xs) (fun i σ H' => ∃ o1 o2 kvs, σ = [some (.ref a), some (.ref d), o1, o2] ∧ PlN H H' d xs i kvs) ?_ ?_ ?_ ?_
        · exact ⟨none, none, [], rfl, start⟩
        · rintro i σ H' hi ⟨o1, o2, kvs, rfl, pl⟩
          exact .of (pl.sm _ _ ha)
        · rintro i x σ H' p hx ⟨o1, o2, kvs, rfl, pl⟩ hp
          obtain ⟨t, ht, rfl⟩ := str_get hx
          have hil := (List.getElem?_eq_some_iff.mp ht).1
          have hdp : d ≠ p := ne_of_none pl.at_ hp
          have := pl.len
          refine ⟨p, _, rfl, .of upd_same, rfl, _, _, rfl, _, _, rfl, rfl, ?_⟩
          exact ⟨_, rfl, _, rfl, _, rfl, .dic (DPut.k (k := .inr t) (by rw [upd_ne hdp]; exact pl.at_) (small1000 (by omega))) ⟨_, _, _, rfl, pl.step hd hp ht⟩⟩
        · rintro σ H' ⟨o1, o2, kvs, rfl, pl⟩
          have hin := pl.inn
          rw [List.length_map, List.take_of_length_le (Nat.le_refl _)] at hin
          exact ⟨_, rfl, k d kvs H' pl.sm hd pl.at_ hin pl.ix pl.nd pl.ks⟩
    | @pr a refs ps _ ha rp hl k =>
      refine ⟨_, (pss_cons (ps_set (i := 1) nd rfl (Or.inl rfl) pe_dnewT)
      (pss_cons (ps_for PassesOwn.never rfl (pi_enumX K rfl B.enumerate (pa_cons (pv 0) pa_nil)) (pg_tupK (n := 2) K rfl (pgs_cons (pg_name (i := 2) nd rfl (Or.inl rfl)) (pgs_cons (pg_name (i := 3) nd rfl (Or.inl rfl)) pgs_nil))) (pss_one (ps_asg (pv 2) (pg_sub (pv 1) (pv 3) (set_X hr.units)))))
      (pss_one (ps_ret (pv 1))))), ?_⟩
      have rlen := rp.len
      rw [List.length_map] at rlen
      intro d hd
      have s0 := Same.new (o := .dT []) hd
      have turn : ∀ (i : Nat) (e : Str × Str) (ta p : Addr) (H' : Hp) (kvs : List (List Key × V)), Same H H' → H' d = some (.dT kvs) → kvs.length ≤ i → i < ps.length → (∀ f : Str × Str, (valV kvs (pK f)).isSome = true ↔ f ∈ ps.take i) → ps[i]? = some e → H' p = none →
          Same H (upd (upd H' p (.tup [.int (i : Nat), .ref ta])) d (.dT (putK kvs (pK e) (.int (i : Nat))))) ∧ (putK kvs (pK e) (V.int (i : Nat))).length ≤ i + 1 ∧ ∀ f : Str × Str, (valV (putK kvs (pK e) (V.int (i : Nat))) (pK f)).isSome = true ↔ f ∈ ps.take (i + 1) := by
        intro i e ta p H' kvs sm hk hkl hi hin he hp
        refine ⟨?_, ?_, fun f => ?_⟩
        · intro b o hb
          rw [upd_ne (ne_of_none hb hd)]
          exact Same.new hp _ _ (sm _ _ hb)
        · have := length_putK kvs (pK e) (V.int (i : Nat))
          omega
        · rw [valV_put, List.take_add_one, he, List.mem_append]
          by_cases q : f = e
          · subst q; simp
          · rw [if_neg (fun z => q (pK_inj z)), hin f]
            simp [q]
      rcases ha with ha | ha
      · refine ⟨_, rfl, _, rfl, .lst (.of (s0 _ _ ha)) ?_⟩
        refine for_enum (xs := refs) (fun i σ H' => ∃ o1 o2 kvs, σ = [some (.ref a), some (.ref d), o1, o2] ∧ Same H H' ∧ H' d = some (.dT kvs) ∧ kvs.length ≤ i ∧ ∀ f : Str × Str, (valV kvs (pK f)).isSome = true ↔ f ∈ ps.take i) ?_ ?_ ?_ ?_
        · exact ⟨none, none, [], rfl, s0, upd_same, Nat.le_refl _, fun s => by simp [valV_nil]⟩
        · rintro i σ H' hi ⟨o1, o2, kvs, rfl, sm, _⟩
          exact .of (sm _ _ ha)
        · rintro i x σ H' p hx ⟨o1, o2, kvs, rfl, sm, hk, hkl, hin⟩ hp
          obtain ⟨e, ta, he, rfl, hta⟩ := pair_get (rp.same sm) hx
          have hil := (List.getElem?_eq_some_iff.mp he).1
          have hdp : d ≠ p := ne_of_none hk hp
          obtain ⟨g1, g2, g3⟩ := turn i e ta p H' kvs sm hk hkl hil hin he hp
          refine ⟨p, _, rfl, .of upd_same, rfl, _, _, rfl, _, _, rfl, rfl, ?_⟩
          exact ⟨_, rfl, _, rfl, _, rfl, .dic (DPut.t (k := pK e) (by rw [upd_ne hdp]; exact hk) (Same.new hp _ _ hta) (small1000 (by omega))) ⟨_, _, _, rfl, g1, upd_same, g2, g3⟩⟩
        · rintro σ H' ⟨o1, o2, kvs, rfl, sm, hk, hkl, hin⟩
          rw [rlen, List.take_of_length_le (Nat.le_refl _)] at hin
          exact ⟨_, rfl, k d kvs H' sm hd hk hin⟩
      · refine ⟨_, rfl, _, rfl, .tup (.of (s0 _ _ ha)) ?_⟩
        refine for_enumT (xs := refs) (fun i σ H' => ∃ o1 o2 kvs, σ = [some (.ref a), some (.ref d), o1, o2] ∧ Same H H' ∧ H' d = some (.dT kvs) ∧ kvs.length ≤ i ∧ ∀ f : Str × Str, (valV kvs (pK f)).isSome = true ↔ f ∈ ps.take i) ?_ ?_ ?_ ?_
        · exact ⟨none, none, [], rfl, s0, upd_same, Nat.le_refl _, fun s => by simp [valV_nil]⟩
        · rintro i σ H' hi ⟨o1, o2, kvs, rfl, sm, _⟩
          exact .of (sm _ _ ha)
        · rintro i x σ H' p hx ⟨o1, o2, kvs, rfl, sm, hk, hkl, hin⟩ hp
          obtain ⟨e, ta, he, rfl, hta⟩ := pair_get (rp.same sm) hx
          have hil := (List.getElem?_eq_some_iff.mp he).1
          have hdp : d ≠ p := ne_of_none hk hp
          obtain ⟨g1, g2, g3⟩ := turn i e ta p H' kvs sm hk hkl hil hin he hp
          refine ⟨p, _, rfl, .of upd_same, rfl, _, _, rfl, _, _, rfl, rfl, ?_⟩
          exact ⟨_, rfl, _, rfl, _, rfl, .dic (DPut.t (k := pK e) (by rw [upd_ne hdp]; exact hk) (Same.new hp _ _ hta) (small1000 (by omega))) ⟨_, _, _, rfl, g1, upd_same, g2, g3⟩⟩
        · rintro σ H' ⟨o1, o2, kvs, rfl, sm, hk, hkl, hin⟩
          rw [rlen, List.take_of_length_le (Nat.le_refl _)] at hin
          exact ⟨_, rfl, k d kvs H' sm hd hk hin⟩
theorem placesX_of (vs : List V) (H : Hp) (Q : VK) (E : XK) (h : spPlaces vs H Q E) : spPlacesX vs H Q E := by
  obtain ⟨a, xs, rfl, ha, hl, k⟩ := h
  exact ⟨_, rfl, .nm (.inl ha) hl fun d kvs H' s h0 h1 h2 h3 _ _ => k d kvs H' s h0 h1 h2 h3⟩
end
end K31
namespace K31
open PySem L2
section
variable {P : Program} {w : World} {K : PySem.W.Frag} {mg : Str → Option Value} {base : Heap}
theorem scIsName : FnScope ["thing"] ["thing"] (defScope sIsName) := ⟨rfl, rfl, rfl, by decide +kernel, rfl, by decide +kernel, by decide +kernel⟩
theorem ok_isname {f : Addr} {fd : FuncData} {tk : Tok} (F : Fun K "is_name" "is_name" sIsName f fd) (B : Blt mg) (T : mg "MOST_SIGNS" = some (.int 8 tk)) : FnOk P w K mg base CX0 1 f fd ["thing"] spIsName := by
  refine F.ok scIsName (fun vs H Q E h => ?_) (fun cdv A outer s H vs Q E hr h => ?_)
  · obtain ⟨x, rfl, _⟩ := h
    rfl
  · obtain ⟨x, rfl, hx, k⟩ := h
    have nd := scIsName.nd
    obtain ⟨t, ty, t1, _⟩ := ty_thg (K := K) hx
    refine ⟨_, (pss_cons (ps_if (pt_not (pt_val (b_isi K "str" B (pa_cons (pv 0) (pa_cons (g_str B) pa_nil))))) (pss_one (ps_ret pe_bl)) pss_nil)
      (pss_cons (ps_if (PW.pt (pw_or (pt_cmpR op_ltX (b_len K B (pa_cons (pv 0) pa_nil)) pe_int (nomark _)) (pw_or1 (pt_cmpR op_gt (b_len K B (pa_cons (pv 0) pa_nil)) (pe_glob (v := .int 8) rfl T ⟨_, rfl⟩) (nomark _))))) (pss_one (ps_ret pe_bl)) pss_nil)
      (pss_one (ps_ret (b_all rfl B (pa_cons (pe_comp (defScope sIsName) ["thing"] ["sign"] [] ["sign"] rfl (pi_str (pv 0)) (fun _ _ _ _ _ => (pg_name (i := 0) (show (["sign"] : List Str).Nodup by decide) rfl (Or.inl rfl))) (fun _ _ _ _ _ => pts_nil) (fun _ _ _ _ _ => (pe_chain op_leX op_leX pe_str (pv 0) pe_str))) pa_nil)))))), ?_⟩
    refine ⟨_, rfl, x, t, _, rfl, ty, t1, _, rfl, ?_⟩
    refine ite2 (fun hn => ?_) (fun hn => ?_)
    · have e : isNm x = false := by cases x <;> first | rfl | (simp [isS] at hn)
      have q := k H (Same.refl H)
      rw [e] at q
      exact q
    · obtain ⟨z, rfl⟩ : ∃ z, x = .str z := by cases x <;> first | exact ⟨_, rfl⟩ | (simp [isS] at hn)
      have hzz : z.length ≤ sizeLine := by
        cases hx with
        | str h => exact h
      refine ⟨_, rfl, _, _, rfl, ⟨hzz, rfl⟩, .int ⟨_, rfl, ?_⟩⟩
      refine ite2 (fun h1 => ?_) (fun h1 => ?_)
      · refine iteT ?_
        have q := k H (Same.refl H)
        have h1 : (z.length : Int) < 1 := of_decide_eq_true h1
        have e : isNm (.str z) = false := by
          show (decide (1 ≤ z.length) && _) = false
          rw [decide_eq_false (by omega)]; rfl
        rw [e] at q
        exact q
      · have h1 : ¬ (z.length : Int) < 1 := of_decide_eq_false (by simpa using h1)
        refine ⟨_, rfl, _, _, rfl, ⟨hzz, rfl⟩, _, _, rfl, rfl, _, rfl, ?_⟩
        refine ite2 (fun h2 => ?_) (fun h2 => ?_)
        · have q := k H (Same.refl H)
          have h2 : (8 : Int) < z.length := of_decide_eq_true h2
          have e : isNm (.str z) = false := by
            show (decide (1 ≤ z.length) && (decide (z.length ≤ 8) && _)) = false
            rw [decide_eq_false (show ¬ z.length ≤ 8 by omega), Bool.false_and, Bool.and_false]
          rw [e] at q
          exact q
        · have h2 : ¬ (8 : Int) < z.length := of_decide_eq_false (by simpa using h2)
          have e : isNm (.str z) = z.cps.toList.all isLow := by
            show (decide (1 ≤ z.length) && (decide (z.length ≤ 8) && _)) = _
            rw [decide_eq_true (show 1 ≤ z.length by omega), decide_eq_true (show z.length ≤ 8 by omega), Bool.true_and, Bool.true_and]
          refine ⟨_, rfl, z, rfl, ?_⟩
          refine comp_str (fun D i acc σ' H' => ∃ o, σ' = [o] ∧ acc = (z.cps.toList.take i).map (fun c => V.bl (isLow c)) ∧ Same H H' ∧ H D = none) fun D hD => ⟨⟨none, rfl, rfl, Same.new hD, hD⟩, ?_, ?_⟩
          · rintro i acc σ' H' c hc ⟨o, rfl, rfl, sm, hD0⟩ hacc
            refine gYes ?_
            have sg : ∀ b : Bool, b = isLow c → (H' D = some (.lst ((z.cps.toList.take i).map (fun c => V.bl (isLow c)))) ∧ ((z.cps.toList.take i).map (fun c => V.bl (isLow c))).length < sizeLine ∧
                (∃ o, [some (V.str ⟨#[c]⟩)] = [o] ∧ (z.cps.toList.take i).map (fun c => V.bl (isLow c)) ++ [V.bl b] = (z.cps.toList.take (i + 1)).map (fun c => V.bl (isLow c)) ∧ Same H (upd H' D (.lst ((z.cps.toList.take i).map (fun c => V.bl (isLow c)) ++ [V.bl b]))) ∧ H D = none)) := fun b hb => by
              refine ⟨hacc, ?_, _, rfl, ?_, ?_, hD0⟩
              · rw [List.length_map]
                refine small1000 ?_
                have := List.length_take_le' i z.cps.toList
                have h2' : z.length ≤ 8 := by omega
                have hl : z.cps.toList.length = z.length := by simp [Str.length]
                omega
              · rw [List.take_add_one, hc, List.map_append, hb]; rfl
              · intro b' o' e'
                rw [upd_ne (ne_of_none e' hD0)]
                exact sm b' o' e'
            refine ⟨_, rfl, .str ⟨_, rfl, ?_⟩⟩
            have e1 : (!decide ((⟨#[c]⟩ : Str).cps.toList < ("a" : Str).cps.toList)) = decide (97 ≤ c) := by
              show (!decide ([c] < [97])) = _
              rw [lt_one]
              by_cases hh : c < 97
              · rw [decide_eq_true hh, decide_eq_false (by omega)]; rfl
              · rw [decide_eq_false hh, decide_eq_true (by omega)]; rfl
            have e2 : (!decide (("z" : Str).cps.toList < (⟨#[c]⟩ : Str).cps.toList)) = decide (c ≤ 122) := by
              show (!decide ([122] < [c])) = _
              rw [lt_one]
              by_cases hh : 122 < c
              · rw [decide_eq_true hh, decide_eq_false (by omega)]; rfl
              · rw [decide_eq_false hh, decide_eq_true (by omega)]; rfl
            rw [e1]
            refine ite2 (fun h3 => ?_) (fun h3 => ?_)
            · refine .str (sg _ ?_)
              rw [e2]
              unfold isLow
              rw [h3, Bool.true_and]
            · refine sg false ?_
              unfold isLow
              have h3 : decide (97 ≤ c) = false := by simpa using h3
              rw [h3, Bool.false_and]
          · rintro acc σ' H' ⟨o, rfl, rfl, sm, hD0⟩ hacc
            rw [List.take_of_length_le (Nat.le_refl _)] at hacc
            refine ⟨D, z.cps.toList.map isLow, rfl, by rw [List.map_map]; exact hacc, ?_⟩
            have q := k H' sm
            rw [e] at q
            have e4 : (z.cps.toList.map isLow).all id = z.cps.toList.all isLow := by rw [List.all_map]; rfl
            rw [e4]
            exact q
end
end K31
namespace K31
open PySem L2
section
variable {P : Program} {w : World} {K : PySem.W.Frag} {mg : Str → Option Value} {base : Heap}
noncomputable def spUnlike : Sp := fun vs H Q _ => ∃ (a : Addr) (ss : List Str), vs = [.ref a] ∧ SqA H a (List.map V.str ss) ∧ ss.length ≤ 1000 ∧ ∀ H', Same H H' → Q (.bl (decide ss.Nodup)) H'
theorem scUnlike : FnScope ["things"] ["things"] (defScope sUnlike) := ⟨rfl, rfl, rfl, by decide +kernel, rfl, by decide +kernel, by decide +kernel⟩
theorem ok_unlike {f : Addr} {fd : FuncData} (F : Fun K "are_unlike" "are_unlike" sUnlike f fd) (B : Blt mg) (cplaces_of : Cal P w K mg base 1 "places_of" ["things"] spPlacesX) : FnOk P w K mg base CX0 2 f fd ["things"] spUnlike := by
  refine F.ok scUnlike (fun vs H Q E h => ?_) (fun cdv A outer s H vs Q E hr h => ?_)
  · obtain ⟨a, ss, rfl, _⟩ := h
    rfl
  · obtain ⟨a, ss, rfl, ha, hlen, k⟩ := h
    have nd := scUnlike.nd
    refine ⟨_, (pss_one (ps_ret (pe_cmpR (op_eqX hr.units) (b_lenD B (pa_cons (pe_cal cplaces_of (hr.mono (by decide)) rfl (pa_cons (pv 0) pa_nil)) pa_nil)) (b_len K B (pa_cons (pv 0) pa_nil)) (nomark _)))), ?_⟩
    refine ⟨_, rfl, _, rfl, ?_⟩
    refine .nm ha hlen fun d kvs H1 s1 hd0 hd hin hat knd ks => ⟨d, kvs, rfl, hd, _, rfl, _, ss.length, rfl, ?_, .sc rfl ?_⟩
    · have := (SqA.same ha s1).len (K := K)
      rw [List.length_map] at this
      exact this
    · have e := len_kvs knd ks hin
      have e2 : decide (V.int (kvs.length : Nat) = V.int (ss.length : Nat)) = decide ss.Nodup := by
        rw [Bool.eq_iff_iff, decide_eq_true_iff, decide_eq_true_iff, ← e]
        exact ⟨fun z => Int.ofNat.inj (V.int.inj z), fun z => by rw [z]⟩
      show Q (.bl (decide (V.int (kvs.length : Nat) = V.int (ss.length : Nat)))) H1
      rw [e2]
      exact k H1 s1
end
end K31
namespace K31
open PySem L2
section
variable {P : Program} {w : World} {K : PySem.W.Frag} {mg : Str → Option Value} {base : Heap}
theorem nmS {s : Str} (h : Nm s) : s.length ≤ sizeLine := Nat.le_of_lt (small1000 (by have := h.2.1; omega))
noncomputable def spAmong : Sp := fun vs H Q _ => ∃ (d ta : Addr) (kvs : List (Key × V)) (e : Str × Str), vs = [.ref d, .ref ta] ∧ H d = some (.dK kvs) ∧ H ta = some (.tup [.str e.1, .str e.2]) ∧ Nm e.1 ∧ Nm e.2 ∧ (valV kvs (.inr e.1)).isSome = true ∧ (valV kvs (.inr e.2)).isSome = true ∧ ∀ H', Same H H' → Q (.bl true) H'
theorem scAmong : FnScope ["places", "tie"] ["places", "tie"] (defScope sAmong) := ⟨rfl, rfl, rfl, by decide +kernel, rfl, by decide +kernel, by decide +kernel⟩
theorem ok_among {f : Addr} {fd : FuncData} (F : Fun K "is_tie_among" "is_tie_among" sAmong f fd) (B : Blt mg) (cis_name : Cal P w K mg base 1 "is_name" ["thing"] spIsName) : FnOk P w K mg base CX0 2 f fd ["places", "tie"] spAmong := by
  refine F.ok scAmong (fun vs H Q E h => ?_) (fun cdv A outer s H vs Q E hr h => ?_)
  · obtain ⟨d, ta, kvs, e, rfl, _⟩ := h
    rfl
  · obtain ⟨d, ta, kvs, e, rfl, hd, hta, n1, n2, i1, i2, k⟩ := h
    have nd := scAmong.nd
    obtain ⟨t, ty, _, _, _, _, t5⟩ := ty_thg (K := K) (Thg.tup hta)
    rw [isT_of hta] at t5
    refine ⟨_, (pss_cons (ps_if (PW.pt (pw_or (pt_not (pt_val (b_isi K "tuple" B (pa_cons (pv 1) (pa_cons (g_tuple B) pa_nil))))) (pw_or1 (pt_cmpR (op_neX hr.units) (b_len K B (pa_cons (pv 1) pa_nil)) pe_int (nomark _))))) (pss_one (ps_ret pe_bl)) pss_nil)
      (pss_one (ps_ret (b_all rfl B (pa_cons (pe_comp (defScope sAmong) ["places", "tie"] ["end"] [0] ["end", "places"] rfl (pi_tupK K (pv 1)) (fun _ _ _ _ _ => (pg_name (i := 0) (show (["end", "places"] : List Str).Nodup by decide) rfl (Or.inl rfl))) (fun _ _ _ _ _ => pts_nil) (fun _ _ _ _ _ => (pe_and (pe_cal cis_name (hr.mono (by decide)) rfl (pa_cons (pv 0) pa_nil)) (pe_one (pe_cmpR (op_inX K hr.units) (pv 0) (pv 1) (by with_unfolding_all rfl)))))) pa_nil))))), ?_⟩
    refine ⟨_, rfl, _, t, _, rfl, ty, t5, _, rfl, ?_⟩
    refine ite2 (fun h => absurd h (by decide)) (fun _ => ?_)
    refine ⟨_, rfl, _, _, rfl, Or.inr ⟨_, .of hta, rfl⟩, .sc rfl ⟨_, rfl, ?_⟩⟩
    refine ite2 (fun h => absurd h (by show ¬ (!decide (V.int 2 = V.int 2)) = true; decide)) (fun _ => ?_)
    refine ⟨_, rfl, ta, rfl, ⟨_, .of hta⟩, ?_⟩
    refine comp_tup [V.str e.1, V.str e.2] (fun D i acc σ' H' => ∃ o, σ' = [o, some (.ref d)] ∧ acc = List.replicate i (V.bl true) ∧ Same H H' ∧ H D = none) fun D hD => ⟨?_, ?_, ?_, ?_⟩
    · exact ⟨none, rfl, rfl, Same.new hD, hD⟩
    · rintro i acc σ' H' _ ⟨o, rfl, _, sm, _⟩ _
      exact .of (sm _ _ hta)
    · rintro i acc σ' H' x hx ⟨o, rfl, rfl, sm, hD0⟩ hacc
      have hil := (List.getElem?_eq_some_iff.mp hx).1
      have hil : i < 2 := hil
      obtain ⟨z, rfl, nz, iz⟩ : ∃ z, x = .str z ∧ Nm z ∧ (valV kvs (.inr z)).isSome = true := by
        match i, hil, hx with
        | 0, _, hx => exact ⟨e.1, (Option.some.inj hx).symm, n1, i1⟩
        | 1, _, hx => exact ⟨e.2, (Option.some.inj hx).symm, n2, i2⟩
      refine gYes ?_
      refine ⟨_, rfl, _, rfl, .str (nmS nz), fun H2 s2 => ⟨_, rfl, ?_⟩⟩
      rw [isNm_iff.mpr nz]
      refine iteT ?_
      refine ⟨_, rfl, _, rfl, .dic (DGet.k (k := .inr z) (s2 _ _ (sm _ _ hd))) ?_⟩
      refine ⟨s2 _ _ hacc, by rw [List.length_replicate]; exact small1000 (by omega), _, rfl, ?_, same_at (sm.trans s2) hD0, hD0⟩
      show List.replicate i (V.bl true) ++ [V.bl (valV kvs (.inr z)).isSome] = _
      rw [iz, List.replicate_succ']
    · rintro acc σ' H2 ⟨o, rfl, rfl, s2, hD0⟩ hacc
      refine ⟨D, [true, true], rfl, hacc, ?_⟩
      exact k H2 s2
noncomputable def spUNm : Sp := fun vs H Q _ => ∃ (a : Addr) (ss : List Str), vs = [.ref a] ∧ SqA H a (List.map V.str ss) ∧ ss.length ≤ 60 ∧ ss.Nodup ∧ (∀ s ∈ ss, Nm s) ∧ ∀ H', Same H H' → Q (.bl true) H'
theorem scUNm : FnScope ["things"] ["things"] (defScope sUNm) := ⟨rfl, rfl, rfl, by decide +kernel, rfl, by decide +kernel, by decide +kernel⟩
theorem ok_unm {f : Addr} {fd : FuncData} (F : Fun K "are_unlike_names" "are_unlike_names" sUNm f fd) (B : Blt mg) (cis_name : Cal P w K mg base 1 "is_name" ["thing"] spIsName) (care_unlike : Cal P w K mg base 2 "are_unlike" ["things"] spUnlike) : FnOk P w K mg base CX0 3 f fd ["things"] spUNm := by
  refine F.ok scUNm (fun vs H Q E h => ?_) (fun cdv A outer s H vs Q E hr h => ?_)
  · obtain ⟨a, ss, rfl, _⟩ := h
    rfl
  · obtain ⟨a, ss, rfl, ha, hlen, snd, snm, k⟩ := h
    have nd := scUNm.nd
    have hl60 : ¬ (60 : Int) < ((List.map V.str ss).length : Nat) := by rw [List.length_map]; omega
    rcases ha with ha | ha
    · refine ⟨_, (pss_cons (ps_if (pt_not (pt_val (b_isi2 K "list" "tuple" B (pa_cons (pv 0) (pa_cons (pe_tup (pa_cons (g_list B) (pa_cons (g_tuple B) pa_nil))) pa_nil))))) (pss_one (ps_ret pe_bl)) pss_nil)
      (pss_one (ps_ret (pe_and (b_all rfl B (pa_cons (pe_comp (defScope sUNm) ["things"] ["thing"] [] ["thing"] rfl (pi_listK K (pv 0)) (fun _ _ _ _ _ => (pg_name (i := 0) (show (["thing"] : List Str).Nodup by decide) rfl (Or.inl rfl))) (fun _ _ _ _ _ => pts_nil) (fun _ _ _ _ _ => (pe_cal cis_name (hr.mono (by decide)) rfl (pa_cons (pv 0) pa_nil)))) pa_nil)) (pe_one (pe_cal care_unlike (hr.mono (by decide)) rfl (pa_cons (pv 0) pa_nil))))))), ?_⟩
      refine ⟨_, rfl, (by show 2 ≤ sizeLine; decide), fun tp htp => ?_⟩
      have s0 := Same.new (o := .tup [V.ty "list", V.ty "tuple"]) htp
      have A0 : SqA (upd H tp (.tup [V.ty "list", V.ty "tuple"])) a (List.map V.str ss) := (SqA.same (.inl ha) s0)
      obtain ⟨t, ty, _, _, _, t4, t5⟩ := ty_thg (K := K) A0.thg
      have kl := kit_lt t4 t5
      rw [A0.lt] at kl
      refine ⟨_, tp, t, _, rfl, upd_same, ty, kl, _, rfl, ?_⟩
      refine ite2 (fun h => absurd h (by decide)) (fun _ => ?_)
      have ha0 := s0 _ _ ha
      generalize upd H tp (.tup [V.ty "list", V.ty "tuple"]) = H0 at s0 ha0 ⊢
      refine ⟨_, rfl, a, rfl, ⟨_, .of ha0⟩, ?_⟩
      refine comp_list (List.map V.str ss) (fun D i acc σ' H' => ∃ o, σ' = [o] ∧ acc = List.replicate i (V.bl true) ∧ Same H0 H' ∧ H0 D = none) fun D hD => ⟨?_, ?_, ?_, ?_⟩
      · exact ⟨none, rfl, rfl, Same.new hD, hD⟩
      · rintro i acc σ' H' _ ⟨o, rfl, _, sm, _⟩ _
        exact .of (sm _ _ ha0)
      · rintro i acc σ' H' x hx ⟨o, rfl, rfl, sm, hD0⟩ hacc
        obtain ⟨z, hz, rfl⟩ := str_get hx
        have hil := (List.getElem?_eq_some_iff.mp hz).1
        have nz := snm z (List.mem_of_getElem? hz)
        refine gYes ?_
        refine ⟨_, rfl, _, rfl, .str (nmS nz), fun H2 s2 => ?_⟩
        rw [isNm_iff.mpr nz]
        exact ⟨s2 _ _ hacc, by rw [List.length_replicate]; exact small1000 (by omega), _, rfl, by rw [List.replicate_succ'], same_at (sm.trans s2) hD0, hD0⟩
      · rintro acc σ' H2 ⟨o, rfl, rfl, s2, hD0⟩ hacc
        refine ⟨D, List.replicate (List.map V.str ss).length true, rfl, by rw [List.map_replicate]; exact hacc, _, rfl, ?_⟩
        rw [show (List.replicate (List.map V.str ss).length true).all id = true from by simp]
        refine iteT ?_
        exact ⟨_, rfl, a, ss, rfl, (SqA.same (SqA.same (.inl ha) s0) s2), by omega, fun H3 s3 => by rw [decide_eq_true snd]; exact k H3 ((s0.trans s2).trans s3)⟩
    · refine ⟨_, (pss_cons (ps_if (pt_not (pt_val (b_isi2 K "list" "tuple" B (pa_cons (pv 0) (pa_cons (pe_tup (pa_cons (g_list B) (pa_cons (g_tuple B) pa_nil))) pa_nil))))) (pss_one (ps_ret pe_bl)) pss_nil)
      (pss_one (ps_ret (pe_and (b_all rfl B (pa_cons (pe_comp (defScope sUNm) ["things"] ["thing"] [] ["thing"] rfl (pi_tupK K (pv 0)) (fun _ _ _ _ _ => (pg_name (i := 0) (show (["thing"] : List Str).Nodup by decide) rfl (Or.inl rfl))) (fun _ _ _ _ _ => pts_nil) (fun _ _ _ _ _ => (pe_cal cis_name (hr.mono (by decide)) rfl (pa_cons (pv 0) pa_nil)))) pa_nil)) (pe_one (pe_cal care_unlike (hr.mono (by decide)) rfl (pa_cons (pv 0) pa_nil))))))), ?_⟩
      refine ⟨_, rfl, (by show 2 ≤ sizeLine; decide), fun tp htp => ?_⟩
      have s0 := Same.new (o := .tup [V.ty "list", V.ty "tuple"]) htp
      have A0 : SqA (upd H tp (.tup [V.ty "list", V.ty "tuple"])) a (List.map V.str ss) := (SqA.same (.inr ha) s0)
      obtain ⟨t, ty, _, _, _, t4, t5⟩ := ty_thg (K := K) A0.thg
      have kl := kit_lt t4 t5
      rw [A0.lt] at kl
      refine ⟨_, tp, t, _, rfl, upd_same, ty, kl, _, rfl, ?_⟩
      refine ite2 (fun h => absurd h (by decide)) (fun _ => ?_)
      have ha0 := s0 _ _ ha
      generalize upd H tp (.tup [V.ty "list", V.ty "tuple"]) = H0 at s0 ha0 ⊢
      refine ⟨_, rfl, a, rfl, ⟨_, .of ha0⟩, ?_⟩
      refine comp_tup (List.map V.str ss) (fun D i acc σ' H' => ∃ o, σ' = [o] ∧ acc = List.replicate i (V.bl true) ∧ Same H0 H' ∧ H0 D = none) fun D hD => ⟨?_, ?_, ?_, ?_⟩
      · exact ⟨none, rfl, rfl, Same.new hD, hD⟩
      · rintro i acc σ' H' _ ⟨o, rfl, _, sm, _⟩ _
        exact .of (sm _ _ ha0)
      · rintro i acc σ' H' x hx ⟨o, rfl, rfl, sm, hD0⟩ hacc
        obtain ⟨z, hz, rfl⟩ := str_get hx
        have hil := (List.getElem?_eq_some_iff.mp hz).1
        have nz := snm z (List.mem_of_getElem? hz)
        refine gYes ?_
        refine ⟨_, rfl, _, rfl, .str (nmS nz), fun H2 s2 => ?_⟩
        rw [isNm_iff.mpr nz]
        exact ⟨s2 _ _ hacc, by rw [List.length_replicate]; exact small1000 (by omega), _, rfl, by rw [List.replicate_succ'], same_at (sm.trans s2) hD0, hD0⟩
      · rintro acc σ' H2 ⟨o, rfl, rfl, s2, hD0⟩ hacc
        refine ⟨D, List.replicate (List.map V.str ss).length true, rfl, by rw [List.map_replicate]; exact hacc, _, rfl, ?_⟩
        rw [show (List.replicate (List.map V.str ss).length true).all id = true from by simp]
        refine iteT ?_
        exact ⟨_, rfl, a, ss, rfl, (SqA.same (SqA.same (.inr ha) s0) s2), by omega, fun H3 s3 => by rw [decide_eq_true snd]; exact k H3 ((s0.trans s2).trans s3)⟩
noncomputable def spAre : Sp := fun vs H Q _ => ∃ (a : Addr) (ss : List Str), vs = [.ref a] ∧ SqA H a (List.map V.str ss) ∧ ss.length ≤ 60 ∧ ss.Nodup ∧ (∀ s ∈ ss, Nm s) ∧ ∀ H', Same H H' → Q (.bl true) H'
theorem scAre : FnScope ["things"] ["things"] (defScope sAreThings) := ⟨rfl, rfl, rfl, by decide +kernel, rfl, by decide +kernel, by decide +kernel⟩
theorem ok_are {f : Addr} {fd : FuncData} {tk : Tok} (F : Fun K "are_things" "are_things" sAreThings f fd) (B : Blt mg) (TT : mg "MOST_THINGS" = some (.int 60 tk)) (care_unlike_names : Cal P w K mg base 3 "are_unlike_names" ["things"] spUNm) : FnOk P w K mg base CX0 4 f fd ["things"] spAre := by
  refine F.ok scAre (fun vs H Q E h => ?_) (fun cdv A outer s H vs Q E hr h => ?_)
  · obtain ⟨a, ss, rfl, _⟩ := h
    rfl
  · obtain ⟨a, ss, rfl, ha, hlen, snd, snm, k⟩ := h
    have nd := scAre.nd
    have hl60 : (((List.map V.str ss).length : Nat) : Int) ≤ 60 := by rw [List.length_map]; omega
    refine ⟨_, (pss_one (ps_ret (pe_and (pe_cal care_unlike_names (hr.mono (by decide)) rfl (pa_cons (pv 0) pa_nil)) (pe_one (pe_cmpR op_leX (b_len K B (pa_cons (pv 0) pa_nil)) (pe_glob (v := .int 60) rfl TT ⟨_, rfl⟩) (nomark _)))))), ?_⟩
    refine ⟨_, rfl, a, ss, rfl, ha, hlen, snd, snm, fun H1 s1 => ⟨_, rfl, iteT ?_⟩⟩
    refine ⟨_, rfl, _, _, rfl, (SqA.same ha s1).len, .int ?_⟩
    have z := k H1 s1
    rw [← decide_eq_true hl60] at z
    exact z
end
end K31
namespace K31
open PySem L2
section
variable {P : Program} {w : World} {K : PySem.W.Frag} {mg : Str → Option Value} {base : Heap}
theorem not_take {α : Type} {l : List α} (h : l.Nodup) {i : Nat} {x : α} (e : l[i]? = some x) : x ∉ l.take i := by
  intro hx
  obtain ⟨j, ej⟩ := List.mem_iff_getElem?.mp hx
  have hj := (List.getElem?_eq_some_iff.mp ej).1
  rw [List.length_take] at hj
  rw [List.getElem?_take_of_lt (by omega)] at ej
  have hi := (List.getElem?_eq_some_iff.mp e).1
  rw [List.getElem?_eq_getElem (by omega)] at ej
  rw [List.getElem?_eq_getElem hi] at e
  have : j = i := (List.getElem_inj h).mp ((Option.some.inj ej).trans (Option.some.inj e).symm)
  omega
noncomputable def spWrong : Sp := fun vs H Q _ => ∃ (a t : Addr) (ss : List Str) (ts : List (Str × Str)) (refs : List V), vs = [.ref a, .ref t] ∧ SqA H a (List.map V.str ss) ∧ ss.length ≤ 60 ∧ (∀ s ∈ ss, Nm s) ∧ SqA H t refs ∧ RepAll H refs (ts.map pairD) ∧ ts.length ≤ 400 ∧ ts.Nodup ∧ (∀ e ∈ ts, e.1 ∈ ss ∧ e.2 ∈ ss) ∧ ∀ H', Same H H' → Q .non H'
theorem scWrong : FnScope ["things", "ties", "places", "seen", "number", "tie"] ["things", "ties"] (defScope sWrong) := ⟨rfl, rfl, rfl, by decide +kernel, rfl, by decide +kernel, by decide +kernel⟩
theorem ok_wrong {f : Addr} {fd : FuncData} {tk : Tok} (F : Fun K "first_wrong_tie" "first_wrong_tie" sWrong f fd) (B : Blt mg) (TT : mg "MOST_TIES" = some (.int 400 tk)) (cplaces_of : Cal P w K mg base 1 "places_of" ["things"] spPlacesX) (cis_tie_among : Cal P w K mg base 2 "is_tie_among" ["places", "tie"] spAmong) : FnOk P w K mg base CX0 3 f fd ["things", "ties"] spWrong := by
  refine F.ok scWrong (fun vs H Q E h => ?_) (fun cdv A outer s H vs Q E hr h => ?_)
  · obtain ⟨a, t, ss, ts, refs, rfl, _⟩ := h
    rfl
  · obtain ⟨a, t, ss, ts, refs, rfl, hA, hlen, snm, hT, rp, few, tnd, inn, k⟩ := h
    have nd := scWrong.nd
    have rlen := rp.len
    rw [List.length_map] at rlen
    refine ⟨_, (pss_cons (ps_set (i := 2) nd rfl (Or.inl rfl) (pe_cal cplaces_of (hr.mono (by decide)) rfl (pa_cons (pv 0) pa_nil)))
      (pss_cons (ps_set (i := 3) nd rfl (Or.inl rfl) pe_dnewT)
      (pss_cons (ps_for PassesOwn.never rfl (pi_enumX K rfl B.enumerate (pa_cons (pv 1) pa_nil)) (pg_tupK (n := 2) K rfl (pgs_cons (pg_name (i := 4) nd rfl (Or.inl rfl)) (pgs_cons (pg_name (i := 5) nd rfl (Or.inl rfl)) pgs_nil))) (pss_cons (ps_if (PW.pt (pw_or (pt_cmpR (op_eqX hr.units) (pv 4) (pe_glob (v := .int 400) rfl TT ⟨_, rfl⟩) (nomark _)) (pw_or (pt_not (pt_val (pe_cal cis_tie_among (hr.mono (by decide)) rfl (pa_cons (pv 2) (pa_cons (pv 5) pa_nil))))) (pw_or1 (pt_cmpR (op_inX K hr.units) (pv 5) (pv 3) (by with_unfolding_all rfl)))))) (pss_one (ps_ret (pv 4))) pss_nil)
      (pss_one (ps_asg pe_bl (pg_sub (pv 3) (pv 5) (set_X hr.units))))))
      (pss_one (ps_ret pe_non))))), ?_⟩
    refine ⟨_, rfl, _, rfl, .nm hA (by omega) fun d kvs H1 s1 hd0 hd hin hat _ _ => ?_⟩
    intro dt hdt
    have s2 := s1.trans (Same.new (o := .dT []) hdt)
    rcases hT with ht | ht
    · refine ⟨_, rfl, _, rfl, .lst (.of (s2 _ _ ht)) ?_⟩
      refine for_enum (xs := refs) (fun i σ H' => ∃ (o4 o5 : Option V) (kt : List (List Key × V)), σ = [some (.ref a), some (.ref t), some (.ref d), some (.ref dt), o4, o5] ∧ Same H1 H' ∧ H' dt = some (.dT kt) ∧ kt.length ≤ i ∧ ∀ f : Str × Str, (valV kt (pK f)).isSome = true ↔ f ∈ ts.take i) ?_ ?_ ?_ ?_
      · exact ⟨none, none, [], rfl, Same.new hdt, upd_same, Nat.le_refl _, fun f => by simp [valV_nil]⟩
      · rintro i σ H' hi ⟨o4, o5, kt, rfl, sm, _⟩
        exact .of (sm _ _ (s1 _ _ ht))
      · rintro i x σ H' p hx ⟨o4, o5, kt, rfl, sm, hkt, hkl, hkin⟩ hp
        obtain ⟨e, ta, he, rfl, hta⟩ := pair_get ((rp.same s1).same sm) hx
        have hil := (List.getElem?_eq_some_iff.mp he).1
        have hin' := inn e (List.mem_of_getElem? he)
        have sp := Same.new (o := .tup [V.int (i : Nat), V.ref ta]) hp
        have hdtp : dt ≠ p := ne_of_none hkt hp
        refine ⟨p, _, rfl, .of upd_same, rfl, _, _, rfl, _, _, rfl, rfl, ?_⟩
        have sm2 := sm.trans sp
        have hkt2 := sp _ _ hkt
        have hta2 := sp _ _ hta
        generalize upd H' p (.tup [V.int (i : Nat), V.ref ta]) = H3 at sm2 hkt2 hta2 ⊢
        refine ⟨_, rfl, .sc rfl ⟨_, rfl, ?_⟩⟩
        refine ite2 (fun h => absurd (of_decide_eq_true h) (fun z => by have z : (i : Int) = 400 := V.int.inj z; omega)) (fun _ => ?_)
        refine ⟨_, rfl, _, rfl, d, ta, kvs, e, rfl, sm2 _ _ hd, hta2, snm _ hin'.1, snm _ hin'.2, (hin _).mpr hin'.1, (hin _).mpr hin'.2, fun H4 s4 => ⟨_, rfl, ?_⟩⟩
        refine ite2 (fun h => absurd h (by decide)) (fun _ => ?_)
        have hkt4 := s4 _ _ hkt2
        have hta4 := s4 _ _ hta2
        refine ⟨_, rfl, _, rfl, .dic (DGet.t (k := pK e) hkt4 hta4) ⟨_, rfl, ?_⟩⟩
        refine ite2 (fun h => absurd ((hkin e).mp h) (not_take tnd he)) (fun _ => ?_)
        refine ⟨_, rfl, _, rfl, .dic (DPut.t (k := pK e) hkt4 hta4 (small1000 (by omega))) ⟨_, _, _, rfl, ?_, upd_same, ?_, fun f => ?_⟩⟩
        · intro b o hb
          rw [upd_ne (ne_of_none hb hdt)]
          exact s4 _ _ (sm2 _ _ hb)
        · have := length_putK kt (pK e) (V.bl true)
          omega
        · rw [valV_put, List.take_add_one, he, List.mem_append]
          by_cases q : f = e
          · subst q; simp
          · rw [if_neg (fun z => q (pK_inj z)), hkin f]
            simp [q]
      · rintro σ H' ⟨o4, o5, kt, rfl, sm, _⟩
        exact k H' (s1.trans sm)
    · refine ⟨_, rfl, _, rfl, .tup (.of (s2 _ _ ht)) ?_⟩
      refine for_enumT (xs := refs) (fun i σ H' => ∃ (o4 o5 : Option V) (kt : List (List Key × V)), σ = [some (.ref a), some (.ref t), some (.ref d), some (.ref dt), o4, o5] ∧ Same H1 H' ∧ H' dt = some (.dT kt) ∧ kt.length ≤ i ∧ ∀ f : Str × Str, (valV kt (pK f)).isSome = true ↔ f ∈ ts.take i) ?_ ?_ ?_ ?_
      · exact ⟨none, none, [], rfl, Same.new hdt, upd_same, Nat.le_refl _, fun f => by simp [valV_nil]⟩
      · rintro i σ H' hi ⟨o4, o5, kt, rfl, sm, _⟩
        exact .of (sm _ _ (s1 _ _ ht))
      · rintro i x σ H' p hx ⟨o4, o5, kt, rfl, sm, hkt, hkl, hkin⟩ hp
        obtain ⟨e, ta, he, rfl, hta⟩ := pair_get ((rp.same s1).same sm) hx
        have hil := (List.getElem?_eq_some_iff.mp he).1
        have hin' := inn e (List.mem_of_getElem? he)
        have sp := Same.new (o := .tup [V.int (i : Nat), V.ref ta]) hp
        have hdtp : dt ≠ p := ne_of_none hkt hp
        refine ⟨p, _, rfl, .of upd_same, rfl, _, _, rfl, _, _, rfl, rfl, ?_⟩
        have sm2 := sm.trans sp
        have hkt2 := sp _ _ hkt
        have hta2 := sp _ _ hta
        generalize upd H' p (.tup [V.int (i : Nat), V.ref ta]) = H3 at sm2 hkt2 hta2 ⊢
        refine ⟨_, rfl, .sc rfl ⟨_, rfl, ?_⟩⟩
        refine ite2 (fun h => absurd (of_decide_eq_true h) (fun z => by have z : (i : Int) = 400 := V.int.inj z; omega)) (fun _ => ?_)
        refine ⟨_, rfl, _, rfl, d, ta, kvs, e, rfl, sm2 _ _ hd, hta2, snm _ hin'.1, snm _ hin'.2, (hin _).mpr hin'.1, (hin _).mpr hin'.2, fun H4 s4 => ⟨_, rfl, ?_⟩⟩
        refine ite2 (fun h => absurd h (by decide)) (fun _ => ?_)
        have hkt4 := s4 _ _ hkt2
        have hta4 := s4 _ _ hta2
        refine ⟨_, rfl, _, rfl, .dic (DGet.t (k := pK e) hkt4 hta4) ⟨_, rfl, ?_⟩⟩
        refine ite2 (fun h => absurd ((hkin e).mp h) (not_take tnd he)) (fun _ => ?_)
        refine ⟨_, rfl, _, rfl, .dic (DPut.t (k := pK e) hkt4 hta4 (small1000 (by omega))) ⟨_, _, _, rfl, ?_, upd_same, ?_, fun f => ?_⟩⟩
        · intro b o hb
          rw [upd_ne (ne_of_none hb hdt)]
          exact s4 _ _ (sm2 _ _ hb)
        · have := length_putK kt (pK e) (V.bl true)
          omega
        · rw [valV_put, List.take_add_one, he, List.mem_append]
          by_cases q : f = e
          · subst q; simp
          · rw [if_neg (fun z => q (pK_inj z)), hkin f]
            simp [q]
      · rintro σ H' ⟨o4, o5, kt, rfl, sm, _⟩
        exact k H' (s1.trans sm)
end
end K31
namespace K31
open PySem L2
section
variable {P : Program} {w : World} {K : PySem.W.Frag} {mg : Str → Option Value} {base : Heap}
noncomputable def spWebOf : Sp := fun vs H Q _ => ∃ (a t : Addr) (ss : List Str) (ts : List (Str × Str)) (refs : List V), vs = [.ref a, .ref t] ∧ SqA H a (List.map V.str ss) ∧ ss.length ≤ 60 ∧ ss.Nodup ∧ (∀ s ∈ ss, Nm s) ∧ SqA H t refs ∧ RepAll H refs (ts.map pairD) ∧ ts.length ≤ 400 ∧ ts.Nodup ∧ (∀ e ∈ ts, e.1 ∈ ss ∧ e.2 ∈ ss) ∧ ∀ q H', Same H H' → Rep H' (.ref q) (webD ss ts) → Q (.ref q) H'
theorem scWebOf : FnScope ["things", "ties", "wrong"] ["things", "ties"] (defScope sWebOf) := ⟨rfl, rfl, rfl, by decide +kernel, rfl, by decide +kernel, by decide +kernel⟩
theorem ok_web_of {f : Addr} {fd : FuncData} (F : Fun K "web_of" "web_of" sWebOf f fd) (B : Blt mg) (care_things : Cal P w K mg base 4 "are_things" ["things"] spAre) (cfirst_wrong_tie : Cal P w K mg base 3 "first_wrong_tie" ["things", "ties"] spWrong) : FnOk P w K mg base CX0 5 f fd ["things", "ties"] spWebOf := by
  refine F.ok scWebOf (fun vs H Q E h => ?_) (fun cdv A outer s H vs Q E hr h => ?_)
  · obtain ⟨a, t, ss, ts, refs, rfl, _⟩ := h
    rfl
  · obtain ⟨a, t, ss, ts, refs, rfl, hA, hlen, snd, snm, hT, rp, few, tnd, inn, k⟩ := h
    have nd := scWebOf.nd
    have rlen := rp.len
    rw [List.length_map] at rlen
    have tupThings : ∀ H3 : Hp, Same H H3 → ∀ R : VK, (∀ q1 H', Same H3 H' → H' q1 = some (.tup (List.map V.str ss)) → R (.ref q1) H') → TupR K H3 (.ref a) R := fun H3 s3 R f => by
      rcases hA with ha | ha
      · exact .lst (.of (s3 _ _ ha)) fun l hl => f l _ (Same.new hl) upd_same
      · exact .tup (.of (s3 _ _ ha)) (f a H3 (Same.refl H3) (s3 _ _ ha))
    rcases hT with ht | ht
    · refine ⟨_, (pss_cons (ps_if (pt_not (pt_val (pe_cal care_things (hr.mono (by decide)) rfl (pa_cons (pv 0) pa_nil)))) (pss_one ps_never) pss_nil)
      (pss_cons (ps_if (pt_not (pt_val (b_isi2 K "list" "tuple" B (pa_cons (pv 1) (pa_cons (pe_tup (pa_cons (g_list B) (pa_cons (g_tuple B) pa_nil))) pa_nil))))) (pss_one ps_never) pss_nil)
      (pss_cons (ps_set (i := 2) nd rfl (Or.inl rfl) (pe_cal cfirst_wrong_tie (hr.mono (by decide)) rfl (pa_cons (pv 0) (pa_cons (pv 1) pa_nil))))
      (pss_cons (ps_if (pt_cmpR op_isNotX (pv 2) pe_non (nomark _)) (pss_one ps_never) pss_nil)
      (pss_one (ps_ret (pe_tup (pa_cons (b_tupX K B (pa_cons (pv 0) pa_nil)) (pa_cons (b_tuple K B (pa_cons (pe_comp (defScope sWebOf) ["things", "ties", "wrong"] ["tie"] [] ["tie"] rfl (pi_listK K (pv 1)) (fun _ _ _ _ _ => (pg_name (i := 0) (show (["tie"] : List Str).Nodup by decide) rfl (Or.inl rfl))) (fun _ _ _ _ _ => pts_nil) (fun _ _ _ _ _ => (pe_tup (pa_cons (pe_ix (ix_X K hr.units) (pv 0) pe_int (fun _ _ => rfl)) (pa_cons (pe_ix (ix_X K hr.units) (pv 0) pe_int (fun _ _ => rfl)) pa_nil))))) pa_nil)) pa_nil))))))))), ?_⟩
      refine ⟨_, rfl, a, ss, rfl, hA, hlen, snd, snm, fun H1 s1 => ⟨_, rfl, ?_⟩⟩
      refine ite2 (fun h => absurd h (by decide)) (fun _ => ?_)
      refine ⟨_, rfl, (by show 2 ≤ sizeLine; decide), fun tp htp => ?_⟩
      have s2 := s1.trans (Same.new (o := .tup [V.ty "list", V.ty "tuple"]) htp)
      have A2 : SqA (upd H1 tp (.tup [V.ty "list", V.ty "tuple"])) t refs := SqA.same (.inl ht) s2
      obtain ⟨tt, ty, _, _, _, t4, t5⟩ := ty_thg (K := K) A2.thg
      have kl := kit_lt t4 t5
      rw [A2.lt] at kl
      refine ⟨_, tp, tt, _, rfl, upd_same, ty, kl, _, rfl, ?_⟩
      refine ite2 (fun h => absurd h (by decide)) (fun _ => ?_)
      generalize upd H1 tp (.tup [V.ty "list", V.ty "tuple"]) = H2 at s2 A2 ⊢
      refine ⟨_, rfl, _, rfl, a, t, ss, ts, refs, rfl, hA.same s2, hlen, snm, A2, rp.same s2, few, tnd, inn, fun H3 s3 => ?_⟩
      refine ⟨_, rfl, .non ⟨_, rfl, ?_⟩⟩
      refine ite2 (fun h => absurd h (by decide)) (fun _ => ?_)
      have s3 := s2.trans s3
      have ht3 := s3 _ _ ht
      refine ⟨_, rfl, _, rfl, tupThings H3 s3 _ fun q1 H4 s4 hq1 => ?_⟩
      have ht4 := s4 _ _ ht3
      have rp4 := (rp.same s3).same s4
      refine ⟨_, rfl, t, rfl, ⟨_, .of ht4⟩, ?_⟩
      refine comp_list refs (fun D i acc σ' H' => ∃ o, σ' = [o] ∧ RepAll H' acc ((ts.take i).map pairD) ∧ Same H4 H' ∧ H4 D = none) fun D hD => ⟨?_, ?_, ?_, ?_⟩
      · exact ⟨none, rfl, .nil, Same.new hD, hD⟩
      · rintro i acc σ' H' _ ⟨o, rfl, _, sm, _⟩ _
        exact .of (sm _ _ ht4)
      · rintro i acc σ' H' x hx ⟨o, rfl, rpa, sm, hD0⟩ hacc
        obtain ⟨e, ta, he, rfl, hta⟩ := pair_get (rp4.same sm) hx
        have hil := (List.getElem?_eq_some_iff.mp he).1
        have alen := rpa.len
        simp only [List.length_map, List.length_take] at alen
        refine gYes ?_
        refine ⟨_, rfl, .tup (.of hta) rfl ⟨_, rfl, .tup (.of hta) rfl ⟨(by show 2 ≤ sizeLine; decide), fun q hq => ?_⟩⟩⟩
        have sq := Same.new (o := .tup [V.str e.1, V.str e.2]) hq
        have hDq : D ≠ q := ne_of_none hacc hq
        refine ⟨sq _ _ hacc, small1000 (by omega), _, rfl, ?_, ?_, hD0⟩
        · rw [List.take_add_one, he, List.map_append]
          refine RepAll.append (RepAll.pairBut (p := D) (sq _ _ hacc) But.upd (rpa.same sq)) (.cons (pair_rep ?_) .nil)
          rw [upd_ne (Ne.symm hDq)]; exact upd_same
        · intro b o hb
          rw [upd_ne (ne_of_none hb hD0)]
          exact sq _ _ (sm _ _ hb)
      · rintro acc σ' H5 ⟨o, rfl, rpa, s5, hD0⟩ hacc
        rw [rlen, List.take_of_length_le (Nat.le_refl _)] at rpa
        refine ⟨D, _, rfl, .of hacc, fun l2 h2 => ⟨(by show 2 ≤ sizeLine; decide), fun q hq => ?_⟩⟩
        have s6 := Same.new (o := .tup acc) h2
        have s7 := Same.new (o := .tup [V.ref q1, V.ref l2]) hq
        exact k q _ ((s3.trans s4).trans (s5.trans (s6.trans s7))) (.tup upd_same (.cons (.tup ((s5.trans (s6.trans s7)) _ _ hq1) (RepAll.of_strs ss)) (.cons (.tup (s7 _ _ upd_same) (rpa.same (s6.trans s7))) .nil)))
    · refine ⟨_, (pss_cons (ps_if (pt_not (pt_val (pe_cal care_things (hr.mono (by decide)) rfl (pa_cons (pv 0) pa_nil)))) (pss_one ps_never) pss_nil)
      (pss_cons (ps_if (pt_not (pt_val (b_isi2 K "list" "tuple" B (pa_cons (pv 1) (pa_cons (pe_tup (pa_cons (g_list B) (pa_cons (g_tuple B) pa_nil))) pa_nil))))) (pss_one ps_never) pss_nil)
      (pss_cons (ps_set (i := 2) nd rfl (Or.inl rfl) (pe_cal cfirst_wrong_tie (hr.mono (by decide)) rfl (pa_cons (pv 0) (pa_cons (pv 1) pa_nil))))
      (pss_cons (ps_if (pt_cmpR op_isNotX (pv 2) pe_non (nomark _)) (pss_one ps_never) pss_nil)
      (pss_one (ps_ret (pe_tup (pa_cons (b_tupX K B (pa_cons (pv 0) pa_nil)) (pa_cons (b_tuple K B (pa_cons (pe_comp (defScope sWebOf) ["things", "ties", "wrong"] ["tie"] [] ["tie"] rfl (pi_tupK K (pv 1)) (fun _ _ _ _ _ => (pg_name (i := 0) (show (["tie"] : List Str).Nodup by decide) rfl (Or.inl rfl))) (fun _ _ _ _ _ => pts_nil) (fun _ _ _ _ _ => (pe_tup (pa_cons (pe_ix (ix_X K hr.units) (pv 0) pe_int (fun _ _ => rfl)) (pa_cons (pe_ix (ix_X K hr.units) (pv 0) pe_int (fun _ _ => rfl)) pa_nil))))) pa_nil)) pa_nil))))))))), ?_⟩
      refine ⟨_, rfl, a, ss, rfl, hA, hlen, snd, snm, fun H1 s1 => ⟨_, rfl, ?_⟩⟩
      refine ite2 (fun h => absurd h (by decide)) (fun _ => ?_)
      refine ⟨_, rfl, (by show 2 ≤ sizeLine; decide), fun tp htp => ?_⟩
      have s2 := s1.trans (Same.new (o := .tup [V.ty "list", V.ty "tuple"]) htp)
      have A2 : SqA (upd H1 tp (.tup [V.ty "list", V.ty "tuple"])) t refs := SqA.same (.inr ht) s2
      obtain ⟨tt, ty, _, _, _, t4, t5⟩ := ty_thg (K := K) A2.thg
      have kl := kit_lt t4 t5
      rw [A2.lt] at kl
      refine ⟨_, tp, tt, _, rfl, upd_same, ty, kl, _, rfl, ?_⟩
      refine ite2 (fun h => absurd h (by decide)) (fun _ => ?_)
      generalize upd H1 tp (.tup [V.ty "list", V.ty "tuple"]) = H2 at s2 A2 ⊢
      refine ⟨_, rfl, _, rfl, a, t, ss, ts, refs, rfl, hA.same s2, hlen, snm, A2, rp.same s2, few, tnd, inn, fun H3 s3 => ?_⟩
      refine ⟨_, rfl, .non ⟨_, rfl, ?_⟩⟩
      refine ite2 (fun h => absurd h (by decide)) (fun _ => ?_)
      have s3 := s2.trans s3
      have ht3 := s3 _ _ ht
      refine ⟨_, rfl, _, rfl, tupThings H3 s3 _ fun q1 H4 s4 hq1 => ?_⟩
      have ht4 := s4 _ _ ht3
      have rp4 := (rp.same s3).same s4
      refine ⟨_, rfl, t, rfl, ⟨_, .of ht4⟩, ?_⟩
      refine comp_tup refs (fun D i acc σ' H' => ∃ o, σ' = [o] ∧ RepAll H' acc ((ts.take i).map pairD) ∧ Same H4 H' ∧ H4 D = none) fun D hD => ⟨?_, ?_, ?_, ?_⟩
      · exact ⟨none, rfl, .nil, Same.new hD, hD⟩
      · rintro i acc σ' H' _ ⟨o, rfl, _, sm, _⟩ _
        exact .of (sm _ _ ht4)
      · rintro i acc σ' H' x hx ⟨o, rfl, rpa, sm, hD0⟩ hacc
        obtain ⟨e, ta, he, rfl, hta⟩ := pair_get (rp4.same sm) hx
        have hil := (List.getElem?_eq_some_iff.mp he).1
        have alen := rpa.len
        simp only [List.length_map, List.length_take] at alen
        refine gYes ?_
        refine ⟨_, rfl, .tup (.of hta) rfl ⟨_, rfl, .tup (.of hta) rfl ⟨(by show 2 ≤ sizeLine; decide), fun q hq => ?_⟩⟩⟩
        have sq := Same.new (o := .tup [V.str e.1, V.str e.2]) hq
        have hDq : D ≠ q := ne_of_none hacc hq
        refine ⟨sq _ _ hacc, small1000 (by omega), _, rfl, ?_, ?_, hD0⟩
        · rw [List.take_add_one, he, List.map_append]
          refine RepAll.append (RepAll.pairBut (p := D) (sq _ _ hacc) But.upd (rpa.same sq)) (.cons (pair_rep ?_) .nil)
          rw [upd_ne (Ne.symm hDq)]; exact upd_same
        · intro b o hb
          rw [upd_ne (ne_of_none hb hD0)]
          exact sq _ _ (sm _ _ hb)
      · rintro acc σ' H5 ⟨o, rfl, rpa, s5, hD0⟩ hacc
        rw [rlen, List.take_of_length_le (Nat.le_refl _)] at rpa
        refine ⟨D, _, rfl, .of hacc, fun l2 h2 => ⟨(by show 2 ≤ sizeLine; decide), fun q hq => ?_⟩⟩
        have s6 := Same.new (o := .tup acc) h2
        have s7 := Same.new (o := .tup [V.ref q1, V.ref l2]) hq
        exact k q _ ((s3.trans s4).trans (s5.trans (s6.trans s7))) (.tup upd_same (.cons (.tup ((s5.trans (s6.trans s7)) _ _ hq1) (RepAll.of_strs ss)) (.cons (.tup (s7 _ _ upd_same) (rpa.same (s6.trans s7))) .nil)))
end
end K31
namespace K31
open PySem L2
section
variable {P : Program} {w : World} {K : PySem.W.Frag} {mg : Str → Option Value} {base : Heap}
theorem eqv_pair (e f : Str × Str) : PyData.eqv (pairD e) (pairD f) = decide (e = f) := by
  show (PyData.eqv (.str e.1) (.str f.1) && (PyData.eqv (.str e.2) (.str f.2) && true)) = _
  rw [eqv_str, eqv_str, Bool.and_true, Bool.eq_iff_iff, Bool.and_eq_true, decide_eq_true_iff, decide_eq_true_iff, decide_eq_true_iff]
  exact ⟨fun ⟨a, b⟩ => Prod.ext a b, fun h => by rw [h]; exact ⟨rfl, rfl⟩⟩
theorem any_pair (ts : List (Str × Str)) (e : Str × Str) : ((ts.map pairD).any fun d => PyData.eqv d (pairD e)) = decide (e ∈ ts) := by
  rw [List.any_map, Bool.eq_iff_iff, List.any_eq_true, decide_eq_true_iff]
  constructor
  · rintro ⟨x, hx, h⟩
    have h : PyData.eqv (pairD x) (pairD e) = true := h
    rw [eqv_pair] at h
    rw [← of_decide_eq_true h]; exact hx
  · intro h
    refine ⟨e, h, ?_⟩
    show PyData.eqv (pairD e) (pairD e) = true
    rw [eqv_pair]; exact decide_eq_true rfl
theorem canLay_pairs : ∀ ts : List (Str × Str), (∀ e ∈ ts, Nm e.1 ∧ Nm e.2) → PyData.canLayAll0 (ts.map pairD) = true
  | [], _ => rfl
  | e :: ts, h => by
    show (PyData.canLay0 (pairD e) && PyData.canLayAll0 (ts.map pairD)) = true
    rw [canLay_pairs ts fun x hx => h x (List.mem_cons_of_mem _ hx)]
    have := h e (by simp)
    show ((PyData.canLay0 (.str e.1) && (PyData.canLay0 (.str e.2) && true)) && true) = true
    rw [canLay_nm this.1, canLay_nm this.2]; rfl
theorem canLay_pr {a b : Str} (ha : Nm a) (hb : Nm b) : (pairD (a, b)).canLay0 = true := by
  have h := canLay_pairs [(a, b)] (fun e he => by rw [List.mem_singleton.mp he]; exact ⟨ha, hb⟩)
  have h : ((pairD (a, b)).canLay0 && true) = true := h
  rwa [Bool.and_true] at h
noncomputable def spTurned (K : PySem.W.Frag) : Sp := fun vs H Q _ => ∃ (p a n : Addr) (xs : List Str), vs = [.ref p, .ref n] ∧ Pen K H p a ∧ H n = some (.lst (List.map V.str xs)) ∧ n ≠ p ∧ xs.length ≤ 60 ∧
  ∀ l ys H', ys.Perm xs → H' l = some (.lst (List.map V.str ys)) → H l = none → l ≠ p → PenV H' p a → But p H H' → Q (.ref l) H'
theorem scTurned : FnScope ["_law_pen_here", "_law_some", "_law_found", "_law_one"] ["_law_pen_here", "_law_some"] (defScope sTurned) := ⟨rfl, rfl, rfl, by decide +kernel, rfl, by decide +kernel, by decide +kernel⟩
theorem perm_insS (xs : List Str) (j : Nat) (i : Str) : (xs.take j ++ i :: xs.drop j).Perm (i :: xs) := by
  have := (List.perm_middle (a := i) (l₁ := xs.take j) (l₂ := xs.drop j))
  rwa [List.take_append_drop] at this
theorem str_get' {ss : List Str} {i : Nat} {x : V} (h : (List.map V.str ss)[i]? = some x) : ∃ s, ss[i]? = some s ∧ V.str s = x := by
  rw [List.getElem?_map] at h
  cases q : ss[i]? with
  | none => rw [q] at h; cases h
  | some e => rw [q] at h; exact ⟨e, rfl, Option.some.inj h⟩
theorem ok_turned {f : Addr} {fd : FuncData} (F : Fun K "_law_turned" "_law_turned" sTurned f fd) (B : Blt mg) (c_law_draw : Cal P w K mg base 1 "_law_draw" ["_law_pen_here", "_law_most"] (spDraw K)) : FnOk P w K mg base CX0 2 f fd ["_law_pen_here", "_law_some"] (spTurned K) := by
  refine F.ok scTurned (fun vs H Q E h => ?_) (fun cdv A outer s H vs Q E hr h => ?_)
  · obtain ⟨p, a, n, xs, rfl, _⟩ := h
    rfl
  · obtain ⟨p, a, n, xs, rfl, hP, hn, hnp, hl60, k⟩ := h
    have nd := scTurned.nd
    have v0 := hP.2
    refine ⟨_, (pss_cons (ps_set (i := 2) nd rfl (Or.inl rfl) (pe_lst pa_nil))
      (pss_cons (ps_for PassesOwn.never rfl (pi_listK K (pv 1)) (pg_name (i := 3) nd rfl (Or.inl rfl)) (pss_one (ps_expr (m_insert K (pv 2) (pa_cons (pe_cal c_law_draw (hr.mono (by decide)) rfl (pa_cons (pv 0) (pa_cons (pe_op op_addX (b_len K B (pa_cons (pv 2) pa_nil)) pe_int) pa_nil))) (pa_cons (pv 3) pa_nil))))))
      (pss_one (ps_ret (pv 2))))), ?_⟩
    refine ⟨(by show 0 ≤ sizeLine; decide), fun lf hlf => ?_⟩
    have hpf := v0.ne hlf
    have hnf : n ≠ lf := ne_of_none hn hlf
    refine ⟨_, rfl, n, rfl, ⟨_, .of (by rw [upd_ne hnf]; exact hn)⟩, ?_⟩
    refine for_list (xs := List.map V.str xs) (fun i σ H' => ∃ o3 ys, σ = [some (.ref p), some (.ref n), some (.ref lf), o3] ∧ H' lf = some (.lst (List.map V.str ys)) ∧ H' n = some (.lst (List.map V.str xs)) ∧ ys.Perm (xs.take i) ∧ PenV H' p a ∧ But p H H') ?_ ?_ ?_ ?_
    · exact ⟨none, [], rfl, upd_same, by rw [upd_ne hnf]; exact hn, List.Perm.refl _, v0.upd hpf, (But.refl p H).at hlf⟩
    · rintro i σ H' hi ⟨o3, ys, rfl, _, h1, _⟩
      exact .of h1
    · rintro i x σ H1 hx ⟨o3, ys, rfl, hf1, hn1, hpm, v1, b1⟩
      obtain ⟨z, hz, rfl⟩ := str_get' hx
      have hil := (List.getElem?_eq_some_iff.mp hz).1
      have hyl := hpm.length_eq
      rw [List.length_take] at hyl
      refine ⟨_, rfl, .inl ⟨rfl, _, .of hf1⟩, _, rfl, _, rfl, _, _, rfl, Or.inl ⟨_, .of hf1, rfl⟩, .int ⟨p, a, _, rfl, hP.but b1 v1, by omega, by rw [List.length_map]; omega, fun r H2 h0 h1 v2 e2 => ?_⟩⟩
      obtain ⟨j, rfl⟩ := Int.eq_ofNat_of_zero_le h0
      rw [List.length_map] at h1
      have hf2 : H2 lf = some (.lst (List.map V.str ys)) := (e2 lf (Ne.symm hpf)).trans hf1
      have hn2 : H2 n = some (.lst (List.map V.str xs)) := (e2 n hnp).trans hn1
      refine ⟨_, rfl, lf, _, _, j, _, rfl, rfl, rfl, hf2, by rw [List.length_map]; omega, by rw [List.length_map]; exact small1000 (by omega), ?_⟩
      refine ⟨_, ys.take j ++ z :: ys.drop j, rfl, ?_, ?_, ?_, v2.upd hpf, (b1.trans (But.of_eq e2)).at hlf⟩
      · rw [upd_same]; simp [List.map_take, List.map_drop]
      · rw [upd_ne hnf]; exact hn2
      · rw [List.take_add_one, hz]
        exact (perm_insS ys j z).trans ((List.Perm.cons z hpm).trans (List.perm_append_singleton z (xs.take i)).symm)
    · rintro σ H1 ⟨o3, ys, rfl, hf1, hn1, hpm, v1, b1⟩
      rw [List.length_map, List.take_of_length_le (Nat.le_refl _)] at hpm
      exact ⟨_, rfl, k lf ys H1 hpm hf1 hlf (Ne.symm hpf) v1 b1⟩
end
end K31
namespace K31
open PySem L2
section
variable {P : Program} {w : World} {K : PySem.W.Frag} {mg : Str → Option Value} {base : Heap}
noncomputable def Fwd (os : List Str) (ts : List (Str × Str)) : Prop := ∀ e ∈ ts, ∃ i j : Nat, i < j ∧ os[i]? = some e.1 ∧ os[j]? = some e.2
structure WebO (H : Hp) (wq : V) (ss : List Str) (ts : List (Str × Str)) (lo : Addr) (os : List Str) : Prop where
  web : Web H wq ss ts
  tnd : ts.Nodup
  ord : H lo = some (.lst (List.map V.str os))
  pm : os.Perm ss
noncomputable def spLWeb (K : PySem.W.Frag) : Sp := fun vs H Q _ => ∃ (p a : Addr), vs = [.ref p] ∧ Pen K H p a ∧
  ∀ q wq lo ss ts os H', H' q = some (.tup [.ref wq, .ref lo]) → WebO H' (.ref wq) ss ts lo os → Fwd os ts → ts.length ≤ 120 → lo ≠ p → PenV H' p a → But p H H' → Q (.ref q) H'
theorem scLWeb : FnScope ["_law_pen_here", "_law_many", "_law_names_here", "_law_order", "_law_ties", "_law_k", "_law_here", "_law_there", "_law_pair_here"] ["_law_pen_here"] (defScope sWeb) := ⟨rfl, rfl, rfl, by decide +kernel, rfl, by decide +kernel, by decide +kernel⟩
theorem ok_lweb {f : Addr} {fd : FuncData} (F : Fun K "_law_web" "_law_web" sWeb f fd) (B : Blt mg) (c_law_draw : Cal P w K mg base 1 "_law_draw" ["_law_pen_here", "_law_most"] (spDraw K)) (c_law_names : Cal P w K mg base 2 "_law_names" ["_law_pen_here", "_law_many"] (spNames K)) (c_law_turned : Cal P w K mg base 2 "_law_turned" ["_law_pen_here", "_law_some"] (spTurned K)) (cweb_of : Cal P w K mg base 5 "web_of" ["things", "ties"] spWebOf) : FnOk P w K mg base CX0 6 f fd ["_law_pen_here"] (spLWeb K) := by
  refine F.ok scLWeb (fun vs H Q E h => ?_) (fun cdv A outer s H vs Q E hr h => ?_)
  · obtain ⟨p, a, rfl, _⟩ := h
    rfl
  · obtain ⟨p, a, rfl, hP, k⟩ := h
    have nd := scLWeb.nd
    refine ⟨_, (pss_cons (ps_set (i := 1) nd rfl (Or.inl rfl) (pe_ix (ix_X K hr.units) (pe_lst (pa_cons (pe_op op_addX pe_int (pe_cal c_law_draw (hr.mono (by decide)) rfl (pa_cons (pv 0) (pa_cons pe_int pa_nil)))) (pa_cons (pe_op op_mod (pe_cal c_law_draw (hr.mono (by decide)) rfl (pa_cons (pv 0) (pa_cons pe_int pa_nil))) pe_int) pa_nil))) (b_int B (pa_cons (pe_cmpR (op_eqX hr.units) (pe_cal c_law_draw (hr.mono (by decide)) rfl (pa_cons (pv 0) (pa_cons pe_int pa_nil))) pe_int (nomark _)) pa_nil)) (fun _ _ => rfl)))
      (pss_cons (ps_set (i := 2) nd rfl (Or.inl rfl) (pe_cal c_law_names (hr.mono (by decide)) rfl (pa_cons (pv 0) (pa_cons (pv 1) pa_nil))))
      (pss_cons (ps_set (i := 3) nd rfl (Or.inl rfl) (pe_cal c_law_turned (hr.mono (by decide)) rfl (pa_cons (pv 0) (pa_cons (pv 2) pa_nil))))
      (pss_cons (ps_set (i := 4) nd rfl (Or.inl rfl) (pe_lst pa_nil))
      (pss_cons (ps_for PassesOwn.never rfl (pi_range1 rfl B.range (pa_cons (pe_cal c_law_draw (hr.mono (by decide)) rfl (pa_cons (pv 0) (pa_cons (pe_op op_addX (pe_op op_mul pe_int (pv 1)) pe_int) pa_nil))) pa_nil)) (pg_name (i := 5) nd rfl (Or.inl rfl)) (pss_cons (ps_set (i := 6) nd rfl (Or.inl rfl) (pe_cal c_law_draw (hr.mono (by decide)) rfl (pa_cons (pv 0) (pa_cons (pv 1) pa_nil))))
      (pss_cons (ps_set (i := 7) nd rfl (Or.inl rfl) (pe_cal c_law_draw (hr.mono (by decide)) rfl (pa_cons (pv 0) (pa_cons (pv 1) pa_nil))))
      (pss_cons (ps_if (pt_cmpR (op_eqX hr.units) (pe_cal c_law_draw (hr.mono (by decide)) rfl (pa_cons (pv 0) (pa_cons pe_int pa_nil))) pe_int (nomark _)) (pss_one (ps_set (i := 7) nd rfl (Or.inl rfl) (b_min rfl B (pa_cons (pe_op op_sub (pv 1) pe_int) (pa_cons (pe_op op_addX (pe_op op_addX (pv 6) pe_int) (pe_cal c_law_draw (hr.mono (by decide)) rfl (pa_cons (pv 0) (pa_cons pe_int pa_nil)))) pa_nil))))) pss_nil)
      (pss_cons (ps_set (i := 8) nd rfl (Or.inl rfl) (pe_tup (pa_cons (pe_ix (ix_X K hr.units) (pv 3) (b_min rfl B (pa_cons (pv 6) (pa_cons (pv 7) pa_nil))) (fun _ _ => rfl)) (pa_cons (pe_ix (ix_X K hr.units) (pv 3) (b_max rfl B (pa_cons (pv 6) (pa_cons (pv 7) pa_nil))) (fun _ _ => rfl)) pa_nil))))
      (pss_one (ps_if (PW.pt (pw_and (pt_cmpR (op_neX hr.units) (pv 6) (pv 7) (nomark _)) (pw_and1 (pt_cmpR (op_notInX K hr.units) (pv 8) (pv 4) (by with_unfolding_all rfl))))) (pss_one (ps_expr (m_insert K (pv 4) (pa_cons (pe_cal c_law_draw (hr.mono (by decide)) rfl (pa_cons (pv 0) (pa_cons (pe_op op_addX (b_len K B (pa_cons (pv 4) pa_nil)) pe_int) pa_nil))) (pa_cons (pv 8) pa_nil))))) pss_nil)))))))
      (pss_one (ps_ret (pe_tup (pa_cons (pe_cal cweb_of (hr.mono (by decide)) rfl (pa_cons (pe_cal c_law_turned (hr.mono (by decide)) rfl (pa_cons (pv 0) (pa_cons (pv 2) pa_nil))) (pa_cons (pv 4) pa_nil))) (pa_cons (pv 3) pa_nil)))))))))), ?_⟩
    refine ⟨_, rfl, p, a, 12, rfl, hP, by decide, by decide, fun r1 H1 h10 h11 v1 e1 => .int ?_⟩
    have b1 := But.of_eq e1
    refine ⟨_, rfl, p, a, 63, rfl, hP.but b1 v1, by decide, by decide, fun r2 H2 h20 h21 v2 e2 => ⟨_, _, rfl, rfl, (by show (0 : Int) < 61; decide), ?_⟩⟩
    have b2 := b1.trans (But.of_eq e2)
    refine ⟨(by show 2 ≤ sizeLine; decide), fun l1 hl1 => ?_⟩
    have hp1 := v2.ne hl1
    have b2' := b2.at (o := .lst [V.int (1 + r1), V.int (r2 % 61)]) (b2.free (Ne.symm hp1) hl1)
    refine ⟨_, rfl, p, a, 8, rfl, hP.but b2' (v2.upd hp1), by decide, by decide, fun r3 H3 h30 h31 v3 e3 => .sc rfl ?_⟩
    have hl13 : H3 l1 = some (.lst [V.int (1 + r1), V.int (r2 % 61)]) := (e3 l1 (Ne.symm hp1)).trans upd_same
    have b3 := b2'.trans (But.of_eq e3)
    obtain ⟨m, em, hm⟩ : ∃ m : Nat, atI [V.int (1 + r1), V.int (r2 % 61)] (if decide (V.int r3 = V.int 0) = true then 1 else 0) = some (.int (m : Int)) ∧ m ≤ 60 := by
      by_cases q : decide (V.int r3 = V.int 0) = true
      · rw [if_pos q]; exact ⟨(r2 % 61).toNat, by show some (V.int (r2 % 61)) = _; rw [Int.toNat_of_nonneg (by omega)], by omega⟩
      · rw [if_neg q]; exact ⟨(1 + r1).toNat, by show some (V.int (1 + r1)) = _; rw [Int.toNat_of_nonneg (by omega)], by omega⟩
    refine ⟨_, rfl, .bl (.lst (.of hl13) em ?_)⟩
    refine ⟨_, rfl, _, rfl, p, a, m, rfl, hP.but b3 v3, hm, fun ln ss H4 hl4 snd snm hln4 hln0 hnp4 v4 b4 => ?_⟩
    have b4 := b3.trans b4
    refine ⟨_, rfl, _, rfl, p, a, ln, ss, rfl, hP.but b4 v4, hln4, hnp4, by omega, fun lo os H5 hpm hlo5 hlo0 hlop v5 b5 => ?_⟩
    have hln5 := b5 ln _ hnp4 hln4
    have b5 := b4.trans b5
    have osl : os.length = m := hpm.length_eq.trans hl4
    refine ⟨(by show 0 ≤ sizeLine; decide), fun lf hlf => ?_⟩
    have hpf := v5.ne hlf
    have nof : lo ≠ lf := ne_of_none hlo5 hlf
    have nnf : ln ≠ lf := ne_of_none hln5 hlf
    have hf0 := b5.free (Ne.symm hpf) hlf
    have b5' := b5.at (o := .lst []) hf0
    have v5' := v5.upd (o := .lst []) hpf
    have hf5 : upd H5 lf (.lst []) lf = some (.lst []) := upd_same
    have hlo5' : upd H5 lf (.lst []) lo = some (.lst (List.map V.str os)) := by rw [upd_ne nof]; exact hlo5
    have hln5' : upd H5 lf (.lst []) ln = some (.lst (List.map V.str ss)) := by rw [upd_ne nnf]; exact hln5
    generalize upd H5 lf (.lst []) = H6 at b5' v5' hf5 hlo5' hln5' ⊢
    refine ⟨_, rfl, _, rfl, _, _, rfl, rfl, .inl ⟨by decide, by decide⟩, .int ⟨p, a, _, rfl, hP.but b5' v5', by omega, by omega, fun r7 H7 h70 h71 v7 e7 => ?_⟩⟩
    obtain ⟨c, rfl⟩ := Int.eq_ofNat_of_zero_le h70
    have b7 := b5'.trans (But.of_eq e7)
    have hf7 := (e7 lf (Ne.symm hpf)).trans hf5
    have hlo7 := (e7 lo hlop).trans hlo5'
    have hln7 := (e7 ln hnp4).trans hln5'
    refine ⟨_, rfl, by omega, by omega, ?_⟩
    refine for_range (fun i σ H' => ∃ o5 o6 o7 o8 refs ts, σ = [some (.ref p), some (.int (m : Int)), some (.ref ln), some (.ref lo), some (.ref lf), o5, o6, o7, o8] ∧ H' ln = some (.lst (List.map V.str ss)) ∧ H' lo = some (.lst (List.map V.str os)) ∧ H' lf = some (.lst refs) ∧ RepAll H' refs (ts.map pairD) ∧ ts.Nodup ∧ Fwd os ts ∧ ts.length ≤ i ∧ PenV H' p a ∧ But p H H')
      ⟨none, none, none, none, [], [], rfl, hln7, hlo7, hf7, .nil, List.nodup_nil, (fun e he => by cases he), Nat.le_refl _, v7, b7⟩ ?_ ?_
    · rintro i σ H8 hi ⟨o5, o6, o7, o8, refs, ts, rfl, hln8, hlo8, hf8, rp8, tnd8, fw8, tl8, v8, b8⟩
      have hi : i < c := by simpa using hi
      have hm0 : 0 < m := by
        by_cases q : m = 0
        · subst q; omega
        · omega
      refine ⟨_, rfl, _, rfl, p, a, _, rfl, hP.but b8 v8, by omega, by omega, fun r1 H9 h10 h11 v9 e9 => ?_⟩
      have b9 := b8.trans (But.of_eq e9)
      refine ⟨_, rfl, _, rfl, p, a, _, rfl, hP.but b9 v9, by omega, by omega, fun r2 HA h20 h21 vA eA => ?_⟩
      obtain ⟨x, rfl⟩ := Int.eq_ofNat_of_zero_le h10
      obtain ⟨y0, rfl⟩ := Int.eq_ofNat_of_zero_le h20
      have hx : x < m := by omega
      have hy0 : y0 < m := by omega
      clear h10 h11 h20 h21
      have bA := b9.trans (But.of_eq eA)
      refine ⟨_, rfl, p, a, 2, rfl, hP.but bA vA, by decide, by decide, fun r3 HB _ _ vB eB => .sc rfl ⟨_, rfl, ?_⟩⟩
      have bB := bA.trans (But.of_eq eB)
      obtain ⟨_, hpv⟩ := penAt v8
      have bb := ((But.of_eq e9).trans (But.of_eq eA)).trans (But.of_eq eB)
      apply once2 (C := fun y HC => y < m ∧ PenV HC p a ∧ But p H HC ∧ But p H8 HC)
      · intro tail
        refine ite2 (fun _ => ?a) (fun _ => ?b)
        case a =>
          refine ⟨_, rfl, _, _, rfl, rfl, _, rfl, .int ⟨_, rfl, p, a, 3, rfl, hP.but bB vB, by decide, by decide, fun r4 HC h40 h41 vC eC => .int ⟨_, _, rfl, ?_⟩⟩⟩
          obtain ⟨y, ey, hy⟩ : ∃ y : Nat, (if (x : Int) + 1 + r4 < (m : Int) - 1 then (x : Int) + 1 + r4 else (m : Int) - 1) = (y : Int) ∧ y < m := by
            split
            · exact ⟨((x : Int) + 1 + r4).toNat, by omega, by omega⟩
            · exact ⟨((m : Int) - 1).toNat, by omega, by omega⟩
          dsimp only
          rw [ey]
          exact tail y HC ⟨hy, vC, bB.trans (But.of_eq eC), bb.trans (But.of_eq eC)⟩
        case b => exact tail y0 HB ⟨hy0, vB, bB, bb⟩
      · intro y HC hC
        obtain ⟨hy, vC, bC, bbC⟩ := hC
        have hln9 := bbC ln _ hnp4 hln8
        have hlo9 := bbC lo _ hlop hlo8
        have hf9 := bbC lf _ (Ne.symm hpf) hf8
        have rp9 := RepAll.pairBut hpv bbC rp8
        have em : (if (y : Int) < (x : Int) then (y : Int) else (x : Int)) = ((min x y : Nat) : Int) := by split <;> omega
        have eM : (if (y : Int) > (x : Int) then (y : Int) else (x : Int)) = ((max x y : Nat) : Int) := by split <;> omega
        have hmn : min x y < os.length := by omega
        have hMx : max x y < os.length := by omega
        refine ⟨_, rfl, _, rfl, _, rfl, _, _, rfl, ?_⟩
        try dsimp only
        rw [em]
        refine .lst (.of hlo9) (str_at hmn) ⟨_, rfl, _, rfl, _, rfl, _, _, rfl, ?_⟩
        try dsimp only
        rw [eM]
        refine .lst (.of hlo9) (str_at hMx) ⟨(by show 2 ≤ sizeLine; decide), fun tq htq => ?_⟩
        have gm : os[min x y]? = some (os.getD (min x y) "") := by rw [List.getD_eq_getElem?_getD, List.getElem?_eq_getElem hmn]; rfl
        have gM : os[max x y]? = some (os.getD (max x y) "") := by rw [List.getD_eq_getElem?_getD, List.getElem?_eq_getElem hMx]; rfl
        generalize os.getD (min x y) "" = n1 at gm ⊢
        generalize os.getD (max x y) "" = n2 at gM ⊢
        have sq := Same.new (o := .tup [V.str n1, V.str n2]) htq
        have hpq := vC.ne htq
        have hlnD := sq _ _ hln9
        have hloD := sq _ _ hlo9
        have hfD := sq _ _ hf9
        have rpD := rp9.same sq
        have vD := vC.upd (o := .tup [V.str n1, V.str n2]) hpq
        have bD := bC.at (o := .tup [V.str n1, V.str n2]) (bC.free (Ne.symm hpq) htq)
        have hfq : lf ≠ tq := ne_of_none hf9 htq
        have onm : ∀ s ∈ os, Nm s := fun s hs => snm s (hpm.mem_iff.mp hs)
        have tnm : ∀ e ∈ ts, Nm e.1 ∧ Nm e.2 := fun e he => by
          obtain ⟨x, y, _, hx, hy⟩ := fw8 e he
          exact ⟨onm _ (List.mem_of_getElem? hx), onm _ (List.mem_of_getElem? hy)⟩
        have nn : Nm n1 ∧ Nm n2 := ⟨onm _ (List.mem_of_getElem? gm), onm _ (List.mem_of_getElem? gM)⟩
        have rl := rpD.len
        rw [List.length_map] at rl
        refine ⟨_, rfl, _, rfl, .sc rfl ⟨_, rfl, ite2 (fun hne => ?_) (fun _ => iteF ⟨_, _, _, _, refs, ts, rfl, hlnD, hloD, hfD, rpD, tnd8, fw8, by omega, vD, bD⟩)⟩⟩
        have hne : (!decide (V.int (x : Int) = V.int (y : Int))) = true := hne
        have hxy : x ≠ y := fun z => by rw [z] at hne; simp at hne
        refine ⟨_, rfl, _, rfl, .tr hfD rpD (pair_rep (s := n1) (t := n2) upd_same) (canLay_pairs ts tnm) (canLay_pr nn.1 nn.2) (by show 1 ≤ 16; decide) ⟨_, rfl, ?_⟩⟩
        rw [any_pair]
        refine ite2 (fun hnin => ?_) (fun _ => ⟨_, _, _, _, refs, ts, rfl, hlnD, hloD, hfD, rpD, tnd8, fw8, by omega, vD, bD⟩)
        have hnin : (n1, n2) ∉ ts := by simpa using hnin
        refine ⟨_, rfl, .inl ⟨rfl, _, .of hfD⟩, _, rfl, _, rfl, _, _, rfl, Or.inl ⟨_, .of hfD, rfl⟩, .int ⟨p, a, _, rfl, hP.but bD vD, by omega, by omega, fun r5 HE h50 h51 vE eE => ?_⟩⟩
        obtain ⟨j, rfl⟩ := Int.eq_ofNat_of_zero_le h50
        have hfE := (eE lf (Ne.symm hpf)).trans hfD
        have hlnE := (eE ln hnp4).trans hlnD
        have hloE := (eE lo hlop).trans hloD
        obtain ⟨_, hpD⟩ := penAt vD
        have rpE := RepAll.pairBut hpD (But.of_eq eE) rpD
        have htE : HE tq = some (.tup [V.str n1, V.str n2]) := (eE tq (Ne.symm hpq)).trans upd_same
        refine ⟨_, rfl, lf, _, _, j, _, rfl, rfl, rfl, hfE, by omega, by exact small1000 (by omega), ?_⟩
        refine ⟨_, _, _, _, refs.take j ++ (V.ref tq) :: refs.drop j, ts.take j ++ (n1, n2) :: ts.drop j, rfl, ?_, ?_, upd_same, ?_, ?_, ?_, ?_, vE.upd hpf, (bD.trans (But.of_eq eE)).at hf0⟩
        · rw [upd_ne nnf]; exact hlnE
        · rw [upd_ne nof]; exact hloE
        · rw [List.map_append, List.map_cons, List.map_take, List.map_drop]
          have rpF := RepAll.pairBut (p := lf) hfE (But.upd (o := .lst (refs.take j ++ V.ref tq :: refs.drop j))) rpE
          refine RepAll.append (rpF.take j) (.cons (pair_rep (s := n1) (t := n2) ?_) (rpF.drop j))
          rw [upd_ne (Ne.symm hfq)]; exact htE
        · exact (List.perm_middle.trans (by rw [List.take_append_drop])).nodup_iff.mpr (List.nodup_cons.mpr ⟨hnin, tnd8⟩)
        · intro e he
          have he : e ∈ (n1, n2) :: ts := by
            have := (List.perm_middle (a := (n1, n2)) (l₁ := ts.take j) (l₂ := ts.drop j)).mem_iff.mp he
            rwa [List.take_append_drop] at this
          rcases List.mem_cons.mp he with rfl | g
          · exact ⟨min x y, max x y, by omega, gm, gM⟩
          · exact fw8 e g
        · have := (List.perm_middle (a := (n1, n2)) (l₁ := ts.take j) (l₂ := ts.drop j)).length_eq
          rw [List.take_append_drop, List.length_cons] at this
          omega
    · rintro σ H8 ⟨o5, o6, o7, o8, refs, ts, rfl, hln8, hlo8, hf8, rp8, tnd8, fw8, tl8, v8, b8⟩
      have tl8 : ts.length ≤ c := by simpa using tl8
      obtain ⟨_, hp8⟩ := penAt v8
      refine ⟨_, rfl, _, rfl, p, a, ln, ss, rfl, hP.but b8 v8, hln8, hnp4, by omega, fun l9 ys H9 hpm9 hl9 hl90 hl9p v9 b9 => ?_⟩
      have hlo9 := b9 lo _ hlop hlo8
      have hf9 := b9 lf _ (Ne.symm hpf) hf8
      have rp9 := RepAll.pairBut hp8 b9 rp8
      have b9 := b8.trans b9
      have inn : ∀ e ∈ ts, e.1 ∈ ys ∧ e.2 ∈ ys := fun e he => by
        obtain ⟨x, y, _, hx, hy⟩ := fw8 e he
        exact ⟨hpm9.mem_iff.mpr (hpm.mem_iff.mp (List.mem_of_getElem? hx)), hpm9.mem_iff.mpr (hpm.mem_iff.mp (List.mem_of_getElem? hy))⟩
      have ynd : ys.Nodup := hpm9.nodup_iff.mpr snd
      have ynm : ∀ s ∈ ys, Nm s := fun s hs => snm s (hpm9.mem_iff.mp hs)
      have yl : ys.length ≤ 60 := by rw [hpm9.length_eq, hl4]; exact hm
      refine ⟨_, rfl, l9, lf, ys, ts, refs, rfl, .inl hl9, yl, ynd, ynm, .inl hf9, rp9, by omega, tnd8, inn, fun wq HA sA rwA => ?_⟩
      refine ⟨_, rfl, (by show 2 ≤ sizeLine; decide), fun q hq => ?_⟩
      have sq := Same.new (o := .tup [V.ref wq, V.ref lo]) hq
      have vA : PenV HA p a := penSame sA v9
      have hpq := vA.ne hq
      have bA := b9.trans (But.of_same sA)
      exact k q wq lo ys ts os _ upd_same ⟨⟨rwA.same sq, ynd, ynm, yl, by omega, inn⟩, tnd8, sq _ _ (sA _ _ hlo9), hpm.trans hpm9.symm⟩ fw8 (by omega) hlop (vA.upd hpq) (bA.at (bA.free (Ne.symm hpq) hq))
end
end K31
namespace K31
open PySem L2
section
variable {P : Program} {w : World} {K : PySem.W.Frag} {mg : Str → Option Value} {base : Heap}
theorem in_strs (z : Str) (ws : List Str) : inV (V.str z) (List.map V.str ws) = decide (z ∈ ws) := by
  unfold inV
  rw [List.any_map, Bool.eq_iff_iff, List.any_eq_true, decide_eq_true_iff]
  constructor
  · rintro ⟨y, hy, h⟩
    have h : (y == z) = true := h
    rw [beq_iff_eq] at h
    rw [← h]; exact hy
  · intro h
    exact ⟨z, h, by show (z == z) = true; simp⟩
theorem flat_strs (ws : List Str) : (List.map V.str ws).all flatV = true := by
  rw [List.all_eq_true]
  intro v hv
  obtain ⟨u, _, rfl⟩ := List.mem_map.mp hv
  rfl
theorem scReached : FnScope ["_law_web_here", "_law_one", "_law_found", "_law_at", "_law_first", "_law_other"] ["_law_web_here", "_law_one"] (defScope sReached) := ⟨rfl, rfl, rfl, by decide +kernel, rfl, by decide +kernel, by decide +kernel⟩
noncomputable def spReach : Sp := fun vs H Q _ => ∃ (wq a b : Addr) (refs : List V) (ss : List Str) (ts : List (Str × Str)) (one : Str), vs = [.ref wq, .str one] ∧ H wq = some (.tup [.ref a, .ref b]) ∧ H b = some (.tup refs) ∧ RepAll H refs (ts.map pairD) ∧ (∀ e ∈ ts, e.1 ∈ ss ∧ e.2 ∈ ss) ∧ one ∈ ss ∧ ss.length ≤ 60 ∧
  ∀ l (seen : List Str) H', Same H H' → H l = none → H' l = some (.lst (List.map V.str seen)) → (∀ t, t ∈ seen ↔ MG.Rch (Tie ts) one t) → seen.length ≤ 60 → Q (.ref l) H'
theorem ok_reach {f : Addr} {fd : FuncData} (F : Fun K "_law_reached" "_law_reached" sReached f fd) (B : Blt mg) : FnOk P w K mg base CX0 1 f fd ["_law_web_here", "_law_one"] spReach := by
  refine F.ok scReached (fun vs H Q E h => ?_) (fun cdv A outer s H vs Q E hr h => ?_)
  · obtain ⟨wq, a, b, refs, ss, ts, one, rfl, _⟩ := h
    rfl
  · obtain ⟨wq, wa, b, refs, ss, ts, one, rfl, hwq, hb, rp, hev, hone, hn, k⟩ := h
    have nd := scReached.nd
    refine ⟨_, (pss_cons (ps_set (i := 2) nd rfl (Or.inl rfl) (pe_lst (pa_cons (pv 1) pa_nil)))
      (pss_cons (ps_set (i := 3) nd rfl (Or.inl rfl) pe_int)
      (pss_cons (ps_while PassesOwn.never (pt_cmpR op_ltX (pv 3) (b_len K B (pa_cons (pv 2) pa_nil)) (nomark _)) (pss_cons (ps_for PassesOwn.never rfl (pi_tupK K (pe_ix (ix_X K hr.units) (pv 0) pe_int (fun _ _ => rfl))) (pg_tupK (n := 2) K rfl (pgs_cons (pg_name (i := 4) nd rfl (Or.inl rfl)) (pgs_cons (pg_name (i := 5) nd rfl (Or.inl rfl)) pgs_nil))) (pss_one (ps_if (PW.pt (pw_and (pt_cmpR (op_eqX hr.units) (pv 4) (pe_ix (ix_X K hr.units) (pv 2) (pv 3) (fun _ _ => rfl)) (nomark _)) (pw_and1 (pt_cmpR (op_notInX K hr.units) (pv 5) (pv 2) (by with_unfolding_all rfl))))) (pss_one (ps_expr (m_append K (pv 2) (pa_cons (pv 5) pa_nil)))) pss_nil)))
      (pss_one (ps_set (i := 3) nd rfl (Or.inl rfl) (pe_op op_addX (pv 3) pe_int)))))
      (pss_one (ps_ret (pv 2)))))), ?_⟩
    have rlen := rp.len
    rw [List.length_map] at rlen
    refine ⟨_, rfl, (by show 1 ≤ sizeLine; decide), fun l0 hl0 => ?_⟩
    have inn : ∀ y, MG.Rch (Tie ts) one y → y ∈ ss := fun y r => MG.Rch.closed (S := fun y => y ∈ ss) hone (fun a b _ r => (hev _ r).2) r
    refine ⟨fun m σ H' => ∃ (at_ : Nat) (seen : List Str) (o4 o5 : Option V), m + at_ = ss.length ∧ σ = [some (.ref wq), some (.str one), some (.ref l0), some (.int ((at_ : Nat) : Int)), o4, o5] ∧ Same H H' ∧ H' l0 = some (.lst (List.map V.str seen)) ∧ seen.Nodup ∧ (∀ x ∈ seen, MG.Rch (Tie ts) one x) ∧ one ∈ seen ∧ at_ ≤ seen.length ∧ ∀ i x, i < at_ → seen[i]? = some x → ∀ y, (x, y) ∈ ts → y ∈ seen,
      ⟨ss.length, 0, [one], none, none, by omega, rfl, Same.new hl0, upd_same, by simp, (fun x hx => (show x = one by simpa using hx) ▸ MG.Rch.refl), by simp, by omega, fun i x hi => by omega⟩, ?_⟩
    rintro m σ H1 ⟨at_, seen, o4, o5, hm, rfl, sm, hs, hnd, hrc, hmem, hat, hclo⟩
    have hsn : seen.length ≤ ss.length := hnd.length_le_of_subset fun x hx => inn x (hrc x hx)
    have hln : (List.map V.str seen).length = seen.length := List.length_map ..
    refine ⟨_, rfl, _, rfl, _, _, rfl, Or.inl ⟨_, .of hs, rfl⟩, .int ⟨_, rfl, ?_⟩⟩
    refine ite2 (fun hc => ?_) (fun hc => ?_)
    · have hc : (at_ : Int) < ((List.map V.str seen).length : Nat) := of_decide_eq_true hc
      have hlt : at_ < seen.length := by omega
      obtain ⟨z, hz⟩ : ∃ z, seen[at_]? = some z := ⟨_, List.getElem?_eq_getElem hlt⟩
      have rz := hrc z (List.mem_of_getElem? hz)
      refine ⟨fun σ' H' => ∃ (seen : List Str) (o4 o5 : Option V), σ' = [some (.ref wq), some (.str one), some (.ref l0), some (.int ((at_ + 1 : Nat) : Int)), o4, o5] ∧ Same H H' ∧ H' l0 = some (.lst (List.map V.str seen)) ∧ seen.Nodup ∧ (∀ x ∈ seen, MG.Rch (Tie ts) one x) ∧ one ∈ seen ∧ at_ + 1 ≤ seen.length ∧ ∀ i x, i < at_ + 1 → seen[i]? = some x → ∀ y, (x, y) ∈ ts → y ∈ seen,
        fun σ' H' ⟨seen, o4, o5, p⟩ => ⟨m - 1, by omega, at_ + 1, seen, o4, o5, by omega, p⟩, ?_⟩
      refine ⟨_, rfl, .tup (.of (sm _ _ hwq)) rfl ⟨_, rfl, ⟨_, .of (sm _ _ hb)⟩, ?_⟩⟩
      refine for_tup (xs := refs) (fun j σ H' => ∃ (seen : List Str) (o4 o5 : Option V), σ = [some (.ref wq), some (.str one), some (.ref l0), some (.int ((at_ : Nat) : Int)), o4, o5] ∧ Same H H' ∧ H' l0 = some (.lst (List.map V.str seen)) ∧ seen.Nodup ∧ (∀ x ∈ seen, MG.Rch (Tie ts) one x) ∧ one ∈ seen ∧ at_ < seen.length ∧ seen[at_]? = some z ∧ (∀ i x, i < at_ → seen[i]? = some x → ∀ y, (x, y) ∈ ts → y ∈ seen) ∧ ∀ f ∈ ts.take j, f.1 = z → f.2 ∈ seen) ?_ ?_ ?_ ?_
      · exact ⟨seen, o4, o5, rfl, sm, hs, hnd, hrc, hmem, hlt, hz, hclo, fun e he => by simp at he⟩
      · rintro j σ H' hj ⟨seen, o4, o5, rfl, sm, _⟩
        exact .of (sm _ _ hb)
      · rintro j x σ H' hx ⟨seen, o4, o5, rfl, sm, hs, hnd, hrc, hmem, hlt, hz, hclo, hdn⟩
        obtain ⟨d, hd, rd⟩ := (rp.same sm).get hx
        rw [List.getElem?_map] at hd
        obtain ⟨e, he, rfl⟩ : ∃ e, ts[j]? = some e ∧ pairD e = d := by
          cases q : ts[j]? with
          | none => rw [q] at hd; cases hd
          | some e => rw [q] at hd; exact ⟨e, rfl, Option.some.inj hd⟩
        obtain ⟨ta, rfl, hta⟩ := pair_at rd
        have hem := List.mem_of_getElem? he
        have hsn : seen.length ≤ ss.length := hnd.length_le_of_subset fun x hx => inn x (hrc x hx)
        have skip : (e.1 = z → e.2 ∈ seen) → ∀ f ∈ ts.take (j + 1), f.1 = z → f.2 ∈ seen := fun h f hf q => by
          rw [List.take_add_one, he, List.mem_append] at hf
          rcases hf with hf | hf
          · exact hdn f hf q
          · have : f = e := by simpa using hf
            subst this; exact h q
        have zat : atI (List.map V.str seen) (at_ : Int) = some (.str z) := atI_nat (by rw [List.getElem?_map, hz]; rfl)
        refine ⟨ta, _, rfl, .of hta, rfl, _, _, rfl, _, _, rfl, rfl, ?_⟩
        refine ⟨_, rfl, _, rfl, _, rfl, .lst (.of hs) zat (.sc rfl ⟨_, rfl, ?_⟩)⟩
        refine ite2 (fun h1 => ?_) (fun h1 => ?_)
        · have h1 : e.1 = z := V.str.inj (of_decide_eq_true h1)
          refine ⟨_, rfl, _, rfl, .seq (.inl (.of hs)) rfl (flat_strs _) ⟨_, rfl, ?_⟩⟩
          rw [in_strs]
          refine ite2 (fun h2 => ?_) (fun h2 => ?_)
          · have h2 : e.2 ∉ seen := by simpa using h2
            refine ⟨_, rfl, .inl ⟨rfl, _, .of hs⟩, ?_⟩
            refine ⟨_, rfl, l0, _, _, rfl, rfl, hs, by rw [List.length_map]; exact small1000 (by omega), ?_⟩
            refine ⟨seen ++ [e.2], _, _, rfl, ?_, ?_, ?_, ?_, ?_, ?_, ?_, ?_, ?_⟩
            · intro c o hc
              rw [upd_ne (ne_of_none hc hl0)]
              exact sm _ _ hc
            · rw [upd_same]; simp
            · rw [List.nodup_append]
              refine ⟨hnd, by simp, fun a ha b hb => ?_⟩
              have : b = e.2 := by simpa using hb
              subst this
              rintro rfl
              exact h2 ha
            · intro x hx
              rcases List.mem_append.mp hx with hx | hx
              · exact hrc x hx
              · have : x = e.2 := by simpa using hx
                subst this
                exact MG.Rch.step rz (by rw [← h1]; exact hem)
            · exact List.mem_append_left _ hmem
            · simp; omega
            · rw [List.getElem?_append_left hlt]; exact hz
            · intro i x hi hx y hy
              rw [List.getElem?_append_left (by omega)] at hx
              exact List.mem_append_left _ (hclo i x hi hx y hy)
            · intro f hf q
              rw [List.take_add_one, he, List.mem_append] at hf
              rcases hf with hf | hf
              · exact List.mem_append_left _ (hdn f hf q)
              · have : f = e := by simpa using hf
                subst this; simp
          · have h2 : e.2 ∈ seen := by simpa using h2
            exact ⟨seen, _, _, rfl, sm, hs, hnd, hrc, hmem, hlt, hz, hclo, skip fun _ => h2⟩
        · have h1 : e.1 ≠ z := fun q => h1 (decide_eq_true (by rw [q]))
          exact iteF ⟨seen, _, _, rfl, sm, hs, hnd, hrc, hmem, hlt, hz, hclo, skip fun q => absurd q h1⟩
      · rintro σ H' ⟨seen, o4, o5, rfl, sm, hs, hnd, hrc, hmem, hlt, hz, hclo, hdn⟩
        rw [rlen, List.take_of_length_le (Nat.le_refl _)] at hdn
        refine ⟨_, rfl, .int ⟨seen, o4, o5, rfl, sm, hs, hnd, hrc, hmem, hlt, fun i x hi hx y hy => ?_⟩⟩
        by_cases q : i < at_
        · exact hclo i x q hx y hy
        · have : i = at_ := by omega
          subst this
          rw [hz] at hx
          cases hx
          exact hdn _ hy rfl
    · have hc : ¬ (at_ : Int) < ((List.map V.str seen).length : Nat) := fun q => hc (decide_eq_true q)
      refine ⟨_, rfl, k l0 seen H1 sm hl0 hs (fun t => ⟨hrc t, fun r => ?_⟩) (by omega)⟩
      refine MG.Rch.closed (S := fun y => y ∈ seen) hmem (fun a b ha r => ?_) r
      obtain ⟨j, hj, ej⟩ := List.mem_iff_getElem.mp ha
      exact hclo j a (by omega) (by rw [List.getElem?_eq_getElem hj, ej]) b r
end
end K31
namespace K31
open PySem L2
section
variable {P : Program} {w : World} {K : PySem.W.Frag} {mg : Str → Option Value} {base : Heap}
noncomputable def spReachL : Sp := fun vs H Q _ => ∃ (wq a b : Addr) (refs : List V) (ss : List Str) (ts : List (Str × Str)) (one : Str), vs = [.ref wq, .str one] ∧ H wq = some (.tup [.ref a, .ref b]) ∧ H b = some (.lst refs) ∧ RepAll H refs (ts.map pairD) ∧ (∀ e ∈ ts, e.1 ∈ ss ∧ e.2 ∈ ss) ∧ one ∈ ss ∧ ss.length ≤ 60 ∧
  ∀ l (seen : List Str) H', Same H H' → H l = none → H' l = some (.lst (List.map V.str seen)) → (∀ t, t ∈ seen ↔ MG.Rch (Tie ts) one t) → seen.length ≤ 60 → Q (.ref l) H'
theorem ok_reachL {f : Addr} {fd : FuncData} (F : Fun K "_law_reached" "_law_reached" sReached f fd) (B : Blt mg) : FnOk P w K mg base CX0 1 f fd ["_law_web_here", "_law_one"] spReachL := by
  refine F.ok scReached (fun vs H Q E h => ?_) (fun cdv A outer s H vs Q E hr h => ?_)
  · obtain ⟨wq, a, b, refs, ss, ts, one, rfl, _⟩ := h
    rfl
  · obtain ⟨wq, wa, b, refs, ss, ts, one, rfl, hwq, hb, rp, hev, hone, hn, k⟩ := h
    have nd := scReached.nd
    refine ⟨_, (pss_cons (ps_set (i := 2) nd rfl (Or.inl rfl) (pe_lst (pa_cons (pv 1) pa_nil)))
      (pss_cons (ps_set (i := 3) nd rfl (Or.inl rfl) pe_int)
      (pss_cons (ps_while PassesOwn.never (pt_cmpR op_ltX (pv 3) (b_len K B (pa_cons (pv 2) pa_nil)) (nomark _)) (pss_cons (ps_for PassesOwn.never rfl (pi_listK K (pe_ix (ix_X K hr.units) (pv 0) pe_int (fun _ _ => rfl))) (pg_tupK (n := 2) K rfl (pgs_cons (pg_name (i := 4) nd rfl (Or.inl rfl)) (pgs_cons (pg_name (i := 5) nd rfl (Or.inl rfl)) pgs_nil))) (pss_one (ps_if (PW.pt (pw_and (pt_cmpR (op_eqX hr.units) (pv 4) (pe_ix (ix_X K hr.units) (pv 2) (pv 3) (fun _ _ => rfl)) (nomark _)) (pw_and1 (pt_cmpR (op_notInX K hr.units) (pv 5) (pv 2) (by with_unfolding_all rfl))))) (pss_one (ps_expr (m_append K (pv 2) (pa_cons (pv 5) pa_nil)))) pss_nil)))
      (pss_one (ps_set (i := 3) nd rfl (Or.inl rfl) (pe_op op_addX (pv 3) pe_int)))))
      (pss_one (ps_ret (pv 2)))))), ?_⟩
    have rlen := rp.len
    rw [List.length_map] at rlen
    refine ⟨_, rfl, (by show 1 ≤ sizeLine; decide), fun l0 hl0 => ?_⟩
    have inn : ∀ y, MG.Rch (Tie ts) one y → y ∈ ss := fun y r => MG.Rch.closed (S := fun y => y ∈ ss) hone (fun a b _ r => (hev _ r).2) r
    refine ⟨fun m σ H' => ∃ (at_ : Nat) (seen : List Str) (o4 o5 : Option V), m + at_ = ss.length ∧ σ = [some (.ref wq), some (.str one), some (.ref l0), some (.int ((at_ : Nat) : Int)), o4, o5] ∧ Same H H' ∧ H' l0 = some (.lst (List.map V.str seen)) ∧ seen.Nodup ∧ (∀ x ∈ seen, MG.Rch (Tie ts) one x) ∧ one ∈ seen ∧ at_ ≤ seen.length ∧ ∀ i x, i < at_ → seen[i]? = some x → ∀ y, (x, y) ∈ ts → y ∈ seen,
      ⟨ss.length, 0, [one], none, none, by omega, rfl, Same.new hl0, upd_same, by simp, (fun x hx => (show x = one by simpa using hx) ▸ MG.Rch.refl), by simp, by omega, fun i x hi => by omega⟩, ?_⟩
    rintro m σ H1 ⟨at_, seen, o4, o5, hm, rfl, sm, hs, hnd, hrc, hmem, hat, hclo⟩
    have hsn : seen.length ≤ ss.length := hnd.length_le_of_subset fun x hx => inn x (hrc x hx)
    have hln : (List.map V.str seen).length = seen.length := List.length_map ..
    refine ⟨_, rfl, _, rfl, _, _, rfl, Or.inl ⟨_, .of hs, rfl⟩, .int ⟨_, rfl, ?_⟩⟩
    refine ite2 (fun hc => ?_) (fun hc => ?_)
    · have hc : (at_ : Int) < ((List.map V.str seen).length : Nat) := of_decide_eq_true hc
      have hlt : at_ < seen.length := by omega
      obtain ⟨z, hz⟩ : ∃ z, seen[at_]? = some z := ⟨_, List.getElem?_eq_getElem hlt⟩
      have rz := hrc z (List.mem_of_getElem? hz)
      refine ⟨fun σ' H' => ∃ (seen : List Str) (o4 o5 : Option V), σ' = [some (.ref wq), some (.str one), some (.ref l0), some (.int ((at_ + 1 : Nat) : Int)), o4, o5] ∧ Same H H' ∧ H' l0 = some (.lst (List.map V.str seen)) ∧ seen.Nodup ∧ (∀ x ∈ seen, MG.Rch (Tie ts) one x) ∧ one ∈ seen ∧ at_ + 1 ≤ seen.length ∧ ∀ i x, i < at_ + 1 → seen[i]? = some x → ∀ y, (x, y) ∈ ts → y ∈ seen,
        fun σ' H' ⟨seen, o4, o5, p⟩ => ⟨m - 1, by omega, at_ + 1, seen, o4, o5, by omega, p⟩, ?_⟩
      refine ⟨_, rfl, .tup (.of (sm _ _ hwq)) rfl ⟨_, rfl, ⟨_, .of (sm _ _ hb)⟩, ?_⟩⟩
      refine for_list (xs := refs) (fun j σ H' => ∃ (seen : List Str) (o4 o5 : Option V), σ = [some (.ref wq), some (.str one), some (.ref l0), some (.int ((at_ : Nat) : Int)), o4, o5] ∧ Same H H' ∧ H' l0 = some (.lst (List.map V.str seen)) ∧ seen.Nodup ∧ (∀ x ∈ seen, MG.Rch (Tie ts) one x) ∧ one ∈ seen ∧ at_ < seen.length ∧ seen[at_]? = some z ∧ (∀ i x, i < at_ → seen[i]? = some x → ∀ y, (x, y) ∈ ts → y ∈ seen) ∧ ∀ f ∈ ts.take j, f.1 = z → f.2 ∈ seen) ?_ ?_ ?_ ?_
      · exact ⟨seen, o4, o5, rfl, sm, hs, hnd, hrc, hmem, hlt, hz, hclo, fun e he => by simp at he⟩
      · rintro j σ H' hj ⟨seen, o4, o5, rfl, sm, _⟩
        exact .of (sm _ _ hb)
      · rintro j x σ H' hx ⟨seen, o4, o5, rfl, sm, hs, hnd, hrc, hmem, hlt, hz, hclo, hdn⟩
        obtain ⟨d, hd, rd⟩ := (rp.same sm).get hx
        rw [List.getElem?_map] at hd
        obtain ⟨e, he, rfl⟩ : ∃ e, ts[j]? = some e ∧ pairD e = d := by
          cases q : ts[j]? with
          | none => rw [q] at hd; cases hd
          | some e => rw [q] at hd; exact ⟨e, rfl, Option.some.inj hd⟩
        obtain ⟨ta, rfl, hta⟩ := pair_at rd
        have hem := List.mem_of_getElem? he
        have hsn : seen.length ≤ ss.length := hnd.length_le_of_subset fun x hx => inn x (hrc x hx)
        have skip : (e.1 = z → e.2 ∈ seen) → ∀ f ∈ ts.take (j + 1), f.1 = z → f.2 ∈ seen := fun h f hf q => by
          rw [List.take_add_one, he, List.mem_append] at hf
          rcases hf with hf | hf
          · exact hdn f hf q
          · have : f = e := by simpa using hf
            subst this; exact h q
        have zat : atI (List.map V.str seen) (at_ : Int) = some (.str z) := atI_nat (by rw [List.getElem?_map, hz]; rfl)
        refine ⟨ta, _, rfl, .of hta, rfl, _, _, rfl, _, _, rfl, rfl, ?_⟩
        refine ⟨_, rfl, _, rfl, _, rfl, .lst (.of hs) zat (.sc rfl ⟨_, rfl, ?_⟩)⟩
        refine ite2 (fun h1 => ?_) (fun h1 => ?_)
        · have h1 : e.1 = z := V.str.inj (of_decide_eq_true h1)
          refine ⟨_, rfl, _, rfl, .seq (.inl (.of hs)) rfl (flat_strs _) ⟨_, rfl, ?_⟩⟩
          rw [in_strs]
          refine ite2 (fun h2 => ?_) (fun h2 => ?_)
          · have h2 : e.2 ∉ seen := by simpa using h2
            refine ⟨_, rfl, .inl ⟨rfl, _, .of hs⟩, ?_⟩
            refine ⟨_, rfl, l0, _, _, rfl, rfl, hs, by rw [List.length_map]; exact small1000 (by omega), ?_⟩
            refine ⟨seen ++ [e.2], _, _, rfl, ?_, ?_, ?_, ?_, ?_, ?_, ?_, ?_, ?_⟩
            · intro c o hc
              rw [upd_ne (ne_of_none hc hl0)]
              exact sm _ _ hc
            · rw [upd_same]; simp
            · rw [List.nodup_append]
              refine ⟨hnd, by simp, fun a ha b hb => ?_⟩
              have : b = e.2 := by simpa using hb
              subst this
              rintro rfl
              exact h2 ha
            · intro x hx
              rcases List.mem_append.mp hx with hx | hx
              · exact hrc x hx
              · have : x = e.2 := by simpa using hx
                subst this
                exact MG.Rch.step rz (by rw [← h1]; exact hem)
            · exact List.mem_append_left _ hmem
            · simp; omega
            · rw [List.getElem?_append_left hlt]; exact hz
            · intro i x hi hx y hy
              rw [List.getElem?_append_left (by omega)] at hx
              exact List.mem_append_left _ (hclo i x hi hx y hy)
            · intro f hf q
              rw [List.take_add_one, he, List.mem_append] at hf
              rcases hf with hf | hf
              · exact List.mem_append_left _ (hdn f hf q)
              · have : f = e := by simpa using hf
                subst this; simp
          · have h2 : e.2 ∈ seen := by simpa using h2
            exact ⟨seen, _, _, rfl, sm, hs, hnd, hrc, hmem, hlt, hz, hclo, skip fun _ => h2⟩
        · have h1 : e.1 ≠ z := fun q => h1 (decide_eq_true (by rw [q]))
          exact iteF ⟨seen, _, _, rfl, sm, hs, hnd, hrc, hmem, hlt, hz, hclo, skip fun q => absurd q h1⟩
      · rintro σ H' ⟨seen, o4, o5, rfl, sm, hs, hnd, hrc, hmem, hlt, hz, hclo, hdn⟩
        rw [rlen, List.take_of_length_le (Nat.le_refl _)] at hdn
        refine ⟨_, rfl, .int ⟨seen, o4, o5, rfl, sm, hs, hnd, hrc, hmem, hlt, fun i x hi hx y hy => ?_⟩⟩
        by_cases q : i < at_
        · exact hclo i x q hx y hy
        · have : i = at_ := by omega
          subst this
          rw [hz] at hx
          cases hx
          exact hdn _ hy rfl
    · have hc : ¬ (at_ : Int) < ((List.map V.str seen).length : Nat) := fun q => hc (decide_eq_true q)
      refine ⟨_, rfl, k l0 seen H1 sm hl0 hs (fun t => ⟨hrc t, fun r => ?_⟩) (by omega)⟩
      refine MG.Rch.closed (S := fun y => y ∈ seen) hmem (fun a b ha r => ?_) r
      obtain ⟨j, hj, ej⟩ := List.mem_iff_getElem.mp ha
      exact hclo j a (by omega) (by rw [List.getElem?_eq_getElem hj, ej]) b r
end
end K31
namespace K31
open PySem L2
section
variable {P : Program} {w : World} {K : PySem.W.Frag} {mg : Str → Option Value} {base : Heap}
theorem web_but {H H' : Hp} {p : Addr} {ys : List V} (hp : H p = some (.lst ys)) (b : But p H H') {v : V} {ss : List Str} {ts : List (Str × Str)} (W : Web H v ss ts) : Web H' v ss ts := by
  obtain ⟨q, a, c, xs, rfl, hq, ha, hc, rp⟩ := web_at W.rep
  have ne : ∀ {x : Addr} {o : HO}, H x = some o → (∀ zs, o ≠ .lst zs) → x ≠ p := fun e n => ne_of e hp (n _)
  exact ⟨.tup (b _ _ (ne hq fun _ z => by cases z) hq) (.cons (.tup (b _ _ (ne ha fun _ z => by cases z) ha) (RepAll.of_strs ss)) (.cons (.tup (b _ _ (ne hc fun _ z => by cases z) hc) (RepAll.pairBut hp b rp)) .nil)), W.nd, W.nm, W.len, W.few, W.inn⟩
theorem WebO.same {H H' : Hp} {wq : V} {ss : List Str} {ts : List (Str × Str)} {lo : Addr} {os : List Str} (h : WebO H wq ss ts lo os) (s : Same H H') : WebO H' wq ss ts lo os := ⟨h.web.same s, h.tnd, s _ _ h.ord, h.pm⟩
theorem WebO.but {H H' : Hp} {p a : Addr} {wq : V} {ss : List Str} {ts : List (Str × Str)} {lo : Addr} {os : List Str} (h : WebO H wq ss ts lo os) (v : PenV H p a) (b : But p H H') (n : lo ≠ p) : WebO H' wq ss ts lo os := by
  obtain ⟨_, hp⟩ := penAt v
  exact ⟨web_but hp b h.web, h.tnd, b _ _ n h.ord, h.pm⟩
theorem depth_pairs : ∀ ts : List (Str × Str), PyData.depthAll (ts.map pairD) ≤ 1
  | [] => by decide
  | e :: es => by
    show max (PyData.depth (pairD e)) (PyData.depthAll (es.map pairD)) ≤ 1
    have h1 : PyData.depth (pairD e) = 1 := rfl
    have h2 := depth_pairs es
    omega
theorem pairs_shp {ts : List (Str × Str)} (h : ∀ e ∈ ts, Nm e.1 ∧ Nm e.2) : shp (.tuple (ts.map pairD)) := by
  show (PyData.canLayAll0 (ts.map pairD) && decide (PyData.depthAll (ts.map pairD) + 1 ≤ 64)) = true
  have := depth_pairs ts
  rw [canLay_pairs ts h, decide_eq_true (by omega)]; rfl
theorem eqv_nilT (ts : List (Str × Str)) : PyData.eqv (.tuple (ts.map pairD)) (.tuple []) = decide (ts = []) := by
  cases ts with
  | nil => rfl
  | cons e r => rfl
noncomputable def spPair (K : PySem.W.Frag) : Sp := fun vs H Q _ => ∃ (p a wq lo : Addr) (ss : List Str) (ts : List (Str × Str)) (os : List Str), vs = [.ref p, .ref wq, .ref lo] ∧ Pen K H p a ∧ WebO H (.ref wq) ss ts lo os ∧ 0 < os.length ∧ lo ≠ p ∧
  ∀ q x y H', H' q = some (.tup [.str x, .str y]) → x ∈ ss → y ∈ ss → PenV H' p a → But p H H' → Q (.ref q) H'
theorem scPair : FnScope ["_law_pen_here", "_law_web_here", "_law_order", "_law_here", "_law_there", "_law_sort"] ["_law_pen_here", "_law_web_here", "_law_order"] (defScope sPair) := ⟨rfl, rfl, rfl, by decide +kernel, rfl, by decide +kernel, by decide +kernel⟩
theorem ok_pair {f : Addr} {fd : FuncData} (F : Fun K "_law_pair" "_law_pair" sPair f fd) (B : Blt mg) (c_law_draw : Cal P w K mg base 1 "_law_draw" ["_law_pen_here", "_law_most"] (spDraw K)) : FnOk P w K mg base CX0 2 f fd ["_law_pen_here", "_law_web_here", "_law_order"] (spPair K) := by
  refine F.ok scPair (fun vs H Q E h => ?_) (fun cdv A outer s H vs Q E hr h => ?_)
  · obtain ⟨p, a, wq, lo, ss, ts, os, rfl, _⟩ := h
    rfl
  · obtain ⟨p, a, wq, lo, ss, ts, os, rfl, hP, W, h0, nlo, k⟩ := h
    have nd := scPair.nd
    have v0 := hP.2
    have osl := W.pm.length_eq
    have h60 := W.web.len
    refine ⟨_, (pss_cons (ps_set (i := 3) nd rfl (Or.inl rfl) (pe_cal c_law_draw (hr.mono (by decide)) rfl (pa_cons (pv 0) (pa_cons (b_len K B (pa_cons (pv 2) pa_nil)) pa_nil))))
      (pss_cons (ps_set (i := 4) nd rfl (Or.inl rfl) (pe_cal c_law_draw (hr.mono (by decide)) rfl (pa_cons (pv 0) (pa_cons (b_len K B (pa_cons (pv 2) pa_nil)) pa_nil))))
      (pss_cons (ps_set (i := 5) nd rfl (Or.inl rfl) (pe_cal c_law_draw (hr.mono (by decide)) rfl (pa_cons (pv 0) (pa_cons pe_int pa_nil))))
      (pss_cons (ps_if (PW.pt (pw_and (pt_cmpR (op_eqX hr.units) (pv 5) pe_int (nomark _)) (pw_and1 (pt_cmpR (op_neX hr.units) (pe_ix (ix_X K hr.units) (pv 1) pe_int (fun _ _ => rfl)) (pe_tup pa_nil) (nomark _))))) (pss_one (ps_ret (pe_ix (ix_X K hr.units) (pe_ix (ix_X K hr.units) (pv 1) pe_int (fun _ _ => rfl)) (pe_cal c_law_draw (hr.mono (by decide)) rfl (pa_cons (pv 0) (pa_cons (b_len K B (pa_cons (pe_ix (ix_X K hr.units) (pv 1) pe_int (fun _ _ => rfl)) pa_nil)) pa_nil))) (fun _ _ => rfl)))) pss_nil)
      (pss_cons (ps_if (PW.pt (pw_and (pt_cmpR op_ltX (pv 5) pe_int (nomark _)) (pw_and1 (pt_cmpR op_ltX (pv 3) (pv 4) (nomark _))))) (pss_one (ps_par (i := 3) (j := 4) rfl nd rfl rfl (by decide) rfl rfl (pa_cons (pv 4) (pa_cons (pv 3) pa_nil)) rfl)) pss_nil)
      (pss_one (ps_ret (pe_tup (pa_cons (pe_ix (ix_X K hr.units) (pv 2) (pv 3) (fun _ _ => rfl)) (pa_cons (pe_ix (ix_X K hr.units) (pv 2) (pv 4) (fun _ _ => rfl)) pa_nil)))))))))), ?_⟩
    refine ⟨_, rfl, _, rfl, _, _, rfl, Or.inl ⟨_, .of W.ord, rfl⟩, p, a, _, rfl, hP, by rw [List.length_map]; omega, by rw [List.length_map]; omega, fun r1 H1 h10 h11 v1 e1 => ?_⟩
    have b1 := But.of_eq e1
    have W1 := W.but v0 b1 nlo
    refine ⟨_, rfl, _, rfl, _, _, rfl, Or.inl ⟨_, .of W1.ord, rfl⟩, p, a, _, rfl, hP.but b1 v1, by rw [List.length_map]; omega, by rw [List.length_map]; omega, fun r2 H2 h20 h21 v2 e2 => ?_⟩
    rw [List.length_map] at h11 h21
    have b2 := b1.trans (But.of_eq e2)
    obtain ⟨x, rfl⟩ := Int.eq_ofNat_of_zero_le h10
    obtain ⟨y, rfl⟩ := Int.eq_ofNat_of_zero_le h20
    have hx : x < os.length := by omega
    have hy : y < os.length := by omega
    refine ⟨_, rfl, p, a, 8, rfl, hP.but b2 v2, by decide, by decide, fun r3 H3 h30 h31 v3 e3 => ?_⟩
    have b3 := b2.trans (But.of_eq e3)
    have W3 := W.but v0 b3 nlo
    have fin : ∀ (H' : Hp) (i j : Nat), i < os.length → j < os.length → WebO H' (.ref wq) ss ts lo os → PenV H' p a → But p H H' → ∀ q, H' q = none → Q (.ref q) (upd H' q (.tup [V.str (os.getD i ""), V.str (os.getD j "")])) := fun H' i j hi hj W' v' b' q hq => by
      have g : ∀ i, i < os.length → os.getD i "" ∈ ss := fun i hi => W.pm.mem_iff.mp (by rw [List.getD_eq_getElem?_getD, List.getElem?_eq_getElem hi]; exact List.getElem_mem hi)
      have hpq := v'.ne hq
      exact k q _ _ _ upd_same (g i hi) (g j hj) (v'.upd hpq) (b'.at (b'.free (Ne.symm hpq) hq))
    have tnm : ∀ e ∈ ts, Nm e.1 ∧ Nm e.2 := fun e he => ⟨W.web.nm _ (W.web.inn e he).1, W.web.nm _ (W.web.inn e he).2⟩
    refine ⟨_, rfl, .sc rfl ⟨_, rfl, ?_⟩⟩
    refine ite2 (fun hs => ?_) (fun hs => iteF ?_)
    obtain ⟨wq', wa, wb, xs, e, hq, ha, hb, rp⟩ := web_at W3.web.rep
    cases e
    have rl := rp.len
    rw [List.length_map] at rl
    refine ⟨_, rfl, .tup (.of hq) rfl ⟨(by show 0 ≤ sizeLine; decide), fun tn htn => ?_⟩⟩
    have sn := Same.new (o := .tup []) htn
    have hpn := v3.ne htn
    have b4 := b3.at (o := .tup []) (b3.free (Ne.symm hpn) htn)
    have v4 := v3.upd (o := .tup []) hpn
    have W4 := W3.same sn
    have hq4 := sn _ _ hq
    have hb4 := sn _ _ hb
    have rp4 := rp.same sn
    refine .tr (.tup hb4 rp4) (.tup upd_same .nil) (pairs_shp tnm) (by rfl) ⟨_, rfl, ?_⟩
    rw [eqv_nilT]
    refine ite2 (fun hne => ?_) (fun hne => ?_)
    · have hne : ts ≠ [] := by simpa using hne
      have hl0 : 0 < xs.length := by rw [rl]; exact List.length_pos_iff.mpr hne
      have few := W.web.few
      refine ⟨_, rfl, .tup (.of hq4) rfl ⟨_, rfl, _, rfl, .tup (.of hq4) rfl ⟨_, _, rfl, SqA.len (K := K) (.inr hb4), p, a, _, rfl, hP.but b4 v4, by omega, by omega, fun r5 H5 h50 h51 v5 e5 => ?_⟩⟩⟩
      obtain ⟨j, rfl⟩ := Int.eq_ofNat_of_zero_le h50
      obtain ⟨_, hp4⟩ := penAt v4
      have nb : wb ≠ p := ne_of hb4 hp4 (by intro z; cases z)
      have hb5 := (e5 wb nb).trans hb4
      have rp5 := RepAll.pairBut hp4 (But.of_eq e5) rp4
      have hj : j < xs.length := by omega
      obtain ⟨e, ta, he, hx5, hta⟩ := pair_get rp5 (List.getElem?_eq_getElem hj)
      have hin := W.web.inn e (List.mem_of_getElem? he)
      refine .tup (.of hb5) (atI_nat (List.getElem?_eq_getElem hj)) ?_
      rw [hx5]
      exact k ta e.1 e.2 H5 hta hin.1 hin.2 v5 (b4.trans (But.of_eq e5))
    rotate_left
    obtain ⟨W4, v4, b4⟩ : WebO H3 (.ref wq) ss ts lo os ∧ PenV H3 p a ∧ But p H H3 := ⟨W3, v3, b3⟩
    all_goals
      refine ⟨_, rfl, .int ⟨_, rfl, ite2 (fun h6 => ?_) (fun _ => iteF ⟨_, rfl, _, rfl, .lst (.of W4.ord) (str_at hx) ⟨_, rfl, _, rfl, .lst (.of W4.ord) (str_at hy) ⟨by show 2 ≤ sizeLine; decide, fun q hq => fin _ x y hx hy W4 v4 b4 q hq⟩⟩⟩)⟩⟩
      refine ⟨_, rfl, _, rfl, .int ⟨_, rfl, ite2 (fun h6 => ?_) (fun _ => ⟨_, rfl, _, rfl, .lst (.of W4.ord) (str_at hx) ⟨_, rfl, _, rfl, .lst (.of W4.ord) (str_at hy) ⟨by show 2 ≤ sizeLine; decide, fun q hq => fin _ x y hx hy W4 v4 b4 q hq⟩⟩⟩)⟩⟩
      exact ⟨_, rfl, _, rfl, _, _, rfl, _, rfl, _, rfl, .lst (.of W4.ord) (str_at hy) ⟨_, rfl, _, rfl, .lst (.of W4.ord) (str_at hx) ⟨by show 2 ≤ sizeLine; decide, fun q hq => fin _ y x hy hx W4 v4 b4 q hq⟩⟩⟩
end
end K31
namespace K31
open PySem L2
section
variable {P : Program} {w : World} {K : PySem.W.Frag} {mg : Str → Option Value} {base : Heap}
open Classical in
noncomputable def rB (ts : List (Str × Str)) (a b : Str) : Bool := decide (MG.Rch (Tie ts) a b)
open Classical in
theorem rB_iff {ts : List (Str × Str)} {a b : Str} : rB ts a b = true ↔ MG.Rch (Tie ts) a b := by unfold rB; exact decide_eq_true_iff
noncomputable def dueB (os : List Str) (ts : List (Str × Str)) (one other : Str) : List Str := if os.idxOf one < os.idxOf other then [] else ((os.take (os.idxOf one + 1)).drop (os.idxOf other)).filter fun t => rB (flipE ts) one t
noncomputable def dueF (os : List Str) (ts : List (Str × Str)) (one other : Str) : List Str := if os.idxOf one < os.idxOf other then [] else ((os.take (os.idxOf one + 1)).drop (os.idxOf other)).filter fun t => rB ts other t
noncomputable def isRing (os : List Str) (ts : List (Str × Str)) (one other : Str) : Prop := ¬ os.idxOf one < os.idxOf other ∧ MG.Rch (Tie ts) other one
theorem idx_of {os : List Str} (nd : os.Nodup) {j : Nat} {s : Str} (h : os[j]? = some s) : j = os.idxOf s := by
  have hj := (List.getElem?_eq_some_iff.mp h).1
  have hm := List.mem_of_getElem? h
  have hi := List.idxOf_lt_length_of_mem hm
  have e : os[os.idxOf s]? = some s := by rw [List.getElem?_eq_getElem hi, List.getElem_idxOf]
  exact (List.getElem?_inj hj nd).mp (h.trans e.symm)
theorem get_idx {os : List Str} {s : Str} (hm : s ∈ os) : os[os.idxOf s]? = some s := by
  have hi := List.idxOf_lt_length_of_mem hm
  rw [List.getElem?_eq_getElem hi, List.getElem_idxOf]
theorem cutV_mid (xs : List V) (i j : Nat) (h : j ≤ xs.length) : cutV xs (some (i : Int)) (some (j : Int)) = (xs.take j).drop i := by
  unfold cutV
  rw [HT.sIx_nat, HT.sIx_nat, Nat.min_eq_left h, List.drop_take]
  by_cases hi : i ≤ xs.length
  · rw [Nat.min_eq_left hi]
  · rw [Nat.min_eq_right (by omega), List.drop_of_length_le (Nat.le_refl _), List.drop_of_length_le (by omega)]; simp
theorem gYes2 {x : V} {q : Addr} {u v : V} {σ : St} {H : Hp} {A B : St → Hp → Prop} (hx : x = .ref q) (hq : SqT K H q [u, v]) (h : A ((σ.set 0 (some u)).set 1 (some v)) H) :
    gTup K 2 (gCons (gName 0) (gCons (gName 1) gNil)) x σ H fun σ2 H3 => tYes σ2 H3 fun b H4 => if b = true then A σ2 H4 else B σ2 H4 := by
  subst hx
  refine ⟨q, _, rfl, hq, rfl, _, _, rfl, _, _, rfl, rfl, ?_⟩
  show (if true = true then A ((σ.set 0 (some u)).set 1 (some v)) H else B ((σ.set 0 (some u)).set 1 (some v)) H)
  rw [if_pos rfl]
  exact h
theorem filt_step {α : Type} (l : List α) (g : α → Bool) (i : Nat) (x : α) (h : l[i]? = some x) : (l.take (i + 1)).filter g = (l.take i).filter g ++ (if g x = true then [x] else []) := by
  rw [List.take_add_one, h, List.filter_append]
  by_cases q : g x = true
  · simp [q]
  · simp [q]
theorem index_at {os : List Str} (nd : os.Nodup) {s : Str} (hm : s ∈ os) : ∃ z, (List.map V.str os)[os.idxOf s]? = some z ∧ eqV z (.str s) = true ∧ ∀ (m : Nat) z', m < os.idxOf s → (List.map V.str os)[m]? = some z' → eqV z' (.str s) = false := by
  refine ⟨.str s, by rw [List.getElem?_map, get_idx hm]; rfl, ?_, fun m z' hlt hz => ?_⟩
  · show (s == s) = true; simp
  · obtain ⟨u, hu, rfl⟩ := str_get' hz
    show (u == s) = false
    rw [beq_eq_false_iff_ne]
    rintro rfl
    have := idx_of nd hu
    omega
noncomputable def spDue : Sp := fun vs H Q _ => ∃ (wq lo : Addr) (ss : List Str) (ts : List (Str × Str)) (os : List Str) (one other : Str), vs = [.ref wq, .ref lo, .str one, .str other] ∧ WebO H (.ref wq) ss ts lo os ∧ one ∈ ss ∧ other ∈ ss ∧
  (isRing os ts one other → ∀ H', Same H H' → Q .non H') ∧
  (¬ isRing os ts one other → ∀ q a b H', Same H H' → H' q = some (.tup [.ref a, .ref b]) → H' a = some (.lst (List.map V.str (dueB os ts one other))) → H' b = some (.lst (List.map V.str (dueF os ts one other))) → Q (.ref q) H')
theorem scDue : FnScope ["_law_web_here", "_law_order", "_law_one", "_law_other", "_law_some", "_law_reached_here", "_law_back"] ["_law_web_here", "_law_order", "_law_one", "_law_other"] (defScope sDue) := ⟨rfl, rfl, rfl, by decide +kernel, rfl, by decide +kernel, by decide +kernel⟩
noncomputable def spReachX : Sp := fun vs H Q E => spReach vs H Q E ∨ spReachL vs H Q E
theorem ok_reachX {f : Addr} {fd : FuncData} {k : Nat} {ps : List Str} (F : FnOk P w K mg base CX0 k f fd ps spReach) (G : FnOk P w K mg base CX0 k f fd ps spReachL) : FnOk P w K mg base CX0 k f fd ps spReachX :=
  ⟨fun vs H Q E q => q.elim (F.len vs H Q E) (G.len vs H Q E), fun A outer s H args us vs Q E hr he hb hv hs => hs.elim (F.run A outer s H args us vs Q E hr he hb hv) (G.run A outer s H args us vs Q E hr he hb hv)⟩
theorem ok_due {f : Addr} {fd : FuncData} (F : Fun K "_law_due" "_law_due" sDue f fd) (B : Blt mg) (c_law_reached : Cal P w K mg base 1 "_law_reached" ["_law_web_here", "_law_one"] spReachX) : FnOk P w K mg base CX0 2 f fd ["_law_web_here", "_law_order", "_law_one", "_law_other"] spDue := by
  refine F.ok scDue (fun vs H Q E h => ?_) (fun cdv A outer s H vs Q E hr h => ?_)
  · obtain ⟨wq, lo, ss, ts, os, one, other, rfl, _⟩ := h
    rfl
  · obtain ⟨wq, lo, ss, ts, os, one, other, rfl, W, h1, h2, k0, k1⟩ := h
    have nd := scDue.nd
    have osl := W.pm.length_eq
    have h60 := W.web.len
    have ond : os.Nodup := W.pm.nodup_iff.mpr W.web.nd
    have m1 : one ∈ os := W.pm.mem_iff.mpr h1
    have m2 : other ∈ os := W.pm.mem_iff.mpr h2
    have i1 := List.idxOf_lt_length_of_mem m1
    have i2 := List.idxOf_lt_length_of_mem m2
    obtain ⟨z1, a1, a2, a3⟩ := index_at ond m1
    obtain ⟨z2, c1, c2, c3⟩ := index_at ond m2
    refine ⟨_, (pss_cons (ps_if (pt_cmpR op_ltX (m_index K (pv 1) (pa_cons (pv 2) pa_nil)) (m_index K (pv 1) (pa_cons (pv 3) pa_nil)) (nomark _)) (pss_one (ps_ret (pe_tup (pa_cons (pe_lst pa_nil) (pa_cons (pe_lst pa_nil) pa_nil))))) pss_nil)
      (pss_cons (ps_set (i := 4) nd rfl (Or.inl rfl) (pe_slice (sl_K K) (pv 1) (po_some (m_index K (pv 1) (pa_cons (pv 3) pa_nil))) (po_some (pe_op op_addX (m_index K (pv 1) (pa_cons (pv 2) pa_nil)) pe_int))))
      (pss_cons (ps_set (i := 5) nd rfl (Or.inr rfl) (pe_cal c_law_reached (hr.mono (by decide)) rfl (pa_cons (pv 0) (pa_cons (pv 3) pa_nil))))
      (pss_cons (ps_if (pt_cmpR (op_inX K hr.units) (pv 2) (pv 5) (by with_unfolding_all rfl)) (pss_one (ps_ret pe_non)) pss_nil)
      (pss_cons (ps_set (i := 6) nd rfl (Or.inr rfl) (pe_cal c_law_reached (hr.mono (by decide)) rfl (pa_cons (pe_tup (pa_cons (pe_ix (ix_X K hr.units) (pv 0) pe_int (fun _ _ => rfl)) (pa_cons (pe_comp (defScope sDue) ["_law_web_here", "_law_order", "_law_one", "_law_other", "_law_some", "_law_reached_here", "_law_back"] ["_law_first", "_law_last"] [] ["_law_first", "_law_last"] rfl (pi_tupK K (pe_ix (ix_X K hr.units) (pv 0) pe_int (fun _ _ => rfl))) (fun _ _ _ _ _ => (pg_tupK (n := 2) K rfl (pgs_cons (pg_name (i := 0) (show (["_law_first", "_law_last"] : List Str).Nodup by decide) rfl (Or.inl rfl)) (pgs_cons (pg_name (i := 1) (show (["_law_first", "_law_last"] : List Str).Nodup by decide) rfl (Or.inl rfl)) pgs_nil)))) (fun _ _ _ _ _ => pts_nil) (fun _ _ _ _ _ => (pe_tup (pa_cons (pv 1) (pa_cons (pv 0) pa_nil))))) pa_nil))) (pa_cons (pv 2) pa_nil))))
      (pss_one (ps_ret (pe_tup (pa_cons (pe_comp (defScope sDue) ["_law_web_here", "_law_order", "_law_one", "_law_other", "_law_some", "_law_reached_here", "_law_back"] ["_law_thing"] [6] ["_law_thing", "_law_back"] rfl (pi_listK K (pv 4)) (fun _ _ _ _ _ => (pg_name (i := 0) (show (["_law_thing", "_law_back"] : List Str).Nodup by decide) rfl (Or.inl rfl))) (fun _ _ _ _ _ => (pts_one (pt_cmpR (op_inX K hr.units) (pv 0) (pv 1) (by with_unfolding_all rfl)))) (fun _ _ _ _ _ => (pv 0))) (pa_cons (pe_comp (defScope sDue) ["_law_web_here", "_law_order", "_law_one", "_law_other", "_law_some", "_law_reached_here", "_law_back"] ["_law_thing"] [5] ["_law_thing", "_law_reached_here"] rfl (pi_listK K (pv 4)) (fun _ _ _ _ _ => (pg_name (i := 0) (show (["_law_thing", "_law_reached_here"] : List Str).Nodup by decide) rfl (Or.inl rfl))) (fun _ _ _ _ _ => (pts_one (pt_cmpR (op_inX K hr.units) (pv 0) (pv 1) (by with_unfolding_all rfl)))) (fun _ _ _ _ _ => (pv 0))) pa_nil)))))))))), ?_⟩
    refine ⟨_, rfl, .inl ⟨rfl, _, .of W.ord⟩, _, rfl, lo, _, _, _, z1, rfl, rfl, W.ord, rfl, flat_strs _, a1, a2, a3, _, rfl, .inl ⟨rfl, _, .of W.ord⟩, _, rfl, lo, _, _, _, z2, rfl, rfl, W.ord, rfl, flat_strs _, c1, c2, c3, .int ⟨_, rfl, ?_⟩⟩
    refine ite2 (fun hlt => ?_) (fun hge => ?_)
    · have hlt : ((os.idxOf one : Nat) : Int) < ((os.idxOf other : Nat) : Int) := of_decide_eq_true hlt
      have hlt : os.idxOf one < os.idxOf other := by omega
      refine ⟨(by show 0 ≤ sizeLine; decide), fun la hla => ⟨(by show 0 ≤ sizeLine; decide), fun lb hlb => ⟨(by show 2 ≤ sizeLine; decide), fun q hq => ?_⟩⟩⟩
      have s1 := Same.new (o := .lst []) hla
      have s2 := Same.new (o := .lst []) hlb
      have s3 := Same.new (o := .tup [V.ref la, V.ref lb]) hq
      refine k1 (fun z => z.1 hlt) q la lb _ (s1.trans (s2.trans s3)) upd_same ?_ ?_
      · unfold dueB; rw [if_pos hlt]; exact (s2.trans s3) _ _ upd_same
      · unfold dueF; rw [if_pos hlt]; exact s3 _ _ upd_same
    · have hge : ¬ os.idxOf one < os.idxOf other := fun z => hge (decide_eq_true (by show ((os.idxOf one : Nat) : Int) < ((os.idxOf other : Nat) : Int); omega))
      refine ⟨_, rfl, _, rfl, .inl ⟨rfl, _, .of W.ord⟩, _, rfl, lo, _, _, _, z2, rfl, rfl, W.ord, rfl, flat_strs _, c1, c2, c3, _, rfl, _, rfl, .inl ⟨rfl, _, .of W.ord⟩, _, rfl, lo, _, _, _, z1, rfl, rfl, W.ord, rfl, flat_strs _, a1, a2, a3, .int ⟨_, rfl, .lst (.of W.ord) fun ls hls => ?_⟩⟩
      obtain ⟨bt, hbt⟩ : ∃ bt, bt = (os.take (os.idxOf one + 1)).drop (os.idxOf other) := ⟨_, rfl⟩
      have ecut : cutV (List.map V.str os) (some ((os.idxOf other : Nat) : Int)) (some (((os.idxOf one : Nat) : Int) + 1)) = List.map V.str bt := by
        rw [show ((os.idxOf one : Nat) : Int) + 1 = ((os.idxOf one + 1 : Nat) : Int) by omega, cutV_mid _ _ _ (by rw [List.length_map]; omega), hbt, List.map_drop, List.map_take]
      rw [ecut]
      have s1 := Same.new (o := .lst (List.map V.str bt)) hls
      have hls1 : upd H ls (.lst (List.map V.str bt)) ls = some (.lst (List.map V.str bt)) := upd_same
      generalize upd H ls (.lst (List.map V.str bt)) = H1 at s1 hls1 ⊢
      have btl : bt.length ≤ 60 := by rw [hbt, List.length_drop, List.length_take]; omega
      have W1 := W.same s1
      obtain ⟨wq', wa, wb, xs, e, hq, ha, hb, rp⟩ := web_at W1.web.rep
      cases e
      refine ⟨_, rfl, _, rfl, Or.inl ⟨wq, wa, wb, xs, ss, ts, other, rfl, hq, hb, rp, W.web.inn, h2, h60, fun lr seen H2 s2 hlr0 hlr hseen sl => ?_⟩⟩
      refine ⟨_, rfl, _, rfl, .seq (.inl (.of hlr)) rfl (flat_strs _) ⟨_, rfl, ?_⟩⟩
      rw [in_strs]
      refine ite2 (fun hin => ?_) (fun hin => ?_)
      · have hin : one ∈ seen := of_decide_eq_true hin
        exact k0 ⟨hge, (hseen one).mp hin⟩ H2 (s1.trans s2)
      · have hin : one ∉ seen := fun z => hin (decide_eq_true z)
        have nr : ¬ isRing os ts one other := fun z => hin ((hseen one).mpr z.2)
        have rl := rp.len
        rw [List.length_map] at rl
        have few := W.web.few
        have rp2 := rp.same s2
        have hq2 := s2 _ _ hq
        have hb2 := s2 _ _ hb
        refine ⟨_, rfl, .tup (.of hq2) rfl ⟨_, rfl, .tup (.of hq2) rfl ⟨_, rfl, ⟨_, .of hb2⟩, ?_⟩⟩⟩
        refine comp_tup xs (fun D i acc σ' H' => ∃ o1 o2, σ' = [o1, o2] ∧ RepAll H' acc ((flipE (ts.take i)).map pairD) ∧ Same H2 H' ∧ H2 D = none) fun D hD => ⟨?_, ?_, ?_, ?_⟩
        · exact ⟨none, none, rfl, .nil, Same.new hD, hD⟩
        · rintro i acc σ' H' _ ⟨o1, o2, rfl, _, sm, _⟩ _
          exact .of (sm _ _ hb2)
        · rintro i acc σ' H' x hx ⟨o1, o2, rfl, rpa, sm, hD0⟩ hacc
          obtain ⟨e, ta, he, eta, hta⟩ := pair_get (rp2.same sm) hx
          have alen := rpa.len
          unfold flipE at alen
          simp only [List.length_map, List.length_take] at alen
          have hil := (List.getElem?_eq_some_iff.mp he).1
          refine gYes2 eta (.of hta) ?_
          refine ⟨_, rfl, _, rfl, (by show 2 ≤ sizeLine; decide), fun q hqn => ?_⟩
          have sq := Same.new (o := .tup [V.str e.2, V.str e.1]) hqn
          have hDq : D ≠ q := ne_of_none hacc hqn
          refine ⟨sq _ _ hacc, small1000 (by omega), _, _, rfl, ?_, ?_, hD0⟩
          · rw [List.take_add_one, he]
            unfold flipE
            rw [List.map_append, List.map_append]
            refine RepAll.append (RepAll.pairBut (p := D) (sq _ _ hacc) But.upd (rpa.same sq)) (.cons ?_ .nil)
            refine pair_rep ?_
            rw [upd_ne (Ne.symm hDq)]; exact upd_same
          · intro b' o hb'
            rw [upd_ne (ne_of_none hb' hD0)]
            exact sq _ _ (sm _ _ hb')
        · rintro acc σ' H3 ⟨o1, o2, rfl, rpa, s3, hD0⟩ hacc
          rw [rl, List.take_of_length_le (Nat.le_refl _)] at rpa
          refine ⟨(by show 2 ≤ sizeLine; decide), fun mq hmq => ?_⟩
          have sm4 := Same.new (o := .tup [V.ref wa, V.ref D]) hmq
          refine ⟨_, rfl, Or.inr ⟨mq, wa, D, acc, ss, flipE ts, one, rfl, upd_same, sm4 _ _ hacc, rpa.same sm4, ?_, h1, h60, fun lk back H4 s4 hlk0 hlk hback bl => ?_⟩⟩
          · intro e he
            have := W.web.inn _ (mem_flip.mp (show (e.1, e.2) ∈ flipE ts from he))
            exact ⟨this.2, this.1⟩
          have s14 := ((s1.trans s2).trans s3).trans (sm4.trans s4)
          have s24 := (s3.trans sm4).trans s4
          have hls4 := (s2.trans s24) _ _ hls1
          have hlr4 := s24 _ _ hlr
          clear rpa hacc hD0
          refine ⟨_, rfl, ls, rfl, ⟨_, .of hls4⟩, ?_⟩
          refine comp_list (List.map V.str bt) (fun D i acc σ' H' => ∃ o, σ' = [o, some (.ref lk)] ∧ acc = List.map V.str ((bt.take i).filter fun z => decide (z ∈ back)) ∧ Same H4 H' ∧ H4 D = none) fun D hD => ⟨?_, ?_, ?_, ?_⟩
          · exact ⟨none, rfl, rfl, Same.new hD, hD⟩
          · rintro i acc σ' H' _ ⟨o, rfl, _, sm, _⟩ _
            exact .of (sm _ _ hls4)
          · rintro i acc σ' H' x hx ⟨o, rfl, rfl, sm, hD0⟩ hacc
            obtain ⟨z, hz, rfl⟩ := str_get' hx
            have hil := (List.getElem?_eq_some_iff.mp hz).1
            have fl := List.length_filter_le (fun z => decide (z ∈ back)) (bt.take i)
            rw [List.length_take] at fl
            refine ⟨_, rfl, _, rfl, .seq (.inl (.of (sm _ _ hlk))) rfl (flat_strs _) ⟨_, rfl, ?_⟩⟩
            rw [in_strs]
            refine ite2 (fun h => ?_) (fun h => ?_)
            · have h : decide (z ∈ back) = true := h
              exact ⟨_, rfl, hacc, by rw [List.length_map]; exact small1000 (by omega), _, rfl, by rw [filt_step _ _ _ _ hz, if_pos h, List.map_append]; rfl, same_at sm hD0, hD0⟩
            · have h : ¬ decide (z ∈ back) = true := h
              exact ⟨hacc, _, rfl, by rw [filt_step _ _ _ _ hz, if_neg h, List.append_nil], sm, hD0⟩
          rintro acc σ' H5 ⟨o, rfl, rfl, s5, hD0⟩ hacc
          rw [List.length_map, List.take_of_length_le (Nat.le_refl _)] at hacc
          have hls5 := s5 _ _ hls4
          have hlr5 := s5 _ _ hlr4
          refine ⟨_, rfl, ls, rfl, ⟨_, .of hls5⟩, ?_⟩
          refine comp_list (List.map V.str bt) (fun D i acc σ' H' => ∃ o, σ' = [o, some (.ref lr)] ∧ acc = List.map V.str ((bt.take i).filter fun z => decide (z ∈ seen)) ∧ Same H5 H' ∧ H5 D = none) fun D' hD' => ⟨?_, ?_, ?_, ?_⟩
          · exact ⟨none, rfl, rfl, Same.new hD', hD'⟩
          · rintro i acc σ' H' _ ⟨o, rfl, _, sm, _⟩ _
            exact .of (sm _ _ hls5)
          · rintro i acc σ' H' x hx ⟨o, rfl, rfl, sm, hD0⟩ hacc
            obtain ⟨z, hz, rfl⟩ := str_get' hx
            have hil := (List.getElem?_eq_some_iff.mp hz).1
            have fl := List.length_filter_le (fun z => decide (z ∈ seen)) (bt.take i)
            rw [List.length_take] at fl
            refine ⟨_, rfl, _, rfl, .seq (.inl (.of (sm _ _ hlr5))) rfl (flat_strs _) ⟨_, rfl, ?_⟩⟩
            rw [in_strs]
            refine ite2 (fun h => ?_) (fun h => ?_)
            · have h : decide (z ∈ seen) = true := h
              exact ⟨_, rfl, hacc, by rw [List.length_map]; exact small1000 (by omega), _, rfl, by rw [filt_step _ _ _ _ hz, if_pos h, List.map_append]; rfl, same_at sm hD0, hD0⟩
            · have h : ¬ decide (z ∈ seen) = true := h
              exact ⟨hacc, _, rfl, by rw [filt_step _ _ _ _ hz, if_neg h, List.append_nil], sm, hD0⟩
          rintro acc σ' H6 ⟨o', rfl, rfl, s6, hD0'⟩ hacc'
          rw [List.length_map, List.take_of_length_le (Nat.le_refl _)] at hacc'
          refine ⟨(by show 2 ≤ sizeLine; decide), fun q hqn => ?_⟩
          have s7 := Same.new (o := .tup [V.ref D, V.ref D']) hqn
          refine k1 nr q D D' _ (((s14.trans s5).trans s6).trans s7) upd_same ?_ ?_
          · have e : dueB os ts one other = bt.filter fun z => decide (z ∈ back) := by
              unfold dueB
              rw [if_neg hge, ← hbt]
              refine List.filter_congr fun z _ => ?_
              rw [Bool.eq_iff_iff, rB_iff, decide_eq_true_iff, hback]
            rw [e]
            exact (s6.trans s7) _ _ hacc
          · have e : dueF os ts one other = bt.filter fun z => decide (z ∈ seen) := by
              unfold dueF
              rw [if_neg hge, ← hbt]
              refine List.filter_congr fun z _ => ?_
              rw [Bool.eq_iff_iff, rB_iff, decide_eq_true_iff, hseen]
            rw [e]
            exact s7 _ _ hacc'
end
end K31
namespace K31
open PySem L2
section
variable {P : Program} {w : World} {K : PySem.W.Frag} {mg : Str → Option Value} {base : Heap}
noncomputable def spLaid : Sp := fun vs H Q _ => ∃ (lo q a b : Addr) (os A B : List Str), vs = [.ref lo, .ref q] ∧ H lo = some (.lst (List.map V.str os)) ∧ os.Nodup ∧ os.length ≤ 60 ∧ H q = some (.tup [.ref a, .ref b]) ∧ H a = some (.lst (List.map V.str A)) ∧ H b = some (.lst (List.map V.str B)) ∧ (A ++ B).Nodup ∧ (∀ x ∈ A ++ B, x ∈ os) ∧
  ∀ l H', Same H H' → H l = none → H' l = some (.lst (List.map V.str (laidL os (A ++ B)))) → Q (.ref l) H'
theorem scLaid : FnScope ["_law_order", "_law_due_here", "_law_some", "_law_places", "_law_found", "_law_place", "_law_thing"] ["_law_order", "_law_due_here"] (defScope sLaid) := ⟨rfl, rfl, rfl, by decide +kernel, rfl, by decide +kernel, by decide +kernel⟩
noncomputable def natV (xs : List Nat) : List V := xs.map fun x : Nat => V.int (x : Int)
theorem setAll_snoc (r : List Str) (ps : List (Nat × Str)) (p : Nat × Str) : setAll r (ps ++ [p]) = (setAll r ps).set p.1 p.2 := by
  unfold setAll; rw [List.foldl_append]; rfl
theorem rng_step (g : Nat → Bool) (i : Nat) : (List.range (i + 1)).filter g = (List.range i).filter g ++ (if g i = true then [i] else []) := by
  rw [List.range_succ, List.filter_append]
  by_cases q : g i = true
  · simp [q]
  · simp [q]
theorem ixN_at {n j : Nat} (h : j < n) : ixN n (j : Int) = some j := by
  unfold ixN
  rw [if_pos (by omega), if_pos (by omega), Int.toNat_natCast]
theorem ok_laid {f : Addr} {fd : FuncData} (F : Fun K "_law_laid" "_law_laid" sLaid f fd) (B : Blt mg) (Zz : mg "zip" = none) : FnOk P w K mg base CX0 1 f fd ["_law_order", "_law_due_here"] spLaid := by
  refine F.ok scLaid (fun vs H Q E h => ?_) (fun cdv A outer s H vs Q E hr h => ?_)
  · obtain ⟨lo, q, a, b, os, A, B, rfl, _⟩ := h
    rfl
  · obtain ⟨lo, q, a, b, os, A, B', rfl, ho, ond, h60, hq, ha, hb, and_, sub, k⟩ := h
    have nd := scLaid.nd
    have al : (A ++ B').length ≤ os.length := and_.length_le_of_subset sub
    have al2 := al
    rw [List.length_append] at al2
    refine ⟨_, (pss_cons (ps_set (i := 2) nd rfl (Or.inr rfl) (pe_op op_addX (pe_ix (ix_X K hr.units) (pv 1) pe_int (fun _ _ => rfl)) (pe_ix (ix_X K hr.units) (pv 1) pe_int (fun _ _ => rfl))))
      (pss_cons (ps_setC (i := 3) nd rfl rfl (by rfl) (defScope sLaid) ["_law_order", "_law_due_here", "_law_some", "_law_places", "_law_found", "_law_place", "_law_thing"] ["_law_k"] [2, 0] ["_law_k", "_law_some", "_law_order"] rfl (pi_range1 rfl B.range (pa_cons (b_len K B (pa_cons (pv 0) pa_nil)) pa_nil)) (fun _ _ _ _ _ => (pg_name (i := 0) (show (["_law_k", "_law_some", "_law_order"] : List Str).Nodup by decide) rfl (Or.inl rfl))) (fun _ _ _ _ _ => (pts_one (pt_cmpR (op_inX K hr.units) (pe_ix (ix_X K hr.units) (pv 2) (pv 0) (fun _ _ => rfl)) (pv 1) (by with_unfolding_all rfl)))) (fun _ _ _ _ _ => (pv 0)))
      (pss_cons (ps_set (i := 4) nd rfl (Or.inl rfl) (b_list K rfl B (pa_cons (pv 0) pa_nil)))
      (pss_cons (ps_for PassesOwn.never rfl (pi_zipP K rfl Zz (pa_cons (pv 3) (pa_cons (pv 2) pa_nil))) (pg_tupK (n := 2) K rfl (pgs_cons (pg_name (i := 5) nd rfl (Or.inl rfl)) (pgs_cons (pg_name (i := 6) nd rfl (Or.inl rfl)) pgs_nil))) (pss_one (ps_asg (pv 6) (pg_sub (pv 4) (pv 5) (set_X hr.units)))))
      (pss_one (ps_ret (pv 4))))))), ?_⟩
    refine ⟨_, rfl, .tup (.of hq) rfl ⟨_, rfl, .tup (.of hq) rfl (.lst ha hb (by rw [List.length_map, List.length_map]; exact Nat.le_of_lt (small1000 (by omega))) fun ls hls => ?_)⟩⟩
    rw [← List.map_append]
    have s1 := Same.new (o := .lst (List.map V.str (A ++ B'))) hls
    have hls1 : upd H ls (.lst (List.map V.str (A ++ B'))) ls = some (.lst (List.map V.str (A ++ B'))) := upd_same
    generalize upd H ls (.lst (List.map V.str (A ++ B'))) = H1 at s1 hls1 ⊢
    generalize A ++ B' = C at and_ sub al hls1 k ⊢
    have ho1 := s1 _ _ ho
    refine ⟨_, rfl, _, _, rfl, Or.inl ⟨_, .of ho1, rfl⟩, ?_⟩
    rw [List.length_map]
    refine ⟨_, rfl, by omega, by omega, ?_⟩
    refine comp_range (fun D i acc σ' H' => ∃ o, σ' = [o, some (.ref ls), some (.ref lo)] ∧ acc = natV ((List.range i).filter fun k => decide (os.getD k "" ∈ C)) ∧ Same H1 H' ∧ H1 D = none) fun D hD => ⟨?_, ?_, ?_⟩
    · exact ⟨none, rfl, rfl, Same.new hD, hD⟩
    · rintro i acc σ' H' hi ⟨o, rfl, rfl, sm, hD0⟩ hacc
      have hi : i < os.length := by simpa using hi
      have fl := List.length_filter_le (fun k => decide (os.getD k "" ∈ C)) (List.range i)
      rw [List.length_range] at fl
      have step := rng_step (fun k => decide (os.getD k "" ∈ C)) i
      refine ⟨_, rfl, _, rfl, .lst (.of (sm _ _ ho1)) (show atI _ (0 + (i : Nat) : Int) = some (.str (os.getD i "")) from by rw [Int.zero_add]; exact str_at hi) ⟨_, rfl, .seq (.inl (.of (sm _ _ hls1))) rfl (flat_strs _) ⟨_, rfl, ?_⟩⟩⟩
      rw [in_strs]
      refine ite2 (fun h => ?_) (fun h => ?_)
      · have h : decide (os.getD i "" ∈ C) = true := h
        refine ⟨_, rfl, hacc, by unfold natV; rw [List.length_map]; exact small1000 (by omega), _, rfl, ?_, same_at sm hD0, hD0⟩
        rw [step, if_pos h]; unfold natV; rw [List.map_append]
        show _ ++ [V.int (0 + (i : Nat) : Int)] = _
        rw [Int.zero_add]; rfl
      · have h : ¬ decide (os.getD i "" ∈ C) = true := h
        exact ⟨hacc, _, rfl, by rw [step, if_neg h, List.append_nil], sm, hD0⟩
    rintro acc σ' H2 ⟨o, rfl, rfl, s2, hD0⟩ hacc
    have hpl : H2 D = some (.lst (natV (plc os C))) := by unfold plc; simpa using hacc
    have pl := plc_len ond and_ sub
    have ho2 := s2 _ _ ho1
    have hls2 := s2 _ _ hls1
    refine ⟨_, rfl, _, rfl, .seq (.inl (.of ho2)) fun lf hlf => ?_⟩
    have s3 := Same.new (o := .lst (List.map V.str os)) hlf
    have s13 := (s1.trans s2).trans s3
    have hlf0 : H lf = none := same_free (s1.trans s2) hlf
    have hf3 : upd H2 lf (.lst (List.map V.str os)) lf = some (.lst (List.map V.str os)) := upd_same
    have hls3 := s3 _ _ hls2
    have hpl3 := s3 _ _ hpl
    have nls : ls ≠ lf := ne_of_none hls2 hlf
    have npl : D ≠ lf := ne_of_none hpl hlf
    generalize upd H2 lf (.lst (List.map V.str os)) = H3 at s3 s13 hf3 hls3 hpl3 ⊢
    have zl : ((natV (plc os C)).zip (List.map V.str C)) = ((plc os C).zip C).map fun p => (V.int ((p.1 : Nat) : Int), V.str p.2) := by
      unfold natV
      rw [List.zip_map]; rfl
    refine ⟨_, rfl, _, rfl, D, ls, _, _, rfl, .of hpl3, .of hls3, ?_⟩
    refine for_zip (xs := natV (plc os C)) (ys := List.map V.str C) (fun i σ H' => ∃ o5 o6, σ = [some (.ref lo), some (.ref q), some (.ref ls), some (.ref D), some (.ref lf), o5, o6] ∧ H' lf = some (.lst (List.map V.str (setAll os (((plc os C).zip C).take i)))) ∧ But lf H3 H') ?_ ?_ ?_ ?_
    · exact ⟨none, none, rfl, hf3, But.refl lf H3⟩
    · rintro i σ H' hi ⟨o5, o6, rfl, _, b'⟩
      exact ⟨.of (b' _ _ npl hpl3), .of (b' _ _ nls hls3)⟩
    · rintro i x y pp σ H4 hxy ⟨o5, o6, rfl, hf4, b4⟩ hpp
      rw [zl, List.getElem?_map] at hxy
      obtain ⟨e, he, hee⟩ : ∃ e, ((plc os C).zip C)[i]? = some e ∧ (V.int ((e.1 : Nat) : Int), V.str e.2) = (x, y) := by
        cases z : ((plc os C).zip C)[i]? with
        | none => rw [z] at hxy; cases hxy
        | some e => rw [z] at hxy; exact ⟨e, rfl, Option.some.inj hxy⟩
      have e1 : x = V.int ((e.1 : Nat) : Int) := (congrArg Prod.fst hee).symm
      have e2 : y = V.str e.2 := (congrArg Prod.snd hee).symm
      subst e1 e2
      have ek : e.1 < os.length := by
        have := List.getElem?_zip_eq_some.mp he
        exact plc_lt (List.mem_of_getElem? this.1)
      have nfp : lf ≠ pp := ne_of_none hf4 hpp
      refine ⟨pp, _, rfl, .of upd_same, rfl, _, _, rfl, _, _, rfl, rfl, ?_⟩
      refine ⟨_, rfl, _, rfl, _, rfl, .lst (j := e.1) (by rw [upd_ne nfp]; exact hf4) (by rw [List.length_map, setAll_len]; exact ixN_at ek) ?_⟩
      refine ⟨_, _, rfl, ?_, ?_⟩
      · rw [upd_same, List.take_add_one, he]
        show _ = some (HO.lst (List.map V.str (setAll os (((plc os C).zip C).take i ++ [e]))))
        rw [setAll_snoc, List.map_set]
      · intro c o hc hh
        have hh4 := b4 c o hc hh
        rw [upd_ne hc, upd_ne (ne_of_none hh4 hpp)]
        exact hh4
    · rintro σ H4 ⟨o5, o6, rfl, hf4, b4⟩
      rw [zl, List.length_map, List.take_of_length_le (Nat.le_refl _)] at hf4
      refine ⟨_, rfl, k lf H4 (fun c o hc => ?_) hlf0 hf4⟩
      exact b4 c o (ne_of_none hc hlf0) (s13 _ _ hc)
end
end K31
namespace K31
open PySem L2
section
variable {P : Program} {w : World} {K : PySem.W.Frag} {mg : Str → Option Value} {base : Heap}
theorem rch_trans {ts : List (Str × Str)} {a b c : Str} (h : MG.Rch (Tie ts) a b) (g : MG.Rch (Tie ts) b c) : MG.Rch (Tie ts) a c := MG.Rch.closed (S := fun z => MG.Rch (Tie ts) a z) h (fun y z hy r => hy.step r) g
theorem rch_flip {ts : List (Str × Str)} {a b : Str} (h : MG.Rch (Tie (flipE ts)) a b) : MG.Rch (Tie ts) b a := MG.Rch.closed (S := fun z => MG.Rch (Tie ts) z a) MG.Rch.refl (fun y z hy r => rch_trans (MG.Rch.refl.step (mem_flip.mp r)) hy) h
theorem dueB_sub {os : List Str} {ts : List (Str × Str)} {one other : Str} : ∀ x ∈ dueB os ts one other, x ∈ os := fun x hx => by
  unfold dueB at hx
  split at hx
  · cases hx
  · exact List.mem_of_mem_take (List.mem_of_mem_drop (List.mem_filter.mp hx).1)
theorem dueF_sub {os : List Str} {ts : List (Str × Str)} {one other : Str} : ∀ x ∈ dueF os ts one other, x ∈ os := fun x hx => by
  unfold dueF at hx
  split at hx
  · cases hx
  · exact List.mem_of_mem_take (List.mem_of_mem_drop (List.mem_filter.mp hx).1)
theorem due_nd {os : List Str} {ts : List (Str × Str)} {one other : Str} (ond : os.Nodup) (nr : ¬ isRing os ts one other) : (dueB os ts one other ++ dueF os ts one other).Nodup := by
  unfold dueB dueF
  split
  · exact List.nodup_nil
  · rename_i hge
    have bnd : ((os.take (os.idxOf one + 1)).drop (os.idxOf other)).Nodup := (ond.sublist (List.take_sublist _ _)).sublist (List.drop_sublist _ _)
    rw [List.nodup_append]
    refine ⟨bnd.sublist List.filter_sublist, bnd.sublist List.filter_sublist, fun x hx y hy => ?_⟩
    rintro rfl
    have h1 := rB_iff.mp (List.mem_filter.mp hx).2
    have h2 := rB_iff.mp (List.mem_filter.mp hy).2
    exact nr ⟨hge, rch_trans h2 (rch_flip h1)⟩
theorem due_all {os : List Str} {ts : List (Str × Str)} {one other : Str} : ∀ x ∈ dueB os ts one other ++ dueF os ts one other, x ∈ os := fun x hx => by
  rcases List.mem_append.mp hx with h | h
  · exact dueB_sub x h
  · exact dueF_sub x h
end
end K31
namespace K31
open PySem L2
section
variable {P : Program} {w : World} {K : PySem.W.Frag} {mg : Str → Option Value} {base : Heap}
noncomputable def mvD (m : Str × Nat × Nat) : PyData := .tuple [.str m.1, .int (m.2.1 : Nat), .int (m.2.2 : Nat)]
theorem mv_rep {H : Hp} {a : Addr} {s : Str} {k n : Nat} (h : H a = some (.tup [.str s, .int (k : Int), .int (n : Int)])) : Rep H (.ref a) (mvD (s, k, n)) := .tup h (.cons (.str _) (.cons (.int _) (.cons (.int _) .nil)))
theorem mv_at {H : Hp} {v : V} {m : Str × Nat × Nat} (h : Rep H v (mvD m)) : ∃ a, v = .ref a ∧ H a = some (.tup [.str m.1, .int (m.2.1 : Nat), .int (m.2.2 : Nat)]) := by
  cases h with
  | tup e r =>
    obtain ⟨y1, r1, rfl, a1, r⟩ := RepAll.consI r
    obtain ⟨y2, r2, rfl, a2, r⟩ := RepAll.consI r
    obtain ⟨y3, r3, rfl, a3, r⟩ := RepAll.consI r
    rw [RepAll.nilI r] at e
    cases a1
    cases a2
    cases a3
    exact ⟨_, rfl, e⟩
theorem mvBut {H H' : Hp} {p : Addr} {ys : List V} (hp : H p = some (.lst ys)) (b : But p H H') : ∀ {es : List (Str × Nat × Nat)} {xs : List V}, RepAll H xs (es.map mvD) → RepAll H' xs (es.map mvD)
  | [], xs, h => by rw [RepAll.nilI h]; exact .nil
  | e :: es, xs, h => by
    obtain ⟨y, ys', rfl, a, c⟩ := RepAll.consI h
    obtain ⟨q, rfl, hq⟩ := mv_at a
    exact .cons (mv_rep (b q _ (ne_of hq hp (by intro z; cases z)) hq)) (mvBut hp b c)
end
end K31
namespace K31
open PySem L2
section
variable {P : Program} {w : World} {K : PySem.W.Frag} {mg : Str → Option Value} {base : Heap}
noncomputable def spMoved : Sp := fun vs H Q _ => ∃ (lo l : Addr) (refs : List V) (os : List Str) (ms : List (Str × Nat × Nat)), vs = [.ref lo, .ref l] ∧ H lo = some (.lst (List.map V.str os)) ∧ H l = some (.lst refs) ∧ RepAll H refs (ms.map mvD) ∧ (∀ m ∈ ms, m.2.2 < os.length) ∧
  ∀ ln H', Same H H' → H ln = none → H' ln = some (.lst (List.map V.str (setAll os (ms.map fun m => (m.2.2, m.1))))) → Q (.ref ln) H'
theorem scMoved : FnScope ["order", "moves", "row", "move"] ["order", "moves"] (defScope sMoved) := ⟨rfl, rfl, rfl, by decide +kernel, rfl, by decide +kernel, by decide +kernel⟩
theorem mv_get {H : Hp} {refs : List V} {ms : List (Str × Nat × Nat)} (rp : RepAll H refs (ms.map mvD)) {j : Nat} {x : V} (hx : refs[j]? = some x) : ∃ m ta, ms[j]? = some m ∧ x = .ref ta ∧ H ta = some (.tup [.str m.1, .int (m.2.1 : Nat), .int (m.2.2 : Nat)]) := by
  obtain ⟨d, hd, rd⟩ := rp.get hx
  rw [List.getElem?_map] at hd
  cases q : ms[j]? with
  | none => rw [q] at hd; cases hd
  | some e =>
    rw [q] at hd
    have hd : mvD e = d := Option.some.inj hd
    rw [← hd] at rd
    obtain ⟨ta, h1, h2⟩ := mv_at rd
    exact ⟨e, ta, rfl, h1, h2⟩
theorem ok_moved {f : Addr} {fd : FuncData} (F : Fun K "moved" "moved" sMoved f fd) (B : Blt mg) : FnOk P w K mg base CX0 1 f fd ["order", "moves"] spMoved := by
  refine F.ok scMoved (fun vs H Q E h => ?_) (fun cdv A outer s H vs Q E hr h => ?_)
  · obtain ⟨lo, l, refs, os, ms, rfl, _⟩ := h
    rfl
  · obtain ⟨lo, l, refs, os, ms, rfl, ho, hl, rp, hlt, k⟩ := h
    have nd := scMoved.nd
    have rl := rp.len
    rw [List.length_map] at rl
    refine ⟨_, (pss_cons (ps_set (i := 2) nd rfl (Or.inl rfl) (b_list K rfl B (pa_cons (pv 0) pa_nil)))
      (pss_cons (ps_for PassesOwn.never rfl (pi_listK K (pv 1)) (pg_name (i := 3) nd rfl (Or.inl rfl)) (pss_one (ps_asg (pe_ix (ix_X K hr.units) (pv 3) pe_int (fun _ _ => rfl)) (pg_sub (pv 2) (pe_ix (ix_X K hr.units) (pv 3) pe_int (fun _ _ => rfl)) (set_X hr.units)))))
      (pss_one (ps_ret (pv 2))))), ?_⟩
    refine ⟨_, rfl, _, rfl, .seq (.inl (.of ho)) fun lf hlf => ?_⟩
    have nlf : l ≠ lf := ne_of_none hl hlf
    refine ⟨_, rfl, l, rfl, ⟨_, .of (by rw [upd_ne nlf]; exact hl)⟩, ?_⟩
    refine for_list (xs := refs) (fun i σ H' => ∃ o3, σ = [some (.ref lo), some (.ref l), some (.ref lf), o3] ∧ H' lf = some (.lst (List.map V.str (setAll os ((ms.take i).map fun m => (m.2.2, m.1))))) ∧ Same H H') ?_ ?_ ?_ ?_
    · exact ⟨none, rfl, upd_same, Same.new hlf⟩
    · rintro i σ H' hi ⟨o3, rfl, _, sm⟩
      exact .of (sm _ _ hl)
    · rintro i x σ H1 hx ⟨o3, rfl, hf1, s1⟩
      obtain ⟨m, ta, hm, rfl, hta⟩ := mv_get (rp.same s1) hx
      refine ⟨_, rfl, .tup (.of hta) rfl ⟨_, rfl, _, rfl, .tup (.of hta) rfl (.lst (j := m.2.2) hf1 (by rw [List.length_map, setAll_len]; exact ixN_at (hlt m (List.mem_of_getElem? hm))) ?_)⟩⟩
      refine ⟨_, rfl, ?_, same_at s1 hlf⟩
      rw [upd_same, List.take_add_one, hm, List.map_append]
      show _ = some (HO.lst (List.map V.str (setAll os ((ms.take i).map (fun m => (m.2.2, m.1)) ++ [(m.2.2, m.1)]))))
      rw [setAll_snoc, List.map_set]
    · rintro σ H1 ⟨o3, rfl, hf1, s1⟩
      rw [rl, List.take_of_length_le (Nat.le_refl _)] at hf1
      exact ⟨_, rfl, k lf H1 s1 hlf hf1⟩
end
end K31
namespace K31
open PySem L2
section
variable {P : Program} {w : World} {K : PySem.W.Frag} {mg : Str → Option Value} {base : Heap}
theorem ok_drawB {f : Addr} {fd : FuncData} (F : Fun K "_law_draw" "_law_draw" sDraw f fd) (B : Blt mg) : FnOk P w K mg base CX0 1 f fd ["_law_pen_here", "_law_most"] (spDrawB K) := by
  refine F.ok scDraw (fun vs H Q E h => ?_) (fun cdv A outer s H vs Q E hr h => ?_)
  · obtain ⟨p, a, m, rfl, _⟩ := h
    rfl
  · obtain ⟨p, a, m, rfl, ⟨⟨ns, hS⟩, i, n, hp, hi, hn⟩, hm, hm2, k⟩ := h
    have ku : ∀ (H1 : Hp) (o : HO), (∀ b, b ≠ p → H1 b = H b) → ∀ b, b ≠ p → (upd H1 p o) b = H b := fun H1 o q b n => by rw [upd_ne n]; exact q b n
    have nd := scDraw.nd
    refine ⟨_, (pss_cons (ps_if (pt_cmpR op_gt (pe_ix (ix_X K hr.units) (pv 0) pe_int (fun _ _ => rfl)) pe_int (nomark _)) (pss_cons (ps_set (i := 2) nd rfl (Or.inl rfl) (pe_op op_mod (pe_ix (ix_X K hr.units) (pv 0) pe_int (fun _ _ => rfl)) (pv 1)))
      (pss_cons (ps_asg (pe_op op_fdivB (pe_ix (ix_X K hr.units) (pv 0) pe_int (fun _ _ => rfl)) (pv 1)) (pg_sub (pv 0) pe_int (set_X hr.units)))
      (pss_one (ps_ret (pv 2))))) pss_nil)
      (pss_cons (ps_set (i := 3) nd rfl (Or.inl rfl) (pe_ix (ix_X K hr.units) (pv 0) pe_int (fun _ _ => rfl)))
      (pss_cons (ps_asg (pe_op op_addX (pv 3) pe_int) (pg_sub (pv 0) pe_int (set_X hr.units)))
      (pss_cons (ps_set (i := 4) nd rfl (Or.inl rfl) pe_int)
      (pss_cons (ps_if (pt_cmpR op_gt (b_len K B (pa_cons (pe_ix (ix_X K hr.units) (pv 0) pe_int (fun _ _ => rfl)) pa_nil)) pe_int (nomark _)) (pss_one (ps_set (i := 4) nd rfl (Or.inl rfl) (pe_ix (ix_X K hr.units) (pe_ix (ix_X K hr.units) (pv 0) pe_int (fun _ _ => rfl)) (pe_op op_mod (pv 3) (b_len K B (pa_cons (pe_ix (ix_X K hr.units) (pv 0) pe_int (fun _ _ => rfl)) pa_nil))) (fun _ _ => rfl)))) pss_nil)
      (pss_cons (ps_if (PW.pt (pw_and (pt_cmpR op_ltX (pv 3) (b_len K B (pa_cons (pe_ix (ix_X K hr.units) (pv 0) pe_int (fun _ _ => rfl)) pa_nil)) (nomark _)) (pw_and1 (pt_cmpR op_ge (b_abs B (pa_cons (pv 4) pa_nil)) (pe_op op_pow pe_int pe_int) (nomark _))))) (pss_cons (ps_asg (pe_op op_fdivB (b_abs B (pa_cons (pv 4) pa_nil)) (pv 1)) (pg_sub (pv 0) pe_int (set_X hr.units)))
      (pss_one (ps_ret (pe_op op_mod (b_abs B (pa_cons (pv 4) pa_nil)) (pv 1))))) pss_nil)
      (pss_cons (ps_set (i := 5) nd rfl (Or.inl rfl) (pe_op op_mod (pe_op op_mul (pe_op op_addX (pe_op op_addX (pe_op op_mod (pv 4) pe_int) (pe_op op_mul pe_int (pv 3))) pe_int) pe_int) pe_int))
      (pss_cons (ps_set (i := 6) nd rfl (Or.inl rfl) (pe_op op_mod (pe_op op_addX (pe_op op_addX (pe_op op_mul (pv 5) (pv 5)) (pe_op op_mul pe_int (pv 3))) pe_int) pe_int))
      (pss_one (ps_ret (pe_op op_mod (pe_op op_fdiv (pv 6) pe_int) (pv 1)))))))))))), ?_⟩
    refine ⟨_, rfl, .lst (.of hp) rfl ⟨_, _, rfl, rfl, _, rfl, ?_⟩⟩
    refine ite2 (fun h => ?_) (fun h => ?_)
    · refine ⟨_, rfl, .lst (.of hp) rfl ⟨_, rfl, _, _, rfl, rfl, hm, ?_⟩⟩
      refine ⟨_, rfl, .lst (.of hp) rfl ⟨_, rfl, _, _, rfl, rfl, ⟨hm, hm2⟩, ?_⟩⟩
      refine ⟨_, rfl, .lst (j := 2) hp rfl ?_⟩
      refine ⟨_, rfl, ?_⟩
      exact k _ _ (Int.emod_nonneg _ (by omega)) (Int.emod_lt_of_pos _ hm) ⟨i, n / m, upd_same, hi, Int.ediv_nonneg hn (by omega)⟩ (ku H _ fun _ _ => rfl)
    · refine ⟨_, rfl, .lst (.of hp) rfl ?_⟩
      refine ⟨_, rfl, .int ?_⟩
      refine ⟨_, rfl, .lst (j := 1) hp rfl ?_⟩
      have hp1 : (upd H p (.lst ([V.ref a, V.int i, V.int n].set 1 (V.int (i + 1))))) p = some (.lst [.ref a, .int (i + 1), .int n]) := upd_same
      have hS1 : SqL K (upd H p (.lst ([V.ref a, V.int i, V.int n].set 1 (V.int (i + 1))))) a (ns.map V.int) := hS _ But.upd
      have b1 : ∀ b, b ≠ p → (upd H p (.lst ([V.ref a, V.int i, V.int n].set 1 (V.int (i + 1))))) b = H b := ku H _ fun _ _ => rfl
      generalize upd H p (.lst ([V.ref a, V.int i, V.int n].set 1 (V.int (i + 1)))) = H1 at hp1 hS1 b1 ⊢
      have fin : ∀ c : Int, 0 ≤ c → Q (.int (c % m)) H1 := fun c hc => k _ _ (Int.emod_nonneg _ (by omega)) (Int.emod_lt_of_pos _ hm) ⟨i + 1, n, hp1, by omega, hn⟩ b1
      refine ⟨_, rfl, .lst (.of hp1) rfl ⟨_, _, rfl, Or.inl ⟨_, hS1, rfl⟩, _, _, rfl, rfl, _, rfl, ?_⟩⟩
      refine ite2 (fun h => ?a) (fun h => ?b)
      case' a =>
        have hl : (0 : Int) < ((ns.map V.int).length : Nat) := of_decide_eq_true h
        obtain ⟨c, hc⟩ := at_int (ns := ns) (j := i % ((ns.map V.int).length : Nat)) (Int.emod_nonneg _ (by omega)) (Int.emod_lt_of_pos _ hl)
        refine ⟨_, rfl, .lst (.of hp1) rfl ⟨_, rfl, _, rfl, .lst (.of hp1) rfl ⟨_, _, rfl, Or.inl ⟨_, hS1, rfl⟩, _, _, rfl, rfl, hl, .lst hS1 hc ?_⟩⟩⟩
      all_goals
        refine ⟨_, rfl, _, rfl, .lst (.of hp1) rfl ⟨_, _, rfl, Or.inl ⟨_, hS1, rfl⟩, .int ⟨_, rfl, ?_⟩⟩⟩
        refine ite2 (fun h1 => ?_) (fun h1 => ?_)
        · refine ⟨_, rfl, _, rfl, _, _, rfl, rfl, ⟨by decide, by decide, by decide⟩, _, _, rfl, rfl, _, rfl, ?_⟩
          refine ite2 (fun h2 => ?_) (fun h2 => ?_)
          · refine ⟨_, rfl, _, rfl, _, rfl, _, _, rfl, rfl, ⟨hm, hm2⟩, ?_⟩
            refine ⟨_, rfl, .lst (j := 2) hp1 rfl ?_⟩
            refine ⟨_, rfl, _, rfl, _, rfl, _, _, rfl, rfl, hm, ?_⟩
            refine k _ _ (Int.emod_nonneg _ (by omega)) (Int.emod_lt_of_pos _ hm) ⟨i + 1, _, upd_same, by omega, Int.ediv_nonneg (by split <;> omega) (by omega)⟩ (ku H1 _ b1)
          · refine ⟨_, rfl, _, _, rfl, rfl, (by show (0 : Int) < _; decide), _, rfl, _, _, rfl, rfl, .inl ⟨by decide, by decide⟩, .int (.int ⟨_, _, rfl, rfl, .inr ⟨by decide, by decide⟩, _, _, rfl, rfl, (by show (0 : Int) < _; decide), ?_⟩)⟩
            refine ⟨_, rfl, _, rfl, _, _, rfl, rfl, .inl (fst_small _), _, rfl, _, _, rfl, rfl, .inl ⟨by decide, by decide⟩, .int (.int ⟨_, _, rfl, rfl, (by show (0 : Int) < _; decide), ?_⟩)⟩
            refine ⟨_, rfl, _, _, rfl, rfl, ⟨by decide, by decide⟩, _, rfl, _, _, rfl, rfl, hm, ?_⟩
            exact fin _ (Int.ediv_nonneg (Int.emod_nonneg _ (by decide)) (by decide))
        · refine ⟨_, rfl, _, _, rfl, rfl, (by show (0 : Int) < _; decide), _, rfl, _, _, rfl, rfl, .inl ⟨by decide, by decide⟩, .int (.int ⟨_, _, rfl, rfl, .inr ⟨by decide, by decide⟩, _, _, rfl, rfl, (by show (0 : Int) < _; decide), ?_⟩)⟩
          refine ⟨_, rfl, _, rfl, _, _, rfl, rfl, .inl (fst_small _), _, rfl, _, _, rfl, rfl, .inl ⟨by decide, by decide⟩, .int (.int ⟨_, _, rfl, rfl, (by show (0 : Int) < _; decide), ?_⟩)⟩
          refine ⟨_, rfl, _, _, rfl, rfl, ⟨by decide, by decide⟩, _, rfl, _, _, rfl, rfl, hm, ?_⟩
          exact fin _ (Int.ediv_nonneg (Int.emod_nonneg _ (by decide)) (by decide))
end
end K31
namespace K31
open PySem L2
section
variable {P : Program} {w : World} {K : PySem.W.Frag} {mg : Str → Option Value} {base : Heap}
noncomputable def spPlG : Sp := fun vs H Q _ => ∃ (a : Addr) (ks : List Nat), vs = [.ref a] ∧ H a = some (.lst (natV ks)) ∧ ks.length ≤ 1000 ∧ ∀ d kvs H', Same H H' → H d = none → H' d = some (.dK kvs) → (kvs.length = ks.length ↔ ks.Nodup) → Q (.ref d) H'
theorem nat_get' {xs : List Nat} {i : Nat} {x : V} (h : (natV xs)[i]? = some x) : ∃ j, xs[i]? = some j ∧ V.int ((j : Nat) : Int) = x := by
  unfold natV at h
  rw [List.getElem?_map] at h
  cases q : xs[i]? with
  | none => rw [q] at h; cases h
  | some e => rw [q] at h; exact ⟨e, rfl, Option.some.inj h⟩
theorem keys_put {kvs : List (Key × V)} {k : Key} {v : V} (nd : (kvs.map (·.1)).Nodup) : ((putK kvs k v).map (·.1)).Nodup ∧ ∀ j, j ∈ (putK kvs k v).map (·.1) ↔ j ∈ kvs.map (·.1) ∨ j = k := by
  refine ⟨?_, fun j => ?_⟩
  · cases q : valV kvs k with
    | none => exact nd_putK _ nd q
    | some v => rw [map_putK (by rw [q]; rfl)]; exact nd
  · rw [← valV_mem, ← valV_mem, valV_put]
    by_cases q : j = k
    · rw [if_pos q]; simp [q]
    · rw [if_neg q]; simp [q]
theorem lenG {kvs : List (Key × V)} {ks : List Nat} (nd : (kvs.map (·.1)).Nodup) (mem : ∀ k : Key, k ∈ kvs.map (·.1) ↔ ∃ t ∈ ks, k = Sum.inl ((t : Nat) : Int)) : kvs.length = ks.length ↔ ks.Nodup := by
  have e1 : (kvs.map (·.1)).length = kvs.length := List.length_map ..
  have e2 : (ks.map fun t : Nat => (Sum.inl (t : Int) : Key)).length = ks.length := List.length_map ..
  have sub : ∀ k ∈ kvs.map (·.1), k ∈ ks.map fun t : Nat => (Sum.inl (t : Int) : Key) := fun k hk => by
    obtain ⟨t, ht, rfl⟩ := (mem k).mp hk
    exact List.mem_map.mpr ⟨t, ht, rfl⟩
  have sup : ∀ k ∈ (ks.map fun t : Nat => (Sum.inl (t : Int) : Key)), k ∈ kvs.map (·.1) := fun k hk => by
    obtain ⟨t, ht, rfl⟩ := List.mem_map.mp hk
    exact (mem _).mpr ⟨t, ht, rfl⟩
  constructor
  · intro h
    have p := perm_of nd sub (by rw [e1, e2, h]; exact Nat.le_refl _)
    have q := p.nodup_iff.mp nd
    unfold List.Nodup at q
    rw [List.pairwise_map] at q
    exact q.imp fun h z => h (by rw [z])
  · intro h
    have q : (ks.map fun t : Nat => (Sum.inl (t : Int) : Key)).Nodup := map_nd h fun x _ y _ e => by have := Sum.inl.inj e; omega
    have a := nd.length_le_of_subset sub
    have b := q.length_le_of_subset sup
    omega
theorem ok_plG {f : Addr} {fd : FuncData} (F : Fun K "places_of" "places_of" sPlaces f fd) (B : Blt mg) : FnOk P w K mg base CX0 1 f fd ["things"] spPlG := by
  refine F.ok scPlaces (fun vs H Q E h => ?_) (fun cdv A outer s H vs Q E hr h => ?_)
  · obtain ⟨a, ks, rfl, _⟩ := h
    rfl
  · obtain ⟨a, ks, rfl, ha, hl, k⟩ := h
    have nd := scPlaces.nd
    refine ⟨_, (pss_cons (ps_set (i := 1) nd rfl (Or.inl rfl) pe_dnewK)
      (pss_cons (ps_for PassesOwn.never rfl (pi_enumX K rfl B.enumerate (pa_cons (pv 0) pa_nil)) (pg_tupK (n := 2) K rfl (pgs_cons (pg_name (i := 2) nd rfl (Or.inl rfl)) (pgs_cons (pg_name (i := 3) nd rfl (Or.inl rfl)) pgs_nil))) (pss_one (ps_asg (pv 2) (pg_sub (pv 1) (pv 3) (set_X hr.units)))))
      (pss_one (ps_ret (pv 1))))), ?_⟩
    intro d hd
    have s0 := Same.new (o := .dK []) hd
    refine ⟨_, rfl, _, rfl, .lst (.of (s0 _ _ ha)) ?_⟩
    refine for_enum (xs := natV ks) (fun i σ H' => ∃ o1 o2 kvs, σ = [some (.ref a), some (.ref d), o1, o2] ∧ H' d = some (.dK kvs) ∧ (kvs.map (·.1)).Nodup ∧ (∀ k : Key, k ∈ kvs.map (·.1) ↔ ∃ t ∈ ks.take i, k = Sum.inl ((t : Nat) : Int)) ∧ kvs.length ≤ i ∧ Same H H') ?_ ?_ ?_ ?_
    · exact ⟨none, none, [], rfl, upd_same, List.nodup_nil, fun k => by simp, Nat.le_refl _, s0⟩
    · rintro i σ H' hi ⟨o1, o2, kvs, rfl, _, _, _, _, sm⟩
      exact .of (sm _ _ ha)
    · rintro i x σ H' p hx ⟨o1, o2, kvs, rfl, hk, knd, kmem, kl, sm⟩ hp
      obtain ⟨t, ht, rfl⟩ := nat_get' hx
      have hil := (List.getElem?_eq_some_iff.mp ht).1
      have hdp : d ≠ p := ne_of_none hk hp
      have kp := keys_put (k := (Sum.inl ((t : Nat) : Int) : Key)) (v := V.int (i : Nat)) knd
      refine ⟨p, _, rfl, .of upd_same, rfl, _, _, rfl, _, _, rfl, rfl, ?_⟩
      refine ⟨_, rfl, _, rfl, _, rfl, .dic (DPut.k (k := .inl ((t : Nat) : Int)) (by rw [upd_ne hdp]; exact hk) (small1000 (by omega))) ⟨_, _, _, rfl, upd_same, kp.1, fun j => ?_, ?_, ?_⟩⟩
      · rw [kp.2 j, kmem j, List.take_add_one, ht]
        constructor
        · rintro (⟨u, hu, rfl⟩ | rfl)
          · exact ⟨u, List.mem_append_left _ hu, rfl⟩
          · exact ⟨t, by simp, rfl⟩
        · rintro ⟨u, hu, rfl⟩
          rcases List.mem_append.mp hu with hu | hu
          · exact .inl ⟨u, hu, rfl⟩
          · have hu : u = t := by simpa using hu
            rw [hu]; exact .inr rfl
      · have := length_putK kvs (Sum.inl ((t : Nat) : Int) : Key) (V.int (i : Nat))
        omega
      · intro c o hc
        have h1 := sm c o hc
        rw [upd_ne (ne_of_none hc hd), upd_ne (ne_of_none h1 hp)]
        exact h1
    · rintro σ H' ⟨o1, o2, kvs, rfl, hk, knd, kmem, kl, sm⟩
      have nl : (natV ks).length = ks.length := List.length_map ..
      rw [nl] at kmem
      rw [List.take_of_length_le (Nat.le_refl _)] at kmem
      exact ⟨_, rfl, k d kvs H' sm hd hk (lenG knd kmem)⟩
noncomputable def spUnlG : Sp := fun vs H Q _ => ∃ (a : Addr) (ks : List Nat), vs = [.ref a] ∧ H a = some (.lst (natV ks)) ∧ ks.length ≤ 1000 ∧ ∀ H', Same H H' → Q (.bl (decide ks.Nodup)) H'
theorem ok_unlG {f : Addr} {fd : FuncData} (F : Fun K "are_unlike" "are_unlike" sUnlike f fd) (B : Blt mg) (cplaces_of : Cal P w K mg base 1 "places_of" ["things"] spPlG) : FnOk P w K mg base CX0 2 f fd ["things"] spUnlG := by
  refine F.ok scUnlike (fun vs H Q E h => ?_) (fun cdv A outer s H vs Q E hr h => ?_)
  · obtain ⟨a, ks, rfl, _⟩ := h
    rfl
  · obtain ⟨a, ks, rfl, ha, hl, k⟩ := h
    have nd := scUnlike.nd
    have nl : (natV ks).length = ks.length := List.length_map ..
    refine ⟨_, (pss_one (ps_ret (pe_cmpR (op_eqX hr.units) (b_lenD B (pa_cons (pe_cal cplaces_of (hr.mono (by decide)) rfl (pa_cons (pv 0) pa_nil)) pa_nil)) (b_len K B (pa_cons (pv 0) pa_nil)) (nomark _)))), ?_⟩
    refine ⟨_, rfl, a, ks, rfl, ha, hl, fun d kvs H1 s1 hd0 hd hlen => ⟨d, kvs, rfl, hd, _, rfl, _, _, rfl, SqA.len (K := K) (.inl (s1 _ _ ha)), .sc rfl ?_⟩⟩
    have e : decide (V.int (kvs.length : Nat) = V.int ((natV ks).length : Nat)) = decide ks.Nodup := by
      rw [Bool.eq_iff_iff, decide_eq_true_iff, decide_eq_true_iff, ← hlen, nl]
      exact ⟨fun z => Int.ofNat.inj (V.int.inj z), fun z => by rw [z]⟩
    show Q (.bl (decide (V.int (kvs.length : Nat) = V.int ((natV ks).length : Nat)))) H1
    rw [e]
    exact k H1 s1
theorem scWhole : FnScope ["thing"] ["thing"] (defScope sIsWhole) := ⟨rfl, rfl, rfl, by decide +kernel, rfl, by decide +kernel, by decide +kernel⟩
theorem isL_keep {H H' : Hp} {x : V} (h : Thg H x) (s : Same H H') : isL H' x = isL H x ∧ isT H' x = isT H x := by
  cases h with
  | non => exact ⟨rfl, rfl⟩
  | bl b => exact ⟨rfl, rfl⟩
  | int i => exact ⟨rfl, rfl⟩
  | str z => exact ⟨rfl, rfl⟩
  | lst e => exact ⟨by rw [isL_of e, isL_of (s _ _ e)], by rw [isT_not e (fun _ z => by cases z), isT_not (s _ _ e) (fun _ z => by cases z)]⟩
  | tup e => exact ⟨by rw [isL_not e (fun _ z => by cases z), isL_not (s _ _ e) (fun _ z => by cases z)], by rw [isT_of e, isT_of (s _ _ e)]⟩
  | dK e => exact ⟨by rw [isL_not e (fun _ z => by cases z), isL_not (s _ _ e) (fun _ z => by cases z)], by rw [isT_not e (fun _ z => by cases z), isT_not (s _ _ e) (fun _ z => by cases z)]⟩
  | dT e => exact ⟨by rw [isL_not e (fun _ z => by cases z), isL_not (s _ _ e) (fun _ z => by cases z)], by rw [isT_not e (fun _ z => by cases z), isT_not (s _ _ e) (fun _ z => by cases z)]⟩
noncomputable def wh (x : V) : Bool := isI x && !isB x
noncomputable def spWholeX : Sp := fun vs H Q _ => ∃ x, vs = [x] ∧ Thg H x ∧ Q (.bl (wh x)) H
theorem ok_wholeX {f : Addr} {fd : FuncData} (F : Fun K "is_whole" "is_whole" sIsWhole f fd) (B : Blt mg) : FnOk P w K mg base CX0 1 f fd ["thing"] spWholeX := by
  refine F.ok scWhole (fun vs H Q E h => ?_) (fun cdv A outer s H vs Q E hr h => ?_)
  · obtain ⟨x, rfl, _⟩ := h
    rfl
  · obtain ⟨x, rfl, hx, k⟩ := h
    have nd := scWhole.nd
    obtain ⟨t, ty, _, t2, t3, _⟩ := ty_thg (K := K) hx
    refine ⟨_, (pss_one (ps_ret (pe_and (b_isi K "int" B (pa_cons (pv 0) (pa_cons (g_int B) pa_nil))) (pe_one (pe_not (b_isi K "bool" B (pa_cons (pv 0) (pa_cons (g_bool B) pa_nil)))))))), ?_⟩
    refine ⟨_, rfl, _, t, _, rfl, ty, t2, _, rfl, ?_⟩
    unfold wh at k
    refine ite2 (fun h => ?_) (fun h => ?_)
    · rw [h] at k
      exact ⟨_, rfl, _, t, _, rfl, ty, t3, _, rfl, k⟩
    · have h : isI x = false := by simpa using h
      rw [h] at k
      exact k
end
end K31
namespace K31
open PySem L2
section
variable {P : Program} {w : World} {K : PySem.W.Frag} {mg : Str → Option Value} {base : Heap}
theorem isT_get {H : Hp} {x : V} (h : isT H x = true) : ∃ a us, x = .ref a ∧ H a = some (.tup us) := by
  cases x with
  | ref a =>
    have h : (match H a with | some (.tup _) => true | _ => false) = true := h
    split at h
    · rename_i xs e; exact ⟨a, xs, rfl, e⟩
    · cases h
  | _ => cases h
theorem isL_get {H : Hp} {x : V} (h : isL H x = true) : ∃ a us, x = .ref a ∧ H a = some (.lst us) := by
  cases x with
  | ref a =>
    have h : (match H a with | some (.lst _) => true | _ => false) = true := h
    split at h
    · rename_i xs e; exact ⟨a, xs, rfl, e⟩
    · cases h
  | _ => cases h
theorem isNm_get {x : V} (h : isNm x = true) : ∃ s, x = .str s ∧ Nm s := by
  cases x with
  | str s => exact ⟨s, rfl, isNm_iff.mp h⟩
  | _ => cases h
theorem wh_get {x : V} (h : wh x = true) : ∃ i, x = .int i := by
  cases x with
  | int i => exact ⟨i, rfl⟩
  | bl b => cases h
  | _ => cases h
open Classical in
noncomputable def dec (P : Prop) : Bool := decide P
open Classical in
theorem dec_t {P : Prop} (h : P) : dec P = true := by unfold dec; exact decide_eq_true h
open Classical in
theorem dec_f {P : Prop} (h : ¬ P) : dec P = false := by unfold dec; exact decide_eq_false h
open Classical in
theorem dec_iff {P : Prop} : dec P = true ↔ P := by unfold dec; exact decide_eq_true_iff
structure Tk (H : Hp) (x : V) : Prop where
  thg : Thg H x
  parts : ∀ a us, x = .ref a → H a = some (.tup us) → us.length ≤ 1000 ∧ ∀ u ∈ us, Thg H u
theorem Tk.same {H H' : Hp} {x : V} (h : Tk H x) (s : Same H H') : Tk H' x := by
  refine ⟨h.thg.same s, fun a us e ha => ?_⟩
  have : isT H x = true := by rw [← (isL_keep h.thg s).2, e]; exact isT_of ha
  obtain ⟨b, ws, eb, hb⟩ := isT_get this
  rw [e] at eb
  cases eb
  have := s _ _ hb
  rw [ha] at this
  cases this
  obtain ⟨h1, h2⟩ := h.parts a us e hb
  exact ⟨h1, fun u hu => (h2 u hu).same s⟩
noncomputable def mvOk (os : List Str) (H : Hp) (x : V) : Prop := ∃ (ta : Addr) (s : Str) (i : Nat) (j : Int), x = .ref ta ∧ H ta = some (.tup [.str s, .int (i : Int), .int j]) ∧ os[i]? = some s
noncomputable def spIsMvG : Sp := fun vs H Q _ => ∃ (d : Addr) (x : V) (kvs : List (Key × V)) (os : List Str), vs = [.ref d, x] ∧ H d = some (.dK kvs) ∧ (∀ s, (valV kvs (.inr s)).isSome = true ↔ s ∈ os) ∧ (∀ s v, valV kvs (.inr s) = some v → ∃ j : Nat, v = .int j ∧ os[j]? = some s) ∧ os.Nodup ∧ (∀ s ∈ os, Nm s) ∧ Tk H x ∧ ∀ H', Same H H' → Q (.bl (dec (mvOk os H x))) H'
theorem scIsMove : FnScope ["places", "move"] ["places", "move"] (defScope sIsMove) := ⟨rfl, rfl, rfl, by decide +kernel, rfl, by decide +kernel, by decide +kernel⟩
theorem ok_isMvG {f : Addr} {fd : FuncData} (F : Fun K "is_move" "is_move" sIsMove f fd) (B : Blt mg) (cis_name : Cal P w K mg base 1 "is_name" ["thing"] spIsName) (cis_whole : Cal P w K mg base 1 "is_whole" ["thing"] spWholeX) : FnOk P w K mg base CX0 2 f fd ["places", "move"] spIsMvG := by
  refine F.ok scIsMove (fun vs H Q E h => ?_) (fun cdv A outer s H vs Q E hr h => ?_)
  · obtain ⟨d, x, kvs, os, rfl, _⟩ := h
    rfl
  · obtain ⟨d, x, kvs, os, rfl, hd, hin, hix, ond, onm, tk, k⟩ := h
    have nd := scIsMove.nd
    obtain ⟨t, ty, _, _, _, _, t5⟩ := ty_thg (K := K) tk.thg
    have no : ¬ mvOk os H x → ∀ H', Same H H' → Q (.bl false) H' := fun h => by rw [dec_f h] at k; exact k
    have yes : mvOk os H x → ∀ H', Same H H' → Q (.bl true) H' := fun h => by rw [dec_t h] at k; exact k
    clear k
    refine ⟨_, (pss_cons (ps_if (PW.pt (pw_or (pt_not (pt_val (b_isi K "tuple" B (pa_cons (pv 1) (pa_cons (g_tuple B) pa_nil))))) (pw_or1 (pt_cmpR (op_neX hr.units) (b_len K B (pa_cons (pv 1) pa_nil)) pe_int (nomark _))))) (pss_one (ps_ret pe_bl)) pss_nil)
      (pss_cons (ps_if (PW.pt (pw_or (pt_not (pt_val (pe_cal cis_name (hr.mono (by decide)) rfl (pa_cons (pe_ix (ix_X K hr.units) (pv 1) pe_int (fun _ _ => rfl)) pa_nil)))) (pw_or (pt_not (pt_val (pe_cal cis_whole (hr.mono (by decide)) rfl (pa_cons (pe_ix (ix_X K hr.units) (pv 1) pe_int (fun _ _ => rfl)) pa_nil)))) (pw_or1 (pt_not (pt_val (pe_cal cis_whole (hr.mono (by decide)) rfl (pa_cons (pe_ix (ix_X K hr.units) (pv 1) pe_int (fun _ _ => rfl)) pa_nil)))))))) (pss_one (ps_ret pe_bl)) pss_nil)
      (pss_one (ps_ret (pe_and (pe_cmpR (op_inX K hr.units) (pe_ix (ix_X K hr.units) (pv 1) pe_int (fun _ _ => rfl)) (pv 0) (by with_unfolding_all rfl)) (pe_one (pe_cmpR (op_eqX hr.units) (pe_ix (ix_X K hr.units) (pv 0) (pe_ix (ix_X K hr.units) (pv 1) pe_int (fun _ _ => rfl)) (fun _ _ => rfl)) (pe_ix (ix_X K hr.units) (pv 1) pe_int (fun _ _ => rfl)) (nomark _)))))))), ?_⟩
    refine ⟨_, rfl, _, t, _, rfl, ty, t5, _, rfl, ite2 (fun h => ?_) (fun h => ?_)⟩
    · have h : isT H x = false := by simpa using h
      refine no (fun z => ?_) _ (Same.refl H)
      obtain ⟨ta, s, i, j, rfl, ht, _⟩ := z
      rw [isT_of ht] at h
      cases h
    have h : isT H x = true := by simpa using h
    obtain ⟨ta, us, rfl, hta⟩ := isT_get h
    obtain ⟨ul, uth⟩ := tk.parts ta us rfl hta
    refine ⟨_, rfl, _, _, rfl, SqA.len (K := K) (.inr hta), .sc rfl ⟨_, rfl, ite2 (fun h3 => ?_) (fun h3 => ?_)⟩⟩
    · have h3 : ¬ us.length = 3 := fun z => by
        have h3 : (!decide (V.int ((us.length : Nat) : Int) = V.int 3)) = true := h3
        rw [z] at h3
        cases h3
      refine no (fun z => ?_) _ (Same.refl H)
      obtain ⟨tb, s, i, j, e, ht, _⟩ := z
      cases e
      rw [hta] at ht
      cases ht
      exact h3 rfl
    have h3 : us.length = 3 := by
      have h3 : ¬ (!decide (V.int ((us.length : Nat) : Int) = V.int 3)) = true := h3
      have h3 : V.int ((us.length : Nat) : Int) = V.int 3 := by simpa using h3
      have := V.int.inj h3
      omega
    obtain ⟨u, v, w', rfl⟩ : ∃ u v w', us = [u, v, w'] := by
      match us, h3 with
      | [u, v, w'], _ => exact ⟨u, v, w', rfl⟩
    have un : ∀ {s : Str} {i : Nat} {j : Int}, [V.str s, V.int (i : Int), V.int j] = [u, v, w'] → isNm u = false → os[i]? = some s → False := fun e hn ho => by
      cases e
      rw [isNm_iff.mpr (onm _ (List.mem_of_getElem? ho))] at hn
      cases hn
    refine ⟨_, rfl, .tup (.of hta) rfl ⟨_, rfl, uth u (by simp), fun H1 s1 => ⟨_, rfl, ite2 (fun hn => ?_) (fun hn => ?_)⟩⟩⟩
    · have hn : isNm u = false := by simpa using hn
      refine no (fun z => ?_) _ s1
      obtain ⟨tb, s, i, j, e, ht, ho⟩ := z
      cases e
      rw [hta] at ht
      exact un (by cases ht; rfl) hn ho
    have hn : isNm u = true := by simpa using hn
    have hta1 := s1 _ _ hta
    refine ⟨_, rfl, .tup (.of hta1) rfl ⟨_, rfl, (uth v (by simp)).same s1, ⟨_, rfl, ite2 (fun hv => ?_) (fun hv => ?_)⟩⟩⟩
    · have hv : wh v = false := by simpa using hv
      refine no (fun z => ?_) _ s1
      obtain ⟨tb, s, i, j, e, ht, ho⟩ := z
      cases e
      rw [hta] at ht
      cases ht
      cases hv
    have hv : wh v = true := by simpa using hv
    refine ⟨_, rfl, .tup (.of hta1) rfl ⟨_, rfl, (uth w' (by simp)).same s1, ⟨_, rfl, ite2 (fun hw => ?_) (fun hw => ?_)⟩⟩⟩
    · have hw : wh w' = false := by simpa using hw
      refine no (fun z => ?_) _ s1
      obtain ⟨tb, s, i, j, e, ht, ho⟩ := z
      cases e
      rw [hta] at ht
      cases ht
      cases hw
    have hw : wh w' = true := by simpa using hw
    obtain ⟨s0, rfl, nm0⟩ := isNm_get hn
    obtain ⟨i0, rfl⟩ := wh_get hv
    obtain ⟨j0, rfl⟩ := wh_get hw
    have hd1 := s1 _ _ hd
    refine ⟨_, rfl, .tup (.of hta1) rfl ⟨_, rfl, .dic (DGet.k (k := .inr s0) hd1) ⟨_, rfl, ite2 (fun hs => ?_) (fun hs => ?_)⟩⟩⟩
    rotate_left
    · have hs : ¬ (valV kvs (.inr s0)).isSome = true := hs
      refine no (fun z => ?_) _ s1
      obtain ⟨tb, s, i, j, e, ht, ho⟩ := z
      cases e
      rw [hta] at ht
      cases ht
      exact hs ((hin _).mpr (List.mem_of_getElem? ho))
    have hs : (valV kvs (.inr s0)).isSome = true := hs
    obtain ⟨v0, ev⟩ := Option.isSome_iff_exists.mp hs
    obtain ⟨j1, rfl, oj⟩ := hix s0 v0 ev
    refine ⟨_, rfl, _, rfl, .tup (.of hta1) rfl (.dic (.inl ⟨_, .inr s0, .inl hd1, rfl, ev.symm⟩) ⟨_, rfl, .tup (.of hta1) rfl (.sc rfl ?_)⟩)⟩
    show Q (.bl (decide (V.int (j1 : Nat) = V.int i0))) H1
    by_cases q : i0 = ((j1 : Nat) : Int)
    · subst q
      rw [decide_eq_true rfl]
      exact yes ⟨ta, s0, j1, j0, rfl, hta, oj⟩ _ s1
    · rw [decide_eq_false fun z => q (V.int.inj z).symm]
      refine no (fun z => ?_) _ s1
      obtain ⟨tb, s, i, j, e, ht, ho⟩ := z
      cases e
      rw [hta] at ht
      cases ht
      exact q (by have := (List.getElem?_inj (List.getElem?_eq_some_iff.mp oj).1 ond).mp (oj.trans ho.symm); omega)
end
end K31
namespace K31
open PySem L2
section
variable {P : Program} {w : World} {K : PySem.W.Frag} {mg : Str → Option Value} {base : Heap}
theorem pl_at {kvs : List (Key × V)} {os : List Str} (nd : os.Nodup) (h1 : ∀ s, (valV kvs (.inr s)).isSome = true ↔ s ∈ os) (h2 : ∀ s v, valV kvs (.inr s) = some v → ∃ j : Nat, v = .int j ∧ os[j]? = some s) {s : Str} (hm : s ∈ os) : valV kvs (.inr s) = some (.int ((os.idxOf s : Nat) : Int)) := by
  cases e : valV kvs (.inr s) with
  | none => have := (h1 s).mpr hm; rw [e] at this; cases this
  | some v =>
    obtain ⟨j, rfl, hj⟩ := h2 s v e
    rw [idx_of nd hj]
structure Mvs (os : List Str) (ms : List (Str × Nat × Nat)) : Prop where
  at_ : ∀ m ∈ ms, os[m.2.1]? = some m.1
  nd : (ms.map fun m => m.2.1).Nodup
  pm : (ms.map fun m => m.2.2).Perm (ms.map fun m => m.2.1)
theorem Mvs.len {os : List Str} {ms : List (Str × Nat × Nat)} (h : Mvs os ms) : ms.length ≤ os.length := by
  have := h.nd.length_le_of_subset (l₂ := List.range os.length) fun k hk => by
    obtain ⟨m, hm, rfl⟩ := List.mem_map.mp hk
    exact List.mem_range.mpr (List.getElem?_eq_some_iff.mp (h.at_ m hm)).1
  rwa [List.length_map, List.length_range] at this
theorem Mvs.lt {os : List Str} {ms : List (Str × Nat × Nat)} (h : Mvs os ms) : ∀ m ∈ ms, m.2.2 < os.length := fun m hm => by
  have h1 : m.2.2 ∈ ms.map fun m => m.2.1 := h.pm.mem_iff.mp (List.mem_map.mpr ⟨m, hm, rfl⟩)
  obtain ⟨n, hn, e⟩ := List.mem_map.mp h1
  rw [← e]
  exact (List.getElem?_eq_some_iff.mp (h.at_ n hn)).1
theorem shp_ints (zs : List Int) : shp (intsD zs) := by
  have a : ∀ zs : List Int, PyData.canLayAll0 (zs.map PyData.int) = true ∧ PyData.depthAll (zs.map PyData.int) = 0 := by
    intro zs
    induction zs with
    | nil => exact ⟨rfl, rfl⟩
    | cons x xs ih =>
      refine ⟨?_, ?_⟩
      · show (PyData.canLay0 (.int x) && PyData.canLayAll0 (xs.map PyData.int)) = true
        rw [ih.1]; rfl
      · show max (PyData.depth (.int x)) (PyData.depthAll (xs.map PyData.int)) = 0
        rw [ih.2]; rfl
  show (PyData.canLayAll0 (zs.map PyData.int) && decide (PyData.depthAll (zs.map PyData.int) + 1 ≤ 64)) = true
  rw [(a zs).1, (a zs).2]; rfl
theorem sorted_same {as bs : List Int} (hp : as.Perm bs) (ha : as.Pairwise (· ≤ ·)) (hb : bs.Pairwise (· ≤ ·)) : as = bs :=
  List.Perm.eq_of_pairwise (le := (· ≤ ·)) (fun a b _ _ h1 h2 => Int.le_antisymm h1 h2) ha hb hp
theorem eqv_int (a b : Int) : PyData.eqv (.int a) (.int b) = decide (a = b) := by
  show (a == b) = decide (a = b)
  rw [Bool.eq_iff_iff, beq_iff_eq, decide_eq_true_iff]
theorem eqv_intsD : ∀ as bs : List Int, PyData.eqv (intsD as) (intsD bs) = decide (as = bs)
  | [], [] => rfl
  | [], _ :: _ => rfl
  | _ :: _, [] => rfl
  | a :: as, b :: bs => by
    show (PyData.eqv (.int a) (.int b) && PyData.eqv (intsD as) (intsD bs)) = _
    rw [eqv_int, eqv_intsD as bs, Bool.eq_iff_iff, Bool.and_eq_true, decide_eq_true_iff, decide_eq_true_iff, decide_eq_true_iff]
    exact ⟨fun ⟨h, g⟩ => by rw [h, g], fun h => by cases h; exact ⟨rfl, rfl⟩⟩
noncomputable def mvZ (m : Str × Nat × Int) : PyData := .tuple [.str m.1, .int (m.2.1 : Nat), .int m.2.2]
theorem mz_at {H : Hp} {v : V} {m : Str × Nat × Int} (h : Rep H v (mvZ m)) : ∃ a, v = .ref a ∧ H a = some (.tup [.str m.1, .int (m.2.1 : Nat), .int m.2.2]) := by
  cases h with
  | tup e rs =>
    cases rs with
    | cons r1 rs =>
      cases rs with
      | cons r2 rs =>
        cases rs with
        | cons r3 rs => cases rs; cases r1; cases r2; cases r3; exact ⟨_, rfl, e⟩
theorem mz_rep {H : Hp} {a : Addr} {s : Str} {k : Nat} {n : Int} (h : H a = some (.tup [.str s, .int (k : Int), .int n])) : Rep H (.ref a) (mvZ (s, k, n)) := .tup h (.cons (.str _) (.cons (.int _) (.cons (.int _) .nil)))
theorem mz_get {H : Hp} {refs : List V} {ms : List (Str × Nat × Int)} (rp : RepAll H refs (ms.map mvZ)) {j : Nat} {x : V} (hx : refs[j]? = some x) : ∃ m ta, ms[j]? = some m ∧ x = .ref ta ∧ H ta = some (.tup [.str m.1, .int (m.2.1 : Nat), .int m.2.2]) := by
  obtain ⟨d, hd, rd⟩ := rp.get hx
  rw [List.getElem?_map] at hd
  cases q : ms[j]? with
  | none => rw [q] at hd; cases hd
  | some e =>
    rw [q] at hd
    have hd : mvZ e = d := Option.some.inj hd
    rw [← hd] at rd
    obtain ⟨ta, h1, h2⟩ := mz_at rd
    exact ⟨e, ta, rfl, h1, h2⟩
theorem mz_inj {H : Hp} : ∀ {xs : List V} {ms ms' : List (Str × Nat × Int)}, RepAll H xs (ms.map mvZ) → RepAll H xs (ms'.map mvZ) → ms = ms'
  | [], [], [], _, _ => rfl
  | [], [], _ :: _, _, h => by cases h
  | [], _ :: _, _, h, _ => by cases h
  | _ :: _, [], _, h, _ => by cases h
  | _ :: _, _ :: _, [], _, h => by cases h
  | x :: xs, m :: ms, m' :: ms', h, h' => by
    cases h with
    | cons a b =>
      cases h' with
      | cons a' b' =>
        obtain ⟨p, e1, e2⟩ := mz_at a
        obtain ⟨p', e1', e2'⟩ := mz_at a'
        rw [e1] at e1'
        cases e1'
        rw [e2] at e2'
        have e2' := List.cons.inj (HO.tup.inj (Option.some.inj e2'))
        obtain ⟨q1, q2⟩ := e2'
        obtain ⟨q2, q3⟩ := List.cons.inj q2
        obtain ⟨q3, _⟩ := List.cons.inj q3
        have q1 := V.str.inj q1
        have q2 := V.int.inj q2
        have q3 := V.int.inj q3
        rw [mz_inj b b', show m = m' from Prod.ext q1 (Prod.ext (by omega) q3)]
theorem mz_all {os : List Str} {H : Hp} : ∀ {xs : List V}, (∀ y ∈ xs, mvOk os H y) → ∃ ms : List (Str × Nat × Int), RepAll H xs (ms.map mvZ) ∧ ∀ m ∈ ms, os[m.2.1]? = some m.1
  | [], _ => ⟨[], .nil, fun _ h => by cases h⟩
  | x :: xs, h => by
    obtain ⟨ms, r, ho⟩ := mz_all fun y hy => h y (List.mem_cons_of_mem _ hy)
    obtain ⟨ta, s, i, j, rfl, ht, hs⟩ := h x (by simp)
    refine ⟨(s, i, j) :: ms, .cons (mz_rep ht) r, fun m hm => ?_⟩
    rcases List.mem_cons.mp hm with rfl | hm
    · exact hs
    · exact ho m hm
theorem mvOk_same {os : List Str} {H H' : Hp} {x : V} (tk : Tk H x) (s : Same H H') : mvOk os H' x ↔ mvOk os H x := by
  constructor
  · rintro ⟨ta, z, i, j, rfl, ht, ho⟩
    have : isT H (.ref ta) = true := by rw [← (isL_keep tk.thg s).2]; exact isT_of ht
    obtain ⟨b, ws, eb, hb⟩ := isT_get this
    cases eb
    have e := s _ _ hb
    rw [ht] at e
    cases e
    exact ⟨_, z, i, j, rfl, hb, ho⟩
  · rintro ⟨ta, z, i, j, rfl, ht, ho⟩
    exact ⟨ta, z, i, j, rfl, s _ _ ht, ho⟩
structure TkL (H : Hp) (x : V) : Prop where
  thg : Thg H x
  items : ∀ l xs, x = .ref l → H l = some (.lst xs) → xs.length ≤ 61 ∧ ∀ y ∈ xs, Tk H y
noncomputable def areOk (os : List Str) (H : Hp) (x : V) : Prop := ∃ (l : Addr) (xs : List V) (ms : List (Str × Nat × Int)), x = .ref l ∧ H l = some (.lst xs) ∧ RepAll H xs (ms.map mvZ) ∧ (∀ m ∈ ms, os[m.2.1]? = some m.1) ∧ (ms.map fun m => m.2.1).Nodup ∧ (ms.map fun m => m.2.2).Perm (ms.map fun m => ((m.2.1 : Nat) : Int))
noncomputable def spAreQ : Sp := fun vs H Q _ => ∃ (lo : Addr) (x : V) (os : List Str), vs = [.ref lo, x] ∧ H lo = some (.lst (List.map V.str os)) ∧ os.Nodup ∧ os.length ≤ 60 ∧ (∀ s ∈ os, Nm s) ∧ TkL H x ∧ ∀ H', Same H H' → Q (.bl (dec (areOk os H x))) H'
theorem scAreMoves : FnScope ["order", "told", "places", "olds"] ["order", "told"] (defScope sAreMoves) := ⟨rfl, rfl, rfl, by decide +kernel, rfl, by decide +kernel, by decide +kernel⟩
theorem ok_areQ {f : Addr} {fd : FuncData} (F : Fun K "are_moves" "are_moves" sAreMoves f fd) (B : Blt mg) (Z : mg "sorted" = none) (cplaces_of : Cal P w K mg base 1 "places_of" ["things"] spPlaces) (cis_move : Cal P w K mg base 2 "is_move" ["places", "move"] spIsMvG) (care_unlike : Cal P w K mg base 2 "are_unlike" ["things"] spUnlG) : FnOk P w K mg base CX0 3 f fd ["order", "told"] spAreQ := by
  refine F.ok scAreMoves (fun vs H Q E h => ?_) (fun cdv A outer s H vs Q E hr h => ?_)
  · obtain ⟨lo, x, os, rfl, _⟩ := h
    rfl
  · obtain ⟨lo, x, os, rfl, ho, ond, h60, onm, tk, k⟩ := h
    have nd := scAreMoves.nd
    have no : ¬ areOk os H x → ∀ H', Same H H' → Q (.bl false) H' := fun h => by rw [dec_f h] at k; exact k
    refine ⟨_, (pss_cons (ps_set (i := 2) nd rfl (Or.inr rfl) (pe_cal cplaces_of (hr.mono (by decide)) rfl (pa_cons (pv 0) pa_nil)))
      (pss_cons (ps_if (PW.pt (pw_or (pt_not (pt_val (b_isi K "list" B (pa_cons (pv 1) (pa_cons (g_list B) pa_nil))))) (pw_or1 (pt_not (pt_val (b_all rfl B (pa_cons (pe_comp (defScope sAreMoves) ["order", "told", "places", "olds"] ["move"] [2] ["move", "places"] rfl (pi_listK K (pv 1)) (fun _ _ _ _ _ => (pg_name (i := 0) (show (["move", "places"] : List Str).Nodup by decide) rfl (Or.inl rfl))) (fun _ _ _ _ _ => pts_nil) (fun _ _ _ _ _ => (pe_cal cis_move (hr.mono (by decide)) rfl (pa_cons (pv 1) (pa_cons (pv 0) pa_nil))))) pa_nil))))))) (pss_one (ps_ret pe_bl)) pss_nil)
      (pss_cons (ps_setC (i := 3) nd rfl rfl (by rfl) (defScope sAreMoves) ["order", "told", "places", "olds"] ["move"] [] ["move"] rfl (pi_listK K (pv 1)) (fun _ _ _ _ _ => (pg_name (i := 0) (show (["move"] : List Str).Nodup by decide) rfl (Or.inl rfl))) (fun _ _ _ _ _ => pts_nil) (fun _ _ _ _ _ => (pe_ix (ix_X K hr.units) (pv 0) pe_int (fun _ _ => rfl))))
      (pss_one (ps_ret (pe_and (pe_cal care_unlike (hr.mono (by decide)) rfl (pa_cons (pv 3) pa_nil)) (pe_one (pe_cmpR (op_eqX hr.units) (b_sorted K Z (pa_cons (pe_comp (defScope sAreMoves) ["order", "told", "places", "olds"] ["move"] [] ["move"] rfl (pi_listK K (pv 1)) (fun _ _ _ _ _ => (pg_name (i := 0) (show (["move"] : List Str).Nodup by decide) rfl (Or.inl rfl))) (fun _ _ _ _ _ => pts_nil) (fun _ _ _ _ _ => (pe_ix (ix_X K hr.units) (pv 0) pe_int (fun _ _ => rfl)))) pa_nil)) (b_sorted K Z (pa_cons (pv 3) pa_nil)) (nomark _))))))))), ?_⟩
    refine ⟨_, rfl, lo, os, rfl, ho, by omega, fun d kvs H1 s1 hd0 hd hin hix => ?_⟩
    obtain ⟨tt, ty, _, _, _, t4, _⟩ := ty_thg (K := K) (tk.thg.same s1)
    rw [(isL_keep tk.thg s1).1] at t4
    refine ⟨_, rfl, _, tt, _, rfl, ty, t4, _, rfl, ite2 (fun h => ?_) (fun h => ?_)⟩
    · have h : isL H x = false := by simpa using h
      refine no (fun z => ?_) _ s1
      obtain ⟨l, xs, ms, rfl, hl, _⟩ := z
      rw [isL_of hl] at h
      cases h
    have h : isL H x = true := by simpa using h
    obtain ⟨l, refs, rfl, hl⟩ := isL_get h
    obtain ⟨rlen, rtk⟩ := tk.items l refs rfl hl
    have hl1 := s1 _ _ hl
    refine ⟨_, rfl, l, rfl, ⟨_, .of hl1⟩, ?_⟩
    refine comp_list refs (fun D i acc σ' H' => ∃ o, σ' = [o, some (.ref d)] ∧ acc = List.map V.bl ((refs.take i).map fun y => dec (mvOk os H y)) ∧ Same H1 H' ∧ H1 D = none) fun D hD => ⟨?_, ?_, ?_, ?_⟩
    · exact ⟨none, rfl, rfl, Same.new hD, hD⟩
    · rintro i acc σ' H' _ ⟨o, rfl, _, sm, _⟩ _
      exact .of (sm _ _ hl1)
    · rintro i acc σ' H' y hy ⟨o, rfl, rfl, sm, hD0⟩ hacc
      have hil := (List.getElem?_eq_some_iff.mp hy).1
      have ytk := rtk y (List.mem_of_getElem? hy)
      have sH := s1.trans sm
      refine gYes ?_
      refine ⟨_, rfl, _, rfl, d, y, kvs, os, rfl, sm _ _ hd, hin, hix, ond, onm, ytk.same sH, fun H2 s2 => ?_⟩
      have e : dec (mvOk os H' y) = dec (mvOk os H y) := by rw [Bool.eq_iff_iff, dec_iff, dec_iff]; exact mvOk_same ytk sH
      rw [e]
      exact ⟨s2 _ _ hacc, by rw [List.length_map, List.length_map, List.length_take]; exact small1000 (by omega), _, rfl, by rw [List.take_add_one, hy, List.map_append, List.map_append]; rfl, same_at (sm.trans s2) hD0, hD0⟩
    rintro acc σ' H2 ⟨o, rfl, rfl, s2, hD0⟩ hacc
    rw [List.take_of_length_le (Nat.le_refl _)] at hacc
    have s12 := s1.trans s2
    refine ⟨D, _, rfl, hacc, ⟨_, rfl, ite2 (fun h => ?_) (fun h => ?_)⟩⟩
    · refine no (fun z => ?_) _ s12
      obtain ⟨l', xs, ms, e, hl', rp, ho', _⟩ := z
      cases e
      rw [hl] at hl'
      cases hl'
      have : ((refs.map fun y => dec (mvOk os H y)).all id) = true := by
        rw [List.all_eq_true]
        intro b hb
        obtain ⟨y, hy, rfl⟩ := List.mem_map.mp hb
        obtain ⟨j, hj⟩ := List.getElem?_of_mem hy
        obtain ⟨m, ta, hm, rfl, hta⟩ := mz_get rp hj
        exact dec_t ⟨ta, m.1, m.2.1, m.2.2, rfl, hta, ho' m (List.mem_of_getElem? hm)⟩
      rw [this] at h
      cases h
    have hall : ∀ y ∈ refs, mvOk os H y := fun y hy => by
      have h : ((refs.map fun y => dec (mvOk os H y)).all id) = true := by simpa using h
      exact dec_iff.mp (List.all_eq_true.mp h _ (List.mem_map.mpr ⟨y, hy, rfl⟩))
    obtain ⟨ms, rp, mo⟩ := mz_all hall
    have rl := rp.len
    rw [List.length_map] at rl
    have hl2 := s12 _ _ hl
    have rp2 := rp.same s12
    refine ⟨_, rfl, l, rfl, ⟨_, .of hl2⟩, ?_⟩
    refine comp_list refs (fun D i acc σ' H' => ∃ o, σ' = [o] ∧ acc = natV ((ms.take i).map fun m => m.2.1) ∧ Same H2 H' ∧ H2 D = none) fun Do hDo => ⟨?_, ?_, ?_, ?_⟩
    · exact ⟨none, rfl, rfl, Same.new hDo, hDo⟩
    · rintro i acc σ' H' _ ⟨o, rfl, _, sm, _⟩ _
      exact .of (sm _ _ hl2)
    · rintro i acc σ' H' x hx ⟨o, rfl, rfl, sm, hD0⟩ hacc
      have hil := (List.getElem?_eq_some_iff.mp hx).1
      obtain ⟨m, ta, hm, rfl, hta⟩ := mz_get (rp2.same sm) hx
      refine gYes ?_
      refine ⟨_, rfl, .tup (.of hta) rfl ?_⟩
      exact ⟨hacc, by unfold natV; rw [List.length_map, List.length_map, List.length_take]; exact small1000 (by omega), _, rfl, by rw [List.take_add_one, hm, List.map_append]; unfold natV; rw [List.map_append]; rfl, same_at sm hD0, hD0⟩
    rintro acc σ' H3 ⟨o, rfl, rfl, s3, hDo0⟩ hacco
    rw [rl, List.take_of_length_le (Nat.le_refl _)] at hacco
    have okI : areOk os H (.ref l) ↔ ((ms.map fun m => m.2.1).Nodup ∧ (ms.map fun m => m.2.2).Perm (ms.map fun m => ((m.2.1 : Nat) : Int))) := by
      constructor
      · rintro ⟨l', xs, ms', e, hl', rp', _, h1, h2⟩
        cases e
        rw [hl] at hl'
        cases hl'
        rw [mz_inj rp rp']
        exact ⟨h1, h2⟩
      · rintro ⟨h1, h2⟩
        exact ⟨l, refs, ms, rfl, hl, rp, mo, h1, h2⟩
    refine ⟨_, rfl, Do, _, rfl, hacco, by rw [List.length_map]; omega, fun H4 s4 => ⟨_, rfl, ite2 (fun ond1 => ?_) (fun hno => ?_)⟩⟩
    rotate_left
    · exact no (fun z => hno (decide_eq_true (okI.mp z).1)) _ ((s12.trans s3).trans s4)
    have ond1 := of_decide_eq_true ond1
    have s14 := (s12.trans s3).trans s4
    have hl4 := s14 _ _ hl
    have rp4 := rp.same s14
    refine ⟨_, rfl, l, rfl, ⟨_, .of hl4⟩, ?_⟩
    refine comp_list refs (fun D i acc σ' H' => ∃ o, σ' = [o] ∧ acc = List.map V.int ((ms.take i).map fun m => m.2.2) ∧ Same H4 H' ∧ H4 D = none) fun Dn hDn => ⟨?_, ?_, ?_, ?_⟩
    · exact ⟨none, rfl, rfl, Same.new hDn, hDn⟩
    · rintro i acc σ' H' _ ⟨o, rfl, _, sm, _⟩ _
      exact .of (sm _ _ hl4)
    · rintro i acc σ' H' x hx ⟨o, rfl, rfl, sm, hD0⟩ hacc
      have hil := (List.getElem?_eq_some_iff.mp hx).1
      obtain ⟨m, ta, hm, rfl, hta⟩ := mz_get (rp4.same sm) hx
      refine gYes ?_
      refine ⟨_, rfl, .tup (.of hta) rfl ?_⟩
      exact ⟨hacc, by rw [List.length_map, List.length_map, List.length_take]; exact small1000 (by omega), _, rfl, by rw [List.take_add_one, hm, List.map_append, List.map_append]; rfl, same_at sm hD0, hD0⟩
    rintro acc σ' H5 ⟨o, rfl, rfl, s5, hDn0⟩ haccn
    rw [rl, List.take_of_length_le (Nat.le_refl _)] at haccn
    have toI : ∀ xs : List Nat, natV xs = List.map V.int (xs.map fun x : Nat => (x : Int)) := fun xs => by unfold natV; rw [List.map_map]; rfl
    refine ⟨Dn, ms.map fun m => m.2.2, rfl, .of haccn, by rw [List.length_map]; omega, fun l6 n6 hl6 p6 o6 => ?_⟩
    have s6 := Same.new (o := .lst (List.map V.int n6)) hl6
    have hacco6 := ((s4.trans s5).trans s6) _ _ hacco
    refine ⟨_, rfl, Do, (ms.map fun m => m.2.1).map fun x : Nat => (x : Int), rfl, .of (by rw [← toI]; exact hacco6), by rw [List.length_map, List.length_map]; omega, fun l7 n7 hl7 p7 o7 => ?_⟩
    have s7 := Same.new (o := .lst (List.map V.int n7)) hl7
    refine .tr (.lst (s7 _ _ upd_same) (repAll_int n6)) (.lst upd_same (repAll_int n7)) (shp_ints n6) (shp_ints n7) ?_
    have em : ((ms.map fun m => m.2.1).map fun x : Nat => (x : Int)) = ms.map fun m => ((m.2.1 : Nat) : Int) := by rw [List.map_map]; rfl
    rw [em] at p7
    have e : decide (n6 = n7) = dec (areOk os H (.ref l)) := by
      rw [Bool.eq_iff_iff, decide_eq_true_iff, dec_iff, okI]
      constructor
      · rintro rfl
        exact ⟨ond1, p6.symm.trans p7⟩
      · intro z
        exact sorted_same (p6.trans (z.2.trans p7.symm)) o6 o7
    show Q (.bl (PyData.eqv (intsD n6) (intsD n7))) _
    rw [eqv_intsD, e]
    exact k _ (((s14.trans s5).trans s6).trans s7)
end
end K31
namespace K31
open PySem L2
section
variable {P : Program} {w : World} {K : PySem.W.Frag} {mg : Str → Option Value} {base : Heap}
noncomputable def spAreMoves : Sp := fun vs H Q _ => ∃ (lo l : Addr) (refs : List V) (os : List Str) (ms : List (Str × Nat × Nat)), vs = [.ref lo, .ref l] ∧ H lo = some (.lst (List.map V.str os)) ∧ os.Nodup ∧ os.length ≤ 60 ∧ (∀ s ∈ os, Nm s) ∧ H l = some (.lst refs) ∧ RepAll H refs (ms.map mvD) ∧ Mvs os ms ∧ ∀ H', Same H H' → Q (.bl true) H'
theorem are_right {vs : List V} {H : Hp} {Q : VK} {E : XK} (h : spAreMoves vs H Q E) : spAreQ vs H Q E := by
  obtain ⟨lo, l, refs, os, ms, rfl, ho, ond, h60, onm, hl, rp, M, k⟩ := h
  have ml := M.len
  have rl := rp.len
  rw [List.length_map] at rl
  have em : (ms.map fun m : Str × Nat × Nat => ((m.1, m.2.1, ((m.2.2 : Nat) : Int)) : Str × Nat × Int)).map mvZ = ms.map mvD := by rw [List.map_map]; rfl
  refine ⟨lo, .ref l, os, rfl, ho, ond, h60, onm, ⟨.lst hl, fun l' xs e hl' => ?_⟩, ?_⟩
  · cases e
    rw [hl] at hl'
    cases hl'
    refine ⟨by omega, fun y hy => ?_⟩
    obtain ⟨j, hj⟩ := List.getElem?_of_mem hy
    obtain ⟨m, ta, hm, rfl, hta⟩ := mv_get rp hj
    refine ⟨.tup hta, fun a us e ha => ?_⟩
    cases e
    rw [hta] at ha
    cases ha
    refine ⟨by show 3 ≤ 1000; decide, fun u hu => ?_⟩
    rcases List.mem_cons.mp hu with rfl | hu
    · exact .str (nmS (onm _ (List.mem_of_getElem? (M.at_ m (List.mem_of_getElem? hm)))))
    · rcases List.mem_cons.mp hu with rfl | hu
      · exact .int _
      · rw [List.mem_singleton.mp hu]; exact .int _
  · rw [dec_t]
    · exact k
    · refine ⟨l, refs, ms.map fun m : Str × Nat × Nat => ((m.1, m.2.1, ((m.2.2 : Nat) : Int)) : Str × Nat × Int), rfl, hl, by rw [em]; exact rp, fun m hm => ?_, ?_, ?_⟩
      · obtain ⟨n, hn, rfl⟩ := List.mem_map.mp hm
        exact M.at_ n hn
      · rw [List.map_map]
        exact M.nd
      · rw [List.map_map, List.map_map]
        have := M.pm.map fun x : Nat => (x : Int)
        rw [List.map_map, List.map_map] at this
        exact this
noncomputable def spLetF : Sp := fun vs H Q _ => ∃ (a b c x : V) (lo : Addr) (os : List Str), vs = [a, .ref lo, b, c, x] ∧ H lo = some (.lst (List.map V.str os)) ∧ os.Nodup ∧ os.length ≤ 60 ∧ (∀ s ∈ os, Nm s) ∧ TkL H x ∧ ¬ areOk os H x ∧ ∀ H', Same H H' → Q (.bl false) H'
theorem scLets : FnScope ["web", "order", "one", "other", "told", "moving", "places", "ties"] ["web", "order", "one", "other", "told"] (defScope sLets) := ⟨rfl, rfl, rfl, by decide +kernel, rfl, by decide +kernel, by decide +kernel⟩
theorem ok_letF {f : Addr} {fd : FuncData} (F : Fun K "lets_moves" "lets_moves" sLets f fd) (B : Blt mg) (care_moves : Cal P w K mg base 3 "are_moves" ["order", "told"] spAreQ) : FnOk P w K mg base CX0 4 f fd ["web", "order", "one", "other", "told"] spLetF := by
  refine F.ok scLets (fun vs H Q E h => ?_) (fun cdv A outer s H vs Q E hr h => ?_)
  · obtain ⟨a, b, c, x, lo, os, rfl, _⟩ := h
    rfl
  · obtain ⟨a, b, c, x, lo, os, rfl, ho, ond, h60, onm, tk, nok, k⟩ := h
    have nd := scLets.nd
    refine ⟨_, (pss_cons (ps_if (pt_not (pt_val (pe_cal care_moves (hr.mono (by decide)) rfl (pa_cons (pv 1) (pa_cons (pv 4) pa_nil))))) (pss_one (ps_ret pe_bl)) pss_nil)
      pss_never), ?_⟩
    refine ⟨_, rfl, _, rfl, lo, x, os, rfl, ho, ond, h60, onm, tk, fun H1 s1 => ?_⟩
    rw [dec_f nok]
    exact ⟨_, rfl, ite2 (fun _ => k H1 s1) (fun h => absurd rfl h)⟩
end
end K31
namespace K31
open PySem L2
section
variable {P : Program} {w : World} {K : PySem.W.Frag} {mg : Str → Option Value} {base : Heap}
noncomputable def touchB (mv : List Str) (e : Str × Str) : Bool := decide (e.1 ∈ mv) || decide (e.2 ∈ mv)
noncomputable def letB (gs mv : List Str) (ts : List (Str × Str)) (one other : Str) : Bool := ((ts.filter (touchB mv)) ++ [(one, other)]).all fun e => decide (gs.idxOf e.1 < gs.idxOf e.2)
noncomputable def spLets : Sp := fun vs H Q _ => ∃ (wq lo l : Addr) (refs : List V) (ss : List Str) (ts : List (Str × Str)) (os gs : List Str) (one other : Str) (ms : List (Str × Nat × Nat)), vs = [.ref wq, .ref lo, .str one, .str other, .ref l] ∧ WebO H (.ref wq) ss ts lo os ∧ one ∈ ss ∧ other ∈ ss ∧ H l = some (.lst refs) ∧ RepAll H refs (ms.map mvD) ∧ Mvs os ms ∧ setAll os (ms.map fun m => (m.2.2, m.1)) = gs ∧ gs.Perm os ∧
  ∀ H', Same H H' → Q (.bl (letB gs (ms.map (·.1)) ts one other)) H'
theorem ok_lets {f : Addr} {fd : FuncData} (F : Fun K "lets_moves" "lets_moves" sLets f fd) (B : Blt mg) (care_moves : Cal P w K mg base 3 "are_moves" ["order", "told"] spAreMoves) (cplaces_of : Cal P w K mg base 1 "places_of" ["things"] spPlaces) (cmoved : Cal P w K mg base 1 "moved" ["order", "moves"] spMoved) : FnOk P w K mg base CX0 4 f fd ["web", "order", "one", "other", "told"] spLets := by
  refine F.ok scLets (fun vs H Q E h => ?_) (fun cdv A outer s H vs Q E hr h => ?_)
  · obtain ⟨wq, lo, l, refs, ss, ts, os, gs, one, other, ms, rfl, _⟩ := h
    rfl
  · obtain ⟨wq, lo, l, refs, ss, ts, os, gs, one, other, ms, rfl, W, h1, h2, hl, rp, M, hgs, gpm, k⟩ := h
    have nd := scLets.nd
    have osl := W.pm.length_eq
    have h60 := W.web.len
    have few := W.web.few
    have ond : os.Nodup := W.pm.nodup_iff.mpr W.web.nd
    have gnd : gs.Nodup := gpm.nodup_iff.mpr ond
    have gl := gpm.length_eq
    have gin : ∀ s, s ∈ ss → s ∈ gs := fun s hs => gpm.mem_iff.mpr (W.pm.mem_iff.mpr hs)
    have onm : ∀ s ∈ os, Nm s := fun s hs => W.web.nm s (W.pm.mem_iff.mp hs)
    have rl := rp.len
    rw [List.length_map] at rl
    have ml := M.len
    refine ⟨_, (pss_cons (ps_if (pt_not (pt_val (pe_cal care_moves (hr.mono (by decide)) rfl (pa_cons (pv 1) (pa_cons (pv 4) pa_nil))))) (pss_one (ps_ret pe_bl)) pss_nil)
      (pss_cons (ps_set (i := 5) nd rfl (Or.inr rfl) (pe_cal cplaces_of (hr.mono (by decide)) rfl (pa_cons (pe_comp (defScope sLets) ["web", "order", "one", "other", "told", "moving", "places", "ties"] ["move"] [] ["move"] rfl (pi_listK K (pv 4)) (fun _ _ _ _ _ => (pg_name (i := 0) (show (["move"] : List Str).Nodup by decide) rfl (Or.inl rfl))) (fun _ _ _ _ _ => pts_nil) (fun _ _ _ _ _ => (pe_ix (ix_X K hr.units) (pv 0) pe_int (fun _ _ => rfl)))) pa_nil)))
      (pss_cons (ps_set (i := 6) nd rfl (Or.inr rfl) (pe_cal cplaces_of (hr.mono (by decide)) rfl (pa_cons (pe_cal cmoved (hr.mono (by decide)) rfl (pa_cons (pv 1) (pa_cons (pv 4) pa_nil))) pa_nil)))
      (pss_cons (ps_set (i := 7) nd rfl (Or.inl rfl) (pe_op op_addX (pe_comp (defScope sLets) ["web", "order", "one", "other", "told", "moving", "places", "ties"] ["tie"] [5] ["tie", "moving"] rfl (pi_tupK K (pe_ix (ix_X K hr.units) (pv 0) pe_int (fun _ _ => rfl))) (fun _ _ _ _ _ => (pg_name (i := 0) (show (["tie", "moving"] : List Str).Nodup by decide) rfl (Or.inl rfl))) (fun _ _ _ _ _ => (pts_one (PW.pt (pw_or (pt_cmpR (op_inX K hr.units) (pe_ix (ix_X K hr.units) (pv 0) pe_int (fun _ _ => rfl)) (pv 1) (by with_unfolding_all rfl)) (pw_or1 (pt_cmpR (op_inX K hr.units) (pe_ix (ix_X K hr.units) (pv 0) pe_int (fun _ _ => rfl)) (pv 1) (by with_unfolding_all rfl))))))) (fun _ _ _ _ _ => (pv 0))) (pe_lst (pa_cons (pe_tup (pa_cons (pv 2) (pa_cons (pv 3) pa_nil))) pa_nil))))
      (pss_one (ps_ret (b_all rfl B (pa_cons (pe_comp (defScope sLets) ["web", "order", "one", "other", "told", "moving", "places", "ties"] ["tie"] [6] ["tie", "places"] rfl (pi_listK K (pv 7)) (fun _ _ _ _ _ => (pg_name (i := 0) (show (["tie", "places"] : List Str).Nodup by decide) rfl (Or.inl rfl))) (fun _ _ _ _ _ => pts_nil) (fun _ _ _ _ _ => (pe_cmpR op_ltX (pe_ix (ix_X K hr.units) (pv 1) (pe_ix (ix_X K hr.units) (pv 0) pe_int (fun _ _ => rfl)) (fun _ _ => rfl)) (pe_ix (ix_X K hr.units) (pv 1) (pe_ix (ix_X K hr.units) (pv 0) pe_int (fun _ _ => rfl)) (fun _ _ => rfl)) (nomark _)))) pa_nil)))))))), ?_⟩
    refine ⟨_, rfl, _, rfl, lo, l, refs, os, ms, rfl, W.ord, ond, by omega, onm, hl, rp, M, fun H1 s1 => ⟨_, rfl, ite2 (fun h => absurd h (by decide)) (fun _ => ?_)⟩⟩
    have hl1 := s1 _ _ hl
    have rp1 := rp.same s1
    refine ⟨_, rfl, l, rfl, ⟨_, .of hl1⟩, ?_⟩
    refine comp_list refs (fun D i acc σ' H' => ∃ o, σ' = [o] ∧ acc = List.map V.str ((ms.take i).map (·.1)) ∧ Same H1 H' ∧ H1 D = none) fun D hD => ⟨?_, ?_, ?_, ?_⟩
    · exact ⟨none, rfl, rfl, Same.new hD, hD⟩
    · rintro i acc σ' H' _ ⟨o, rfl, _, sm, _⟩ _
      exact .of (sm _ _ hl1)
    · rintro i acc σ' H' x hx ⟨o, rfl, rfl, sm, hD0⟩ hacc
      have hil := (List.getElem?_eq_some_iff.mp hx).1
      obtain ⟨m, ta, hm, rfl, hta⟩ := mv_get (rp1.same sm) hx
      refine gYes ?_
      refine ⟨_, rfl, .tup (.of hta) rfl ?_⟩
      exact ⟨hacc, by rw [List.length_map, List.length_map, List.length_take]; exact small1000 (by omega), _, rfl, by rw [List.take_add_one, hm, List.map_append, List.map_append]; rfl, same_at sm hD0, hD0⟩
    rintro acc σ' H2 ⟨o, rfl, rfl, s2, hD0⟩ hacc
    rw [rl, List.take_of_length_le (Nat.le_refl _)] at hacc
    refine ⟨D, ms.map (·.1), rfl, hacc, by rw [List.length_map]; omega, fun dm km H3 s3 hdm0 hdm min_ mix => ?_⟩
    have s13 := (s1.trans s2).trans s3
    refine ⟨_, rfl, _, rfl, lo, l, refs, os, ms, rfl, s13 _ _ W.ord, s13 _ _ hl, rp.same s13, M.lt, fun lg H4 s4 hlg0 hlg => ?_⟩
    rw [hgs] at hlg
    refine ⟨lg, gs, rfl, hlg, by omega, fun dp kp H5 s5 hdp0 hdp pin pix => ?_⟩
    have s45 := s4.trans s5
    have s15 := s13.trans s45
    have hdm5 := s45 _ _ hdm
    have W5 := W.same s15
    obtain ⟨wq', wa, wb, xs, e, hwq, hwa, hwb, wrp⟩ := web_at W5.web.rep
    cases e
    have xl := wrp.len
    rw [List.length_map] at xl
    refine ⟨_, rfl, .tup (.of hwq) rfl ⟨_, rfl, ⟨_, .of hwb⟩, ?_⟩⟩
    refine comp_tup xs (fun D i acc σ' H' => ∃ o, σ' = [o, some (.ref dm)] ∧ RepAll H' acc (((ts.take i).filter (touchB (ms.map (·.1)))).map pairD) ∧ Same H5 H' ∧ H5 D = none) fun Dt hDt => ⟨?_, ?_, ?_, ?_⟩
    · exact ⟨none, rfl, .nil, Same.new hDt, hDt⟩
    · rintro i acc σ' H' _ ⟨o, rfl, _, sm, _⟩ _
      exact .of (sm _ _ hwb)
    · rintro i acc σ' H' x hx ⟨o, rfl, rpa, sm, hD0⟩ hacc
      obtain ⟨e, ta, he, rfl, hta⟩ := pair_get (wrp.same sm) hx
      have hil := (List.getElem?_eq_some_iff.mp he).1
      have alen := rpa.len
      rw [List.length_map] at alen
      have fl := List.length_filter_le (touchB (ms.map (·.1))) (ts.take i)
      rw [List.length_take] at fl
      have b1 : (valV km (.inr e.1)).isSome = decide (e.1 ∈ ms.map (·.1)) := by rw [Bool.eq_iff_iff, min_, decide_eq_true_iff]
      have b2 : (valV km (.inr e.2)).isSome = decide (e.2 ∈ ms.map (·.1)) := by rw [Bool.eq_iff_iff, min_, decide_eq_true_iff]
      have yes : touchB (ms.map (·.1)) e = true → RepAll H' (acc ++ [V.ref ta]) (((ts.take (i + 1)).filter (touchB (ms.map (·.1)))).map pairD) := fun h => by
        rw [filt_step _ _ _ _ he, if_pos h, List.map_append]
        exact RepAll.append rpa (.cons (pair_rep hta) .nil)
      have app : touchB (ms.map (·.1)) e = true → H' Dt = some (.lst acc) ∧ acc.length < sizeLine ∧ ∃ o, ([some (V.ref ta), some (V.ref dm)] : St) = [o, some (.ref dm)] ∧ RepAll (upd H' Dt (.lst (acc ++ [V.ref ta]))) (acc ++ [V.ref ta]) (((ts.take (i + 1)).filter (touchB (ms.map (·.1)))).map pairD) ∧ Same H5 (upd H' Dt (.lst (acc ++ [V.ref ta]))) ∧ H5 Dt = none := fun h =>
        ⟨hacc, small1000 (by omega), _, rfl, RepAll.pairBut (p := Dt) hacc But.upd (yes h), same_at sm hD0, hD0⟩
      refine ⟨_, rfl, .tup (.of hta) rfl ⟨_, rfl, .dic (DGet.k (k := .inr e.1) (sm _ _ hdm5)) ⟨_, rfl, ?_⟩⟩⟩
      refine ite2 (fun h => ?_) (fun h => ?_)
      · have h : (valV km (.inr e.1)).isSome = true := h
        rw [b1] at h
        exact ⟨_, rfl, app (by unfold touchB; rw [h]; rfl)⟩
      · have h : ¬ (valV km (.inr e.1)).isSome = true := h
        rw [b1] at h
        refine ⟨_, rfl, .tup (.of hta) rfl ⟨_, rfl, .dic (DGet.k (k := .inr e.2) (sm _ _ hdm5)) ⟨_, rfl, ?_⟩⟩⟩
        refine ite2 (fun h2 => ?_) (fun h2 => ?_)
        · have h2 : (valV km (.inr e.2)).isSome = true := h2
          rw [b2] at h2
          exact ⟨_, rfl, app (by unfold touchB; rw [h2, Bool.or_true])⟩
        · have h2 : ¬ (valV km (.inr e.2)).isSome = true := h2
          rw [b2] at h2
          have hno : ¬ touchB (ms.map (·.1)) e = true := by unfold touchB; rw [Bool.or_eq_true]; rintro (z | z); exact h z; exact h2 z
          exact ⟨hacc, _, rfl, by rw [filt_step _ _ _ _ he, if_neg hno, List.append_nil]; exact rpa, sm, hD0⟩
    rintro acc σ' H6 ⟨o, rfl, rpt, s6, hDt0⟩ hacct
    rw [xl, List.take_of_length_le (Nat.le_refl _)] at rpt
    refine ⟨_, rfl, _, rfl, (by show 2 ≤ sizeLine; decide), fun tq htq => ⟨(by show 1 ≤ sizeLine; decide), fun l7 hl7 => ?_⟩⟩
    have s7 := Same.new (o := .tup [V.str one, V.str other]) htq
    have s8 := Same.new (o := .lst [V.ref tq]) hl7
    have e7 : upd H6 tq (.tup [V.str one, V.str other]) tq = some (.tup [V.str one, V.str other]) := upd_same
    have e8 : upd (upd H6 tq (.tup [V.str one, V.str other])) l7 (.lst [V.ref tq]) l7 = some (.lst [V.ref tq]) := upd_same
    have e78 := s8 _ _ e7
    have s78 := s7.trans s8
    generalize upd (upd H6 tq (.tup [V.str one, V.str other])) l7 (.lst [V.ref tq]) = H8 at s8 e8 e78 s78 ⊢
    have tl : (ts.filter (touchB (ms.map (·.1)))).length ≤ 401 := Nat.le_trans (List.length_filter_le _ _) few
    have al := rpt.len
    rw [List.length_map] at al
    refine .lst (s78 _ _ hacct) e8 (by show acc.length + 1 ≤ sizeLine; exact Nat.le_of_lt (small1000 (by omega))) fun l9 hl9 => ?_
    have s9 := Same.new (o := .lst (acc ++ [V.ref tq])) hl9
    have hl99 : upd H8 l9 (.lst (acc ++ [V.ref tq])) l9 = some (.lst (acc ++ [V.ref tq])) := upd_same
    generalize upd H8 l9 (.lst (acc ++ [V.ref tq])) = H9 at s9 hl99 ⊢
    have rp9 : RepAll H9 (acc ++ [V.ref tq]) (((ts.filter (touchB (ms.map (·.1)))) ++ [(one, other)]).map pairD) := by
      rw [List.map_append]
      exact RepAll.append (rpt.same (s78.trans s9)) (.cons (pair_rep (s9 _ _ e78)) .nil)
    obtain ⟨es, hes⟩ : ∃ es, es = (ts.filter (touchB (ms.map (·.1)))) ++ [(one, other)] := ⟨_, rfl⟩
    rw [← hes] at rp9
    have ein : ∀ e ∈ es, e.1 ∈ gs ∧ e.2 ∈ gs := fun e he => by
      rw [hes] at he
      rcases List.mem_append.mp he with g | g
      · have := W.web.inn e (List.mem_filter.mp g).1
        exact ⟨gin _ this.1, gin _ this.2⟩
      · rw [List.mem_singleton.mp g]; exact ⟨gin _ h1, gin _ h2⟩
    have el : es.length ≤ 402 := by rw [hes, List.length_append]; show _ + 1 ≤ 402; omega
    have rl9 := rp9.len
    rw [List.length_map] at rl9
    have s59 := s6.trans (s78.trans s9)
    have hdp9 := s59 _ _ hdp
    generalize acc ++ [V.ref tq] = ys at hl99 rp9 rl9 ⊢
    refine ⟨_, rfl, l9, rfl, ⟨_, .of hl99⟩, ?_⟩
    refine comp_list ys (fun D i acc σ' H' => ∃ o, σ' = [o, some (.ref dp)] ∧ acc = List.map V.bl ((es.take i).map fun e => decide (gs.idxOf e.1 < gs.idxOf e.2)) ∧ Same H9 H' ∧ H9 D = none) fun Df hDf => ⟨?_, ?_, ?_, ?_⟩
    · exact ⟨none, rfl, rfl, Same.new hDf, hDf⟩
    · rintro i acc σ' H' _ ⟨o, rfl, _, sm, _⟩ _
      exact .of (sm _ _ hl99)
    · rintro i acc σ' H' x hx ⟨o, rfl, rfl, sm, hD0⟩ hacc
      obtain ⟨e, ta, he, rfl, hta⟩ := pair_get (rp9.same sm) hx
      have hil := (List.getElem?_eq_some_iff.mp he).1
      obtain ⟨g1, g2⟩ := ein e (List.mem_of_getElem? he)
      refine gYes ?_
      refine ⟨_, rfl, _, rfl, .tup (.of hta) rfl (.dic (.inl ⟨_, .inr e.1, .inl (sm _ _ hdp9), rfl, (pl_at gnd pin pix g1).symm⟩) ⟨_, rfl, _, rfl, .tup (.of hta) rfl (.dic (.inl ⟨_, .inr e.2, .inl (sm _ _ hdp9), rfl, (pl_at gnd pin pix g2).symm⟩) (.int ?_))⟩)⟩
      refine ⟨hacc, by rw [List.length_map, List.length_map, List.length_take]; exact small1000 (by omega), _, rfl, ?_, same_at sm hD0, hD0⟩
      rw [List.take_add_one, he, List.map_append, List.map_append]
      have ed : decide (((gs.idxOf e.1 : Nat) : Int) < ((gs.idxOf e.2 : Nat) : Int)) = decide (gs.idxOf e.1 < gs.idxOf e.2) := by rw [Bool.eq_iff_iff, decide_eq_true_iff, decide_eq_true_iff]; omega
      show _ ++ [V.bl (decide (((gs.idxOf e.1 : Nat) : Int) < ((gs.idxOf e.2 : Nat) : Int)))] = _
      rw [ed]; rfl
    rintro acc σ' HA ⟨o, rfl, rfl, sA, hDf0⟩ haccA
    rw [rl9, List.take_of_length_le (Nat.le_refl _)] at haccA
    refine ⟨Df, _, rfl, haccA, ?_⟩
    have eb : (es.map fun e => decide (gs.idxOf e.1 < gs.idxOf e.2)).all id = letB gs (ms.map (·.1)) ts one other := by
      unfold letB
      rw [← hes, List.all_map]; rfl
    rw [eb]
    exact k HA ((s15.trans s59).trans sA)
end
end K31
namespace K31
open PySem L2
section
variable {P : Program} {w : World} {K : PySem.W.Frag} {mg : Str → Option Value} {base : Heap}
theorem mem_mid {os : List Str} {l h : Nat} {x : Str} : x ∈ (os.take (h + 1)).drop l ↔ ∃ i, l ≤ i ∧ i ≤ h ∧ os[i]? = some x := by
  constructor
  · intro hx
    obtain ⟨i, hi⟩ := List.getElem?_of_mem hx
    rw [List.getElem?_drop] at hi
    have hl := (List.getElem?_eq_some_iff.mp hi).1
    rw [List.length_take] at hl
    rw [List.getElem?_take_of_lt (by omega)] at hi
    exact ⟨l + i, by omega, by omega, hi⟩
  · rintro ⟨i, h1, h2, e⟩
    refine List.mem_of_getElem? (i := i - l) ?_
    rw [List.getElem?_drop, show l + (i - l) = i by omega, List.getElem?_take_of_lt (by omega)]
    exact e
theorem idx_up {os : List Str} (ond : os.Nodup) : os.Pairwise fun x y => os.idxOf x < os.idxOf y := by
  rw [List.pairwise_iff_getElem]
  intro i j hi hj hij
  rw [idxAt ond (List.getElem?_eq_getElem hi), idxAt ond (List.getElem?_eq_getElem hj)]
  exact hij
theorem laid_all {os : List Str} {ts : List (Str × Str)} {one other : Str} (ond : os.Nodup) (fw : Fwd os ts) (m1 : one ∈ os) (m2 : other ∈ os) (nr : ¬ isRing os ts one other) : ∀ e ∈ ts ++ [(one, other)], (laidL os (dueB os ts one other ++ dueF os ts one other)).idxOf e.1 < (laidL os (dueB os ts one other ++ dueF os ts one other)).idxOf e.2 := by
  have cnd := due_nd ond nr
  have sub := due_all (os := os) (ts := ts) (one := one) (other := other)
  by_cases hlt : os.idxOf one < os.idxOf other
  · have eA : dueB os ts one other = [] := if_pos hlt
    have eB : dueF os ts one other = [] := if_pos hlt
    rw [eA, eB]
    have eL : laidL os ([] ++ []) = os := by
      unfold laidL
      simp [setAll]
    rw [eL]
    intro e he
    rcases List.mem_append.mp he with he | he
    · obtain ⟨i, j, hij, h1, h2⟩ := fw e he
      rw [idxAt ond h1, idxAt ond h2]
      exact hij
    · rw [List.mem_singleton.mp he]
      exact hlt
  · have nrch : ¬ MG.Rch (Tie ts) other one := fun z => nr ⟨hlt, z⟩
    have dA : dueB os ts one other = ((os.take (os.idxOf one + 1)).drop (os.idxOf other)).filter fun t => rB (flipE ts) one t := if_neg hlt
    have dB : dueF os ts one other = ((os.take (os.idxOf one + 1)).drop (os.idxOf other)).filter fun t => rB ts other t := if_neg hlt
    have memA : ∀ x, x ∈ dueB os ts one other ↔ (∃ i, os.idxOf other ≤ i ∧ i ≤ os.idxOf one ∧ os[i]? = some x) ∧ MG.Rch (Tie (flipE ts)) one x := fun x => by rw [dA, List.mem_filter, mem_mid, rB_iff]
    have memB : ∀ x, x ∈ dueF os ts one other ↔ (∃ i, os.idxOf other ≤ i ∧ i ≤ os.idxOf one ∧ os[i]? = some x) ∧ MG.Rch (Tie ts) other x := fun x => by rw [dB, List.mem_filter, mem_mid, rB_iff]
    have oA : (dueB os ts one other).Pairwise fun x y => os.idxOf x < os.idxOf y := by
      rw [dA]
      exact (idx_up ond).sublist (List.filter_sublist.trans ((List.drop_sublist _ _).trans (List.take_sublist _ _)))
    have oB : (dueF os ts one other).Pairwise fun x y => os.idxOf x < os.idxOf y := by
      rw [dB]
      exact (idx_up ond).sublist (List.filter_sublist.trans ((List.drop_sublist _ _).trans (List.take_sublist _ _)))
    have hin : ∀ x ∈ dueB os ts one other ++ dueF os ts one other, os.idxOf other ≤ os.idxOf x ∧ os.idxOf x ≤ os.idxOf one := fun x hx => by
      rcases List.mem_append.mp hx with hx | hx
      · obtain ⟨⟨i, h1, h2, e⟩, _⟩ := (memA x).mp hx
        rw [idxAt ond e]; exact ⟨h1, h2⟩
      · obtain ⟨⟨i, h1, h2, e⟩, _⟩ := (memB x).mp hx
        rw [idxAt ond e]; exact ⟨h1, h2⟩
    intro e he
    rcases List.mem_append.mp he with he | he
    · have het := he
      obtain ⟨i, j, hij, h1, h2⟩ := fw e het
      have x1 := List.mem_of_getElem? h1
      have x2 := List.mem_of_getElem? h2
      have hxy : os.idxOf e.1 < os.idxOf e.2 := by rw [idxAt ond h1, idxAt ond h2]; exact hij
      have tie : Tie ts e.1 e.2 := het
      refine laid_keeps ond cnd sub oA oB hin x1 x2 hxy (fun hy hx => ?_) (fun hx hy => ?_) (fun ⟨hx, hy⟩ => ?_)
      · obtain ⟨⟨i', _, g2, ge⟩, r⟩ := (memA e.2).mp hy
        rw [← idxAt ond ge] at g2
        exact (memA e.1).mpr ⟨⟨_, hx, by omega, atIdx x1⟩, r.step (mem_flip.mpr tie)⟩
      · obtain ⟨⟨i', g1, _, ge⟩, r⟩ := (memB e.1).mp hx
        rw [← idxAt ond ge] at g1
        exact (memB e.2).mpr ⟨⟨_, by omega, hy, atIdx x2⟩, r.step tie⟩
      · have r1 := ((memB e.1).mp hx).2
        have r2 := rch_flip ((memA e.2).mp hy).2
        exact nrch (rch_trans (r1.step tie) r2)
    · rw [List.mem_singleton.mp he]
      have hA : one ∈ dueB os ts one other := (memA one).mpr ⟨⟨_, by omega, Nat.le_refl _, atIdx m1⟩, MG.Rch.refl⟩
      have hB : other ∈ dueF os ts one other := (memB other).mpr ⟨⟨_, Nat.le_refl _, by omega, atIdx m2⟩, MG.Rch.refl⟩
      obtain ⟨i, hi⟩ := List.getElem?_of_mem hA
      obtain ⟨j, hj⟩ := List.getElem?_of_mem hB
      have il := (List.getElem?_eq_some_iff.mp hi).1
      exact laid_lt (i := i) (j := (dueB os ts one other).length + j) (by rw [List.getElem?_append_left il]; exact hi) (by rw [List.getElem?_append_right (by omega), Nat.add_sub_cancel_left]; exact hj) (by omega) ond cnd sub
end
end K31
namespace K31
open PySem L2
section
variable {P : Program} {w : World} {K : PySem.W.Frag} {mg : Str → Option Value} {base : Heap}
theorem nil_ {σ : St} {H : Hp} {k : List V → Hp → Prop} (h : k [] H) : tNil σ H k := h
structure MvG (os gs : List Str) (ms : List (Str × Nat × Nat)) (i : Nat) : Prop where
  at_ : ∀ m ∈ ms, os[m.2.1]? = some m.1 ∧ m.2.2 = gs.idxOf m.1 ∧ m.2.1 < i
  nd : (ms.map fun m => m.2.1).Nodup
  all : ∀ k x, k < i → os[k]? = some x → gs[k]? ≠ some x → k ∈ ms.map fun m => m.2.1
theorem MvG.skip {os gs : List Str} {ms : List (Str × Nat × Nat)} {i : Nat} (h : MvG os gs ms i) {x : Str} (hx : os[i]? = some x) (he : gs[i]? = some x) : MvG os gs ms (i + 1) := by
  refine ⟨fun m hm => ?_, h.nd, fun k y hk hy hne => ?_⟩
  · obtain ⟨a, b, c⟩ := h.at_ m hm; exact ⟨a, b, by omega⟩
  · by_cases q : k < i
    · exact h.all k y q hy hne
    · have : k = i := by omega
      subst this
      exact absurd (he.trans (hx.symm.trans hy)) hne
theorem MvG.put {os gs : List Str} {ms : List (Str × Nat × Nat)} {i j : Nat} (h : MvG os gs ms i) {x : Str} (hx : os[i]? = some x) : MvG os gs (ms.take j ++ (x, i, gs.idxOf x) :: ms.drop j) (i + 1) := by
  have pm : (ms.take j ++ (x, i, gs.idxOf x) :: ms.drop j).Perm ((x, i, gs.idxOf x) :: ms) := by
    have := List.perm_middle (a := (x, i, gs.idxOf x)) (l₁ := ms.take j) (l₂ := ms.drop j)
    rwa [List.take_append_drop] at this
  refine ⟨fun m hm => ?_, ?_, fun k y hk hy hne => ?_⟩
  · rcases List.mem_cons.mp (pm.mem_iff.mp hm) with rfl | g
    · exact ⟨hx, rfl, by show i < i + 1; omega⟩
    · obtain ⟨a, b, c⟩ := h.at_ m g; exact ⟨a, b, by omega⟩
  · rw [(pm.map _).nodup_iff, List.map_cons]
    refine List.nodup_cons.mpr ⟨fun z => ?_, h.nd⟩
    obtain ⟨m, hm, e⟩ := List.mem_map.mp z
    have e : m.2.1 = i := e
    have := (h.at_ m hm).2.2
    omega
  · rw [(pm.map _).mem_iff, List.map_cons]
    by_cases q : k < i
    · exact List.mem_cons_of_mem _ (h.all k y q hy hne)
    · have : k = i := by omega
      rw [this]; simp
theorem MvG.to {os gs : List Str} {ms : List (Str × Nat × Nat)} (h : MvG os gs ms os.length) (ond : os.Nodup) (gpm : gs.Perm os) : Mvs os ms ∧ setAll os (ms.map fun m => (m.2.2, m.1)) = gs := by
  have gnd : gs.Nodup := gpm.nodup_iff.mpr ond
  have gl := gpm.length_eq
  have mo : ∀ m ∈ ms, m.1 ∈ gs := fun m hm => gpm.mem_iff.mpr (List.mem_of_getElem? (h.at_ m hm).1)
  have gat : ∀ m ∈ ms, gs[m.2.2]? = some m.1 := fun m hm => by rw [(h.at_ m hm).2.1]; exact atIdx (mo m hm)
  have inj : ∀ m ∈ ms, ∀ n ∈ ms, m.2.2 = n.2.2 → m = n := fun m hm n hn e => by
    have e1 : m.1 = n.1 := Option.some.inj ((gat m hm).symm.trans (e ▸ gat n hn))
    have o1 := (h.at_ m hm).1
    have o2 := (h.at_ n hn).1
    rw [e1] at o1
    have e2 : m.2.1 = n.2.1 := (List.getElem?_inj (List.getElem?_eq_some_iff.mp o1).1 ond).mp (o1.trans o2.symm)
    obtain ⟨a, b, c⟩ := m
    obtain ⟨a', b', c'⟩ := n
    simp only at e e1 e2
    rw [e, e1, e2]
  have msnd : ms.Nodup := by
    have := h.nd
    rw [List.Nodup, List.pairwise_map] at this
    exact List.Pairwise.imp (fun {a b} hab z => hab (by rw [z])) this
  have nnd : (ms.map fun m => m.2.2).Nodup := map_nd msnd inj
  have sub : ∀ k ∈ ms.map (fun m => m.2.2), k ∈ ms.map fun m => m.2.1 := fun k hk => by
    obtain ⟨m, hm, rfl⟩ := List.mem_map.mp hk
    refine Classical.byContradiction fun z => ?_
    have hlt : m.2.2 < os.length := by have := (List.getElem?_eq_some_iff.mp (gat m hm)).1; omega
    obtain ⟨x, hx⟩ : ∃ x, os[m.2.2]? = some x := ⟨_, List.getElem?_eq_getElem hlt⟩
    have he : gs[m.2.2]? = some x := Classical.byContradiction fun q => z (h.all _ x hlt hx q)
    have e : m.1 = x := Option.some.inj ((gat m hm).symm.trans he)
    have o1 := (h.at_ m hm).1
    rw [e] at o1
    have := (List.getElem?_inj hlt ond).mp (hx.trans o1.symm)
    exact z (List.mem_map.mpr ⟨m, hm, this.symm⟩)
  have M : Mvs os ms := ⟨fun m hm => (h.at_ m hm).1, h.nd, perm_of nnd sub (by rw [List.length_map, List.length_map]; exact Nat.le_refl _)⟩
  refine ⟨M, ?_⟩
  have ek : (ms.map fun m => (m.2.2, m.1)).map (·.1) = ms.map fun m => m.2.2 := by rw [List.map_map]; rfl
  apply List.ext_getElem?
  intro k
  by_cases hk : k < os.length
  · by_cases q : k ∈ ms.map fun m => m.2.2
    · obtain ⟨m, hm, rfl⟩ := List.mem_map.mp q
      rw [setAll_in _ os _ m.1 (by rw [ek]; exact nnd) (List.mem_map.mpr ⟨m, hm, rfl⟩) hk, gat m hm]
    · rw [setAll_out _ _ _ (by rw [ek]; exact q)]
      have q2 : k ∉ ms.map fun m => m.2.1 := fun z => q (M.pm.mem_iff.mpr z)
      obtain ⟨x, hx⟩ : ∃ x, os[k]? = some x := ⟨_, List.getElem?_eq_getElem hk⟩
      rw [hx]
      exact (Classical.byContradiction fun z => q2 (h.all k x hk hx z)).symm
  · rw [List.getElem?_eq_none (by rw [setAll_len]; omega), List.getElem?_eq_none (by omega)]
noncomputable def spMv31 (K : PySem.W.Frag) : Sp := fun vs H Q _ => ∃ (p a lo q a1 b1 : Addr) (os A1 B1 : List Str), vs = [.ref p, .ref lo, .ref q] ∧ Pen K H p a ∧ H lo = some (.lst (List.map V.str os)) ∧ lo ≠ p ∧ os.Nodup ∧ os.length ≤ 60 ∧ H q = some (.tup [.ref a1, .ref b1]) ∧ H a1 = some (.lst (List.map V.str A1)) ∧ H b1 = some (.lst (List.map V.str B1)) ∧ (A1 ++ B1).Nodup ∧ (∀ x ∈ A1 ++ B1, x ∈ os) ∧
  ∀ l refs ms H', H' l = some (.lst refs) → RepAll H' refs (ms.map mvD) → MvG os (laidL os (A1 ++ B1)) ms os.length → ms.length ≤ os.length → H l = none → l ≠ p → PenV H' p a → But p H H' → Q (.ref l) H'
theorem scMv31 : FnScope ["_law_pen_here", "_law_order", "_law_due_here", "_law_goal", "_law_more", "_law_found", "_law_place", "_law_thing"] ["_law_pen_here", "_law_order", "_law_due_here"] (defScope sLMoves) := ⟨rfl, rfl, rfl, by decide +kernel, rfl, by decide +kernel, by decide +kernel⟩
theorem ok_mv31 {f : Addr} {fd : FuncData} (F : Fun K "_law_moves" "_law_moves" sLMoves f fd) (B : Blt mg) (c_law_draw : Cal P w K mg base 1 "_law_draw" ["_law_pen_here", "_law_most"] (spDraw K)) (c_law_laid : Cal P w K mg base 1 "_law_laid" ["_law_order", "_law_due_here"] spLaid) : FnOk P w K mg base CX0 2 f fd ["_law_pen_here", "_law_order", "_law_due_here"] (spMv31 K) := by
  refine F.ok scMv31 (fun vs H Q E h => ?_) (fun cdv A outer s H0 vs Q E hr h => ?_)
  · obtain ⟨p, a, lo, q, a1, b1, os, A1, B1, rfl, _⟩ := h
    rfl
  · obtain ⟨p, a, lo, q, a1, b1, os, A1, B1, rfl, hP0, ho0, nlo, ond, h60, hq, ha1, hb1, cnd, csub, k0⟩ := h
    have nd := scMv31.nd
    refine ⟨_, (pss_cons (ps_set (i := 3) nd rfl (Or.inl rfl) (pe_cal c_law_laid (hr.mono (by decide)) rfl (pa_cons (pv 1) (pa_cons (pv 2) pa_nil))))
      (pss_cons (ps_set (i := 4) nd rfl (Or.inl rfl) (pe_cal c_law_draw (hr.mono (by decide)) rfl (pa_cons (pv 0) (pa_cons pe_int pa_nil))))
      (pss_cons (ps_set (i := 5) nd rfl (Or.inl rfl) (pe_lst pa_nil))
      (pss_cons (ps_for PassesOwn.never rfl (pi_enumK K rfl B.enumerate (pa_cons (pv 1) pa_nil)) (pg_tupK (n := 2) K rfl (pgs_cons (pg_name (i := 6) nd rfl (Or.inl rfl)) (pgs_cons (pg_name (i := 7) nd rfl (Or.inl rfl)) pgs_nil))) (pss_one (ps_if (PW.pt (pw_or (pt_cmpR (op_neX hr.units) (pe_ix (ix_X K hr.units) (pv 3) (pv 6) (fun _ _ => rfl)) (pv 7) (nomark _)) (pw_or1 (PW.pt (pw_and (pt_cmpR (op_eqX hr.units) (pv 4) pe_int (nomark _)) (pw_and1 (pt_cmpR (op_eqX hr.units) (pe_cal c_law_draw (hr.mono (by decide)) rfl (pa_cons (pv 0) (pa_cons pe_int pa_nil))) pe_int (nomark _)))))))) (pss_one (ps_expr (m_insert K (pv 5) (pa_cons (pe_cal c_law_draw (hr.mono (by decide)) rfl (pa_cons (pv 0) (pa_cons (pe_op op_addX (b_len K B (pa_cons (pv 5) pa_nil)) pe_int) pa_nil))) (pa_cons (pe_tup (pa_cons (pv 7) (pa_cons (pv 6) (pa_cons (m_index K (pv 3) (pa_cons (pv 7) pa_nil)) pa_nil)))) pa_nil))))) pss_nil)))
      (pss_one (ps_ret (pv 5))))))), ?_⟩
    refine ⟨_, rfl, _, rfl, nil_ ⟨lo, q, a1, b1, os, A1, B1, rfl, ho0, ond, h60, hq, ha1, hb1, cnd, csub, fun lg H sH hlg0 hg => ?_⟩⟩
    obtain ⟨gs, egs⟩ : ∃ gs, gs = laidL os (A1 ++ B1) := ⟨_, rfl⟩
    rw [← egs] at hg k0
    have gpm : gs.Perm os := egs ▸ laid_perm ond cnd csub
    have hP : Pen K H p a := hP0.but (But.of_same sH) (penSame sH hP0.2)
    have ho := sH _ _ ho0
    obtain ⟨_, hp0⟩ := penAt hP0.2
    have nlg : lg ≠ p := Ne.symm (ne_of_none hp0 hlg0)
    have k : ∀ l refs ms H', H' l = some (.lst refs) → RepAll H' refs (ms.map mvD) → MvG os gs ms os.length → ms.length ≤ os.length → H l = none → l ≠ p → PenV H' p a → But p H H' → Q (.ref l) H' := fun l refs ms H' a b c c2 d e f g => k0 l refs ms H' a b c c2 (same_free sH d) e f ((But.of_same sH).trans g)
    have v0 := hP.2
    have gl := gpm.length_eq
    have gnd : gs.Nodup := gpm.nodup_iff.mpr ond
    refine ⟨_, rfl, p, a, 3, rfl, hP, by decide, by decide, fun r1 H1 h10 h11 v1 e1 => ?_⟩
    have b1 := But.of_eq e1
    have ho1 := (e1 lo nlo).trans ho
    have hg1 := (e1 lg nlg).trans hg
    refine ⟨(by show 0 ≤ sizeLine; decide), fun lf hlf => ?_⟩
    have hpf := v1.ne hlf
    have nof : lo ≠ lf := ne_of_none ho1 hlf
    have ngf : lg ≠ lf := ne_of_none hg1 hlf
    have hf0 := b1.free (Ne.symm hpf) hlf
    refine ⟨_, rfl, lo, rfl, ⟨_, .of (by rw [upd_ne nof]; exact ho1)⟩, ?_⟩
    refine for_enum (xs := List.map V.str os) (fun i σ H' => ∃ o5 o6 refs ms, σ = [some (.ref p), some (.ref lo), some (.ref q), some (.ref lg), some (.int r1), some (.ref lf), o5, o6] ∧ H' lo = some (.lst (List.map V.str os)) ∧ H' lg = some (.lst (List.map V.str gs)) ∧ H' lf = some (.lst refs) ∧ RepAll H' refs (ms.map mvD) ∧ MvG os gs ms i ∧ ms.length ≤ i ∧ PenV H' p a ∧ But p H H') ?_ ?_ ?_ ?_
    · exact ⟨none, none, [], [], rfl, by rw [upd_ne nof]; exact ho1, by rw [upd_ne ngf]; exact hg1, upd_same, .nil, ⟨(fun m hm => by cases hm), List.nodup_nil, (fun k x hk => by omega)⟩, Nat.le_refl _, v1.upd hpf, b1.at hf0⟩
    · rintro i σ H' hi ⟨o5, o6, refs, ms, rfl, h1, _⟩
      exact .of h1
    · rintro i x σ H3 pp hx ⟨o5, o6, refs, ms, rfl, ho3, hg3, hf3, rp3, M, ml, v3, b3⟩ hpp
      obtain ⟨z, hz, rfl⟩ := str_get' hx
      have hil := (List.getElem?_eq_some_iff.mp hz).1
      have hzm : z ∈ gs := gpm.mem_iff.mpr (List.mem_of_getElem? hz)
      have hppp := v3.ne hpp
      have sp := Same.new (o := .tup [V.int (i : Int), V.str z]) hpp
      have ho4 := sp _ _ ho3
      have hg4 := sp _ _ hg3
      have hf4 := sp _ _ hf3
      have rp4 := rp3.same sp
      have v4 : PenV _ p a := penSame sp v3
      have b4 := b3.trans (But.of_same (p := p) sp)
      refine ⟨pp, _, rfl, .of upd_same, rfl, _, _, rfl, _, _, rfl, rfl, ?_⟩
      generalize upd H3 pp (.tup [V.int (i : Int), V.str z]) = H4 at sp ho4 hg4 hf4 rp4 v4 b4 ⊢
      obtain ⟨y, hy⟩ : ∃ y, gs[i]? = some y := ⟨_, List.getElem?_eq_getElem (by omega)⟩
      have gat : atI (List.map V.str gs) (i : Int) = some (.str y) := atI_nat (by rw [List.getElem?_map, hy]; rfl)
      obtain ⟨zz, a1, a2, a3⟩ := index_at gnd hzm
      have rl := rp4.len
      rw [List.length_map] at rl
      refine ⟨_, rfl, _, rfl, .lst (.of hg4) gat ⟨_, rfl, .sc rfl ⟨_, rfl, ?_⟩⟩⟩
      refine ite2 (fun _ => ?_) (fun heq => ?_)
      rotate_left
      have heq : y = z := by
        have h : ¬ (!decide (V.str y = V.str z)) = true := heq
        have h : decide (V.str y = V.str z) = true := by simpa using h
        exact V.str.inj (of_decide_eq_true h)
      rw [heq] at hy
      refine ⟨_, rfl, .sc rfl ⟨_, rfl, ?_⟩⟩
      refine ite2 (fun _ => ?_) (fun _ => iteF ⟨_, _, refs, ms, rfl, ho4, hg4, hf4, rp4, M.skip hz hy, by omega, v4, b4⟩)
      refine ⟨_, rfl, p, a, 3, rfl, hP.but b4 v4, by decide, by decide, fun r5 H5 _ _ v5 e5 => .sc rfl ⟨_, rfl, ?_⟩⟩
      have b5 := b4.trans (But.of_eq e5)
      have ho5 := (e5 lo nlo).trans ho4
      have hg5 := (e5 lg nlg).trans hg4
      have hf5 := (e5 lf (Ne.symm hpf)).trans hf4
      obtain ⟨_, hp4⟩ := penAt v4
      have rp5 := mvBut hp4 (But.of_eq e5) rp4
      refine ite2 (fun _ => ?_) (fun _ => ⟨_, _, refs, ms, rfl, ho5, hg5, hf5, rp5, M.skip hz hy, by omega, v5, b5⟩)
      rotate_left
      have ho5 := ho4
      have hg5 := hg4
      have hf5 := hf4
      have rp5 := rp4
      have v5 := v4
      have b5 := b4
      all_goals
        refine ⟨_, rfl, .inl ⟨rfl, _, .of hf5⟩, _, rfl, _, rfl, _, _, rfl, Or.inl ⟨_, .of hf5, rfl⟩, .int ⟨p, a, _, rfl, hP.but b5 v5, by omega, by omega, fun r6 H6 h60' h61 v6 e6 => ?_⟩⟩
        obtain ⟨j, rfl⟩ := Int.eq_ofNat_of_zero_le h60'
        have b6 := b5.trans (But.of_eq e6)
        have ho6 := (e6 lo nlo).trans ho5
        have hg6 := (e6 lg nlg).trans hg5
        have hf6 := (e6 lf (Ne.symm hpf)).trans hf5
        obtain ⟨_, hp5⟩ := penAt v5
        have rp6 := mvBut hp5 (But.of_eq e6) rp5
        refine ⟨_, rfl, _, rfl, _, rfl, .inl ⟨rfl, _, .of hg6⟩, _, rfl, lg, _, _, _, zz, rfl, rfl, hg6, rfl, flat_strs _, a1, a2, a3, ⟨(by show 3 ≤ sizeLine; decide), fun tq htq => ?_⟩⟩
        have hpq := v6.ne htq
        have nft : lf ≠ tq := ne_of_none hf6 htq
        have not_ : lo ≠ tq := ne_of_none ho6 htq
        have ngt : lg ≠ tq := ne_of_none hg6 htq
        have sq := Same.new (o := .tup [V.str z, V.int (i : Int), V.int ((gs.idxOf z : Nat) : Int)]) htq
        have v7 := v6.upd (o := .tup [V.str z, V.int (i : Int), V.int ((gs.idxOf z : Nat) : Int)]) hpq
        have b7 := b6.at (o := .tup [V.str z, V.int (i : Int), V.int ((gs.idxOf z : Nat) : Int)]) (b6.free (Ne.symm hpq) htq)
        refine ⟨lf, _, _, j, _, rfl, rfl, rfl, sq _ _ hf6, by omega, small1000 (by omega), ?_⟩
        refine ⟨_, _, refs.take j ++ V.ref tq :: refs.drop j, ms.take j ++ (z, i, gs.idxOf z) :: ms.drop j, rfl, ?_, ?_, upd_same, ?_, M.put hz, ?_, v7.upd hpf, b7.at hf0⟩
        · rw [upd_ne nof]; exact sq _ _ ho6
        · rw [upd_ne ngf]; exact sq _ _ hg6
        · rw [List.map_append, List.map_cons, List.map_take, List.map_drop]
          have rpF := mvBut (p := lf) (sq _ _ hf6) (But.upd (o := .lst (refs.take j ++ V.ref tq :: refs.drop j))) (rp6.same sq)
          refine RepAll.append (rpF.take j) (.cons (mv_rep ?_) (rpF.drop j))
          rw [upd_ne (Ne.symm nft)]; exact upd_same
        · have := (List.perm_middle (a := (z, i, gs.idxOf z)) (l₁ := ms.take j) (l₂ := ms.drop j)).length_eq
          rw [List.take_append_drop, List.length_cons] at this
          omega
    · rintro σ H3 ⟨o5, o6, refs, ms, rfl, ho3, hg3, hf3, rp3, M, ml, v3, b3⟩
      rw [List.length_map] at M ml
      exact ⟨_, rfl, k lf refs ms H3 hf3 rp3 M ml hf0 (Ne.symm hpf) v3 b3⟩
end
end K31
namespace K31
open PySem L2
section
variable {P : Program} {w : World} {K : PySem.W.Frag} {mg : Str → Option Value} {base : Heap}
noncomputable def Mp (p : Addr) (H : Hp) : Hp := fun a => if a = p then none else H a
theorem Mp.at {p b : Addr} {H : Hp} {o : HO} (h : H b = some o) (n : b ≠ p) : Mp p H b = some o := by unfold Mp; rw [if_neg n]; exact h
theorem Mp.but {p : Addr} {H : Hp} : But p H (Mp p H) := fun b o n h => Mp.at h n
theorem Mp.of {p : Addr} {H : Hp} : Same (Mp p H) H := fun b o h => by
  unfold Mp at h
  split at h
  · cases h
  · exact h
theorem Mp.same {p : Addr} {H H' : Hp} (b : But p H H') : Same (Mp p H) (Mp p H') := fun c o h => by
  unfold Mp at h
  split at h
  · cases h
  · rename_i n; exact Mp.at (b c o n h) n
noncomputable def OddV (n : Nat) (H : Hp) (y : V) : Prop := Thg H y ∧ (∀ k : Nat, k < n → y ≠ .int (k : Int)) ∧ ∃ d, RpD H y d ∧ Sv d 60 2
theorem shown_dig : ∀ k : Fin 60, (PyData.str (Str.ofString (toString ((k.val : Nat) : Int)))).shown.length ≤ 60 := by decide +kernel
theorem dig_len : ∀ k : Fin 60, (Str.ofString (toString ((k.val : Nat) : Int))).length ≤ 60 := by decide +kernel
theorem sv_flat {x : V} {H : Hp} {d : PyData} (r : Rep H x d) (hd : d.hasDict = false) (h : Sv d 60 2) : ∃ d, RpD H x d ∧ Sv d 60 2 := ⟨d, .tr r hd, h⟩
theorem sv_int {i : Int} (h : i.natAbs < 10 ^ 40) : Sv (.int i) 45 0 := ((sw_int h).mono (by decide) (Nat.le_refl _)).sv
noncomputable def spOdd (K : PySem.W.Frag) : Sp := fun vs H Q _ => ∃ (p a lo : Addr) (place : Nat) (os : List Str), vs = [.ref p, .ref lo, .int (place : Int)] ∧ Pen K H p a ∧ H lo = some (.lst (List.map V.str os)) ∧ lo ≠ p ∧ place < os.length ∧ os.length ≤ 60 ∧
  ∀ y H', OddV os.length (Mp p H') y → PenV H' p a → But p H H' → Q y H'
theorem scOdd : FnScope ["_law_pen_here", "_law_order", "_law_place", "_law_many", "_law_some"] ["_law_pen_here", "_law_order", "_law_place"] (defScope sOdd) := ⟨rfl, rfl, rfl, by decide +kernel, rfl, by decide +kernel, by decide +kernel⟩
theorem ok_odd {f : Addr} {fd : FuncData} (F : Fun K "_law_odd" "_law_odd" sOdd f fd) (B : Blt mg) (c_law_draw : Cal P w K mg base 1 "_law_draw" ["_law_pen_here", "_law_most"] (spDrawB K)) : FnOk P w K mg base CX0 2 f fd ["_law_pen_here", "_law_order", "_law_place"] (spOdd K) := by
  refine F.ok scOdd (fun vs H Q E h => ?_) (fun cdv A outer s H vs Q E hr h => ?_)
  · obtain ⟨p, a, lo, place, os, rfl, _⟩ := h
    rfl
  · obtain ⟨p, a, lo, place, os, rfl, hP, ho, nlo, hpl, h60, k⟩ := h
    have nd := scOdd.nd
    refine ⟨_, (pss_cons (ps_set (i := 3) nd rfl (Or.inl rfl) (b_len K B (pa_cons (pv 1) pa_nil)))
      (pss_cons (ps_set (i := 4) nd rfl (Or.inl rfl) (pe_lst (pa_cons (pe_un un_neg pe_int) (pa_cons (pv 3) (pa_cons (pe_op op_addX (pv 3) (pe_cal c_law_draw (hr.mono (by decide)) rfl (pa_cons (pv 0) (pa_cons (pe_op op_pow pe_int pe_int) pa_nil)))) (pa_cons (pe_op op_sub (pv 2) (pv 3)) (pa_cons pe_non (pa_cons pe_str (pa_cons (b_strI B (pa_cons (pv 2) pa_nil)) (pa_cons (pe_tup (pa_cons (pv 2) pa_nil)) (pa_cons (pe_lst (pa_cons (pv 2) pa_nil)) (pa_cons pe_dnewK pa_nil star_d) star_l) star_t) star_f) star_c) star_c) star_b) star_b) star_n) star_u)))
      (pss_cons (ps_set (i := 4) nd rfl (Or.inl rfl) (pe_op op_addX (pv 4) (pe_lst (pa_cons (b_bool B (pa_cons (pe_op op_mod (pv 2) pe_int) pa_nil)) (pa_cons (pe_cmpR (op_eqX hr.units) (pe_op op_mod (pv 2) pe_int) pe_int (nomark _)) (pa_cons (pe_op op_sub (pe_un un_neg pe_int) (pv 2)) (pa_cons (pe_op op_addX (pv 2) (pv 3)) pa_nil)))))))
      (pss_one (ps_ret (pe_ix (ix_X K hr.units) (pv 4) (pe_cal c_law_draw (hr.mono (by decide)) rfl (pa_cons (pv 0) (pa_cons (b_len K B (pa_cons (pv 4) pa_nil)) pa_nil))) (fun _ _ => rfl))))))), ?_⟩
    --BODY
    have hln : (List.map V.str os).length = os.length := List.length_map ..
    refine ⟨_, rfl, _, _, rfl, Or.inl ⟨_, .of ho, rfl⟩, ?_⟩
    rw [hln]
    refine ⟨_, rfl, _, rfl, _, rfl, _, rfl, _, _, rfl, rfl, ⟨by decide, by decide, by decide⟩, p, a, _, rfl, hP, by decide +kernel, by decide +kernel, fun r H1 h10 h11 v1 e1 => .int ?_⟩
    have h11 : r < 100000000000000000000 := h11
    have b1 := But.of_eq e1
    refine ⟨_, rfl, _, rfl, _, _, rfl, rfl, ?_⟩
    have lg : ((place : Nat) : Int).natAbs.log2 < 1920 := by
      rw [Int.natAbs_natCast]
      by_cases q : place = 0
      · rw [q]; decide
      · have : place.log2 < 6 := (Nat.log2_lt q).mpr (by have : (2 : Nat) ^ 6 = 64 := rfl; omega)
        omega
    refine ⟨_, rfl, nil_ ⟨_, rfl, lg, ?_⟩⟩
    refine ⟨_, rfl, (by show 1 ≤ sizeLine; decide), fun t1 ht1 => ?_⟩
    have q1 := v1.ne ht1
    have b2 := b1.at (o := .tup [V.int (place : Int)]) (b1.free (Ne.symm q1) ht1)
    have v2 := v1.upd (o := .tup [V.int (place : Int)]) q1
    have s1 : upd H1 t1 (.tup [V.int (place : Int)]) t1 = some (.tup [V.int (place : Int)]) := upd_same
    generalize upd H1 t1 (.tup [V.int (place : Int)]) = H2 at b2 v2 s1 ⊢
    refine ⟨_, rfl, (by show 1 ≤ sizeLine; decide), fun l1 hl1 => ?_⟩
    have q2 := v2.ne hl1
    have b3 := b2.at (o := .lst [V.int (place : Int)]) (b2.free (Ne.symm q2) hl1)
    have v3 := v2.upd (o := .lst [V.int (place : Int)]) q2
    have n3 := Same.new (o := .lst [V.int (place : Int)]) hl1
    have s2 : upd H2 l1 (.lst [V.int (place : Int)]) l1 = some (.lst [V.int (place : Int)]) := upd_same
    have s1 := n3 _ _ s1
    generalize upd H2 l1 (.lst [V.int (place : Int)]) = H3 at b3 v3 s1 s2 ⊢
    intro d1 hd1
    have q3 := v3.ne hd1
    have b4 := b3.at (o := .dK []) (b3.free (Ne.symm q3) hd1)
    have v4 := v3.upd (o := .dK []) q3
    have n4 := Same.new (o := .dK []) hd1
    have s3 : upd H3 d1 (.dK []) d1 = some (.dK []) := upd_same
    have s1 := n4 _ _ s1
    have s2 := n4 _ _ s2
    generalize upd H3 d1 (.dK []) = H4 at b4 v4 s1 s2 s3 ⊢
    refine ⟨(by show 10 ≤ sizeLine; decide), fun ls hls => ?_⟩
    obtain ⟨xs1, ex1⟩ : ∃ xs1 : List V, xs1 = [V.int (-1), V.int ((os.length : Nat) : Int), V.int (((os.length : Nat) : Int) + r), V.int ((place : Int) - ((os.length : Nat) : Int)), V.non, V.str "0", V.str (Str.ofString (toString ((place : Nat) : Int))), V.ref t1, V.ref l1, V.ref d1] := ⟨_, rfl⟩
    show gName 4 (V.ref ls) _ (upd H4 ls (.lst [V.int (-1), V.int ((os.length : Nat) : Int), V.int (((os.length : Nat) : Int) + r), V.int ((place : Int) - ((os.length : Nat) : Int)), V.non, V.str "0", V.str (Str.ofString (toString ((place : Nat) : Int))), V.ref t1, V.ref l1, V.ref d1])) _
    rw [← ex1]
    have l1x : xs1.length = 10 := by rw [ex1]; rfl
    have q4 := v4.ne hls
    have b5 := b4.at (o := .lst xs1) (b4.free (Ne.symm q4) hls)
    have v5 := v4.upd (o := .lst xs1) q4
    have n5 := Same.new (o := .lst xs1) hls
    have s4 : upd H4 ls (.lst xs1) ls = some (.lst xs1) := upd_same
    have s1 := n5 _ _ s1
    have s2 := n5 _ _ s2
    have s3 := n5 _ _ s3
    generalize upd H4 ls (.lst xs1) = H5 at b5 v5 s1 s2 s3 s4 ⊢
    refine ⟨_, rfl, _, rfl, _, _, rfl, rfl, (by show (0 : Int) < _; decide), nil_ ⟨_, rfl, ?_⟩⟩
    refine ⟨_, rfl, _, _, rfl, rfl, (by show (0 : Int) < _; decide), .sc rfl ?_⟩
    refine ⟨_, rfl, _, rfl, _, _, rfl, rfl, ?_⟩
    refine ⟨_, rfl, _, rfl, .int ?_⟩
    refine ⟨(by show 4 ≤ sizeLine; decide), fun l2 hl2 => ?_⟩
    obtain ⟨c1, c2, hc⟩ : ∃ (c1 c2 : Bool), c1 = ((place : Int) % 2 != 0) ∧ c2 = decide (V.int ((place : Int) % 2) = V.int 0) := ⟨_, _, rfl, rfl⟩
    obtain ⟨xs2, ex2⟩ : ∃ xs2 : List V, xs2 = [V.bl c1, V.bl c2, V.int (-1 - (place : Int)), V.int ((place : Int) + ((os.length : Nat) : Int))] := ⟨_, rfl⟩
    have n6 := Same.new (o := .lst xs2) hl2
    have q5 := v5.ne hl2
    have b6 := b5.at (o := .lst xs2) (b5.free (Ne.symm q5) hl2)
    have v6 := v5.upd (o := .lst xs2) q5
    have s5 : upd H5 l2 (.lst xs2) l2 = some (.lst xs2) := upd_same
    have l2x : xs2.length = 4 := by rw [ex2]; rfl
    have eobj : upd H5 l2 (.lst xs2) = upd H5 l2 (.lst [V.bl ((place : Int) % 2 != 0), V.bl (decide (V.int ((place : Int) % 2) = V.int 0)), V.int (-1 - (place : Int)), V.int ((place : Int) + ((os.length : Nat) : Int))]) := by rw [ex2, hc.1, hc.2]
    show AddR (upd H5 l2 (.lst [V.bl ((place : Int) % 2 != 0), V.bl (decide (V.int ((place : Int) % 2) = V.int 0)), V.int (-1 - (place : Int)), V.int ((place : Int) + ((os.length : Nat) : Int))])) (V.ref ls) (V.ref l2) _
    rw [← eobj]
    have s1 := n6 _ _ s1
    have s2 := n6 _ _ s2
    have s3 := n6 _ _ s3
    have s4 := n6 _ _ s4
    generalize upd H5 l2 (.lst xs2) = H6 at b6 v6 s1 s2 s3 s4 s5 ⊢
    refine .lst s4 s5 (by rw [l1x, l2x]; exact Nat.le_of_lt (small1000 (by decide))) fun l3 hl3 => ?_
    have q6 := v6.ne hl3
    have b7 := b6.at (o := .lst (xs1 ++ xs2)) (b6.free (Ne.symm q6) hl3)
    have v7 := v6.upd (o := .lst (xs1 ++ xs2)) q6
    have n7 := Same.new (o := .lst (xs1 ++ xs2)) hl3
    have s6 : upd H6 l3 (.lst (xs1 ++ xs2)) l3 = some (.lst (xs1 ++ xs2)) := upd_same
    have s1 := n7 _ _ s1
    have s2 := n7 _ _ s2
    have s3 := n7 _ _ s3
    generalize upd H6 l3 (.lst (xs1 ++ xs2)) = H7 at b7 v7 s1 s2 s3 s6 ⊢
    have l3x : (xs1 ++ xs2).length = 14 := by rw [List.length_append, l1x, l2x]
    refine ⟨_, rfl, _, rfl, _, rfl, _, _, rfl, Or.inl ⟨_, .of s6, rfl⟩, p, a, _, rfl, hP.but b7 v7, by rw [l3x]; decide, by rw [l3x]; decide, fun r2 H8 h80 h81 v8 e8 => ?_⟩
    rw [l3x] at h81
    obtain ⟨j, rfl⟩ := Int.eq_ofNat_of_zero_le h80
    have b8 := b7.trans (But.of_eq e8)
    have s6 := (e8 l3 (Ne.symm q6)).trans s6
    have nt : t1 ≠ p := Ne.symm q1
    have nl : l1 ≠ p := Ne.symm q2
    have nD : d1 ≠ p := Ne.symm q3
    have s1 := Mp.at ((e8 t1 nt).trans s1) nt
    have s2 := Mp.at ((e8 l1 nl).trans s2) nl
    have s3 := Mp.at ((e8 d1 nD).trans s3) nD
    have hj : j < (xs1 ++ xs2).length := by omega
    refine .lst (.of s6) (atI_nat (List.getElem?_eq_getElem hj)) ?_
    have mem := List.getElem_mem hj
    generalize (xs1 ++ xs2)[j] = y at mem ⊢
    refine k y H8 ?_ v8 b8
    have int_ok : ∀ i : Int, (∀ k : Nat, k < os.length → i ≠ (k : Int)) → i.natAbs < 10 ^ 40 → OddV os.length (Mp p H8) (.int i) := fun i h1 h2 => ⟨.int i, fun k hk e => h1 k hk (V.int.inj e), sv_flat (.int i) rfl ((sv_int h2).mono (by decide) (by decide))⟩
    have bl_ok : ∀ c : Bool, OddV os.length (Mp p H8) (.bl c) := fun c => ⟨.bl c, (fun k hk e => by cases e), sv_flat (.bl c) rfl (by cases c <;> exact ⟨rfl, by decide, by decide⟩)⟩
    rw [ex1, ex2] at mem
    simp only [List.cons_append, List.nil_append, List.mem_cons, List.not_mem_nil, or_false] at mem
    have sint : Sv (.int (place : Int)) 45 0 := sv_int (by omega)
    rcases mem with rfl | rfl | rfl | rfl | rfl | rfl | rfl | rfl | rfl | rfl | rfl | rfl | rfl | rfl
    · exact int_ok _ (fun k hk => by omega) (by decide)
    · exact int_ok _ (fun k hk => by omega) (by omega)
    · exact int_ok _ (fun k hk => by omega) (by omega)
    · exact int_ok _ (fun k hk => by omega) (by omega)
    · exact ⟨.non, (fun k hk e => by cases e), sv_flat .non rfl ⟨rfl, by decide, by decide⟩⟩
    · exact ⟨.str (by decide), (fun k hk e => by cases e), sv_flat (.str _) rfl ⟨rfl, by decide, by decide +kernel⟩⟩
    · refine ⟨.str ?_, (fun k hk e => by cases e), sv_flat (.str _) rfl ⟨rfl, Nat.zero_le _, shown_dig ⟨place, by omega⟩⟩⟩
      have := dig_len ⟨place, by omega⟩
      exact Nat.le_trans this (by decide)
    · exact ⟨.tup s1, (fun k hk e => by cases e), sv_flat (.tup s1 (.cons (.int _) .nil)) rfl ((Sv.tuple (m := 1) (fun d hd => by rw [List.mem_singleton.mp hd]; exact sint) (Nat.le_refl _)).mono (by decide) (by decide))⟩
    · exact ⟨.lst s2, (fun k hk e => by cases e), sv_flat (.lst s2 (.cons (.int _) .nil)) rfl ((Sv.list (m := 1) (fun d hd => by rw [List.mem_singleton.mp hd]; exact sint) (Nat.le_refl _)).mono (by decide) (by decide))⟩
    · exact ⟨.dK s3, (fun k hk e => by cases e), _, .dc s3 rfl, ⟨rfl, by decide, by decide +kernel⟩⟩
    · exact bl_ok _
    · exact bl_ok _
    · exact int_ok _ (fun k hk => by omega) (by omega)
    · exact int_ok _ (fun k hk => by omega) (by omega)
end
end K31
namespace K31
open PySem L2
section
variable {P : Program} {w : World} {K : PySem.W.Frag} {mg : Str → Option Value} {base : Heap}
noncomputable def NoMv (os : List Str) (H : Hp) (y : V) : Prop := ∀ (ta : Addr) (s : Str) (i : Nat) (j : Int), y = .ref ta → H ta = some (.tup [.str s, .int (i : Int), .int j]) → os[i]? = some s → ∀ k : Nat, k < os.length → j ≠ (k : Int)
noncomputable def Pt (H : Hp) (u : V) : Prop := Thg H u ∧ ∃ d, RpD H u d ∧ Sv d 320 2
theorem Pt.same {H H' : Hp} {u : V} (h : Pt H u) (s : Same H H') : Pt H' u := ⟨h.1.same s, let ⟨d, a, b⟩ := h.2; ⟨d, a.same s, b⟩⟩
theorem pt_nm {H : Hp} {s : Str} (h : Nm s) : Pt H (.str s) := ⟨.str (nmS h), _, .tr (.str s) rfl, (Sw.nm h).sv.mono (by decide) (by decide)⟩
theorem pt_int {H : Hp} {i : Int} (h : i.natAbs < 10 ^ 40) : Pt H (.int i) := ⟨.int i, _, .tr (.int i) rfl, (sv_int h).mono (by decide) (by decide)⟩
theorem pt_asc {H : Hp} {s : Str} (hl : s.length ≤ 9) (h : ∀ c ∈ s.cps.toList, c < 128) : Pt H (.str s) := ⟨.str (Nat.le_trans hl (by decide)), _, .tr (.str s) rfl, ⟨rfl, Nat.zero_le _, Nat.le_trans (repr_asc h hl) (by decide)⟩⟩
theorem pt_odd {H : Hp} {n : Nat} {y : V} (h : OddV n H y) : Pt H y := ⟨h.1, let ⟨d, a, b⟩ := h.2.2; ⟨d, a, b.mono (by decide) (Nat.le_refl _)⟩⟩
theorem tk_tup {H : Hp} {a : Addr} {us : List V} (h : H a = some (.tup us)) (hl : us.length ≤ 1000) (ht : ∀ u ∈ us, Thg H u) : Tk H (.ref a) := ⟨.tup h, fun b vs e hb => by
  cases e
  rw [h] at hb
  cases hb
  exact ⟨hl, ht⟩⟩
theorem tk_out {H : Hp} {x : V} (h : Thg H x) (n : isT H x = false) : Tk H x := ⟨h, fun b vs e hb => by
  rw [e, isT_of hb] at n
  cases n⟩
theorem nomv_len {os : List Str} {H : Hp} {y : V} (h : ∀ ta us, y = .ref ta → H ta = some (.tup us) → us.length ≠ 3) : NoMv os H y := fun ta s i j e ht _ => absurd rfl (h ta _ e ht)
theorem nomv_out {os : List Str} {H : Hp} {y : V} (h : isT H y = false) : NoMv os H y := nomv_len fun ta us e ht => by
  rw [e, isT_of ht] at h
  cases h
theorem nomv_tup {os : List Str} {H : Hp} {a : Addr} {us : List V} (h : H a = some (.tup us)) (hl : us.length ≠ 3) : NoMv os H (.ref a) := nomv_len fun ta vs e ht => by
  cases e
  rw [h] at ht
  cases ht
  exact hl
theorem ptup {H : Hp} {a : Addr} {us : List V} (h : H a = some (.tup us)) (hl : us.length ≤ 4) (hp : ∀ u ∈ us, Pt H u) : ∃ d, RpD H (.ref a) d ∧ Sv d 1300 4 := by
  have key : ∀ us : List V, (∀ u ∈ us, Pt H u) → ∃ ds, RpDs H us ds ∧ ds.length = us.length ∧ ∀ d ∈ ds, Sv d 320 2 := by
    intro us
    induction us with
    | nil => intro _; exact ⟨[], .nil, rfl, fun _ h => by cases h⟩
    | cons u us ih =>
      intro h
      obtain ⟨ds, r, l, sv⟩ := ih fun x hx => h x (List.mem_cons_of_mem _ hx)
      obtain ⟨d, rd, sd⟩ := (h u (by simp)).2
      refine ⟨d :: ds, .cons rd r, by rw [List.length_cons, l]; rfl, fun e he => ?_⟩
      rcases List.mem_cons.mp he with rfl | he
      · exact sd
      · exact sv e he
  obtain ⟨ds, r, l, sv⟩ := key us hp
  exact ⟨_, .tup h r, (Sv.tuple (m := 4) sv (by omega)).mono (by decide) (by decide)⟩
noncomputable def spBentMv (K : PySem.W.Frag) : Sp := fun vs H Q _ => ∃ (p a lo ta : Addr) (os : List Str) (s : Str) (i j : Nat), vs = [.ref p, .ref lo, .ref ta] ∧ Pen K H p a ∧ H lo = some (.lst (List.map V.str os)) ∧ lo ≠ p ∧ os.Nodup ∧ os.length ≤ 60 ∧ (∀ s ∈ os, Nm s) ∧ H ta = some (.tup [.str s, .int (i : Int), .int (j : Int)]) ∧ os[i]? = some s ∧ j < os.length ∧
  ∀ y H', Tk (Mp p H') y → NoMv os (Mp p H') y → (∃ d, RpD (Mp p H') y d ∧ Sv d 1300 4) → PenV H' p a → But p H H' → Q y H'
theorem scBentMv : FnScope ["_law_pen_here", "_law_order", "_law_move", "_law_thing", "_law_old", "_law_new", "_law_sort", "_law_others"] ["_law_pen_here", "_law_order", "_law_move"] (defScope sBentMove) := ⟨rfl, rfl, rfl, by decide +kernel, rfl, by decide +kernel, by decide +kernel⟩
theorem ok_bentmv {f : Addr} {fd : FuncData} (F : Fun K "_law_bent_move" "_law_bent_move" sBentMove f fd) (B : Blt mg) (c_law_draw : Cal P w K mg base 1 "_law_draw" ["_law_pen_here", "_law_most"] (spDraw K)) (c_law_odd : Cal P w K mg base 2 "_law_odd" ["_law_pen_here", "_law_order", "_law_place"] (spOdd K)) : FnOk P w K mg base CX0 3 f fd ["_law_pen_here", "_law_order", "_law_move"] (spBentMv K) := by
  refine F.ok scBentMv (fun vs H Q E h => ?_) (fun cdv A outer s H vs Q E hr h => ?_)
  · obtain ⟨p, a, lo, ta, os, s, i, j, rfl, _⟩ := h
    rfl
  · obtain ⟨p, a, lo, ta, os, z, i, j, rfl, hP, ho, nlo, ond, h60, onm, hta, hz, hj, k⟩ := h
    have nd := scBentMv.nd
    refine ⟨_, (pss_cons (ps_asg (pv 2) (pg_tupK (n := 3) K rfl (pgs_cons (pg_name (i := 3) nd rfl (Or.inr rfl)) (pgs_cons (pg_name (i := 4) nd rfl (Or.inl rfl)) (pgs_cons (pg_name (i := 5) nd rfl (Or.inl rfl)) pgs_nil)))))
      (pss_cons (ps_set (i := 6) nd rfl (Or.inl rfl) (pe_cal c_law_draw (hr.mono (by decide)) rfl (pa_cons (pv 0) (pa_cons pe_int pa_nil))))
      (pss_cons (ps_if (pt_cmpR (op_eqX hr.units) (pv 6) pe_int (nomark _)) (pss_one (ps_ret (pe_lst (pa_cons (pv 3) (pa_cons (pv 4) (pa_cons (pv 5) pa_nil)))))) pss_nil)
      (pss_cons (ps_if (pt_cmpR (op_eqX hr.units) (pv 6) pe_int (nomark _)) (pss_one (ps_ret (pe_ix (ix_X K hr.units) (pe_lst (pa_cons (pe_op (op_catTA K) (pv 2) (pe_tup (pa_cons (pv 5) pa_nil))) (pa_cons (pe_slice (sl_tupK K) (pv 2) po_none (po_some pe_int)) (pa_cons (pe_tup (pa_cons (pv 3) pa_nil)) (pa_cons (pe_tup pa_nil) (pa_cons pe_non (pa_cons (pv 3) (pa_cons (pv 4) (pa_cons pe_dnewK (pa_cons (pe_tup (pa_cons (pv 2) pa_nil)) pa_nil star_t) star_d) star_n) star_n) star_c) star_t) star_t) star_s) star_b)) (pe_cal c_law_draw (hr.mono (by decide)) rfl (pa_cons (pv 0) (pa_cons pe_int pa_nil))) (fun _ _ => rfl)))) pss_nil)
      (pss_cons (ps_if (pt_cmpR (op_eqX hr.units) (pv 6) pe_int (nomark _)) (pss_cons (ps_setC (i := 7) nd rfl rfl (by rfl) (defScope sBentMove) ["_law_pen_here", "_law_order", "_law_move", "_law_thing", "_law_old", "_law_new", "_law_sort", "_law_others"] ["_law_one"] [3] ["_law_one", "_law_thing"] rfl (pi_listK K (pv 1)) (fun _ _ _ _ _ => (pg_name (i := 0) (show (["_law_one", "_law_thing"] : List Str).Nodup by decide) rfl (Or.inl rfl))) (fun _ _ _ _ _ => (pts_one (pt_cmpR (op_neX hr.units) (pv 0) (pv 1) (nomark _)))) (fun _ _ _ _ _ => (pv 0)))
      (pss_one (ps_ret (pe_tup (pa_cons (pe_ix (ix_X K hr.units) (pe_op op_addX (pv 7) (pe_lst (pa_cons (pe_op op_addX (pv 3) pe_str) pa_nil))) (pe_cal c_law_draw (hr.mono (by decide)) rfl (pa_cons (pv 0) (pa_cons (pe_op op_addX (b_len K B (pa_cons (pv 7) pa_nil)) pe_int) pa_nil))) (fun _ _ => rfl)) (pa_cons (pv 4) (pa_cons (pv 5) pa_nil))))))) pss_nil)
      (pss_cons (ps_if (pt_cmpR (op_eqX hr.units) (pv 6) pe_int (nomark _)) (pss_one (ps_ret (pe_tup (pa_cons (pe_ix (ix_X K hr.units) (pe_lst (pa_cons pe_non (pa_cons (pv 4) (pa_cons pe_str (pa_cons (pe_lst (pa_cons (pv 3) pa_nil)) (pa_cons (pe_tup (pa_cons (pv 3) pa_nil)) (pa_cons pe_bl (pa_cons (m_upper K (pv 3)) (pa_cons (pe_op op_addX pe_str (pv 3)) pa_nil star_b) star_f) star_c) star_t) star_l) star_c) star_n) star_c)) (pe_cal c_law_draw (hr.mono (by decide)) rfl (pa_cons (pv 0) (pa_cons pe_int pa_nil))) (fun _ _ => rfl)) (pa_cons (pv 4) (pa_cons (pv 5) pa_nil)))))) pss_nil)
      (pss_cons (ps_if (pt_cmpR op_ltX (pv 6) pe_int (nomark _)) (pss_one (ps_ret (pe_tup (pa_cons (pv 3) (pa_cons (pe_cal c_law_odd (hr.mono (by decide)) rfl (pa_cons (pv 0) (pa_cons (pv 1) (pa_cons (pv 4) pa_nil)))) (pa_cons (pv 5) pa_nil)))))) pss_nil)
      (pss_cons (ps_if (pt_cmpR op_ltX (pv 6) pe_int (nomark _)) (pss_one (ps_ret (pe_tup (pa_cons (pv 3) (pa_cons (pv 4) (pa_cons (pe_cal c_law_odd (hr.mono (by decide)) rfl (pa_cons (pv 0) (pa_cons (pv 1) (pa_cons (pv 5) pa_nil)))) pa_nil)))))) pss_nil)
      (pss_one (ps_ret (pe_tup (pa_cons (pv 4) (pa_cons (pv 3) (pa_cons (pv 5) pa_nil)))))))))))))), ?_⟩
    --BODY
    have v0 := hP.2
    have hzm := List.mem_of_getElem? hz
    have nz := onm z hzm
    have hi := (List.getElem?_eq_some_iff.mp hz).1
    obtain ⟨_, hp0⟩ := penAt v0
    have nta : ta ≠ p := ne_of hta hp0 (by intro z; cases z)
    have hlo : ∀ HZ, But p H HZ → HZ lo = some (.lst (List.map V.str os)) := fun HZ b => b lo _ nlo ho
    have pz : ∀ {HZ : Hp}, Pt HZ (.str z) := pt_nm nz
    have pi : ∀ {HZ : Hp}, Pt HZ (.int (i : Int)) := pt_int (by omega)
    have pj : ∀ {HZ : Hp}, Pt HZ (.int (j : Int)) := pt_int (by omega)
    have mpt : ∀ {H1 : Hp}, But p H H1 → Mp p H1 ta = some (.tup [.str z, .int (i : Int), .int (j : Int)]) := fun b => Mp.at (b ta _ nta hta) nta
    have fin3 : ∀ (H1 : Hp) (u v w' : V), PenV H1 p a → But p H H1 → Pt (Mp p H1) u → Pt (Mp p H1) v → Pt (Mp p H1) w' → (∀ (s : Str) (i' : Nat) (j' : Int), u = .str s → v = .int (i' : Int) → w' = .int j' → os[i']? = some s → ∀ k : Nat, k < os.length → j' ≠ (k : Int)) → ∀ tq, H1 tq = none → Q (.ref tq) (upd H1 tq (.tup [u, v, w'])) := fun H1 u v w' v1 b1 hu hv hw hno tq htq => by
      have hq := v1.ne htq
      have sm := Mp.same ((But.refl p H1).at (o := .tup [u, v, w']) htq)
      have e : Mp p (upd H1 tq (.tup [u, v, w'])) tq = some (.tup [u, v, w']) := Mp.at upd_same (Ne.symm hq)
      have hall : ∀ x ∈ [u, v, w'], Pt (Mp p (upd H1 tq (.tup [u, v, w']))) x := fun x hx => by
        rcases List.mem_cons.mp hx with rfl | hx
        · exact hu.same sm
        · rcases List.mem_cons.mp hx with rfl | hx
          · exact hv.same sm
          · rw [List.mem_singleton.mp hx]; exact hw.same sm
      refine k _ _ (tk_tup e (by show 3 ≤ 1000; decide) fun x hx => (hall x hx).1) ?_ (ptup e (by show 3 ≤ 4; decide) hall) (v1.upd hq) (b1.at (b1.free (Ne.symm hq) htq))
      intro tb s i' j' eb hb
      cases eb
      rw [e] at hb
      cases hb
      exact hno s i' j' rfl rfl rfl
    refine ⟨_, rfl, ta, _, rfl, .of hta, rfl, _, _, rfl, _, _, rfl, _, _, rfl, rfl, ?_⟩
    refine ⟨_, rfl, p, a, 9, rfl, hP, by decide, by decide, fun r H1 h10 h11 v1 e1 => ?_⟩
    have b1 := But.of_eq e1
    refine ⟨_, rfl, .sc rfl ⟨_, rfl, ite2 (fun _ => ?_) (fun _ => ?_)⟩⟩
    · refine ⟨_, rfl, _, rfl, _, rfl, (by show 3 ≤ sizeLine; decide), fun l hl => ?_⟩
      have hq := v1.ne hl
      have e : Mp p (upd H1 l (.lst [V.str z, V.int (i : Int), V.int (j : Int)])) l = some (.lst [V.str z, V.int (i : Int), V.int (j : Int)]) := Mp.at upd_same (Ne.symm hq)
      have nT : isT (Mp p (upd H1 l (.lst [V.str z, V.int (i : Int), V.int (j : Int)]))) (.ref l) = false := isT_not e (fun _ z => by cases z)
      refine k _ _ (tk_out (.lst e) nT) (nomv_out nT) ⟨_, .tr (.lst e (.cons (.str _) (.cons (.int _) (.cons (.int _) .nil)))) rfl, ?_⟩ (v1.upd hq) (b1.at (b1.free (Ne.symm hq) hl))
      refine (Sv.list (n := 100) (k := 0) (m := 3) (fun d hd => ?_) (Nat.le_refl _)).mono (by decide) (by decide)
      rcases List.mem_cons.mp hd with rfl | hd
      · exact (Sw.nm nz).sv.mono (by decide) (Nat.le_refl _)
      · rcases List.mem_cons.mp hd with rfl | hd
        · exact (sv_int (by omega)).mono (by decide) (Nat.le_refl _)
        · rw [List.mem_singleton.mp hd]; exact (sv_int (by omega)).mono (by decide) (Nat.le_refl _)
    refine ⟨_, rfl, .sc rfl ⟨_, rfl, ite2 (fun _ => ?_) (fun _ => ?_)⟩⟩
    · have smA := Same.refl H1
      have f_ta := b1 ta _ nta hta
      refine ⟨_, rfl, _, rfl, (by show 1 ≤ sizeLine; decide), fun u1 hu1 => ?_⟩
      have al1 := Same.new (o := .tup [V.int (j : Int)]) hu1
      have f_u1 : upd H1 u1 (.tup [V.int (j : Int)]) u1 = some (.tup [V.int (j : Int)]) := upd_same
      have f_ta := al1 _ _ f_ta
      have smA := smA.trans al1
      generalize upd H1 u1 (.tup [V.int (j : Int)]) = HA1 at smA f_ta f_u1 ⊢
      clear al1
      refine ⟨ta, u1, _, _, rfl, rfl, .of f_ta, .of f_u1, (by show 3 + 1 ≤ sizeLine; decide), (fun h => by cases h), (fun _ h => by cases h), fun _ _ c1 hc1 => ?_⟩
      have al2 := Same.new (o := .tup ([V.str z, V.int (i : Int), V.int (j : Int)] ++ [V.int (j : Int)])) hc1
      have f_c1 : upd HA1 c1 (.tup ([V.str z, V.int (i : Int), V.int (j : Int)] ++ [V.int (j : Int)])) c1 = some (.tup ([V.str z, V.int (i : Int), V.int (j : Int)] ++ [V.int (j : Int)])) := upd_same
      have f_ta := al2 _ _ f_ta
      have f_u1 := al2 _ _ f_u1
      have smA := smA.trans al2
      generalize upd HA1 c1 (.tup ([V.str z, V.int (i : Int), V.int (j : Int)] ++ [V.int (j : Int)])) = HA2 at smA f_ta f_u1 f_c1 ⊢
      clear al2
      refine ⟨_, rfl, _, rfl, ta, _, rfl, .of f_ta, (by show ¬ (HT.sIx 3 0 none = 0 ∧ HT.sIx 3 3 (some 2) = 3); decide), fun c2 hc2 => ?_⟩
      have al3 := Same.new (o := .tup (cutV [V.str z, V.int (i : Int), V.int (j : Int)] none (some 2))) hc2
      have f_c2 : upd HA2 c2 (.tup (cutV [V.str z, V.int (i : Int), V.int (j : Int)] none (some 2))) c2 = some (.tup (cutV [V.str z, V.int (i : Int), V.int (j : Int)] none (some 2))) := upd_same
      have f_ta := al3 _ _ f_ta
      have f_u1 := al3 _ _ f_u1
      have f_c1 := al3 _ _ f_c1
      have smA := smA.trans al3
      generalize upd HA2 c2 (.tup (cutV [V.str z, V.int (i : Int), V.int (j : Int)] none (some 2))) = HA3 at smA f_ta f_u1 f_c1 f_c2 ⊢
      clear al3
      refine ⟨_, rfl, (by show 1 ≤ sizeLine; decide), fun c3 hc3 => ?_⟩
      have al4 := Same.new (o := .tup [V.str z]) hc3
      have f_c3 : upd HA3 c3 (.tup [V.str z]) c3 = some (.tup [V.str z]) := upd_same
      have f_ta := al4 _ _ f_ta
      have f_u1 := al4 _ _ f_u1
      have f_c1 := al4 _ _ f_c1
      have f_c2 := al4 _ _ f_c2
      have smA := smA.trans al4
      generalize upd HA3 c3 (.tup [V.str z]) = HA4 at smA f_ta f_u1 f_c1 f_c2 f_c3 ⊢
      clear al4
      refine ⟨(by show 0 ≤ sizeLine; decide), fun c4 hc4 => ?_⟩
      have al5 := Same.new (o := .tup []) hc4
      have f_c4 : upd HA4 c4 (.tup []) c4 = some (.tup []) := upd_same
      have f_ta := al5 _ _ f_ta
      have f_u1 := al5 _ _ f_u1
      have f_c1 := al5 _ _ f_c1
      have f_c2 := al5 _ _ f_c2
      have f_c3 := al5 _ _ f_c3
      have smA := smA.trans al5
      generalize upd HA4 c4 (.tup []) = HA5 at smA f_ta f_u1 f_c1 f_c2 f_c3 f_c4 ⊢
      clear al5
      refine ⟨_, rfl, _, rfl, ?_⟩
      intro d1 hd1
      have al6 := Same.new (o := .dK []) hd1
      have f_d1 : upd HA5 d1 (.dK []) d1 = some (.dK []) := upd_same
      have f_ta := al6 _ _ f_ta
      have f_u1 := al6 _ _ f_u1
      have f_c1 := al6 _ _ f_c1
      have f_c2 := al6 _ _ f_c2
      have f_c3 := al6 _ _ f_c3
      have f_c4 := al6 _ _ f_c4
      have smA := smA.trans al6
      generalize upd HA5 d1 (.dK []) = HA6 at smA f_ta f_u1 f_c1 f_c2 f_c3 f_c4 f_d1 ⊢
      clear al6
      refine ⟨_, rfl, (by show 1 ≤ sizeLine; decide), fun c5 hc5 => ?_⟩
      have al7 := Same.new (o := .tup [V.ref ta]) hc5
      have f_c5 : upd HA6 c5 (.tup [V.ref ta]) c5 = some (.tup [V.ref ta]) := upd_same
      have f_ta := al7 _ _ f_ta
      have f_u1 := al7 _ _ f_u1
      have f_c1 := al7 _ _ f_c1
      have f_c2 := al7 _ _ f_c2
      have f_c3 := al7 _ _ f_c3
      have f_c4 := al7 _ _ f_c4
      have f_d1 := al7 _ _ f_d1
      have smA := smA.trans al7
      generalize upd HA6 c5 (.tup [V.ref ta]) = HA7 at smA f_ta f_u1 f_c1 f_c2 f_c3 f_c4 f_d1 f_c5 ⊢
      clear al7
      refine ⟨(by show 9 ≤ sizeLine; decide), fun ls hls => ?_⟩
      have nls : ls ≠ p := Ne.symm ((penSame smA v1).ne hls)
      have al8 := Same.new (o := .lst [V.ref c1, V.ref c2, V.ref c3, V.ref c4, V.non, V.str z, V.int (i : Int), V.ref d1, V.ref c5]) hls
      have f_ls : upd HA7 ls (.lst [V.ref c1, V.ref c2, V.ref c3, V.ref c4, V.non, V.str z, V.int (i : Int), V.ref d1, V.ref c5]) ls = some (.lst [V.ref c1, V.ref c2, V.ref c3, V.ref c4, V.non, V.str z, V.int (i : Int), V.ref d1, V.ref c5]) := upd_same
      have f_ta := al8 _ _ f_ta
      have f_u1 := al8 _ _ f_u1
      have f_c1 := al8 _ _ f_c1
      have f_c2 := al8 _ _ f_c2
      have f_c3 := al8 _ _ f_c3
      have f_c4 := al8 _ _ f_c4
      have f_d1 := al8 _ _ f_d1
      have f_c5 := al8 _ _ f_c5
      have smA := smA.trans al8
      generalize upd HA7 ls (.lst [V.ref c1, V.ref c2, V.ref c3, V.ref c4, V.non, V.str z, V.int (i : Int), V.ref d1, V.ref c5]) = HA8 at smA f_ta f_u1 f_c1 f_c2 f_c3 f_c4 f_d1 f_c5 f_ls ⊢
      clear al8
      have vA := penSame smA v1
      have bA := b1.trans (But.of_same (p := p) smA)
      obtain ⟨_, hpA⟩ := penAt vA
      refine ⟨_, rfl, p, a, 9, rfl, hP.but bA vA, by decide, by decide, fun r2 HB h20 h21 vB eB => ?_⟩
      obtain ⟨jj, rfl⟩ := Int.eq_ofNat_of_zero_le h20
      have bB := bA.trans (But.of_eq eB)
      have mB : Same (Mp p HA8) (Mp p HB) := Mp.same (But.of_eq eB)
      have f_ta := mB _ _ (Mp.at f_ta (ne_of f_ta hpA (by intro z; cases z)))
      have f_c1 := mB _ _ (Mp.at f_c1 (ne_of f_c1 hpA (by intro z; cases z)))
      have f_c2 := mB _ _ (Mp.at f_c2 (ne_of f_c2 hpA (by intro z; cases z)))
      have f_c3 := mB _ _ (Mp.at f_c3 (ne_of f_c3 hpA (by intro z; cases z)))
      have f_c4 := mB _ _ (Mp.at f_c4 (ne_of f_c4 hpA (by intro z; cases z)))
      have f_d1 := mB _ _ (Mp.at f_d1 (ne_of f_d1 hpA (by intro z; cases z)))
      have f_c5 := mB _ _ (Mp.at f_c5 (ne_of f_c5 hpA (by intro z; cases z)))
      have hj : jj < [V.ref c1, V.ref c2, V.ref c3, V.ref c4, V.non, V.str z, V.int (i : Int), V.ref d1, V.ref c5].length := by show jj < 9; omega
      refine .lst (.of ((eB ls nls).trans f_ls)) (atI_nat (List.getElem?_eq_getElem hj)) ?_
      have mem := List.getElem_mem hj
      generalize [V.ref c1, V.ref c2, V.ref c3, V.ref c4, V.non, V.str z, V.int (i : Int), V.ref d1, V.ref c5][jj] = y at mem ⊢
      simp only [List.mem_cons, List.not_mem_nil, or_false] at mem
      have pTa : Pt (Mp p HB) (.ref ta) := ⟨.tup f_ta, _, .tr (.tup f_ta (.cons (.str _) (.cons (.int _) (.cons (.int _) .nil)))) rfl, (Sv.tuple (n := 100) (k := 0) (m := 3) (fun d hd => by
        rcases List.mem_cons.mp hd with rfl | hd
        · exact (Sw.nm nz).sv.mono (by decide) (Nat.le_refl _)
        · rcases List.mem_cons.mp hd with rfl | hd
          · exact (sv_int (by omega)).mono (by decide) (Nat.le_refl _)
          · rw [List.mem_singleton.mp hd]; exact (sv_int (by omega)).mono (by decide) (Nat.le_refl _)) (Nat.le_refl _)).mono (by decide) (by decide)⟩
      have f_c2 : Mp p HB c2 = some (.tup [V.str z, V.int (i : Int)]) := f_c2
      rcases mem with rfl | rfl | rfl | rfl | rfl | rfl | rfl | rfl | rfl
      · have hall : ∀ u ∈ ([V.str z, V.int (i : Int), V.int (j : Int)] ++ [V.int (j : Int)] : List V), Pt (Mp p HB) u := by
          intro u hu
          simp only [List.cons_append, List.nil_append, List.mem_cons, List.not_mem_nil, or_false] at hu
          rcases hu with rfl | rfl | rfl | rfl <;> first | exact pz | exact pi | exact pj | exact pTa
        exact k _ _ (tk_tup f_c1 (by show 4 ≤ 1000; decide) fun u hu => (hall u hu).1) (nomv_tup f_c1 (by show 4 ≠ 3; decide)) (ptup f_c1 (by show 4 ≤ 4; decide) hall) vB bB
      · have hall : ∀ u ∈ ([V.str z, V.int (i : Int)] : List V), Pt (Mp p HB) u := by
          intro u hu
          simp only [List.cons_append, List.nil_append, List.mem_cons, List.not_mem_nil, or_false] at hu
          rcases hu with rfl | rfl <;> first | exact pz | exact pi | exact pj | exact pTa
        exact k _ _ (tk_tup f_c2 (by show 2 ≤ 1000; decide) fun u hu => (hall u hu).1) (nomv_tup f_c2 (by show 2 ≠ 3; decide)) (ptup f_c2 (by show 2 ≤ 4; decide) hall) vB bB
      · have hall : ∀ u ∈ ([V.str z] : List V), Pt (Mp p HB) u := by
          intro u hu
          simp only [List.cons_append, List.nil_append, List.mem_cons, List.not_mem_nil, or_false] at hu
          subst hu; exact pz
        exact k _ _ (tk_tup f_c3 (by show 1 ≤ 1000; decide) fun u hu => (hall u hu).1) (nomv_tup f_c3 (by show 1 ≠ 3; decide)) (ptup f_c3 (by show 1 ≤ 4; decide) hall) vB bB
      · have hall : ∀ u ∈ ([] : List V), Pt (Mp p HB) u := by
          intro u hu
          cases hu
        exact k _ _ (tk_tup f_c4 (by show 0 ≤ 1000; decide) fun u hu => (hall u hu).1) (nomv_tup f_c4 (by show 0 ≠ 3; decide)) (ptup f_c4 (by show 0 ≤ 4; decide) hall) vB bB
      · exact k _ _ (tk_out .non rfl) (nomv_out rfl) ⟨_, .tr .non rfl, ⟨rfl, Nat.zero_le _, by decide⟩⟩ vB bB
      · exact k _ _ (tk_out pz.1 rfl) (nomv_out rfl) (let ⟨d, a, b⟩ := pz.2; ⟨d, a, b.mono (by decide) (by decide)⟩) vB bB
      · exact k _ _ (tk_out pi.1 rfl) (nomv_out rfl) (let ⟨d, a, b⟩ := pi.2; ⟨d, a, b.mono (by decide) (by decide)⟩) vB bB
      · have nT : isT (Mp p HB) (.ref d1) = false := isT_not f_d1 (fun _ z => by cases z)
        exact k _ _ (tk_out (.dK f_d1) nT) (nomv_out nT) ⟨_, .dc f_d1 rfl, ⟨rfl, by decide, by decide +kernel⟩⟩ vB bB
      · have hall : ∀ u ∈ ([V.ref ta] : List V), Pt (Mp p HB) u := by
          intro u hu
          simp only [List.cons_append, List.nil_append, List.mem_cons, List.not_mem_nil, or_false] at hu
          subst hu; exact pTa
        exact k _ _ (tk_tup f_c5 (by show 1 ≤ 1000; decide) fun u hu => (hall u hu).1) (nomv_tup f_c5 (by show 1 ≠ 3; decide)) (ptup f_c5 (by show 1 ≤ 4; decide) hall) vB bB
    refine ⟨_, rfl, .sc rfl ⟨_, rfl, ite2 (fun _ => ?_) (fun _ => ?_)⟩⟩
    · have oB := hlo _ b1
      refine ⟨_, rfl, lo, rfl, ⟨_, .of oB⟩, ?_⟩
      refine comp_list (List.map V.str os) (fun D i acc σ' H' => ∃ o us, σ' = [o, some (.str z)] ∧ acc = List.map V.str us ∧ (∀ x ∈ us, x ∈ os ∧ x ≠ z) ∧ us.length ≤ i ∧ Same H1 H' ∧ H1 D = none) fun D hD => ⟨?_, ?_, ?_, ?_⟩
      · exact ⟨none, [], rfl, rfl, (fun _ h => by cases h), Nat.le_refl _, Same.new hD, hD⟩
      · rintro i acc σ' H' _ ⟨o, us, rfl, _, _, _, sm, _⟩ _
        exact .of (sm _ _ oB)
      · rintro i acc σ' H' x hx ⟨o, us, rfl, rfl, hus, ul, sm, hD0⟩ hacc
        obtain ⟨y, hy, rfl⟩ := str_get' hx
        have hil := (List.getElem?_eq_some_iff.mp hy).1
        refine ⟨_, rfl, _, rfl, .sc rfl ⟨_, rfl, ite2 (fun h => ?_) (fun _ => ?_)⟩⟩
        · have h : (!decide (V.str y = V.str z)) = true := h
          have hne : y ≠ z := fun e => by rw [e, decide_eq_true rfl] at h; cases h
          refine ⟨_, rfl, hacc, by rw [List.length_map]; exact small1000 (by omega), _, us ++ [y], rfl, by rw [List.map_append]; rfl, fun x hx => ?_, by rw [List.length_append]; exact Nat.succ_le_succ ul, same_at sm hD0, hD0⟩
          rcases List.mem_append.mp hx with hx | hx
          · exact hus x hx
          · rw [List.mem_singleton.mp hx]; exact ⟨List.mem_of_getElem? hy, hne⟩
        · exact ⟨hacc, _, us, rfl, rfl, hus, by omega, sm, hD0⟩
      rintro acc σ' H2 ⟨o, us, rfl, rfl, hus, ul, s2, hD0⟩ hacc
      rw [List.length_map] at ul
      have v2 := penSame s2 v1
      have b2 := b1.trans (But.of_same (p := p) s2)
      have zl := nz.2.1
      refine ⟨_, rfl, _, rfl, .str (Nat.le_trans (show z.length + (Str.ofString "q").length ≤ 9 by show z.length + 1 ≤ 9; omega) (by decide)) ⟨(by show 1 ≤ sizeLine; decide), fun lq hlq => ?_⟩⟩
      have n3 := Same.new (o := .lst [V.str (z ++ "q")]) hlq
      have e3 : upd H2 lq (.lst [V.str (z ++ "q")]) lq = some (.lst [V.str (z ++ "q")]) := upd_same
      have hacc3 := n3 _ _ hacc
      have v3 := penSame n3 v2
      have b3 := b2.trans (But.of_same (p := p) n3)
      generalize upd H2 lq (.lst [V.str (z ++ "q")]) = H3 at n3 e3 hacc3 v3 b3 ⊢
      refine .lst hacc3 e3 (by rw [List.length_map]; exact Nat.le_of_lt (small1000 (by show us.length + 1 ≤ 1000; omega))) fun l2 hl2 => ?_
      have n4 := Same.new (o := .lst (List.map V.str us ++ [V.str (z ++ "q")])) hl2
      have hq := v3.ne hl2
      have v4 := penSame n4 v3
      have b4 := b3.trans (But.of_same (p := p) n4)
      have e4 : upd H3 l2 (.lst (List.map V.str us ++ [V.str (z ++ "q")])) l2 = some (.lst (List.map V.str us ++ [V.str (z ++ "q")])) := upd_same
      have hacc4 := n4 _ _ hacc3
      generalize upd H3 l2 (.lst (List.map V.str us ++ [V.str (z ++ "q")])) = H4 at v4 b4 e4 hacc4 ⊢
      refine ⟨_, rfl, _, rfl, _, _, rfl, Or.inl ⟨_, .of hacc4, rfl⟩, .int ⟨p, a, _, rfl, hP.but b4 v4, by rw [List.length_map]; omega, by rw [List.length_map]; omega, fun r2 HB h20 h21 vB eB => ?_⟩⟩
      rw [List.length_map] at h21
      obtain ⟨jj, rfl⟩ := Int.eq_ofNat_of_zero_le h20
      have bB := b4.trans (But.of_eq eB)
      have hj' : jj < (List.map V.str us ++ [V.str (z ++ "q")]).length := by rw [List.length_append, List.length_map]; show jj < us.length + 1; omega
      refine .lst (.of ((eB l2 (Ne.symm hq)).trans e4)) (atI_nat (List.getElem?_eq_getElem hj')) ?_
      have mem := List.getElem_mem hj'
      generalize (List.map V.str us ++ [V.str (z ++ "q")])[jj] = y at mem ⊢
      obtain ⟨w1, rfl, hw1, pw⟩ : ∃ w1, y = .str w1 ∧ w1 ≠ z ∧ Pt (Mp p HB) (.str w1) := by
        rcases List.mem_append.mp mem with h | h
        · obtain ⟨x, hx, rfl⟩ := List.mem_map.mp h
          exact ⟨x, rfl, (hus x hx).2, pt_nm (onm x (hus x hx).1)⟩
        · refine ⟨z ++ "q", List.mem_singleton.mp h, fun e => ?_, pt_asc ?_ fun c hc => ?_⟩
          · have := congrArg Str.length e
            rw [len_app] at this
            have q1 : (Str.ofString "q").length = 1 := rfl
            have : z.length + (Str.ofString "q").length = z.length := this
            omega
          · rw [len_app]
            show z.length + 1 ≤ 9
            omega
          · have hc : c ∈ z.cps.toList ++ (Str.ofString "q").cps.toList := by
              have e : (z ++ "q" : Str).cps = z.cps ++ (Str.ofString "q").cps := PySem.Str.cps_append _ _
              rw [e, Array.toList_append] at hc
              exact hc
            rcases List.mem_append.mp hc with hc | hc
            · have := nz.2.2 c hc; omega
            · have : (Str.ofString "q").cps.toList = [113] := by decide
              rw [this] at hc
              rw [List.mem_singleton.mp hc]; decide
      exact ⟨_, rfl, _, rfl, (by show 3 ≤ sizeLine; decide), fin3 HB _ _ _ vB bB pw pi pj fun s i' j' e1 e2 _ ho' => by
        have e1 := V.str.inj e1
        have e2 : i = i' := by have := V.int.inj e2; omega
        rw [← e2, hz] at ho'
        exact absurd (e1.trans (Option.some.inj ho').symm) hw1⟩
    refine ⟨_, rfl, .sc rfl ⟨_, rfl, ite2 (fun _ => ?_) (fun _ => ?_)⟩⟩
    · have smA := Same.refl H1
      refine ⟨_, rfl, _, rfl, (by show 1 ≤ sizeLine; decide), fun l1 hl1 => ?_⟩
      have nl1 : l1 ≠ p := Ne.symm (v1.ne hl1)
      have al1 := Same.new (o := .lst [V.str z]) hl1
      have f_l1 : upd H1 l1 (.lst [V.str z]) l1 = some (.lst [V.str z]) := upd_same
      have smA := smA.trans al1
      generalize upd H1 l1 (.lst [V.str z]) = HA1 at smA f_l1 ⊢
      clear al1
      refine ⟨_, rfl, (by show 1 ≤ sizeLine; decide), fun t1 ht1 => ?_⟩
      have al2 := Same.new (o := .tup [V.str z]) ht1
      have f_t1 : upd HA1 t1 (.tup [V.str z]) t1 = some (.tup [V.str z]) := upd_same
      have f_l1 := al2 _ _ f_l1
      have smA := smA.trans al2
      generalize upd HA1 t1 (.tup [V.str z]) = HA2 at smA f_l1 f_t1 ⊢
      clear al2
      refine ⟨_, rfl, rfl, z, rfl, rfl, Nat.le_trans (upper_len nz).1 (by decide), ?_⟩
      have zl := nz.2.1
      refine ⟨_, rfl, .str (Nat.le_trans (show (Str.ofString " ").length + z.length ≤ 9 by show 1 + z.length ≤ 9; omega) (by decide)) ?_⟩
      refine ⟨(by show 8 ≤ sizeLine; decide), fun ls hls => ?_⟩
      have nls : ls ≠ p := Ne.symm ((penSame smA v1).ne hls)
      have al3 := Same.new (o := .lst [V.non, V.int (i : Int), V.str "", V.ref l1, V.ref t1, V.bl true, V.str (Txt.upper z), V.str (" " ++ z)]) hls
      have f_ls : upd HA2 ls (.lst [V.non, V.int (i : Int), V.str "", V.ref l1, V.ref t1, V.bl true, V.str (Txt.upper z), V.str (" " ++ z)]) ls = some (.lst [V.non, V.int (i : Int), V.str "", V.ref l1, V.ref t1, V.bl true, V.str (Txt.upper z), V.str (" " ++ z)]) := upd_same
      have f_l1 := al3 _ _ f_l1
      have f_t1 := al3 _ _ f_t1
      have smA := smA.trans al3
      generalize upd HA2 ls (.lst [V.non, V.int (i : Int), V.str "", V.ref l1, V.ref t1, V.bl true, V.str (Txt.upper z), V.str (" " ++ z)]) = HA3 at smA f_l1 f_t1 f_ls ⊢
      clear al3
      have vA := penSame smA v1
      have bA := b1.trans (But.of_same (p := p) smA)
      obtain ⟨_, hpA⟩ := penAt vA
      refine ⟨_, rfl, p, a, 8, rfl, hP.but bA vA, by decide, by decide, fun r2 HB h20 h21 vB eB => ?_⟩
      obtain ⟨jj, rfl⟩ := Int.eq_ofNat_of_zero_le h20
      have bB := bA.trans (But.of_eq eB)
      have mB : Same (Mp p HA3) (Mp p HB) := Mp.same (But.of_eq eB)
      have f_l1 := mB _ _ (Mp.at f_l1 nl1)
      have f_t1 := mB _ _ (Mp.at f_t1 (ne_of f_t1 hpA (by intro z; cases z)))
      have hj : jj < ([V.non, V.int (i : Int), V.str "", V.ref l1, V.ref t1, V.bl true, V.str (Txt.upper z), V.str (" " ++ z)] : List V).length := by show jj < 8; omega
      refine .lst (.of ((eB ls nls).trans f_ls)) (atI_nat (List.getElem?_eq_getElem hj)) ?_
      have mem := List.getElem_mem hj
      generalize ([V.non, V.int (i : Int), V.str "", V.ref l1, V.ref t1, V.bl true, V.str (Txt.upper z), V.str (" " ++ z)] : List V)[jj] = y at mem ⊢
      simp only [List.mem_cons, List.not_mem_nil, or_false] at mem
      have key : Pt (Mp p HB) y ∧ y ≠ .str z := by
        rcases mem with rfl | rfl | rfl | rfl | rfl | rfl | rfl | rfl
        · exact ⟨⟨.non, _, .tr .non rfl, ⟨rfl, Nat.zero_le _, by decide⟩⟩, by intro e; cases e⟩
        · exact ⟨pi, by intro e; cases e⟩
        · refine ⟨pt_asc (by decide) (fun c hc => by cases hc), fun e => ?_⟩
          have h1 := nz.1
          rw [← V.str.inj e] at h1
          exact absurd h1 (by decide)
        · exact ⟨⟨.lst f_l1, _, .tr (.lst f_l1 (.cons (.str _) .nil)) rfl, (Sv.list (n := 82) (k := 0) (m := 1) (fun d hd => by rw [List.mem_singleton.mp hd]; exact (Sw.nm nz).sv) (Nat.le_refl _)).mono (by decide) (by decide)⟩, by intro e; cases e⟩
        · exact ⟨⟨.tup f_t1, _, .tr (.tup f_t1 (.cons (.str _) .nil)) rfl, (Sv.tuple (n := 82) (k := 0) (m := 1) (fun d hd => by rw [List.mem_singleton.mp hd]; exact (Sw.nm nz).sv) (Nat.le_refl _)).mono (by decide) (by decide)⟩, by intro e; cases e⟩
        · exact ⟨⟨.bl true, _, .tr (.bl true) rfl, ⟨rfl, Nat.zero_le _, by decide⟩⟩, by intro e; cases e⟩
        · exact ⟨pt_asc (Nat.le_succ_of_le (upper_len nz).1) (upper_len nz).2, fun e => upper_ne nz (V.str.inj e)⟩
        · refine ⟨pt_asc ?_ fun c hc => ?_, fun e => ?_⟩
          · rw [len_app]
            show 1 + z.length ≤ 9
            omega
          · have e : ((" " : Str) ++ z).cps = (Str.ofString " ").cps ++ z.cps := PySem.Str.cps_append _ _
            rw [e, Array.toList_append] at hc
            rcases List.mem_append.mp hc with hc | hc
            · have : (Str.ofString " ").cps.toList = [32] := by decide
              rw [this] at hc
              rw [List.mem_singleton.mp hc]; decide
            · have := nz.2.2 c hc; omega
          · have := congrArg Str.length (V.str.inj e)
            rw [len_app] at this
            have : 1 + z.length = z.length := this
            omega
      exact ⟨_, rfl, _, rfl, (by show 3 ≤ sizeLine; decide), fin3 HB _ _ _ vB bB key.1 pi pj fun s i' j' e1 e2 _ ho' => by
        have e2 : i = i' := by have := V.int.inj e2; omega
        rw [← e2, hz] at ho'
        exact absurd (by rw [e1, Option.some.inj ho']) key.2⟩
    refine ⟨_, rfl, .int ⟨_, rfl, ite2 (fun _ => ?_) (fun _ => ?_)⟩⟩
    · refine ⟨_, rfl, _, rfl, _, rfl, _, rfl, nil_ ⟨p, a, lo, i, os, rfl, hP.but b1 v1, hlo _ b1, nlo, hi, h60, fun y H2 hy v2 b2 => ⟨_, rfl, (by show 3 ≤ sizeLine; decide), fin3 H2 _ _ _ v2 (b1.trans b2) pz (pt_odd hy) pj fun s i' j' _ e2 _ ho' => absurd e2 (hy.2.1 i' (List.getElem?_eq_some_iff.mp ho').1)⟩⟩⟩
    refine ⟨_, rfl, .int ⟨_, rfl, ite2 (fun _ => ?_) (fun _ => ?_)⟩⟩
    · refine ⟨_, rfl, _, rfl, _, rfl, _, rfl, _, rfl, nil_ ⟨p, a, lo, j, os, rfl, hP.but b1 v1, hlo _ b1, nlo, hj, h60, fun y H2 hy v2 b2 => ⟨(by show 3 ≤ sizeLine; decide), fin3 H2 _ _ _ v2 (b1.trans b2) pz pi (pt_odd hy) fun s i' j' _ _ e3 _ k hk ek => hy.2.1 k hk (by rw [e3, ek])⟩⟩⟩
    · exact ⟨_, rfl, _, rfl, _, rfl, (by show 3 ≤ sizeLine; decide), fin3 H1 _ _ _ v1 b1 pi pz pj fun s i' j' e1 => by cases e1⟩
end
end K31
namespace K31
open PySem L2
section
variable {P : Program} {w : World} {K : PySem.W.Frag} {mg : Str → Option Value} {base : Heap}
theorem nd_inj {α β : Type} {f : α → β} : ∀ {l : List α}, (l.map f).Nodup → ∀ {x y : α}, x ∈ l → y ∈ l → f x = f y → x = y
  | [], _, _, _, h, _, _ => by cases h
  | a :: l, nd, x, y, hx, hy, e => by
    have nd : (f a :: l.map f).Nodup := nd
    obtain ⟨n1, n2⟩ := List.nodup_cons.mp nd
    rcases List.mem_cons.mp hx with h1 | h1 <;> rcases List.mem_cons.mp hy with h2 | h2
    · rw [h1, h2]
    · rw [h1] at e
      exact absurd (e ▸ List.mem_map.mpr ⟨y, h2, rfl⟩) n1
    · rw [h2] at e
      exact absurd (e ▸ List.mem_map.mpr ⟨x, h1, rfl⟩) n1
    · exact nd_inj n2 h1 h2 e
noncomputable def toZ (m : Str × Nat × Nat) : Str × Nat × Int := (m.1, m.2.1, ((m.2.2 : Nat) : Int))
theorem toZ_map (ms : List (Str × Nat × Nat)) : (ms.map toZ).map mvZ = ms.map mvD := by rw [List.map_map]; rfl
noncomputable def It (H : Hp) (y : V) : Prop := Tk H y ∧ ∃ d, RpD H y d ∧ Sv d 1300 4
theorem It.same {H H' : Hp} {y : V} (h : It H y) (s : Same H H') : It H' y := ⟨h.1.same s, let ⟨d, a, b⟩ := h.2; ⟨d, a.same s, b⟩⟩
theorem it_mv {H : Hp} {refs : List V} {ms : List (Str × Nat × Nat)} (rp : RepAll H refs (ms.map mvD)) (h : ∀ m ∈ ms, Nm m.1 ∧ m.2.1 < 60 ∧ m.2.2 < 60) : ∀ y ∈ refs, It H y := fun y hy => by
  obtain ⟨j, hj⟩ := List.getElem?_of_mem hy
  obtain ⟨m, ta, hm, rfl, hta⟩ := mv_get rp hj
  obtain ⟨h1, h2, h3⟩ := h m (List.mem_of_getElem? hm)
  have hall : ∀ u ∈ [V.str m.1, V.int (m.2.1 : Nat), V.int (m.2.2 : Nat)], Pt H u := fun u hu => by
    rcases List.mem_cons.mp hu with rfl | hu
    · exact pt_nm h1
    · rcases List.mem_cons.mp hu with rfl | hu
      · exact pt_int (by omega)
      · rw [List.mem_singleton.mp hu]; exact pt_int (by omega)
  exact ⟨tk_tup hta (by show 3 ≤ 1000; decide) fun u hu => (hall u hu).1, ptup hta (by show 3 ≤ 4; decide) hall⟩
theorem mz_back1 {H H' : Hp} {x : V} {m : Str × Nat × Int} (tk : Tk H x) (s : Same H H') (h : Rep H' x (mvZ m)) : Rep H x (mvZ m) := by
  obtain ⟨a, rfl, ha⟩ := mz_at h
  have : isT H (.ref a) = true := by rw [← (isL_keep tk.thg s).2]; exact isT_of ha
  obtain ⟨b, ws, eb, hb⟩ := isT_get this
  cases eb
  have e := s _ _ hb
  rw [ha] at e
  cases e
  exact mz_rep hb
theorem mz_back {H H' : Hp} (s : Same H H') : ∀ {xs : List V} {ms : List (Str × Nat × Int)}, (∀ y ∈ xs, Tk H y) → RepAll H' xs (ms.map mvZ) → RepAll H xs (ms.map mvZ)
  | [], [], _, _ => .nil
  | [], _ :: _, _, h => by cases h
  | _ :: _, [], _, h => by cases h
  | x :: xs, m :: ms, tk, h => by
    cases h with
    | cons a b => exact .cons (mz_back1 (tk x (by simp)) s a) (mz_back s (fun y hy => tk y (List.mem_cons_of_mem _ hy)) b)
noncomputable def NoL (os : List Str) (H : Hp) (xs : List V) : Prop := ∀ ms : List (Str × Nat × Int), RepAll H xs (ms.map mvZ) → (∀ m ∈ ms, os[m.2.1]? = some m.1) → ¬ ((ms.map fun m => m.2.1).Nodup ∧ (ms.map fun m => m.2.2).Perm (ms.map fun m => ((m.2.1 : Nat) : Int)))
theorem nol_of {os : List Str} {H : Hp} {xs : List V} {ms : List (Str × Nat × Int)} (rp : RepAll H xs (ms.map mvZ)) (h : ¬ ((ms.map fun m => m.2.1).Nodup ∧ (ms.map fun m => m.2.2).Perm (ms.map fun m => ((m.2.1 : Nat) : Int)))) : NoL os H xs := fun ms' r _ z => h (by rw [mz_inj rp r]; exact z)
theorem nol_bad {os : List Str} {H : Hp} {xs : List V} {y : V} (hy : y ∈ xs) (h : NoMv os H y) : NoL os H xs := fun ms r ho z => by
  obtain ⟨j, hj⟩ := List.getElem?_of_mem hy
  obtain ⟨m, ta, hm, rfl, hta⟩ := mz_get r hj
  have hmm := List.mem_of_getElem? hm
  have hin : m.2.2 ∈ ms.map fun m => ((m.2.1 : Nat) : Int) := z.2.mem_iff.mp (List.mem_map.mpr ⟨m, hmm, rfl⟩)
  obtain ⟨n, hn, e⟩ := List.mem_map.mp hin
  exact h ta m.1 m.2.1 m.2.2 rfl hta (ho m hmm) n.2.1 (List.getElem?_eq_some_iff.mp (ho n hn)).1 e.symm
theorem rep_take {H : Hp} {xs : List V} {ms : List (Str × Nat × Nat)} (rp : RepAll H xs (ms.map mvD)) (j : Nat) : RepAll H (xs.take j) ((ms.take j).map mvD) := by rw [List.map_take]; exact rp.take j
theorem rep_drop {H : Hp} {xs : List V} {ms : List (Str × Nat × Nat)} (rp : RepAll H xs (ms.map mvD)) (j : Nat) : RepAll H (xs.drop j) ((ms.drop j).map mvD) := by rw [List.map_drop]; exact rp.drop j
section
variable {os : List Str} {ms : List (Str × Nat × Nat)}
theorem out_perm {m : Str × Nat × Nat} {j : Nat} (hm : ms[j]? = some m) : ms.Perm (m :: (ms.take j ++ ms.drop (j + 1))) := by
  have hl := (List.getElem?_eq_some_iff.mp hm).1
  have e : ms = ms.take j ++ m :: ms.drop (j + 1) := by
    have : ms.drop j = m :: ms.drop (j + 1) := by
      rw [List.drop_eq_getElem_cons hl]
      rw [(List.getElem?_eq_some_iff.mp hm).2]
    rw [← this, List.take_append_drop]
  conv => lhs; rw [e]
  exact List.perm_middle
theorem no_left {m : Str × Nat × Nat} {j : Nat} (M : Mvs os ms) (hm : ms[j]? = some m) (hne : m.2.1 ≠ m.2.2) : ¬ ((((ms.take j ++ ms.drop (j + 1)).map toZ).map fun m => m.2.1).Nodup ∧ (((ms.take j ++ ms.drop (j + 1)).map toZ).map fun m => m.2.2).Perm (((ms.take j ++ ms.drop (j + 1)).map toZ).map fun m => ((m.2.1 : Nat) : Int))) := by
  rintro ⟨_, hp⟩
  obtain ⟨rs, ers⟩ : ∃ rs, rs = ms.take j ++ ms.drop (j + 1) := ⟨_, rfl⟩
  have pm := out_perm hm
  rw [← ers] at hp pm
  rw [List.map_map, List.map_map] at hp
  have n1 : m.2.2 ∈ m.2.1 :: rs.map fun m => m.2.1 := by
    have := M.pm.mem_iff.mp ((pm.map fun m => m.2.2).mem_iff.mpr (List.mem_cons_self ..))
    exact (pm.map fun m => m.2.1).mem_iff.mp this
  have n2 : m.2.2 ∈ rs.map fun m => m.2.1 := (List.mem_cons.mp n1).resolve_left (Ne.symm hne)
  obtain ⟨q, hq, eq⟩ := List.mem_map.mp n2
  have n3 : ((m.2.2 : Nat) : Int) ∈ rs.map ((fun m : Str × Nat × Int => ((m.2.1 : Nat) : Int)) ∘ toZ) := List.mem_map.mpr ⟨q, hq, by show ((q.2.1 : Nat) : Int) = _; rw [← eq]⟩
  obtain ⟨t, ht, et⟩ := List.mem_map.mp (hp.mem_iff.mpr n3)
  have et : ((t.2.2 : Nat) : Int) = ((m.2.2 : Nat) : Int) := et
  have nd2 : ((m :: rs).map fun m : Str × Nat × Nat => m.2.2).Nodup := (pm.map fun m : Str × Nat × Nat => m.2.2).nodup_iff.mp (M.pm.nodup_iff.mpr M.nd)
  have nd2 : (m.2.2 :: rs.map fun m : Str × Nat × Nat => m.2.2).Nodup := nd2
  exact (List.nodup_cons.mp nd2).1 (List.mem_map.mpr ⟨t, ht, by show t.2.2 = m.2.2; omega⟩)
theorem no_twice {m : Str × Nat × Nat} {j : Nat} (hm : ms[j]? = some m) : ¬ ((((ms ++ [m]).map toZ).map fun m => m.2.1).Nodup ∧ (((ms ++ [m]).map toZ).map fun m => m.2.2).Perm (((ms ++ [m]).map toZ).map fun m => ((m.2.1 : Nat) : Int))) := by
  rintro ⟨h, _⟩
  rw [List.map_map, List.map_append, List.nodup_append] at h
  exact h.2.2 _ (List.mem_map.mpr ⟨m, List.mem_of_getElem? hm, rfl⟩) _ (List.mem_map.mpr ⟨m, by simp, rfl⟩) rfl
theorem no_new {m t : Str × Nat × Nat} (hm : m ∈ ms) (ht : t ∈ ms) (hmt : m ≠ t) : ¬ ((((ms.filter fun x => !decide (x = t)).map toZ ++ [(t.1, t.2.1, ((m.2.2 : Nat) : Int))]).map fun m => m.2.1).Nodup ∧ (((ms.filter fun x => !decide (x = t)).map toZ ++ [(t.1, t.2.1, ((m.2.2 : Nat) : Int))]).map fun m => m.2.2).Perm (((ms.filter fun x => !decide (x = t)).map toZ ++ [(t.1, t.2.1, ((m.2.2 : Nat) : Int))]).map fun m => ((m.2.1 : Nat) : Int))) := by
  rintro ⟨h1, h2⟩
  have h3 : (((ms.filter fun x => !decide (x = t)).map toZ ++ [(t.1, t.2.1, ((m.2.2 : Nat) : Int))]).map fun m => ((m.2.1 : Nat) : Int)).Nodup := by
    have e : (((ms.filter fun x => !decide (x = t)).map toZ ++ [(t.1, t.2.1, ((m.2.2 : Nat) : Int))]).map fun m => ((m.2.1 : Nat) : Int)) = ((((ms.filter fun x => !decide (x = t)).map toZ ++ [(t.1, t.2.1, ((m.2.2 : Nat) : Int))]).map fun m => m.2.1).map fun k : Nat => (k : Int)) := by rw [List.map_map]; rfl
    rw [e]
    exact map_nd h1 fun x _ y _ e => by have : (x : Int) = (y : Int) := e; omega
  have h4 := h2.nodup_iff.mpr h3
  rw [List.map_append, List.nodup_append] at h4
  refine h4.2.2 ((m.2.2 : Nat) : Int) (List.mem_map.mpr ⟨toZ m, List.mem_map.mpr ⟨m, List.mem_filter.mpr ⟨hm, ?_⟩, rfl⟩, rfl⟩) _ (List.mem_map.mpr ⟨_, List.mem_singleton.mpr rfl, rfl⟩) rfl
  rw [decide_eq_false hmt]; rfl
end
end
end K31
namespace K31
open PySem L2
section
variable {P : Program} {w : World} {K : PySem.W.Frag} {mg : Str → Option Value} {base : Heap}
theorem shp_mvs {ms : List (Str × Nat × Nat)} (h : ∀ m ∈ ms, Nm m.1) : shp (.list (ms.map mvD)) := by
  have key : ∀ ms : List (Str × Nat × Nat), (∀ m ∈ ms, Nm m.1) → PyData.canLayAll0 (ms.map mvD) = true ∧ PyData.depthAll (ms.map mvD) ≤ 1 := by
    intro ms
    induction ms with
    | nil => intro _; exact ⟨rfl, by decide⟩
    | cons m r ih =>
      intro h
      obtain ⟨i1, i2⟩ := ih fun x hx => h x (List.mem_cons_of_mem _ hx)
      have hm := h m (by simp)
      refine ⟨?_, ?_⟩
      · show (PyData.canLay0 (mvD m) && PyData.canLayAll0 (r.map mvD)) = true
        rw [i1]
        show ((PyData.canLay0 (.str m.1) && (true && (true && true))) && true) = true
        rw [canLay_nm hm]; rfl
      · show max (PyData.depth (mvD m)) (PyData.depthAll (r.map mvD)) ≤ 1
        have : PyData.depth (mvD m) = 1 := rfl
        omega
  obtain ⟨a, b⟩ := key ms h
  show (PyData.canLayAll0 (ms.map mvD) && decide (PyData.depthAll (ms.map mvD) + 1 ≤ 64)) = true
  rw [a, decide_eq_true (by omega)]; rfl
theorem eqv_nilM (ms : List (Str × Nat × Nat)) : PyData.eqv (.list (ms.map mvD)) (.list []) = decide (ms = []) := by
  cases ms with
  | nil => rfl
  | cons e r => rfl
theorem eqv_mv (m t : Str × Nat × Nat) : PyData.eqv (mvD m) (mvD t) = decide (m = t) := by
  show (PyData.eqv (.str m.1) (.str t.1) && (PyData.eqv (.int (m.2.1 : Nat)) (.int (t.2.1 : Nat)) && (PyData.eqv (.int (m.2.2 : Nat)) (.int (t.2.2 : Nat)) && true))) = _
  rw [eqv_str, eqv_int, eqv_int, Bool.and_true, Bool.eq_iff_iff, Bool.and_eq_true, Bool.and_eq_true, decide_eq_true_iff, decide_eq_true_iff, decide_eq_true_iff, decide_eq_true_iff]
  constructor
  · rintro ⟨h1, h2, h3⟩
    exact Prod.ext h1 (Prod.ext (by omega) (by omega))
  · rintro rfl
    exact ⟨rfl, rfl, rfl⟩
theorem shp_mv {m : Str × Nat × Nat} (h : Nm m.1) : shp (mvD m) := by
  show (((PyData.canLay0 (.str m.1) && (true && (true && true)))) && decide (PyData.depth (mvD m) ≤ 64)) = true
  rw [canLay_nm h]; rfl
noncomputable def spBent (K : PySem.W.Frag) : Sp := fun vs H Q _ => ∃ (p a lo l : Addr) (os : List Str) (refs : List V) (ms : List (Str × Nat × Nat)), vs = [.ref p, .ref lo, .ref l] ∧ Pen K H p a ∧ H lo = some (.lst (List.map V.str os)) ∧ lo ≠ p ∧ os.Nodup ∧ os.length ≤ 60 ∧ (∀ s ∈ os, Nm s) ∧ H l = some (.lst refs) ∧ l ≠ p ∧ RepAll H refs (ms.map mvD) ∧ Mvs os ms ∧
  ∀ x H', TkL (Mp p H') x → ¬ areOk os (Mp p H') x → (∃ d, RpD (Mp p H') x d ∧ Sv d 100000 6) → PenV H' p a → But p H H' → Q x H'
theorem scBent : FnScope ["_law_pen_here", "_law_order", "_law_moves_here", "_law_sort", "_law_at", "_law_thing", "_law_old", "_law_new", "_law_rest", "_law_twin"] ["_law_pen_here", "_law_order", "_law_moves_here"] (defScope sBent) := ⟨rfl, rfl, rfl, by decide +kernel, rfl, by decide +kernel, by decide +kernel⟩
theorem ok_bent {f : Addr} {fd : FuncData} (F : Fun K "_law_bent" "_law_bent" sBent f fd) (B : Blt mg) (c_law_draw : Cal P w K mg base 1 "_law_draw" ["_law_pen_here", "_law_most"] (spDraw K)) (c_law_bent_move : Cal P w K mg base 3 "_law_bent_move" ["_law_pen_here", "_law_order", "_law_move"] (spBentMv K)) : FnOk P w K mg base CX0 4 f fd ["_law_pen_here", "_law_order", "_law_moves_here"] (spBent K) := by
  refine F.ok scBent (fun vs H Q E h => ?_) (fun cdv A outer s H vs Q E hr h => ?_)
  · obtain ⟨p, a, lo, l, os, refs, ms, rfl, _⟩ := h
    rfl
  · obtain ⟨p, a, lo, l, os, refs, ms, rfl, hP, ho, nlo, ond, h60, onm, hl, nl, rp, M, k⟩ := h
    have nd := scBent.nd
    refine ⟨_, (pss_cons (ps_set (i := 3) nd rfl (Or.inl rfl) (pe_cal c_law_draw (hr.mono (by decide)) rfl (pa_cons (pv 0) (pa_cons pe_int pa_nil))))
      (pss_cons (ps_if (PW.pt (pw_or (pt_cmpR (op_eqX hr.units) (pv 3) pe_int (nomark _)) (pw_or1 (pt_cmpR (op_eqX hr.units) (pv 2) (pe_lst pa_nil) (nomark _))))) (pss_one (ps_ret (pe_ix (ix_X K hr.units) (pe_lst (pa_cons (b_tuple K B (pa_cons (pv 2) pa_nil)) (pa_cons pe_non (pa_cons pe_dnewK (pa_cons pe_str (pa_cons pe_int (pa_cons pe_bl (pa_cons pe_str (pa_cons (pe_tup (pa_cons (pv 2) pa_nil)) (pa_cons (pe_lst (pa_cons (pe_op op_addX (pv 2) (pe_lst (pa_cons pe_non pa_nil))) pa_nil)) pa_nil star_l) star_t) star_c) star_c) star_c) star_c) star_d) star_c) star_f)) (pe_cal c_law_draw (hr.mono (by decide)) rfl (pa_cons (pv 0) (pa_cons pe_int pa_nil))) (fun _ _ => rfl)))) pss_nil)
      (pss_cons (ps_set (i := 4) nd rfl (Or.inl rfl) (pe_cal c_law_draw (hr.mono (by decide)) rfl (pa_cons (pv 0) (pa_cons (b_len K B (pa_cons (pv 2) pa_nil)) pa_nil))))
      (pss_cons (ps_asg (pe_ix (ix_X K hr.units) (pv 2) (pv 4) (fun _ _ => rfl)) (pg_tupK (n := 3) K rfl (pgs_cons (pg_name (i := 5) nd rfl (Or.inl rfl)) (pgs_cons (pg_name (i := 6) nd rfl (Or.inl rfl)) (pgs_cons (pg_name (i := 7) nd rfl (Or.inl rfl)) pgs_nil)))))
      (pss_cons (ps_set (i := 8) nd rfl (Or.inl rfl) (pe_op op_addX (pe_slice (sl_K K) (pv 2) po_none (po_some (pv 4))) (pe_slice (sl_K K) (pv 2) (po_some (pe_op op_addX (pv 4) pe_int)) po_none)))
      (pss_cons (ps_if (PW.pt (pw_and (pt_cmpR (op_eqX hr.units) (pv 3) pe_int (nomark _)) (pw_and1 (pt_cmpR (op_neX hr.units) (pv 6) (pv 7) (nomark _))))) (pss_one (ps_ret (pv 8))) pss_nil)
      (pss_cons (ps_if (pt_cmpR (op_eqX hr.units) (pv 3) pe_int (nomark _)) (pss_one (ps_ret (pe_op op_addX (pv 2) (pe_lst (pa_cons (pe_ix (ix_X K hr.units) (pv 2) (pv 4) (fun _ _ => rfl)) pa_nil))))) pss_nil)
      (pss_cons (ps_if (PW.pt (pw_and (pt_cmpR (op_eqX hr.units) (pv 3) pe_int (nomark _)) (pw_and1 (pt_cmpR op_gt (b_len K B (pa_cons (pv 8) pa_nil)) pe_int (nomark _))))) (pss_cons (ps_set (i := 9) nd rfl (Or.inr rfl) (pe_ix (ix_X K hr.units) (pv 8) (pe_cal c_law_draw (hr.mono (by decide)) rfl (pa_cons (pv 0) (pa_cons (b_len K B (pa_cons (pv 8) pa_nil)) pa_nil))) (fun _ _ => rfl)))
      (pss_one (ps_ret (pe_op op_addX (pe_comp (defScope sBent) ["_law_pen_here", "_law_order", "_law_moves_here", "_law_sort", "_law_at", "_law_thing", "_law_old", "_law_new", "_law_rest", "_law_twin"] ["_law_one"] [9] ["_law_one", "_law_twin"] rfl (pi_listK K (pv 2)) (fun _ _ _ _ _ => (pg_name (i := 0) (show (["_law_one", "_law_twin"] : List Str).Nodup by decide) rfl (Or.inl rfl))) (fun _ _ _ _ _ => (pts_one (pt_cmpR (op_neX hr.units) (pv 0) (pv 1) (nomark _)))) (fun _ _ _ _ _ => (pv 0))) (pe_lst (pa_cons (pe_tup (pa_cons (pe_ix (ix_X K hr.units) (pv 9) pe_int (fun _ _ => rfl)) (pa_cons (pv 6) (pa_cons (pe_ix (ix_X K hr.units) (pv 9) pe_int (fun _ _ => rfl)) pa_nil)))) pa_nil)))))) pss_nil)
      (pss_cons (ps_if (PW.pt (pw_and (pt_cmpR (op_eqX hr.units) (pv 3) pe_int (nomark _)) (pw_and1 (pt_cmpR op_gt (b_len K B (pa_cons (pv 8) pa_nil)) pe_int (nomark _))))) (pss_cons (ps_set (i := 9) nd rfl (Or.inr rfl) (pe_ix (ix_X K hr.units) (pv 8) (pe_cal c_law_draw (hr.mono (by decide)) rfl (pa_cons (pv 0) (pa_cons (b_len K B (pa_cons (pv 8) pa_nil)) pa_nil))) (fun _ _ => rfl)))
      (pss_one (ps_ret (pe_op op_addX (pe_comp (defScope sBent) ["_law_pen_here", "_law_order", "_law_moves_here", "_law_sort", "_law_at", "_law_thing", "_law_old", "_law_new", "_law_rest", "_law_twin"] ["_law_one"] [9] ["_law_one", "_law_twin"] rfl (pi_listK K (pv 2)) (fun _ _ _ _ _ => (pg_name (i := 0) (show (["_law_one", "_law_twin"] : List Str).Nodup by decide) rfl (Or.inl rfl))) (fun _ _ _ _ _ => (pts_one (pt_cmpR (op_neX hr.units) (pv 0) (pv 1) (nomark _)))) (fun _ _ _ _ _ => (pv 0))) (pe_lst (pa_cons (pe_tup (pa_cons (pe_ix (ix_X K hr.units) (pv 9) pe_int (fun _ _ => rfl)) (pa_cons (pe_ix (ix_X K hr.units) (pv 9) pe_int (fun _ _ => rfl)) (pa_cons (pv 7) pa_nil)))) pa_nil)))))) pss_nil)
      (pss_one (ps_ret (pe_op op_addX (pe_op op_addX (pe_slice (sl_K K) (pv 2) po_none (po_some (pv 4))) (pe_lst (pa_cons (pe_cal c_law_bent_move (hr.mono (by decide)) rfl (pa_cons (pv 0) (pa_cons (pv 1) (pa_cons (pe_ix (ix_X K hr.units) (pv 2) (pv 4) (fun _ _ => rfl)) pa_nil)))) pa_nil))) (pe_slice (sl_K K) (pv 2) (po_some (pe_op op_addX (pv 4) pe_int)) po_none))))))))))))), ?_⟩
    --BODY
    have v0 := hP.2
    obtain ⟨_, hp0⟩ := penAt v0
    have ml := M.len
    have rl := rp.len
    rw [List.length_map] at rl
    have hlt : ∀ m ∈ ms, Nm m.1 ∧ m.2.1 < 60 ∧ m.2.2 < 60 := fun m hm => by
      have h1 := M.at_ m hm
      have h2 := M.lt m hm
      have h3 := (List.getElem?_eq_some_iff.mp h1).1
      exact ⟨onm _ (List.mem_of_getElem? h1), by omega, by omega⟩
    have hlm : ∀ H1, But p H H1 → H1 l = some (.lst refs) := fun H1 b => b l _ nl hl
    have hlo : ∀ H1, But p H H1 → H1 lo = some (.lst (List.map V.str os)) := fun H1 b => b lo _ nlo ho
    have rpm : ∀ H1, But p H H1 → RepAll H1 refs (ms.map mvD) := fun H1 b => mvBut hp0 b rp
    have rpM : ∀ H1, But p H H1 → RepAll (Mp p H1) refs (ms.map mvD) := fun H1 b => mvBut hp0 (b.trans Mp.but) rp
    have finE : ∀ (H1 : Hp) (l' : Addr) (xs : List V), H1 l' = some (.lst xs) → l' ≠ p → PenV H1 p a → But p H H1 → (∀ y ∈ xs, It (Mp p H1) y) → xs.length ≤ 61 → NoL os (Mp p H1) xs → Q (.ref l') H1 := fun H1 l' xs h' n' v' b' it len no => by
      have e := Mp.at h' n'
      refine k _ _ ⟨.lst e, fun l2 ys e2 h2 => ?_⟩ ?_ ?_ v' b'
      · cases e2
        rw [e] at h2
        cases h2
        exact ⟨len, fun y hy => (it y hy).1⟩
      · rintro ⟨l2, ys, ms', e2, h2, r2, o2, n2, p2⟩
        cases e2
        rw [e] at h2
        cases h2
        exact no ms' r2 o2 ⟨n2, p2⟩
      · have key : ∀ ys : List V, (∀ y ∈ ys, It (Mp p H1) y) → ∃ ds, RpDs (Mp p H1) ys ds ∧ ds.length = ys.length ∧ ∀ d ∈ ds, Sv d 1300 4 := by
          intro ys
          induction ys with
          | nil => intro _; exact ⟨[], .nil, rfl, fun _ h => by cases h⟩
          | cons u ys ih =>
            intro h
            obtain ⟨ds, r, l, sv⟩ := ih fun x hx => h x (List.mem_cons_of_mem _ hx)
            obtain ⟨d, rd, sd⟩ := (h u (by simp)).2
            refine ⟨d :: ds, .cons rd r, by rw [List.length_cons, l]; rfl, fun e he => ?_⟩
            rcases List.mem_cons.mp he with rfl | he
            · exact sd
            · exact sv e he
        obtain ⟨ds, r, dl, sv⟩ := key xs it
        exact ⟨_, .lst e r, (Sv.list (m := 61) sv (by omega)).mono (by decide) (by decide)⟩
    have finL : ∀ (H1 : Hp) (xs : List V), PenV H1 p a → But p H H1 → (∀ y ∈ xs, It (Mp p H1) y) → xs.length ≤ 61 → NoL os (Mp p H1) xs → ∀ l', H1 l' = none → Q (.ref l') (upd H1 l' (.lst xs)) := fun H1 xs v' b' it len no l' hl' => by
      have hq := v'.ne hl'
      have sm := Mp.same ((But.refl p H1).at (o := .lst xs) hl')
      refine finE _ l' xs upd_same (Ne.symm hq) (v'.upd hq) (b'.at (b'.free (Ne.symm hq) hl')) (fun y hy => (it y hy).same sm) len fun ms' r => no ms' (mz_back sm (fun y hy => (it y hy).1) r)
    have fin0 : ∀ (x : V) (H1 : Hp), Thg (Mp p H1) x → isL (Mp p H1) x = false → (∃ d, RpD (Mp p H1) x d ∧ Sv d 100000 6) → PenV H1 p a → But p H H1 → Q x H1 := fun x H1 th nL rd v' b' => by
      refine k _ _ ⟨th, fun l2 ys e2 h2 => ?_⟩ ?_ rd v' b'
      · rw [e2, isL_of h2] at nL
        cases nL
      · rintro ⟨l2, ys, ms', e2, h2, _⟩
        rw [e2, isL_of h2] at nL
        cases nL
    refine ⟨_, rfl, p, a, 9, rfl, hP, by decide, by decide, fun r H1 h10 h11 v1 e1 => ?_⟩
    have b1 := But.of_eq e1
    apply with_rest (J := fun σ HZ => σ = [some (.ref p), some (.ref lo), some (.ref l), some (.int r), none, none, none, none, none, none] ∧ PenV HZ p a ∧ But p H HZ)
    · intro rest0
      refine ⟨_, rfl, .sc rfl ⟨_, rfl, ite2 (fun _ => ?_) (fun _ => ?_)⟩⟩
      · show (if true = true then _ else _)
        rw [if_pos rfl]
        exact rest0 _ _ ⟨rfl, v1, b1⟩
      refine ⟨_, rfl, (by show 0 ≤ sizeLine; decide), fun ln hln => ?_⟩
      have n2 := Same.new (o := .lst []) hln
      have e2 : upd H1 ln (.lst []) ln = some (.lst []) := upd_same
      have v2 := penSame n2 v1
      have b2 := b1.trans (But.of_same (p := p) n2)
      generalize upd H1 ln (.lst []) = H2 at e2 v2 b2 ⊢
      refine .tr (.lst (hlm _ b2) (rpm _ b2)) (.lst e2 .nil) (shp_mvs fun m hm => (hlt m hm).1) (by rfl) ⟨_, rfl, ?_⟩
      rw [eqv_nilM]
      refine ite2 (fun _ => rest0 _ _ ⟨rfl, v2, b2⟩) (fun hne => ?_)
      have hne : ms ≠ [] := fun z => hne (decide_eq_true z)
      have mpos : 0 < ms.length := List.length_pos_iff.mpr hne
      refine ⟨_, rfl, _, rfl, _, _, rfl, Or.inl ⟨_, .of (hlm _ b2), rfl⟩, p, a, _, rfl, hP.but b2 v2, by omega, by omega, fun r3 H3 h30 h31 v3 e3 => ?_⟩
      obtain ⟨at_, rfl⟩ := Int.eq_ofNat_of_zero_le h30
      have b3 := b2.trans (But.of_eq e3)
      have hat : at_ < refs.length := by omega
      have hx := List.getElem?_eq_getElem hat
      obtain ⟨m, ta, hm, ex, hta⟩ := mv_get (rpm _ b3) hx
      have hmm := List.mem_of_getElem? hm
      rw [ex] at hx
      refine ⟨_, rfl, _, rfl, .lst (.of (hlm _ b3)) (atI_nat hx) ⟨ta, _, rfl, .of hta, rfl, _, _, rfl, _, _, rfl, _, _, rfl, rfl, ?_⟩⟩
      refine ⟨_, rfl, _, rfl, _, rfl, .lst (.of (hlm _ b3)) fun s1 hs1 => ?_⟩
      rw [cutV_to _ _ (by omega)]
      have n4 := Same.new (o := .lst (refs.take at_)) hs1
      have f_s1 : upd H3 s1 (.lst (refs.take at_)) s1 = some (.lst (refs.take at_)) := upd_same
      have v4 := penSame n4 v3
      have b4 := b3.trans (But.of_same (p := p) n4)
      generalize upd H3 s1 (.lst (refs.take at_)) = H4 at f_s1 v4 b4 ⊢
      refine ⟨_, rfl, _, rfl, .int ⟨_, rfl, .lst (.of (hlm _ b4)) fun s2 hs2 => ?_⟩⟩
      rw [show ((at_ : Nat) : Int) + 1 = ((at_ + 1 : Nat) : Int) by omega, cutV_from]
      have n5 := Same.new (o := .lst (refs.drop (at_ + 1))) hs2
      have f_s2 : upd H4 s2 (.lst (refs.drop (at_ + 1))) s2 = some (.lst (refs.drop (at_ + 1))) := upd_same
      have f_s1 := n5 _ _ f_s1
      have v5 := penSame n5 v4
      have b5 := b4.trans (But.of_same (p := p) n5)
      generalize upd H4 s2 (.lst (refs.drop (at_ + 1))) = H5 at f_s1 f_s2 v5 b5 ⊢
      have dl : (refs.take at_).length + (refs.drop (at_ + 1)).length = ms.length - 1 := by rw [List.length_take, List.length_drop]; omega
      refine .lst f_s1 f_s2 (Nat.le_of_lt (small1000 (by omega))) fun lr hlr => ?_
      have n6 := Same.new (o := .lst (refs.take at_ ++ refs.drop (at_ + 1))) hlr
      have f_lr : upd H5 lr (.lst (refs.take at_ ++ refs.drop (at_ + 1))) lr = some (.lst (refs.take at_ ++ refs.drop (at_ + 1))) := upd_same
      have nlr : lr ≠ p := Ne.symm (v5.ne hlr)
      have v6 := penSame n6 v5
      have b6 := b5.trans (But.of_same (p := p) n6)
      generalize upd H5 lr (.lst (refs.take at_ ++ refs.drop (at_ + 1))) = H6 at f_lr v6 b6 ⊢
      clear e2 f_s1 f_s2 e1 hta
      have hta := rpm _ b6
      have rpr6 : RepAll (Mp p H6) (refs.take at_ ++ refs.drop (at_ + 1)) ((ms.take at_ ++ ms.drop (at_ + 1)).map mvD) := by
        rw [List.map_append]
        exact RepAll.append (rep_take (rpM _ b6) at_) (rep_drop (rpM _ b6) (at_ + 1))
      have sub6 : ∀ x ∈ ms.take at_ ++ ms.drop (at_ + 1), Nm x.1 ∧ x.2.1 < 60 ∧ x.2.2 < 60 := fun x hx => hlt x ((out_perm hm).mem_iff.mpr (List.mem_cons_of_mem _ hx))
      apply onceU
      · intro tail
        refine ⟨_, rfl, .sc rfl ⟨_, rfl, ite2 (fun _ => ?_) (fun _ => iteF (tail ()))⟩⟩
        refine ⟨_, rfl, _, rfl, .sc rfl ⟨_, rfl, ite2 (fun h => ?_) (fun _ => tail ())⟩⟩
        have h : (!decide (V.int (m.2.1 : Nat) = V.int (m.2.2 : Nat))) = true := h
        have hne : m.2.1 ≠ m.2.2 := fun e => by rw [e, decide_eq_true rfl] at h; cases h
        refine ⟨_, rfl, finE H6 lr _ f_lr nlr v6 b6 (it_mv rpr6 sub6) (by rw [List.length_append]; omega) (nol_of (ms := (ms.take at_ ++ ms.drop (at_ + 1)).map toZ) (by rw [toZ_map]; exact rpr6) (no_left M hm hne))⟩
      apply onceU
      · intro tail
        refine ⟨_, rfl, .sc rfl ⟨_, rfl, ite2 (fun _ => ?_) (fun _ => tail ())⟩⟩
        refine ⟨_, rfl, _, rfl, _, rfl, .lst (.of (hlm _ b6)) (atI_nat hx) ⟨(by show 1 ≤ sizeLine; decide), fun l1 hl1 => ?_⟩⟩
        have n7 := Same.new (o := .lst [V.ref ta]) hl1
        have e7 : upd H6 l1 (.lst [V.ref ta]) l1 = some (.lst [V.ref ta]) := upd_same
        have v7 := penSame n7 v6
        have b7 := b6.trans (But.of_same (p := p) n7)
        generalize upd H6 l1 (.lst [V.ref ta]) = H7 at e7 v7 b7 ⊢
        have rp2 : RepAll (Mp p H7) (refs ++ [V.ref ta]) ((ms ++ [m]).map mvD) := by
          rw [List.map_append]
          have ha := (rpM _ b7)
          obtain ⟨d, hd, rd⟩ := ha.get hx
          rw [List.getElem?_map, hm] at hd
          have hd : mvD m = d := Option.some.inj hd
          rw [← hd] at rd
          exact RepAll.append ha (.cons rd .nil)
        exact .lst (hlm _ b7) e7 (Nat.le_of_lt (small1000 (by show refs.length + 1 ≤ 1000; omega))) (finL H7 _ v7 b7 (it_mv rp2 fun x hx => (List.mem_append.mp hx).elim (hlt x) fun hx => by rw [List.mem_singleton.mp hx]; exact hlt m hmm) (by rw [List.length_append]; show refs.length + 1 ≤ 61; omega) (nol_of (ms := (ms ++ [m]).map toZ) (by rw [toZ_map]; exact rp2) (no_twice hm)))
      apply onceU
      · intro tail
        refine ⟨_, rfl, .sc rfl ⟨_, rfl, ite2 (fun _ => ?_) (fun _ => iteF (tail ()))⟩⟩
        refine ⟨_, rfl, _, _, rfl, Or.inl ⟨_, .of f_lr, rfl⟩, _, _, rfl, rfl, ⟨_, rfl, ite2 (fun h => ?_) (fun _ => tail ())⟩⟩
        have h : (0 : Int) < (((refs.take at_ ++ refs.drop (at_ + 1)).length : Nat) : Int) := of_decide_eq_true h
        refine ⟨_, rfl, _, rfl, _, rfl, _, _, rfl, Or.inl ⟨_, .of f_lr, rfl⟩, p, a, _, rfl, hP.but b6 v6, by omega, by rw [List.length_append, List.length_take, List.length_drop]; omega, fun r7 H7 h70 h71 v7 e7 => ?_⟩
        obtain ⟨jj, rfl⟩ := Int.eq_ofNat_of_zero_le h70
        have b7 := b6.trans (But.of_eq e7)
        have hjj : jj < (refs.take at_ ++ refs.drop (at_ + 1)).length := by omega
        have rpr : RepAll H7 (refs.take at_ ++ refs.drop (at_ + 1)) ((ms.take at_ ++ ms.drop (at_ + 1)).map mvD) := by
          rw [List.map_append]
          exact RepAll.append (rep_take (rpm _ b7) at_) (rep_drop (rpm _ b7) (at_ + 1))
        obtain ⟨t, tb, ht, hx7, htb⟩ := mv_get rpr (List.getElem?_eq_getElem hjj)
        have htr := List.mem_of_getElem? ht
        have htm : t ∈ ms := (out_perm hm).mem_iff.mpr (List.mem_cons_of_mem _ htr)
        have hmt : m ≠ t := fun e => by
          have n1 := ((out_perm hm).map fun m : Str × Nat × Nat => m.2.1).nodup_iff.mp M.nd
          have n1 : (m.2.1 :: (ms.take at_ ++ ms.drop (at_ + 1)).map fun m : Str × Nat × Nat => m.2.1).Nodup := n1
          exact (List.nodup_cons.mp n1).1 (List.mem_map.mpr ⟨t, htr, by rw [e]⟩)
        refine .lst (.of ((e7 lr nlr).trans f_lr)) (atI_nat (List.getElem?_eq_getElem hjj)) ?_
        rw [hx7]
        have hl7 := hlm _ b7
        have rp7 := rpm _ b7
        refine ⟨_, rfl, l, rfl, ⟨_, .of hl7⟩, ?_⟩
        refine comp_list refs (fun D i acc σ' H' => ∃ o, σ' = [o, some (.ref tb)] ∧ RepAll H' acc (((ms.take i).filter fun x => !decide (x = t)).map mvD) ∧ Same H7 H' ∧ H7 D = none) fun D hD => ⟨?_, ?_, ?_, ?_⟩
        · exact ⟨none, rfl, .nil, Same.new hD, hD⟩
        · rintro i acc σ' H' _ ⟨o, rfl, _, sm, _⟩ _
          exact .of (sm _ _ hl7)
        · rintro i acc σ' H' x hx ⟨o, rfl, ra, sm, hD0⟩ hacc
          have hil := (List.getElem?_eq_some_iff.mp hx).1
          obtain ⟨n, tn, hn, rfl, htn⟩ := mv_get (rp7.same sm) hx
          have al := ra.len
          rw [List.length_map] at al
          have fl := List.length_filter_le (fun x : Str × Nat × Nat => !decide (x = t)) (ms.take i)
          rw [List.length_take] at fl
          refine ⟨_, rfl, _, rfl, .tr (mv_rep htn) (mv_rep (sm _ _ htb)) (shp_mv (hlt n (List.mem_of_getElem? hn)).1) (shp_mv (hlt t htm).1) ⟨_, rfl, ?_⟩⟩
          rw [eqv_mv (n.1, n.2.1, n.2.2) (t.1, t.2.1, t.2.2)]
          refine ite2 (fun h => ?_) (fun h => ?_)
          · have h : (!decide (n = t)) = true := h
            have nDt : tn ≠ D := ne_of htn hacc (by intro z; cases z)
            refine ⟨_, rfl, hacc, small1000 (by omega), _, rfl, ?_, same_at sm hD0, hD0⟩
            rw [filt_step _ _ _ _ hn, if_pos h, List.map_append]
            have r5 := mvBut (p := D) hacc But.upd (H' := upd H' D (.lst (acc ++ [V.ref tn]))) ra
            exact RepAll.append r5 (.cons (mv_rep (by rw [upd_ne nDt]; exact htn)) .nil)
          · have h : ¬ (!decide (n = t)) = true := h
            exact ⟨hacc, _, rfl, by rw [filt_step _ _ _ _ hn, if_neg h, List.append_nil]; exact ra, sm, hD0⟩
        rintro acc σ' H8 ⟨o, rfl, ra, s8, hD0⟩ hacc
        rw [rl, List.take_of_length_le (Nat.le_refl _)] at ra
        have al := ra.len
        rw [List.length_map] at al
        have fl := List.length_filter_le (fun x : Str × Nat × Nat => !decide (x = t)) ms
        have htb8 := s8 _ _ htb
        refine ⟨_, rfl, .tup (.of htb8) rfl ⟨_, rfl, _, rfl, .tup (.of htb8) rfl ⟨(by show 3 ≤ sizeLine; decide), fun tq htq => ?_⟩⟩⟩
        have s9 := Same.new (o := .tup [V.str t.1, V.int (m.2.1 : Nat), V.int (t.2.2 : Nat)]) htq
        have e9 : upd H8 tq (.tup [V.str t.1, V.int (m.2.1 : Nat), V.int (t.2.2 : Nat)]) tq = some (.tup [V.str t.1, V.int (m.2.1 : Nat), V.int (t.2.2 : Nat)]) := upd_same
        have hacc9 := s9 _ _ hacc
        generalize upd H8 tq (.tup [V.str t.1, V.int (m.2.1 : Nat), V.int (t.2.2 : Nat)]) = H9 at s9 e9 hacc9 ⊢
        refine ⟨(by show 1 ≤ sizeLine; decide), fun l1 hl1 => ?_⟩
        have sA := Same.new (o := .lst [V.ref tq]) hl1
        have eA : upd H9 l1 (.lst [V.ref tq]) l1 = some (.lst [V.ref tq]) := upd_same
        have haccA := sA _ _ hacc9
        have e9A := sA _ _ e9
        generalize upd H9 l1 (.lst [V.ref tq]) = HA at sA eA haccA e9A ⊢
        have s8A := s9.trans sA
        have s7A := s8.trans s8A
        have vA := penSame s7A v7
        have bA := b7.trans (But.of_same (p := p) s7A)
        obtain ⟨_, hpA⟩ := penAt vA
        have ntq : tq ≠ p := ne_of e9A hpA (by intro z; cases z)
        have eM := Mp.at e9A ntq
        refine .lst haccA eA (Nat.le_of_lt (small1000 (by show acc.length + 1 ≤ 1000; omega))) (finL HA (acc ++ [V.ref tq]) vA bA (fun y hy => ?_) (by rw [List.length_append]; show acc.length + 1 ≤ 61; omega) ?_)
        · rcases List.mem_append.mp hy with hy | hy
          · exact it_mv (mvBut hpA Mp.but (ra.same s8A)) (fun x hx => hlt x (List.mem_filter.mp hx).1) y hy
          · rw [List.mem_singleton.mp hy]
            have hall : ∀ u ∈ [V.str t.1, V.int (m.2.1 : Nat), V.int (t.2.2 : Nat)], Pt (Mp p HA) u := fun u hu => by
              rcases List.mem_cons.mp hu with rfl | hu
              · exact pt_nm (hlt t htm).1
              · have q1 := hlt t htm
                have q2 := hlt m hmm
                rcases List.mem_cons.mp hu with rfl | hu
                · exact pt_int (by omega)
                · rw [List.mem_singleton.mp hu]; exact pt_int (by omega)
            exact ⟨tk_tup eM (by show 3 ≤ 1000; decide) fun u hu => (hall u hu).1, ptup eM (by show 3 ≤ 4; decide) hall⟩
        · refine nol_bad (List.mem_append_right _ (List.mem_singleton.mpr rfl)) fun tc s i' j' e he ho' => ?_
          cases e
          rw [eM] at he
          obtain ⟨q1, q2⟩ := List.cons.inj (HO.tup.inj (Option.some.inj he))
          obtain ⟨q2, _⟩ := List.cons.inj q2
          have q1 := V.str.inj q1
          have q2 := V.int.inj q2
          have q3 : i' = m.2.1 := by omega
          rw [q3, M.at_ m hmm] at ho'
          have q4 : m.1 = t.1 := (Option.some.inj ho').trans q1.symm
          have a1 := M.at_ m hmm
          rw [q4] at a1
          have a2 := M.at_ t htm
          have q5 := (List.getElem?_inj (List.getElem?_eq_some_iff.mp a1).1 ond).mp (a1.trans a2.symm)
          exact absurd (nd_inj M.nd hmm htm q5) hmt
      apply onceU
      · intro tail
        refine ⟨_, rfl, .sc rfl ⟨_, rfl, ite2 (fun _ => ?_) (fun _ => iteF (tail ()))⟩⟩
        refine ⟨_, rfl, _, _, rfl, Or.inl ⟨_, .of f_lr, rfl⟩, _, _, rfl, rfl, ⟨_, rfl, ite2 (fun h => ?_) (fun _ => tail ())⟩⟩
        have h : (0 : Int) < (((refs.take at_ ++ refs.drop (at_ + 1)).length : Nat) : Int) := of_decide_eq_true h
        refine ⟨_, rfl, _, rfl, _, rfl, _, _, rfl, Or.inl ⟨_, .of f_lr, rfl⟩, p, a, _, rfl, hP.but b6 v6, by omega, by rw [List.length_append, List.length_take, List.length_drop]; omega, fun r7 H7 h70 h71 v7 e7 => ?_⟩
        obtain ⟨jj, rfl⟩ := Int.eq_ofNat_of_zero_le h70
        have b7 := b6.trans (But.of_eq e7)
        have hjj : jj < (refs.take at_ ++ refs.drop (at_ + 1)).length := by omega
        have rpr : RepAll H7 (refs.take at_ ++ refs.drop (at_ + 1)) ((ms.take at_ ++ ms.drop (at_ + 1)).map mvD) := by
          rw [List.map_append]
          exact RepAll.append (rep_take (rpm _ b7) at_) (rep_drop (rpm _ b7) (at_ + 1))
        obtain ⟨t, tb, ht, hx7, htb⟩ := mv_get rpr (List.getElem?_eq_getElem hjj)
        have htr := List.mem_of_getElem? ht
        have htm : t ∈ ms := (out_perm hm).mem_iff.mpr (List.mem_cons_of_mem _ htr)
        have hmt : m ≠ t := fun e => by
          have n1 := ((out_perm hm).map fun m : Str × Nat × Nat => m.2.1).nodup_iff.mp M.nd
          have n1 : (m.2.1 :: (ms.take at_ ++ ms.drop (at_ + 1)).map fun m : Str × Nat × Nat => m.2.1).Nodup := n1
          exact (List.nodup_cons.mp n1).1 (List.mem_map.mpr ⟨t, htr, by rw [e]⟩)
        refine .lst (.of ((e7 lr nlr).trans f_lr)) (atI_nat (List.getElem?_eq_getElem hjj)) ?_
        rw [hx7]
        have hl7 := hlm _ b7
        have rp7 := rpm _ b7
        refine ⟨_, rfl, l, rfl, ⟨_, .of hl7⟩, ?_⟩
        refine comp_list refs (fun D i acc σ' H' => ∃ o, σ' = [o, some (.ref tb)] ∧ RepAll H' acc (((ms.take i).filter fun x => !decide (x = t)).map mvD) ∧ Same H7 H' ∧ H7 D = none) fun D hD => ⟨?_, ?_, ?_, ?_⟩
        · exact ⟨none, rfl, .nil, Same.new hD, hD⟩
        · rintro i acc σ' H' _ ⟨o, rfl, _, sm, _⟩ _
          exact .of (sm _ _ hl7)
        · rintro i acc σ' H' x hx ⟨o, rfl, ra, sm, hD0⟩ hacc
          have hil := (List.getElem?_eq_some_iff.mp hx).1
          obtain ⟨n, tn, hn, rfl, htn⟩ := mv_get (rp7.same sm) hx
          have al := ra.len
          rw [List.length_map] at al
          have fl := List.length_filter_le (fun x : Str × Nat × Nat => !decide (x = t)) (ms.take i)
          rw [List.length_take] at fl
          refine ⟨_, rfl, _, rfl, .tr (mv_rep htn) (mv_rep (sm _ _ htb)) (shp_mv (hlt n (List.mem_of_getElem? hn)).1) (shp_mv (hlt t htm).1) ⟨_, rfl, ?_⟩⟩
          rw [eqv_mv (n.1, n.2.1, n.2.2) (t.1, t.2.1, t.2.2)]
          refine ite2 (fun h => ?_) (fun h => ?_)
          · have h : (!decide (n = t)) = true := h
            have nDt : tn ≠ D := ne_of htn hacc (by intro z; cases z)
            refine ⟨_, rfl, hacc, small1000 (by omega), _, rfl, ?_, same_at sm hD0, hD0⟩
            rw [filt_step _ _ _ _ hn, if_pos h, List.map_append]
            have r5 := mvBut (p := D) hacc But.upd (H' := upd H' D (.lst (acc ++ [V.ref tn]))) ra
            exact RepAll.append r5 (.cons (mv_rep (by rw [upd_ne nDt]; exact htn)) .nil)
          · have h : ¬ (!decide (n = t)) = true := h
            exact ⟨hacc, _, rfl, by rw [filt_step _ _ _ _ hn, if_neg h, List.append_nil]; exact ra, sm, hD0⟩
        rintro acc σ' H8 ⟨o, rfl, ra, s8, hD0⟩ hacc
        rw [rl, List.take_of_length_le (Nat.le_refl _)] at ra
        have al := ra.len
        rw [List.length_map] at al
        have fl := List.length_filter_le (fun x : Str × Nat × Nat => !decide (x = t)) ms
        have htb8 := s8 _ _ htb
        refine ⟨_, rfl, .tup (.of htb8) rfl ⟨_, rfl, .tup (.of htb8) rfl ⟨_, rfl, (by show 3 ≤ sizeLine; decide), fun tq htq => ?_⟩⟩⟩
        have s9 := Same.new (o := .tup [V.str t.1, V.int (t.2.1 : Nat), V.int (m.2.2 : Nat)]) htq
        have e9 : upd H8 tq (.tup [V.str t.1, V.int (t.2.1 : Nat), V.int (m.2.2 : Nat)]) tq = some (.tup [V.str t.1, V.int (t.2.1 : Nat), V.int (m.2.2 : Nat)]) := upd_same
        have hacc9 := s9 _ _ hacc
        generalize upd H8 tq (.tup [V.str t.1, V.int (t.2.1 : Nat), V.int (m.2.2 : Nat)]) = H9 at s9 e9 hacc9 ⊢
        refine ⟨(by show 1 ≤ sizeLine; decide), fun l1 hl1 => ?_⟩
        have sA := Same.new (o := .lst [V.ref tq]) hl1
        have eA : upd H9 l1 (.lst [V.ref tq]) l1 = some (.lst [V.ref tq]) := upd_same
        have haccA := sA _ _ hacc9
        have e9A := sA _ _ e9
        generalize upd H9 l1 (.lst [V.ref tq]) = HA at sA eA haccA e9A ⊢
        have s8A := s9.trans sA
        have s7A := s8.trans s8A
        have vA := penSame s7A v7
        have bA := b7.trans (But.of_same (p := p) s7A)
        obtain ⟨_, hpA⟩ := penAt vA
        have ntq : tq ≠ p := ne_of e9A hpA (by intro z; cases z)
        have eM := Mp.at e9A ntq
        refine .lst haccA eA (Nat.le_of_lt (small1000 (by show acc.length + 1 ≤ 1000; omega))) (finL HA (acc ++ [V.ref tq]) vA bA (fun y hy => ?_) (by rw [List.length_append]; show acc.length + 1 ≤ 61; omega) ?_)
        · rcases List.mem_append.mp hy with hy | hy
          · exact it_mv (mvBut hpA Mp.but (ra.same s8A)) (fun x hx => hlt x (List.mem_filter.mp hx).1) y hy
          · rw [List.mem_singleton.mp hy]
            have hall : ∀ u ∈ [V.str t.1, V.int (t.2.1 : Nat), V.int (m.2.2 : Nat)], Pt (Mp p HA) u := fun u hu => by
              rcases List.mem_cons.mp hu with rfl | hu
              · exact pt_nm (hlt t htm).1
              · have q1 := hlt t htm
                have q2 := hlt m hmm
                rcases List.mem_cons.mp hu with rfl | hu
                · exact pt_int (by omega)
                · rw [List.mem_singleton.mp hu]; exact pt_int (by omega)
            exact ⟨tk_tup eM (by show 3 ≤ 1000; decide) fun u hu => (hall u hu).1, ptup eM (by show 3 ≤ 4; decide) hall⟩
        · refine nol_of (ms := (ms.filter fun x => !decide (x = t)).map toZ ++ [(t.1, t.2.1, ((m.2.2 : Nat) : Int))]) ?_ (no_new hmm htm hmt)
          rw [List.map_append, toZ_map]
          exact RepAll.append (mvBut hpA Mp.but (ra.same s8A)) (.cons (mz_rep eM) .nil)
      refine ⟨_, rfl, _, rfl, _, rfl, .lst (.of (hlm _ b6)) fun g1 hg1 => ?_⟩
      rw [cutV_to _ _ (by omega)]
      have n7 := Same.new (o := .lst (refs.take at_)) hg1
      have f_g1 : upd H6 g1 (.lst (refs.take at_)) g1 = some (.lst (refs.take at_)) := upd_same
      have ng1 : g1 ≠ p := Ne.symm (v6.ne hg1)
      have v7 := penSame n7 v6
      have b7 := b6.trans (But.of_same (p := p) n7)
      generalize upd H6 g1 (.lst (refs.take at_)) = H7 at f_g1 v7 b7 ⊢
      obtain ⟨m2, ta2, hm2, ex2, hta2⟩ := mv_get (rpm _ b7) hx
      cases ex2
      rw [hm] at hm2
      cases hm2
      refine ⟨_, rfl, _, rfl, _, rfl, _, rfl, .lst (.of (hlm _ b7)) (atI_nat hx) (nil_ ⟨p, a, lo, ta, os, m.1, m.2.1, m.2.2, rfl, hP.but b7 v7, hlo _ b7, nlo, ond, h60, onm, hta2, M.at_ m hmm, M.lt m hmm, fun y H8 tky nmv rdy v8 b8 => ?_⟩)⟩
      have f_g1 := b8 g1 _ ng1 f_g1
      have b8 := b7.trans b8
      refine ⟨(by show 1 ≤ sizeLine; decide), fun g2 hg2 => ?_⟩
      have n9 := Same.new (o := .lst [y]) hg2
      have m9 := Mp.same ((But.refl p H8).at (o := .lst [y]) hg2)
      have f_g2 : upd H8 g2 (.lst [y]) g2 = some (.lst [y]) := upd_same
      have f_g1 := n9 _ _ f_g1
      have v9 := penSame n9 v8
      have b9 := b8.trans (But.of_same (p := p) n9)
      have ity : It (Mp p H8) y := ⟨tky, rdy⟩
      have nmvL : ∀ {H' : Hp}, Same (Mp p H8) H' → NoMv os H' y := fun sm tc s i' j' e he ho' kk hk => by
        subst e
        have z : mvOk os (Mp p H8) (.ref tc) := (mvOk_same tky sm).mp ⟨tc, s, i', j', rfl, he, ho'⟩
        obtain ⟨tc2, s2, i2, j2, e2, he2, ho2⟩ := z
        cases e2
        have := sm _ _ he2
        rw [he] at this
        cases this
        exact nmv _ _ _ _ rfl he2 ho2 kk hk
      generalize upd H8 g2 (.lst [y]) = H9 at m9 f_g2 f_g1 v9 b9 ⊢
      refine .lst f_g1 f_g2 (Nat.le_of_lt (small1000 (by show (refs.take at_).length + 1 ≤ 1000; omega))) fun g3 hg3 => ?_
      have nA := Same.new (o := .lst (refs.take at_ ++ [y])) hg3
      have mA := Mp.same ((But.refl p H9).at (o := .lst (refs.take at_ ++ [y])) hg3)
      have f_g3 : upd H9 g3 (.lst (refs.take at_ ++ [y])) g3 = some (.lst (refs.take at_ ++ [y])) := upd_same
      have vA := penSame nA v9
      have bA := b9.trans (But.of_same (p := p) nA)
      generalize upd H9 g3 (.lst (refs.take at_ ++ [y])) = HA at mA f_g3 vA bA ⊢
      refine ⟨_, rfl, _, rfl, .int ⟨_, rfl, .lst (.of (hlm _ bA)) fun g4 hg4 => ?_⟩⟩
      rw [show ((at_ : Nat) : Int) + 1 = ((at_ + 1 : Nat) : Int) by omega, cutV_from]
      have nB := Same.new (o := .lst (refs.drop (at_ + 1))) hg4
      have mB := Mp.same ((But.refl p HA).at (o := .lst (refs.drop (at_ + 1))) hg4)
      have f_g4 : upd HA g4 (.lst (refs.drop (at_ + 1))) g4 = some (.lst (refs.drop (at_ + 1))) := upd_same
      have f_g3 := nB _ _ f_g3
      have vB := penSame nB vA
      have bB := bA.trans (But.of_same (p := p) nB)
      generalize upd HA g4 (.lst (refs.drop (at_ + 1))) = HB at mB f_g3 f_g4 vB bB ⊢
      have m8B := (m9.trans mA).trans mB
      have yin : y ∈ refs.take at_ ++ [y] ++ refs.drop (at_ + 1) := by simp
      refine .lst f_g3 f_g4 (Nat.le_of_lt (small1000 (by rw [List.length_append]; show (refs.take at_).length + 1 + _ ≤ 1000; omega))) (finL HB _ vB bB (fun x hx => ?_) (by rw [List.length_append, List.length_append]; show (refs.take at_).length + 1 + _ ≤ 61; omega) (nol_bad yin (nmvL m8B)))
      have itr := it_mv (rpM _ bB) hlt
      rcases List.mem_append.mp hx with hx | hx
      · rcases List.mem_append.mp hx with hx | hx
        · exact itr x (List.mem_of_mem_take hx)
        · rw [List.mem_singleton.mp hx]; exact ity.same m8B
      · exact itr x (List.mem_of_mem_drop hx)
    · rintro σ HZ ⟨rfl, vZ, bZ⟩
      have smA := Same.refl HZ
      have f_l := hlm _ bZ
      refine ⟨_, rfl, l, _, rfl, .of f_l, fun t1 ht1 => ?_⟩
      have al1 := Same.new (o := .tup refs) ht1
      have f_t1 : upd HZ t1 (.tup refs) t1 = some (.tup refs) := upd_same
      have f_l := al1 _ _ f_l
      have smA := smA.trans al1
      generalize upd HZ t1 (.tup refs) = HA1 at smA f_l f_t1 ⊢
      clear al1
      intro d1 hd1
      have al2 := Same.new (o := .dK []) hd1
      have f_d1 : upd HA1 d1 (.dK []) d1 = some (.dK []) := upd_same
      have f_l := al2 _ _ f_l
      have f_t1 := al2 _ _ f_t1
      have smA := smA.trans al2
      generalize upd HA1 d1 (.dK []) = HA2 at smA f_l f_t1 f_d1 ⊢
      clear al2
      refine ⟨_, rfl, (by show 1 ≤ sizeLine; decide), fun t2 ht2 => ?_⟩
      have al3 := Same.new (o := .tup [V.ref l]) ht2
      have f_t2 : upd HA2 t2 (.tup [V.ref l]) t2 = some (.tup [V.ref l]) := upd_same
      have f_l := al3 _ _ f_l
      have f_t1 := al3 _ _ f_t1
      have f_d1 := al3 _ _ f_d1
      have smA := smA.trans al3
      generalize upd HA2 t2 (.tup [V.ref l]) = HA3 at smA f_l f_t1 f_d1 f_t2 ⊢
      clear al3
      refine ⟨_, rfl, (by show 1 ≤ sizeLine; decide), fun q1 hq1 => ?_⟩
      have al4 := Same.new (o := .lst [V.non]) hq1
      have f_q1 : upd HA3 q1 (.lst [V.non]) q1 = some (.lst [V.non]) := upd_same
      have f_l := al4 _ _ f_l
      have f_t1 := al4 _ _ f_t1
      have f_d1 := al4 _ _ f_d1
      have f_t2 := al4 _ _ f_t2
      have smA := smA.trans al4
      generalize upd HA3 q1 (.lst [V.non]) = HA4 at smA f_l f_t1 f_d1 f_t2 f_q1 ⊢
      clear al4
      refine .lst f_l f_q1 (Nat.le_of_lt (small1000 (by show refs.length + 1 ≤ 1000; omega))) fun q2 hq2 => ?_
      have nq2 : q2 ≠ p := Ne.symm ((penSame smA vZ).ne hq2)
      have al5 := Same.new (o := .lst (refs ++ [V.non])) hq2
      have f_q2 : upd HA4 q2 (.lst (refs ++ [V.non])) q2 = some (.lst (refs ++ [V.non])) := upd_same
      have f_l := al5 _ _ f_l
      have f_t1 := al5 _ _ f_t1
      have f_d1 := al5 _ _ f_d1
      have f_t2 := al5 _ _ f_t2
      have f_q1 := al5 _ _ f_q1
      have smA := smA.trans al5
      generalize upd HA4 q2 (.lst (refs ++ [V.non])) = HA5 at smA f_l f_t1 f_d1 f_t2 f_q1 f_q2 ⊢
      clear al5
      refine ⟨(by show 1 ≤ sizeLine; decide), fun q3 hq3 => ?_⟩
      have nq3 : q3 ≠ p := Ne.symm ((penSame smA vZ).ne hq3)
      have al6 := Same.new (o := .lst [V.ref q2]) hq3
      have f_q3 : upd HA5 q3 (.lst [V.ref q2]) q3 = some (.lst [V.ref q2]) := upd_same
      have f_l := al6 _ _ f_l
      have f_t1 := al6 _ _ f_t1
      have f_d1 := al6 _ _ f_d1
      have f_t2 := al6 _ _ f_t2
      have f_q1 := al6 _ _ f_q1
      have f_q2 := al6 _ _ f_q2
      have smA := smA.trans al6
      generalize upd HA5 q3 (.lst [V.ref q2]) = HA6 at smA f_l f_t1 f_d1 f_t2 f_q1 f_q2 f_q3 ⊢
      clear al6
      refine ⟨(by show 9 ≤ sizeLine; decide), fun ls hls => ?_⟩
      have nls : ls ≠ p := Ne.symm ((penSame smA vZ).ne hls)
      have al7 := Same.new (o := .lst [V.ref t1, V.non, V.ref d1, V.str "", V.int 0, V.bl true, V.str "moves", V.ref t2, V.ref q3]) hls
      have f_ls : upd HA6 ls (.lst [V.ref t1, V.non, V.ref d1, V.str "", V.int 0, V.bl true, V.str "moves", V.ref t2, V.ref q3]) ls = some (.lst [V.ref t1, V.non, V.ref d1, V.str "", V.int 0, V.bl true, V.str "moves", V.ref t2, V.ref q3]) := upd_same
      have f_l := al7 _ _ f_l
      have f_t1 := al7 _ _ f_t1
      have f_d1 := al7 _ _ f_d1
      have f_t2 := al7 _ _ f_t2
      have f_q1 := al7 _ _ f_q1
      have f_q2 := al7 _ _ f_q2
      have f_q3 := al7 _ _ f_q3
      have smA := smA.trans al7
      generalize upd HA6 ls (.lst [V.ref t1, V.non, V.ref d1, V.str "", V.int 0, V.bl true, V.str "moves", V.ref t2, V.ref q3]) = HA7 at smA f_l f_t1 f_d1 f_t2 f_q1 f_q2 f_q3 f_ls ⊢
      clear al7
      have vA := penSame smA vZ
      have bA := bZ.trans (But.of_same (p := p) smA)
      obtain ⟨_, hpA⟩ := penAt vA
      refine ⟨_, rfl, p, a, 9, rfl, hP.but bA vA, by decide, by decide, fun r2 HB h20 h21 vB eB => ?_⟩
      obtain ⟨jj, rfl⟩ := Int.eq_ofNat_of_zero_le h20
      have bB := bA.trans (But.of_eq eB)
      have mB : Same (Mp p HA7) (Mp p HB) := Mp.same (But.of_eq eB)
      have f_t1 := mB _ _ (Mp.at f_t1 (ne_of f_t1 hpA (by intro z; cases z)))
      have f_d1 := mB _ _ (Mp.at f_d1 (ne_of f_d1 hpA (by intro z; cases z)))
      have f_t2 := mB _ _ (Mp.at f_t2 (ne_of f_t2 hpA (by intro z; cases z)))
      have f_l := mB _ _ (Mp.at f_l nl)
      have f_q2 := mB _ _ (Mp.at f_q2 nq2)
      have f_q3B := (eB q3 nq3).trans f_q3
      have hj : jj < ([V.ref t1, V.non, V.ref d1, V.str "", V.int 0, V.bl true, V.str "moves", V.ref t2, V.ref q3] : List V).length := by show jj < 9; omega
      refine .lst (.of ((eB ls nls).trans f_ls)) (atI_nat (List.getElem?_eq_getElem hj)) ?_
      have mem := List.getElem_mem hj
      generalize ([V.ref t1, V.non, V.ref d1, V.str "", V.int 0, V.bl true, V.str "moves", V.ref t2, V.ref q3] : List V)[jj] = y at mem ⊢
      simp only [List.mem_cons, List.not_mem_nil, or_false] at mem
      have rpB := rpM _ bB
      have mvS : ∀ d ∈ ms.map mvD, Sv d 400 2 := fun d hd => by
        obtain ⟨m, hm, rfl⟩ := List.mem_map.mp hd
        obtain ⟨q1, q2, q3⟩ := hlt m hm
        refine (Sv.tuple (n := 100) (k := 0) (m := 3) (ds := [.str m.1, .int (m.2.1 : Nat), .int (m.2.2 : Nat)]) (fun d hd => ?_) (Nat.le_refl _)).mono (by decide) (by decide)
        rcases List.mem_cons.mp hd with rfl | hd
        · exact (Sw.nm q1).sv.mono (by decide) (Nat.le_refl _)
        · rcases List.mem_cons.mp hd with rfl | hd
          · exact (sv_int (by omega)).mono (by decide) (Nat.le_refl _)
          · rw [List.mem_singleton.mp hd]; exact (sv_int (by omega)).mono (by decide) (Nat.le_refl _)
      have noD : PyData.hasDictAll (ms.map mvD) = false := by
        have key : ∀ ms : List (Str × Nat × Nat), PyData.hasDictAll (ms.map mvD) = false := by
          intro ms
          induction ms with
          | nil => rfl
          | cons m r ih =>
            show (PyData.hasDict (mvD m) || PyData.hasDictAll (r.map mvD)) = false
            rw [ih]; rfl
        exact key ms
      have mlen : (ms.map mvD).length ≤ 60 := by rw [List.length_map]; omega
      have svL : Sv (.list (ms.map mvD)) 25000 3 := (Sv.list (m := 60) mvS mlen).mono (by decide) (by decide)
      rcases mem with rfl | rfl | rfl | rfl | rfl | rfl | rfl | rfl | rfl
      · exact fin0 _ _ (.tup f_t1) (isL_not f_t1 (fun _ z => by cases z)) ⟨_, .tr (.tup f_t1 rpB) noD, (Sv.tuple (m := 60) mvS mlen).mono (by decide) (by decide)⟩ vB bB
      · exact fin0 _ _ .non rfl ⟨_, .tr .non rfl, ⟨rfl, Nat.zero_le _, by decide⟩⟩ vB bB
      · exact fin0 _ _ (.dK f_d1) (isL_not f_d1 (fun _ z => by cases z)) ⟨_, .dc f_d1 rfl, ⟨rfl, by decide, by decide +kernel⟩⟩ vB bB
      · exact fin0 _ _ (.str (by decide)) rfl ⟨_, .tr (.str _) rfl, ⟨rfl, Nat.zero_le _, by decide +kernel⟩⟩ vB bB
      · exact fin0 _ _ (.int 0) rfl ⟨_, .tr (.int 0) rfl, (sv_int (by decide)).mono (by decide) (by decide)⟩ vB bB
      · exact fin0 _ _ (.bl true) rfl ⟨_, .tr (.bl true) rfl, ⟨rfl, Nat.zero_le _, by decide⟩⟩ vB bB
      · exact fin0 _ _ (.str (by decide)) rfl ⟨_, .tr (.str _) rfl, ⟨rfl, Nat.zero_le _, by decide +kernel⟩⟩ vB bB
      · exact fin0 _ _ (.tup f_t2) (isL_not f_t2 (fun _ z => by cases z)) ⟨_, .tup f_t2 (.cons (.tr (.lst f_l rpB) noD) .nil), (Sv.tuple (m := 1) (fun d hd => by rw [List.mem_singleton.mp hd]; exact svL) (Nat.le_refl _)).mono (by decide) (by decide)⟩ vB bB
      · have e := Mp.at f_q3B nq3
        refine k _ _ ⟨.lst e, fun l2 ys e2 h2 => ?_⟩ ?_ ⟨_, .lst e (.cons (.tr (.lst f_q2 (RepAll.append rpB (.cons .non .nil))) ?_) .nil), ?_⟩ vB bB
        · cases e2
          rw [e] at h2
          cases h2
          refine ⟨by show 1 ≤ 61; decide, fun y hy => ?_⟩
          rw [List.mem_singleton.mp hy]
          exact tk_out (.lst f_q2) (isT_not f_q2 (fun _ z => by cases z))
        · rintro ⟨l2, ys, ms', e2, h2, r2, o2, n2, p2⟩
          cases e2
          rw [e] at h2
          cases h2
          cases ms' with
          | nil => cases r2
          | cons m' r' =>
            cases r2 with
            | cons a1 b1 =>
              obtain ⟨tz, ez, hz⟩ := mz_at a1
              cases ez
              rw [f_q2] at hz
              cases hz
        · show PyData.hasDictAll (ms.map mvD ++ [.none]) = false
          have key : ∀ ds : List PyData, PyData.hasDictAll ds = false → PyData.hasDictAll (ds ++ [.none]) = false := by
            intro ds
            induction ds with
            | nil => intro _; rfl
            | cons d r ih =>
              intro h
              have h : (PyData.hasDict d || PyData.hasDictAll r) = false := h
              rw [Bool.or_eq_false_iff] at h
              show (PyData.hasDict d || PyData.hasDictAll (r ++ [.none])) = false
              rw [h.1, ih h.2]; rfl
          exact key _ noD
        · refine (Sv.list (n := 30000) (k := 4) (m := 1) (fun d hd => ?_) (Nat.le_refl _)).mono (by decide) (by decide)
          rw [List.mem_singleton.mp hd]
          refine (Sv.list (n := 400) (k := 2) (m := 61) (fun d hd => ?_) (by rw [List.length_append]; show _ + 1 ≤ 61; omega)).mono (by decide) (by decide)
          rcases List.mem_append.mp hd with hd | hd
          · exact mvS d hd
          · rw [List.mem_singleton.mp hd]; exact ⟨rfl, Nat.zero_le _, by decide⟩
end
end K31
namespace K31
open PySem L2
section
variable {P : Program} {w : World} {K : PySem.W.Frag} {mg : Str → Option Value} {base : Heap}
noncomputable def spLaw (K : PySem.W.Frag) : Sp := fun vs H Q _ => ∃ (a : Addr) (ns : List Int), vs = [.ref a] ∧ SqL K H a (ns.map V.int) ∧ ∀ H', Q (.bl true) H'
theorem scLaw : FnScope ["_law_script", "_law_pen_here", "_law_web_here", "_law_order", "_law_turn", "_law_pair_here", "_law_due_here", "_law_moves_here", "_law_bent_here", "_law_again", "_law_told"] ["_law_script"] (defScope sLaw) := ⟨rfl, rfl, rfl, by decide +kernel, rfl, by decide +kernel, by decide +kernel⟩
theorem fwd_of {gs : List Str} {ts : List (Str × Str)} (hm : ∀ e ∈ ts, e.1 ∈ gs ∧ e.2 ∈ gs) (h : ∀ e ∈ ts, gs.idxOf e.1 < gs.idxOf e.2) : Fwd gs ts := fun e he => ⟨_, _, h e he, atIdx (hm e he).1, atIdx (hm e he).2⟩
noncomputable def spLetX : Sp := fun vs H Q E => spLets vs H Q E ∨ spLetF vs H Q E
theorem ok_letX {f : Addr} {fd : FuncData} {k : Nat} {ps : List Str} (F : FnOk P w K mg base CX0 k f fd ps spLets) (G : FnOk P w K mg base CX0 k f fd ps spLetF) : FnOk P w K mg base CX0 k f fd ps spLetX :=
  ⟨fun vs H Q E q => q.elim (F.len vs H Q E) (G.len vs H Q E), fun A outer s H args us vs Q E hr he hb hv hs => hs.elim (F.run A outer s H args us vs Q E hr he hb hv) (G.run A outer s H args us vs Q E hr he hb hv)⟩
theorem names_ne {H : Hp} {b p a : Addr} {xs : List Str} (h : H b = some (.lst (List.map V.str xs))) (v : PenV H p a) : b ≠ p := by
  rintro rfl
  obtain ⟨i, n, e, _⟩ := v
  rw [h] at e
  have e := HO.lst.inj (Option.some.inj e)
  cases xs with
  | nil => cases e
  | cons x xs => cases (List.cons.inj e).1
theorem TkL.back {H H' : Hp} {x : V} (h : TkL H x) (s : Same H H') : ∀ l xs, x = .ref l → H' l = some (.lst xs) → H l = some (.lst xs) := fun l xs e hl => by
  subst e
  have : isL H (.ref l) = true := by rw [← (isL_keep h.thg s).1]; exact isL_of hl
  obtain ⟨b, ws, eb, hb⟩ := isL_get this
  cases eb
  have e := s _ _ hb
  rw [hl] at e
  cases e
  exact hb
theorem TkL.same {H H' : Hp} {x : V} (h : TkL H x) (s : Same H H') : TkL H' x := ⟨h.thg.same s, fun l xs e hl => by
  obtain ⟨a, b⟩ := h.items l xs e (h.back s l xs e hl)
  exact ⟨a, fun y hy => (b y hy).same s⟩⟩
theorem areOk_back {os : List Str} {H H' : Hp} {x : V} (h : TkL H x) (s : Same H H') (z : areOk os H' x) : areOk os H x := by
  obtain ⟨l, xs, ms, e, hl, rp, o2, n2, p2⟩ := z
  have hb := h.back s l xs e hl
  exact ⟨l, xs, ms, e, hb, mz_back s (h.items l xs e hb).2 rp, o2, n2, p2⟩
theorem letB_of {gs mv : List Str} {ts : List (Str × Str)} {one other : Str} (h : ∀ e ∈ ts ++ [(one, other)], gs.idxOf e.1 < gs.idxOf e.2) : letB gs mv ts one other = true := by
  unfold letB
  rw [List.all_eq_true]
  intro e he
  refine decide_eq_true (h e ?_)
  rcases List.mem_append.mp he with he | he
  · exact List.mem_append_left _ (List.mem_filter.mp he).1
  · exact List.mem_append_right _ he
theorem letB_not {gs mv : List Str} {ts : List (Str × Str)} {one other : Str} (h : gs.idxOf one < gs.idxOf other) : letB gs mv ts other one = false := by
  unfold letB
  rw [List.all_append, Bool.and_eq_false_iff]
  right
  show (decide (gs.idxOf other < gs.idxOf one) && true) = false
  rw [decide_eq_false (by omega)]; rfl
theorem ok_law {f : Addr} {fd : FuncData} (F : Fun K "law" "law" sLaw f fd) (B : Blt mg) (c_law_pen : Cal P w K mg base 1 "_law_pen" ["_law_script"] (spPen K)) (c_law_draw : Cal P w K mg base 1 "_law_draw" ["_law_pen_here", "_law_most"] (spDraw K)) (c_law_web : Cal P w K mg base 6 "_law_web" ["_law_pen_here"] (spLWeb K)) (c_law_pair : Cal P w K mg base 2 "_law_pair" ["_law_pen_here", "_law_web_here", "_law_order"] (spPair K))
    (c_law_due : Cal P w K mg base 2 "_law_due" ["_law_web_here", "_law_order", "_law_one", "_law_other"] spDue) (c_law_moves : Cal P w K mg base 2 "_law_moves" ["_law_pen_here", "_law_order", "_law_due_here"] (spMv31 K)) (c_law_bent : Cal P w K mg base 4 "_law_bent" ["_law_pen_here", "_law_order", "_law_moves_here"] (spBent K)) (c_law_laid : Cal P w K mg base 1 "_law_laid" ["_law_order", "_law_due_here"] spLaid)
    (clets_moves : Cal P w K mg base 4 "lets_moves" ["web", "order", "one", "other", "told"] spLetX) (cweb_of : Cal P w K mg base 5 "web_of" ["things", "ties"] spWebOf) :
    FnOk P w K mg base CX0 7 f fd ["_law_script"] (spLaw K) := by
  refine F.ok scLaw (fun vs H Q E h => ?_) (fun cdv A outer s H vs Q E hr h => ?_)
  · obtain ⟨a, ns, rfl, _⟩ := h
    rfl
  · obtain ⟨sc, ns, rfl, hS, k⟩ := h
    have nd := scLaw.nd
    refine ⟨_, (pss_cons (ps_set (i := 1) nd rfl (Or.inl rfl) (pe_cal c_law_pen (hr.mono (by decide)) rfl (pa_cons (pv 0) pa_nil)))
      (pss_cons (ps_asg (pe_cal c_law_web (hr.mono (by decide)) rfl (pa_cons (pv 1) pa_nil)) (pg_tupK (n := 2) K rfl (pgs_cons (pg_name (i := 2) nd rfl (Or.inl rfl)) (pgs_cons (pg_name (i := 3) nd rfl (Or.inl rfl)) pgs_nil))))
      (pss_cons (ps_for PassesOwn.never rfl (pi_range1 rfl B.range (pa_cons (b_min rfl B (pa_cons (b_len K B (pa_cons (pv 3) pa_nil)) (pa_cons (pe_op op_addX pe_int (pe_cal c_law_draw (hr.mono (by decide)) rfl (pa_cons (pv 1) (pa_cons pe_int pa_nil)))) pa_nil))) pa_nil)) (pg_name (i := 4) nd rfl (Or.inl rfl)) (pss_cons (ps_set (i := 5) nd rfl (Or.inl rfl) (pe_cal c_law_pair (hr.mono (by decide)) rfl (pa_cons (pv 1) (pa_cons (pv 2) (pa_cons (pv 3) pa_nil)))))
      (pss_cons (ps_set (i := 6) nd rfl (Or.inl rfl) (pe_cal c_law_due (hr.mono (by decide)) rfl (pa_cons (pv 2) (pa_cons (pv 3) (pa_cons (pe_ix (ix_X K hr.units) (pv 5) pe_int (fun _ _ => rfl)) (pa_cons (pe_ix (ix_X K hr.units) (pv 5) pe_int (fun _ _ => rfl)) pa_nil))))))
      (pss_one (ps_if (pt_cmpR op_isNotX (pv 6) pe_non (nomark _)) (pss_cons (ps_set (i := 7) nd rfl (Or.inl rfl) (pe_cal c_law_moves (hr.mono (by decide)) rfl (pa_cons (pv 1) (pa_cons (pv 3) (pa_cons (pv 6) pa_nil)))))
      (pss_cons (ps_set (i := 8) nd rfl (Or.inl rfl) (pe_cal c_law_bent (hr.mono (by decide)) rfl (pa_cons (pv 1) (pa_cons (pv 3) (pa_cons (pv 7) pa_nil)))))
      (pss_cons (ps_for PassesOwn.never rfl (pi_range1 rfl B.range (pa_cons pe_int pa_nil)) (pg_name (i := 9) nd rfl (Or.inl rfl)) (pss_cons (ps_set (i := 10) nd rfl (Or.inl rfl) (b_reprD hr.gd hr.units B (pa_cons (pe_tup (pa_cons (pv 3) (pa_cons (pv 7) (pa_cons (pv 8) pa_nil)))) pa_nil)))
      (pss_cons (ps_if (pt_cmpR op_isNotX (pe_cal clets_moves (hr.mono (by decide)) rfl (pa_cons (pv 2) (pa_cons (pv 3) (pa_cons (pe_ix (ix_X K hr.units) (pv 5) pe_int (fun _ _ => rfl)) (pa_cons (pe_ix (ix_X K hr.units) (pv 5) pe_int (fun _ _ => rfl)) (pa_cons (pv 7) pa_nil star_n) star_s) star_s) star_n) star_n)) pe_bl (nomark _)) (pss_one (ps_ret pe_bl)) pss_nil)
      (pss_cons (ps_if (pt_cmpR op_isNotX (pe_cal clets_moves (hr.mono (by decide)) rfl (pa_cons (pv 2) (pa_cons (pv 3) (pa_cons (pe_ix (ix_X K hr.units) (pv 5) pe_int (fun _ _ => rfl)) (pa_cons (pe_ix (ix_X K hr.units) (pv 5) pe_int (fun _ _ => rfl)) (pa_cons (pv 8) pa_nil star_n) star_s) star_s) star_n) star_n)) pe_bl (nomark _)) (pss_one (ps_ret pe_bl)) pss_nil)
      (pss_cons (ps_if (pt_cmpR op_isNotX (pe_cal clets_moves (hr.mono (by decide)) rfl (pa_cons (pv 2) (pa_cons (pv 3) (pa_cons (pe_ix (ix_X K hr.units) (pv 5) pe_int (fun _ _ => rfl)) (pa_cons (pe_ix (ix_X K hr.units) (pv 5) pe_int (fun _ _ => rfl)) (pa_cons (pv 7) pa_nil star_n) star_s) star_s) star_n) star_n)) pe_bl (nomark _)) (pss_one (ps_ret pe_bl)) pss_nil)
      (pss_one (ps_if (pt_cmpR (op_neX hr.units) (b_reprD hr.gd hr.units B (pa_cons (pe_tup (pa_cons (pv 3) (pa_cons (pv 7) (pa_cons (pv 8) pa_nil)))) pa_nil)) (pv 10) (nomark _)) (pss_one (ps_ret pe_bl)) pss_nil)))))))
      (pss_cons (ps_set (i := 3) nd rfl (Or.inl rfl) (pe_cal c_law_laid (hr.mono (by decide)) rfl (pa_cons (pv 3) (pa_cons (pv 6) pa_nil))))
      (pss_one (ps_if (pt_cmpR (op_notInDT hr.units) (pv 5) (pe_ix (ix_X K hr.units) (pv 2) pe_int (fun _ _ => rfl)) (by with_unfolding_all rfl)) (pss_one (ps_set (i := 2) nd rfl (Or.inl rfl) (pe_cal cweb_of (hr.mono (by decide)) rfl (pa_cons (b_list K rfl B (pa_cons (pe_ix (ix_X K hr.units) (pv 2) pe_int (fun _ _ => rfl)) pa_nil)) (pa_cons (pe_op (op_catTA K) (pe_ix (ix_X K hr.units) (pv 2) pe_int (fun _ _ => rfl)) (pe_tup (pa_cons (pv 5) pa_nil))) pa_nil))))) pss_nil)))))) pss_nil)))))
      (pss_one (ps_ret pe_bl))))), ?_⟩
    refine ⟨_, rfl, sc, ns, rfl, hS, fun p H1 hP => ?_⟩
    refine ⟨_, rfl, p, sc, rfl, hP, fun q wq0 lo0 ss ts0 os0 H2 hq W0 fw0 tl0 nlo0 v2 b2 => ⟨q, _, rfl, .of hq, rfl, _, _, rfl, _, _, rfl, rfl, ?_⟩⟩
    have h60 := W0.web.len
    have osl0 := W0.pm.length_eq
    refine ⟨_, rfl, _, _, rfl, Or.inl ⟨_, .of W0.ord, rfl⟩, _, rfl, p, sc, 8, rfl, hP.but b2 v2, by decide, by decide, fun r3 H3 h30 h31 v3 e3 => .int ⟨_, _, rfl, ?_⟩⟩
    refine ⟨_, rfl, ?_⟩
    have hlm : (List.map V.str os0).length = os0.length := List.length_map ..
    obtain ⟨n0, hn0, hn1, hn2⟩ : ∃ n0 : Nat, (if 2 + r3 < (((List.map V.str os0).length : Nat) : Int) then 2 + r3 else (((List.map V.str os0).length : Nat) : Int)) = (n0 : Int) ∧ n0 ≤ 10 ∧ n0 ≤ os0.length := by
      split
      · exact ⟨(2 + r3).toNat, by omega, by omega, by omega⟩
      · exact ⟨os0.length, by rw [hlm], by omega, by omega⟩
    rw [hn0]
    have b3 := b2.trans (But.of_eq e3)
    have W3 := W0.but v2 (But.of_eq e3) nlo0
    refine ⟨by omega, by omega, ?_⟩
    refine for_range (fun i σ H' => ∃ (o4 o5 o6 o7 o8 o9 o10 : Option V) (wq lo : Addr) (ts : List (Str × Str)) (os : List Str), σ = [some (.ref sc), some (.ref p), some (.ref wq), some (.ref lo), o4, o5, o6, o7, o8, o9, o10] ∧ WebO H' (.ref wq) ss ts lo os ∧ Fwd os ts ∧ lo ≠ p ∧ ts.length ≤ 120 + i ∧ PenV H' p sc ∧ But p H1 H')
      ⟨none, none, none, none, none, none, none, wq0, lo0, ts0, os0, rfl, W3, fw0, nlo0, by omega, v3, b3⟩ ?_ ?_
    · rintro i σ H4 hi ⟨o4, o5, o6, o7, o8, o9, o10, wq, lo, ts, os, rfl, W4, fw, nlo, tl, v4, b4⟩
      have hi : i < n0 := by simpa using hi
      have osl := W4.pm.length_eq
      have ond : os.Nodup := W4.pm.nodup_iff.mpr W4.web.nd
      have onm : ∀ s ∈ os, Nm s := fun s hs => W4.web.nm s (W4.pm.mem_iff.mp hs)
      refine ⟨_, rfl, _, rfl, _, rfl, p, sc, wq, lo, ss, ts, os, rfl, hP.but b4 v4, W4, by omega, nlo, fun pq one other H5 hpq h1 h2 v5 b5 => ?_⟩
      have W5 := W4.but v4 b5 nlo
      have b5 := b4.trans b5
      obtain ⟨_, hp5⟩ := penAt v5
      have npq : pq ≠ p := ne_of hpq hp5 (by intro z; cases z)
      refine ⟨_, rfl, _, rfl, _, rfl, .tup (.of hpq) rfl ⟨_, rfl, .tup (.of hpq) rfl (nil_ ⟨wq, lo, ss, ts, os, one, other, rfl, W5, h1, h2, fun ring H6 s6 => ?_, fun nr q a1 b1 H6 s6 hq6 ha6 hb6 => ?_⟩)⟩⟩
      · exact ⟨_, rfl, .non ⟨_, rfl, ite2 (fun h => absurd h (by simp)) (fun _ => ⟨_, _, _, _, _, _, _, wq, lo, ts, os, rfl, W5.same s6, fw, nlo, by omega, penSame s6 v5, b5.trans (But.of_same s6)⟩)⟩⟩
      refine ⟨_, rfl, .non ⟨_, rfl, ite2 (fun _ => ?_) (fun h => absurd (by simp) h)⟩⟩
      have cnd := due_nd ond nr
      have csub := due_all (os := os) (ts := ts) (one := one) (other := other)
      have W6 := W5.same s6
      have v6 := penSame s6 v5
      have b6 := b5.trans (But.of_same (p := p) s6)
      have hpq6 := s6 _ _ hpq
      obtain ⟨_, hp6⟩ := penAt v6
      have nq : q ≠ p := ne_of hq6 hp6 (by intro z; cases z)
      have na := names_ne ha6 v6
      have nb := names_ne hb6 v6
      have all := laid_all ond fw (W4.pm.mem_iff.mpr h1) (W4.pm.mem_iff.mpr h2) nr
      refine ⟨_, rfl, _, rfl, _, rfl, nil_ ⟨p, sc, lo, q, a1, b1, os, _, _, rfl, hP.but b6 v6, W6.ord, nlo, ond, by omega, hq6, ha6, hb6, cnd, csub, fun l refs ms H7 hl rp MG mlen hl0 nl v7 b67 => ?_⟩⟩
      have gpm := laid_perm ond cnd csub
      obtain ⟨gs, egs⟩ : ∃ gs, gs = laidL os (dueB os ts one other ++ dueF os ts one other) := ⟨_, rfl⟩
      rw [← egs] at MG gpm all
      obtain ⟨MM, hset⟩ := MG.to ond gpm
      have W7 := W6.but v6 b67 nlo
      have hpq7 := b67 _ _ npq hpq6
      have hq7 := b67 _ _ nq hq6
      have ha7 := b67 _ _ na ha6
      have hb7 := b67 _ _ nb hb6
      have b7 := b6.trans b67
      refine ⟨_, rfl, _, rfl, _, rfl, nil_ ⟨p, sc, lo, l, os, refs, ms, rfl, hP.but b7 v7, W7.ord, nlo, ond, by omega, onm, hl, nl, rp, MM, fun x H8 tkx nox rdx v8 b78 => ?_⟩⟩
      obtain ⟨_, hp7⟩ := penAt v7
      have W8 := W7.but v7 b78 nlo
      have hpq8 := b78 _ _ npq hpq7
      have hq8 := b78 _ _ nq hq7
      have ha8 := b78 _ _ na ha7
      have hb8 := b78 _ _ nb hb7
      have hl8 := b78 _ _ nl hl
      have rp8 := mvBut hp7 b78 rp
      have b8 := b7.trans b78
      obtain ⟨dx, rx, sx⟩ := rdx
      clear W4 W5 W6 W7 b4 b5 b6 b7 b67 b78 v4 v5 v6 v7 hpq hpq6 hpq7 hq6 hq7 ha6 ha7 hb6 hb7 hl rp s6 W3 b3 b2 e3 v3 v2 hq hS
      have ml := MM.len
      have mnm : ∀ m ∈ ms, Nm m.1 ∧ m.2.1 < 60 ∧ m.2.2 < 60 := fun m hm => by
        have q1 := MM.at_ m hm
        have q2 := MM.lt m hm
        have q3 := (List.getElem?_eq_some_iff.mp q1).1
        exact ⟨onm _ (List.mem_of_getElem? q1), by omega, by omega⟩
      have svD : Sv (.tuple [namesD os, .list (ms.map mvD), dx]) 300009 7 := by
        refine (Sv.tuple (n := 100000) (k := 6) (m := 3) (fun d hd => ?_) (Nat.le_refl _)).mono (by decide) (by decide)
        rcases List.mem_cons.mp hd with rfl | hd
        · refine (Sv.list (n := 82) (k := 0) (m := 60) (fun d hd => ?_) (by rw [List.length_map]; omega)).mono (by decide) (by decide)
          obtain ⟨s, hs, rfl⟩ := List.mem_map.mp hd
          exact (Sw.nm (onm s hs)).sv
        · rcases List.mem_cons.mp hd with rfl | hd
          · refine (Sv.list (n := 400) (k := 2) (m := 60) (fun d hd => ?_) (by rw [List.length_map]; omega)).mono (by decide) (by decide)
            obtain ⟨m, hm, rfl⟩ := List.mem_map.mp hd
            obtain ⟨q1, q2, q3⟩ := mnm m hm
            refine (Sv.tuple (n := 100) (k := 0) (m := 3) (ds := [.str m.1, .int (m.2.1 : Nat), .int (m.2.2 : Nat)]) (fun d hd => ?_) (Nat.le_refl _)).mono (by decide) (by decide)
            rcases List.mem_cons.mp hd with rfl | hd
            · exact (Sw.nm q1).sv.mono (by decide) (Nat.le_refl _)
            · rcases List.mem_cons.mp hd with rfl | hd
              · exact (sv_int (by omega)).mono (by decide) (Nat.le_refl _)
              · rw [List.mem_singleton.mp hd]; exact (sv_int (by omega)).mono (by decide) (Nat.le_refl _)
          · rw [List.mem_singleton.mp hd]; exact sx
      have noM : ∀ ms : List (Str × Nat × Nat), PyData.hasDictAll (ms.map mvD) = false := by
        intro ms
        induction ms with
        | nil => rfl
        | cons m r ih =>
          show (PyData.hasDict (mvD m) || PyData.hasDictAll (r.map mvD)) = false
          rw [ih]; rfl
      have noN : ∀ os : List Str, PyData.hasDictAll (os.map PyData.str) = false := by
        intro os
        induction os with
        | nil => rfl
        | cons m r ih =>
          show (PyData.hasDict (.str m) || PyData.hasDictAll (r.map PyData.str)) = false
          rw [ih]; rfl
      have rpT : ∀ H', Same H8 H' → RpDs H' [V.ref lo, V.ref l, x] [namesD os, .list (ms.map mvD), dx] := fun H' s' => .cons (.tr (names_rep (s' _ _ W8.ord)) (noN os)) (.cons (.tr (.lst (s' _ _ hl8) (rp8.same s')) (noM ms)) (.cons (rx.same (Mp.of.trans s')) .nil))
      obtain ⟨S, hS⟩ : ∃ S, S = (PyData.tuple [namesD os, .list (ms.map mvD), dx]).shown := ⟨_, rfl⟩
      refine ⟨_, rfl, by decide, by decide, ?_⟩
      refine for_range (fun i2 σ H' => ∃ (o9 o10 : Option V), σ = [some (.ref sc), some (.ref p), some (.ref wq), some (.ref lo), some (.int (0 + (i : Nat) : Int)), some (.ref pq), some (.ref q), some (.ref l), some x, o9, o10] ∧ Same H8 H') ⟨_, _, rfl, Same.refl H8⟩ ?_ ?_
      · rintro i2 σ H9 hi2 ⟨o9, o10, rfl, s9⟩
        refine ⟨_, rfl, _, rfl, _, rfl, (by show 3 ≤ sizeLine; decide), fun tq htq => ?_⟩
        have nA := Same.new (o := .tup [V.ref lo, V.ref l, x]) htq
        have eA : upd H9 tq (.tup [V.ref lo, V.ref l, x]) tq = some (.tup [V.ref lo, V.ref l, x]) := upd_same
        have sA := s9.trans nA
        generalize upd H9 tq (.tup [V.ref lo, V.ref l, x]) = HA at eA sA ⊢
        refine nil_ ⟨tq, _, rfl, Or.inr ⟨_, _, eA, rpT HA sA, rfl⟩, svD.sb, Nat.le_trans svD.dp (by decide), Nat.le_trans svD.ln (by decide), ?_⟩
        rw [← hS]
        have hpqA := sA _ _ hpq8
        refine ⟨_, rfl, _, rfl, _, rfl, .tup (.of hpqA) rfl ⟨_, rfl, .tup (.of hpqA) rfl ⟨_, rfl, nil_ (Or.inl ⟨wq, lo, l, refs, ss, ts, os, gs, one, other, ms, rfl, W8.same sA, h1, h2, sA _ _ hl8, rp8.same sA, MM, hset, gpm, fun HB sB => ?_⟩)⟩⟩⟩
        rw [letB_of all]
        refine .bl ⟨_, rfl, iteF ?_⟩
        have s8B := sA.trans sB
        have hpqB := s8B _ _ hpq8
        have tkB := tkx.same (Mp.of.trans s8B)
        refine ⟨_, rfl, _, rfl, _, rfl, .tup (.of hpqB) rfl ⟨_, rfl, .tup (.of hpqB) rfl ⟨_, rfl, nil_ (Or.inr ⟨_, _, _, x, lo, os, rfl, s8B _ _ W8.ord, ond, by omega, onm, tkB, fun z => nox (areOk_back tkx (Mp.of.trans s8B) z), fun HC sC => ?_⟩)⟩⟩⟩
        refine .bl ⟨_, rfl, iteF ?_⟩
        have s8C := s8B.trans sC
        have hpqC := s8C _ _ hpq8
        refine ⟨_, rfl, _, rfl, _, rfl, .tup (.of hpqC) rfl ⟨_, rfl, .tup (.of hpqC) rfl ⟨_, rfl, nil_ (Or.inl ⟨wq, lo, l, refs, ss, ts, os, gs, other, one, ms, rfl, W8.same s8C, h2, h1, s8C _ _ hl8, rp8.same s8C, MM, hset, gpm, fun HD sD => ?_⟩)⟩⟩⟩
        rw [letB_not (all (one, other) (List.mem_append_right _ (List.mem_singleton.mpr rfl)))]
        refine .bl ⟨_, rfl, iteF ?_⟩
        have s8D := s8C.trans sD
        refine ⟨_, rfl, _, rfl, _, rfl, (by show 3 ≤ sizeLine; decide), fun tz htz => ?_⟩
        have nE := Same.new (o := .tup [V.ref lo, V.ref l, x]) htz
        have eE : upd HD tz (.tup [V.ref lo, V.ref l, x]) tz = some (.tup [V.ref lo, V.ref l, x]) := upd_same
        have sE := s8D.trans nE
        generalize upd HD tz (.tup [V.ref lo, V.ref l, x]) = HE at eE sE ⊢
        refine nil_ ⟨tz, _, rfl, Or.inr ⟨_, _, eE, rpT HE sE, rfl⟩, svD.sb, Nat.le_trans svD.dp (by decide), Nat.le_trans svD.ln (by decide), ?_⟩
        rw [← hS]
        refine ⟨_, rfl, .sc rfl ⟨_, rfl, ite2 (fun h => absurd h (by simp)) (fun _ => ?_)⟩⟩
        exact ⟨_, _, rfl, sE⟩
      rintro σ H9 ⟨o9, o10, rfl, s9⟩
      have v9 := penSame s9 v8
      have b9 := b8.trans (But.of_same (p := p) s9)
      have W9 := W8.same s9
      refine ⟨_, rfl, _, rfl, nil_ ⟨lo, q, a1, b1, os, _, _, rfl, W9.ord, ond, by omega, s9 _ _ hq8, s9 _ _ ha8, s9 _ _ hb8, cnd, csub, fun lg HA sA hlg0 hlg => ?_⟩⟩
      rw [← egs] at hlg
      obtain ⟨_, hp9⟩ := penAt v9
      have nlg : lg ≠ p := Ne.symm (ne_of_none hp9 hlg0)
      have vA := penSame sA v9
      have bA := b9.trans (But.of_same (p := p) sA)
      have WA := W9.same sA
      have hpqA := sA _ _ (s9 _ _ hpq8)
      have tnm : ∀ e ∈ ts, Nm e.1 ∧ Nm e.2 := fun e he => ⟨WA.web.nm _ (WA.web.inn e he).1, WA.web.nm _ (WA.web.inn e he).2⟩
      obtain ⟨wq', wa, wb, xs, e, hwq, hwa, hwb, wrp⟩ := web_at WA.web.rep
      cases e
      have xl := wrp.len
      rw [List.length_map] at xl
      have gmem : ∀ s ∈ ss, s ∈ gs := fun s hs => gpm.mem_iff.mpr (WA.pm.mem_iff.mpr hs)
      have done : ∀ (H' : Hp) (wn : Addr) (tn : List (Str × Str)) (o9 o10 : Option V), Same HA H' → Web H' (.ref wn) ss tn → tn.Nodup → (∀ e ∈ tn, e ∈ ts ++ [(one, other)]) → tn.length ≤ ts.length + 1 → ∃ (u4 u5 u6 u7 u8 u9 u10 : Option V) (wq lo : Addr) (ts : List (Str × Str)) (os : List Str), [some (V.ref sc), some (V.ref p), some (V.ref wn), some (V.ref lg), some (V.int (0 + (i : Nat) : Int)), some (V.ref pq), some (V.ref q), some (V.ref l), some x, o9, o10] = [some (.ref sc), some (.ref p), some (.ref wq), some (.ref lo), u4, u5, u6, u7, u8, u9, u10] ∧ WebO H' (.ref wq) ss ts lo os ∧ Fwd os ts ∧ lo ≠ p ∧ ts.length ≤ 120 + (i + 1) ∧ PenV H' p sc ∧ But p H1 H' := fun H' wn tn o9 o10 s' Wn tnd tsub tnl =>
        ⟨_, _, _, _, _, _, _, wn, lg, tn, gs, rfl, ⟨Wn, tnd, s' _ _ hlg, gpm.trans WA.pm⟩, fwd_of (fun e he => ⟨gmem _ (Wn.inn e he).1, gmem _ (Wn.inn e he).2⟩) (fun e he => all e (tsub e he)), nlg, by omega, penSame s' vA, bA.trans (But.of_same s')⟩
      refine ⟨_, rfl, _, rfl, .tup (.of hwq) rfl ⟨wb, xs, _, _, rfl, hwb, wrp, pair_rep (s := one) (t := other) hpqA, canLay_pairs ts tnm, canLay_pr (WA.web.nm _ h1) (WA.web.nm _ h2), (by show 1 ≤ 16; decide), _, rfl, ?_⟩⟩
      rw [any_pair]
      refine ite2 (fun hnin => ?_) (fun _ => done HA wq ts _ _ (Same.refl _) WA.web WA.tnd (fun e he => List.mem_append_left _ he) (by omega))
      have hnin : (one, other) ∉ ts := by simpa using hnin
      have nd' : (ts ++ [(one, other)]).Nodup := (List.perm_append_singleton (one, other) ts).nodup_iff.mpr (List.nodup_cons.mpr ⟨hnin, WA.tnd⟩)
      have ll : (ts ++ [(one, other)]).length = ts.length + 1 := by rw [List.length_append]; rfl
      refine ⟨_, rfl, .tup (.of hwq) rfl ⟨_, rfl, .seq (.inr (.of hwa)) fun lt hlt => ?_⟩⟩
      have sB := Same.new (o := .lst (List.map V.str ss)) hlt
      have hltB : upd HA lt (.lst (List.map V.str ss)) lt = some (.lst (List.map V.str ss)) := upd_same
      generalize upd HA lt (.lst (List.map V.str ss)) = HB at sB hltB ⊢
      refine ⟨_, rfl, .tup (.of (sB _ _ hwq)) rfl ⟨_, rfl, (by show 1 ≤ sizeLine; decide), fun tq htq => ?_⟩⟩
      have sC := Same.new (o := .tup [V.ref pq]) htq
      have htqC : upd HB tq (.tup [V.ref pq]) tq = some (.tup [V.ref pq]) := upd_same
      generalize upd HB tq (.tup [V.ref pq]) = HC at sC htqC ⊢
      have sAC := sB.trans sC
      have fin : ∀ (tt : Addr) (rfs : List V) (HD : Hp) (Qx : VK), Same HC HD → HD tt = some (.tup rfs) → RepAll HD rfs ((ts ++ [(one, other)]).map pairD) → (∀ wn HE, Web HE (.ref wn) ss (ts ++ [(one, other)]) → Same HA HE → Qx (.ref wn) HE) → spWebOf [.ref lt, .ref tt] HD Qx E0 := fun tt rfs HD Qx sD htt rpD kx => by
        have inn' : ∀ e ∈ ts ++ [(one, other)], e.1 ∈ ss ∧ e.2 ∈ ss := fun e he => by
          rcases List.mem_append.mp he with g | g
          · exact WA.web.inn e g
          · rw [List.mem_singleton.mp g]; exact ⟨h1, h2⟩
        refine ⟨lt, tt, ss, ts ++ [(one, other)], rfs, rfl, .inl (sD _ _ (sC _ _ hltB)), h60, WA.web.nd, WA.web.nm, .inr htt, rpD, by omega, nd', inn', fun wn HE sE rE => ?_⟩
        exact kx wn HE ⟨rE, WA.web.nd, WA.web.nm, h60, by omega, inn'⟩ ((sAC.trans sD).trans sE)
      have hwbC := sAC _ _ hwb
      have rpC := wrp.same sAC
      have hpqC := sAC _ _ hpqA
      refine ⟨wb, tq, xs, [V.ref pq], rfl, rfl, .of hwbC, .of htqC, (by show xs.length + 1 ≤ sizeLine; exact Nat.le_of_lt (small1000 (by omega))), fun hx => ?_, fun _ h => absurd h (by simp), fun hx _ tt htt => ?_⟩
      · have ets : ts = [] := List.length_eq_zero_iff.mp (by rw [← xl, hx]; rfl)
        refine nil_ (fin tq [V.ref pq] HC _ (Same.refl HC) htqC (by rw [ets]; exact .cons (pair_rep hpqC) .nil) ?_)
        intro wn HE Wn sE
        exact done HE wn _ _ _ sE Wn nd' (fun e he => he) (by omega)
      · have sD := Same.new (o := .tup (xs ++ [V.ref pq])) htt
        refine nil_ (fin tt (xs ++ [V.ref pq]) _ _ sD upd_same ?_ ?_)
        · rw [List.map_append]
          exact RepAll.append (rpC.same sD) (.cons (pair_rep (sD _ _ hpqC)) .nil)
        · intro wn HE Wn sE
          exact done HE wn _ _ _ sE Wn nd' (fun e he => he) (by omega)
    · rintro σ H4 ⟨o4, o5, o6, o7, o8, o9, o10, wq, lo, ts, os, rfl, W4, _, _, _, v4, b4⟩
      exact k H4
end
end K31
namespace K31
open PySem L2
section
variable {P : Program} {w : World} {K : PySem.W.Frag} {mg : Str → Option Value} {base : Heap}
theorem ar1 {us : List Value} (h : us.length = 1) : ∃ a, us = [a] := List.length_eq_one_iff.mp h
theorem ar2 {us : List Value} (h : us.length = 2) : ∃ a1 a2, us = [a1, a2] := by
  obtain ⟨a1, t, rfl⟩ := List.exists_cons_of_length_eq_add_one h
  obtain ⟨a2, rfl⟩ := ar1 (Nat.succ.inj h)
  exact ⟨a1, a2, rfl⟩
theorem ar3 {us : List Value} (h : us.length = 3) : ∃ a1 a2 a3, us = [a1, a2, a3] := by
  obtain ⟨a1, t, rfl⟩ := List.exists_cons_of_length_eq_add_one h
  obtain ⟨a2, a3, rfl⟩ := ar2 (Nat.succ.inj h)
  exact ⟨a1, a2, a3, rfl⟩
theorem ar4 {us : List Value} (h : us.length = 4) : ∃ a1 a2 a3 a4, us = [a1, a2, a3, a4] := by
  obtain ⟨a1, t, rfl⟩ := List.exists_cons_of_length_eq_add_one h
  obtain ⟨a2, a3, a4, rfl⟩ := ar3 (Nat.succ.inj h)
  exact ⟨a1, a2, a3, a4, rfl⟩
theorem ar5 {us : List Value} (h : us.length = 5) : ∃ a1 a2 a3 a4 a5, us = [a1, a2, a3, a4, a5] := by
  obtain ⟨a1, t, rfl⟩ := List.exists_cons_of_length_eq_add_one h
  obtain ⟨a2, a3, a4, a5, rfl⟩ := ar4 (Nat.succ.inj h)
  exact ⟨a1, a2, a3, a4, a5, rfl⟩
theorem all_mk {l : PySem.W.OpenLaw} {w : World} {K : PySem.W.Frag} {h : Heap} {mg : Str → Option Value} {fa f1 f2 f3 f4 f5 f6 f7 f8 f9 f10 f11 f12 f13 f14 f15 f16 f17 f18 f19 f20 f21 f22 f23 f24 f25 f26 f27 : Addr} (X : K.In h) (G : h.Ns mainGlobals mg) (hfa : mg "law" = some (.ref fa))
    {od1 an1 od2 an2 od3 an3 od4 an4 od5 an5 od6 an6 od7 an7 od8 an8 od9 an9 od10 an10 od11 an11 od12 an12 od13 an13 od14 an14 od15 an15 od16 an16 od17 an17 od18 an18 od19 an19 od20 an20 od21 an21 od22 an22 od23 an23 od24 an24 od25 an25 od26 an26 od27 an27 : Option Addr} {sl1 sl2 sl3 sl4 sl5 sl6 sl7 sl8 sl9 sl10 sl11 sl12 sl13 sl14 sl15 sl16 sl17 sl18 sl19 sl20 sl21 sl22 sl23 sl24 sl25 sl26 sl27 : Array (Option Value)} {oc1 kV1 dc1 pm1 cd1 ct1 oc2 kV2 dc2 pm2 cd2 ct2 oc3 kV3 dc3 pm3 cd3 ct3 oc4 kV4 dc4 pm4 cd4 ct4 oc5 kV5 dc5 pm5 cd5 ct5 oc6 kV6 dc6 pm6 cd6 ct6 oc7 kV7 dc7 pm7 cd7 ct7 oc8 kV8 dc8 pm8 cd8 ct8 oc9 kV9 dc9 pm9 cd9 ct9 oc10 kV10 dc10 pm10 cd10 ct10 oc11 kV11 dc11 pm11 cd11 ct11 oc12 kV12 dc12 pm12 cd12 ct12 oc13 kV13 dc13 pm13 cd13 ct13 oc14 kV14 dc14 pm14 cd14 ct14 oc15 kV15 dc15 pm15 cd15 ct15 oc16 kV16 dc16 pm16 cd16 ct16 oc17 kV17 dc17 pm17 cd17 ct17 oc18 kV18 dc18 pm18 cd18 ct18 oc19 kV19 dc19 pm19 cd19 ct19 oc20 kV20 dc20 pm20 cd20 ct20 oc21 kV21 dc21 pm21 cd21 ct21 oc22 kV22 dc22 pm22 cd22 ct22 oc23 kV23 dc23 pm23 cd23 ct23 oc24 kV24 dc24 pm24 cd24 ct24 oc25 kV25 dc25 pm25 cd25 ct25 oc26 kV26 dc26 pm26 cd26 ct26 oc27 kV27 dc27 pm27 cd27 ct27 : Value}
    (a1 : PySem.W.nsIn K mainGlobals "is_name" = some (some (.ref f1))) (l1 : K.lookup f1 = some ⟨oc1, od1, .func (PySem.W.fnOf "is_name" "is_name" (defArgs sIsName) (defBody sIsName) (defScope sIsName) .none kV1 dc1 pm1 an1 cd1 ct1), sl1⟩) (c1 : PySem.W.codeIn K cd1 "is_name" = true) (k1 : PySem.W.keepIn K (.ref f1) = true)
    (a2 : PySem.W.nsIn K mainGlobals "is_whole" = some (some (.ref f2))) (l2 : K.lookup f2 = some ⟨oc2, od2, .func (PySem.W.fnOf "is_whole" "is_whole" (defArgs sIsWhole) (defBody sIsWhole) (defScope sIsWhole) .none kV2 dc2 pm2 an2 cd2 ct2), sl2⟩) (c2 : PySem.W.codeIn K cd2 "is_whole" = true) (k2 : PySem.W.keepIn K (.ref f2) = true)
    (a3 : PySem.W.nsIn K mainGlobals "web_of" = some (some (.ref f3))) (l3 : K.lookup f3 = some ⟨oc3, od3, .func (PySem.W.fnOf "web_of" "web_of" (defArgs sWebOf) (defBody sWebOf) (defScope sWebOf) .none kV3 dc3 pm3 an3 cd3 ct3), sl3⟩) (c3 : PySem.W.codeIn K cd3 "web_of" = true) (k3 : PySem.W.keepIn K (.ref f3) = true)
    (a4 : PySem.W.nsIn K mainGlobals "places_of" = some (some (.ref f4))) (l4 : K.lookup f4 = some ⟨oc4, od4, .func (PySem.W.fnOf "places_of" "places_of" (defArgs sPlaces) (defBody sPlaces) (defScope sPlaces) .none kV4 dc4 pm4 an4 cd4 ct4), sl4⟩) (c4 : PySem.W.codeIn K cd4 "places_of" = true) (k4 : PySem.W.keepIn K (.ref f4) = true)
    (a5 : PySem.W.nsIn K mainGlobals "are_things" = some (some (.ref f5))) (l5 : K.lookup f5 = some ⟨oc5, od5, .func (PySem.W.fnOf "are_things" "are_things" (defArgs sAreThings) (defBody sAreThings) (defScope sAreThings) .none kV5 dc5 pm5 an5 cd5 ct5), sl5⟩) (c5 : PySem.W.codeIn K cd5 "are_things" = true) (k5 : PySem.W.keepIn K (.ref f5) = true)
    (a6 : PySem.W.nsIn K mainGlobals "are_unlike_names" = some (some (.ref f6))) (l6 : K.lookup f6 = some ⟨oc6, od6, .func (PySem.W.fnOf "are_unlike_names" "are_unlike_names" (defArgs sUNm) (defBody sUNm) (defScope sUNm) .none kV6 dc6 pm6 an6 cd6 ct6), sl6⟩) (c6 : PySem.W.codeIn K cd6 "are_unlike_names" = true) (k6 : PySem.W.keepIn K (.ref f6) = true)
    (a7 : PySem.W.nsIn K mainGlobals "are_unlike" = some (some (.ref f7))) (l7 : K.lookup f7 = some ⟨oc7, od7, .func (PySem.W.fnOf "are_unlike" "are_unlike" (defArgs sUnlike) (defBody sUnlike) (defScope sUnlike) .none kV7 dc7 pm7 an7 cd7 ct7), sl7⟩) (c7 : PySem.W.codeIn K cd7 "are_unlike" = true) (k7 : PySem.W.keepIn K (.ref f7) = true)
    (a8 : PySem.W.nsIn K mainGlobals "first_wrong_tie" = some (some (.ref f8))) (l8 : K.lookup f8 = some ⟨oc8, od8, .func (PySem.W.fnOf "first_wrong_tie" "first_wrong_tie" (defArgs sWrong) (defBody sWrong) (defScope sWrong) .none kV8 dc8 pm8 an8 cd8 ct8), sl8⟩) (c8 : PySem.W.codeIn K cd8 "first_wrong_tie" = true) (k8 : PySem.W.keepIn K (.ref f8) = true)
    (a9 : PySem.W.nsIn K mainGlobals "is_tie_among" = some (some (.ref f9))) (l9 : K.lookup f9 = some ⟨oc9, od9, .func (PySem.W.fnOf "is_tie_among" "is_tie_among" (defArgs sAmong) (defBody sAmong) (defScope sAmong) .none kV9 dc9 pm9 an9 cd9 ct9), sl9⟩) (c9 : PySem.W.codeIn K cd9 "is_tie_among" = true) (k9 : PySem.W.keepIn K (.ref f9) = true)
    (a10 : PySem.W.nsIn K mainGlobals "lets_moves" = some (some (.ref f10))) (l10 : K.lookup f10 = some ⟨oc10, od10, .func (PySem.W.fnOf "lets_moves" "lets_moves" (defArgs sLets) (defBody sLets) (defScope sLets) .none kV10 dc10 pm10 an10 cd10 ct10), sl10⟩) (c10 : PySem.W.codeIn K cd10 "lets_moves" = true) (k10 : PySem.W.keepIn K (.ref f10) = true)
    (a11 : PySem.W.nsIn K mainGlobals "moved" = some (some (.ref f11))) (l11 : K.lookup f11 = some ⟨oc11, od11, .func (PySem.W.fnOf "moved" "moved" (defArgs sMoved) (defBody sMoved) (defScope sMoved) .none kV11 dc11 pm11 an11 cd11 ct11), sl11⟩) (c11 : PySem.W.codeIn K cd11 "moved" = true) (k11 : PySem.W.keepIn K (.ref f11) = true)
    (a12 : PySem.W.nsIn K mainGlobals "are_moves" = some (some (.ref f12))) (l12 : K.lookup f12 = some ⟨oc12, od12, .func (PySem.W.fnOf "are_moves" "are_moves" (defArgs sAreMoves) (defBody sAreMoves) (defScope sAreMoves) .none kV12 dc12 pm12 an12 cd12 ct12), sl12⟩) (c12 : PySem.W.codeIn K cd12 "are_moves" = true) (k12 : PySem.W.keepIn K (.ref f12) = true)
    (a13 : PySem.W.nsIn K mainGlobals "is_move" = some (some (.ref f13))) (l13 : K.lookup f13 = some ⟨oc13, od13, .func (PySem.W.fnOf "is_move" "is_move" (defArgs sIsMove) (defBody sIsMove) (defScope sIsMove) .none kV13 dc13 pm13 an13 cd13 ct13), sl13⟩) (c13 : PySem.W.codeIn K cd13 "is_move" = true) (k13 : PySem.W.keepIn K (.ref f13) = true)
    (a14 : PySem.W.nsIn K mainGlobals "_law_pen" = some (some (.ref f14))) (l14 : K.lookup f14 = some ⟨oc14, od14, .func (PySem.W.fnOf "_law_pen" "_law_pen" (defArgs sPen) (defBody sPen) (defScope sPen) .none kV14 dc14 pm14 an14 cd14 ct14), sl14⟩) (c14 : PySem.W.codeIn K cd14 "_law_pen" = true) (k14 : PySem.W.keepIn K (.ref f14) = true)
    (a15 : PySem.W.nsIn K mainGlobals "_law_draw" = some (some (.ref f15))) (l15 : K.lookup f15 = some ⟨oc15, od15, .func (PySem.W.fnOf "_law_draw" "_law_draw" (defArgs sDraw) (defBody sDraw) (defScope sDraw) .none kV15 dc15 pm15 an15 cd15 ct15), sl15⟩) (c15 : PySem.W.codeIn K cd15 "_law_draw" = true) (k15 : PySem.W.keepIn K (.ref f15) = true)
    (a16 : PySem.W.nsIn K mainGlobals "_law_names" = some (some (.ref f16))) (l16 : K.lookup f16 = some ⟨oc16, od16, .func (PySem.W.fnOf "_law_names" "_law_names" (defArgs sNames) (defBody sNames) (defScope sNames) .none kV16 dc16 pm16 an16 cd16 ct16), sl16⟩) (c16 : PySem.W.codeIn K cd16 "_law_names" = true) (k16 : PySem.W.keepIn K (.ref f16) = true)
    (a17 : PySem.W.nsIn K mainGlobals "_law_turned" = some (some (.ref f17))) (l17 : K.lookup f17 = some ⟨oc17, od17, .func (PySem.W.fnOf "_law_turned" "_law_turned" (defArgs sTurned) (defBody sTurned) (defScope sTurned) .none kV17 dc17 pm17 an17 cd17 ct17), sl17⟩) (c17 : PySem.W.codeIn K cd17 "_law_turned" = true) (k17 : PySem.W.keepIn K (.ref f17) = true)
    (a18 : PySem.W.nsIn K mainGlobals "_law_web" = some (some (.ref f18))) (l18 : K.lookup f18 = some ⟨oc18, od18, .func (PySem.W.fnOf "_law_web" "_law_web" (defArgs sWeb) (defBody sWeb) (defScope sWeb) .none kV18 dc18 pm18 an18 cd18 ct18), sl18⟩) (c18 : PySem.W.codeIn K cd18 "_law_web" = true) (k18 : PySem.W.keepIn K (.ref f18) = true)
    (a19 : PySem.W.nsIn K mainGlobals "_law_reached" = some (some (.ref f19))) (l19 : K.lookup f19 = some ⟨oc19, od19, .func (PySem.W.fnOf "_law_reached" "_law_reached" (defArgs sReached) (defBody sReached) (defScope sReached) .none kV19 dc19 pm19 an19 cd19 ct19), sl19⟩) (c19 : PySem.W.codeIn K cd19 "_law_reached" = true) (k19 : PySem.W.keepIn K (.ref f19) = true)
    (a20 : PySem.W.nsIn K mainGlobals "_law_pair" = some (some (.ref f20))) (l20 : K.lookup f20 = some ⟨oc20, od20, .func (PySem.W.fnOf "_law_pair" "_law_pair" (defArgs sPair) (defBody sPair) (defScope sPair) .none kV20 dc20 pm20 an20 cd20 ct20), sl20⟩) (c20 : PySem.W.codeIn K cd20 "_law_pair" = true) (k20 : PySem.W.keepIn K (.ref f20) = true)
    (a21 : PySem.W.nsIn K mainGlobals "_law_due" = some (some (.ref f21))) (l21 : K.lookup f21 = some ⟨oc21, od21, .func (PySem.W.fnOf "_law_due" "_law_due" (defArgs sDue) (defBody sDue) (defScope sDue) .none kV21 dc21 pm21 an21 cd21 ct21), sl21⟩) (c21 : PySem.W.codeIn K cd21 "_law_due" = true) (k21 : PySem.W.keepIn K (.ref f21) = true)
    (a22 : PySem.W.nsIn K mainGlobals "_law_laid" = some (some (.ref f22))) (l22 : K.lookup f22 = some ⟨oc22, od22, .func (PySem.W.fnOf "_law_laid" "_law_laid" (defArgs sLaid) (defBody sLaid) (defScope sLaid) .none kV22 dc22 pm22 an22 cd22 ct22), sl22⟩) (c22 : PySem.W.codeIn K cd22 "_law_laid" = true) (k22 : PySem.W.keepIn K (.ref f22) = true)
    (a23 : PySem.W.nsIn K mainGlobals "_law_moves" = some (some (.ref f23))) (l23 : K.lookup f23 = some ⟨oc23, od23, .func (PySem.W.fnOf "_law_moves" "_law_moves" (defArgs sLMoves) (defBody sLMoves) (defScope sLMoves) .none kV23 dc23 pm23 an23 cd23 ct23), sl23⟩) (c23 : PySem.W.codeIn K cd23 "_law_moves" = true) (k23 : PySem.W.keepIn K (.ref f23) = true)
    (a24 : PySem.W.nsIn K mainGlobals "_law_odd" = some (some (.ref f24))) (l24 : K.lookup f24 = some ⟨oc24, od24, .func (PySem.W.fnOf "_law_odd" "_law_odd" (defArgs sOdd) (defBody sOdd) (defScope sOdd) .none kV24 dc24 pm24 an24 cd24 ct24), sl24⟩) (c24 : PySem.W.codeIn K cd24 "_law_odd" = true) (k24 : PySem.W.keepIn K (.ref f24) = true)
    (a25 : PySem.W.nsIn K mainGlobals "_law_bent_move" = some (some (.ref f25))) (l25 : K.lookup f25 = some ⟨oc25, od25, .func (PySem.W.fnOf "_law_bent_move" "_law_bent_move" (defArgs sBentMove) (defBody sBentMove) (defScope sBentMove) .none kV25 dc25 pm25 an25 cd25 ct25), sl25⟩) (c25 : PySem.W.codeIn K cd25 "_law_bent_move" = true) (k25 : PySem.W.keepIn K (.ref f25) = true)
    (a26 : PySem.W.nsIn K mainGlobals "_law_bent" = some (some (.ref f26))) (l26 : K.lookup f26 = some ⟨oc26, od26, .func (PySem.W.fnOf "_law_bent" "_law_bent" (defArgs sBent) (defBody sBent) (defScope sBent) .none kV26 dc26 pm26 an26 cd26 ct26), sl26⟩) (c26 : PySem.W.codeIn K cd26 "_law_bent" = true) (k26 : PySem.W.keepIn K (.ref f26) = true)
    (a27 : PySem.W.nsIn K mainGlobals "law" = some (some (.ref f27))) (l27 : K.lookup f27 = some ⟨oc27, od27, .func (PySem.W.fnOf "law" "law" (defArgs sLaw) (defBody sLaw) (defScope sLaw) .none kV27 dc27 pm27 an27 cd27 ct27), sl27⟩) (c27 : PySem.W.codeIn K cd27 "law" = true) (k27 : PySem.W.keepIn K (.ref f27) = true)
    (z1 : PySem.W.nsIn K mainGlobals "len" = some none) (z2 : PySem.W.nsIn K mainGlobals "range" = some none) (z3 : PySem.W.nsIn K mainGlobals "abs" = some none) (z4 : PySem.W.nsIn K mainGlobals "all" = some none) (z5 : PySem.W.nsIn K mainGlobals "repr" = some none) (z6 : PySem.W.nsIn K mainGlobals "isinstance" = some none) (z7 : PySem.W.nsIn K mainGlobals "str" = some none) (z8 : PySem.W.nsIn K mainGlobals "int" = some none) (z9 : PySem.W.nsIn K mainGlobals "bool" = some none) (z10 : PySem.W.nsIn K mainGlobals "enumerate" = some none) (z11 : PySem.W.nsIn K mainGlobals "list" = some none) (z12 : PySem.W.nsIn K mainGlobals "tuple" = some none) (z13 : PySem.W.nsIn K mainGlobals "dict" = some none) (z14 : PySem.W.nsIn K mainGlobals "min" = some none) (z15 : PySem.W.nsIn K mainGlobals "max" = some none) (z16 : PySem.W.nsIn K mainGlobals "sorted" = some none) (z17 : PySem.W.nsIn K mainGlobals "zip" = some none)
    {tk1 : Tok} (y1 : PySem.W.nsIn K mainGlobals "MOST_SIGNS" = some (some (.int 8 tk1)))
    {tk2 : Tok} (y2 : PySem.W.nsIn K mainGlobals "MOST_THINGS" = some (some (.int 60 tk2)))
    {tk3 : Tok} (y3 : PySem.W.nsIn K mainGlobals "MOST_TIES" = some (some (.int 400 tk3)))
    : ∃ fd : FuncData, (∀ (s : Shared) (v : Value), BindsTo s fd ⟨[v], []⟩ [("_law_script", v)]) ∧ ∀ base : Heap, K.In base → base.Ns mainGlobals mg → FnOk l.prog w K mg base CX0 7 fa fd ["_law_script"] (spLaw K) := by
  have e := hfa.symm.trans (PySem.W.mg_of X G a27)
  cases e
  have B : Blt mg := ⟨PySem.W.mg_none_of X G z1, PySem.W.mg_none_of X G z2, PySem.W.mg_none_of X G z3, PySem.W.mg_none_of X G z4, PySem.W.mg_none_of X G z5, PySem.W.mg_none_of X G z6, PySem.W.mg_none_of X G z7, PySem.W.mg_none_of X G z8, PySem.W.mg_none_of X G z9, PySem.W.mg_none_of X G z10, PySem.W.mg_none_of X G z11, PySem.W.mg_none_of X G z12, PySem.W.mg_none_of X G z13, PySem.W.mg_none_of X G z14, PySem.W.mg_none_of X G z15⟩
  have Zsorted := PySem.W.mg_none_of X G z16
  have Zzip := PySem.W.mg_none_of X G z17
  have TMOST_SIGNS := PySem.W.mg_of X G y1
  have TMOST_THINGS := PySem.W.mg_of X G y2
  have TMOST_TIES := PySem.W.mg_of X G y3
  have F1 := fun_mk (st := sIsName) l1 c1 k1
  have F2 := fun_mk (st := sIsWhole) l2 c2 k2
  have F3 := fun_mk (st := sWebOf) l3 c3 k3
  have F4 := fun_mk (st := sPlaces) l4 c4 k4
  have F5 := fun_mk (st := sAreThings) l5 c5 k5
  have F6 := fun_mk (st := sUNm) l6 c6 k6
  have F7 := fun_mk (st := sUnlike) l7 c7 k7
  have F8 := fun_mk (st := sWrong) l8 c8 k8
  have F9 := fun_mk (st := sAmong) l9 c9 k9
  have F10 := fun_mk (st := sLets) l10 c10 k10
  have F11 := fun_mk (st := sMoved) l11 c11 k11
  have F12 := fun_mk (st := sAreMoves) l12 c12 k12
  have F13 := fun_mk (st := sIsMove) l13 c13 k13
  have F14 := fun_mk (st := sPen) l14 c14 k14
  have F15 := fun_mk (st := sDraw) l15 c15 k15
  have F16 := fun_mk (st := sNames) l16 c16 k16
  have F17 := fun_mk (st := sTurned) l17 c17 k17
  have F18 := fun_mk (st := sWeb) l18 c18 k18
  have F19 := fun_mk (st := sReached) l19 c19 k19
  have F20 := fun_mk (st := sPair) l20 c20 k20
  have F21 := fun_mk (st := sDue) l21 c21 k21
  have F22 := fun_mk (st := sLaid) l22 c22 k22
  have F23 := fun_mk (st := sLMoves) l23 c23 k23
  have F24 := fun_mk (st := sOdd) l24 c24 k24
  have F25 := fun_mk (st := sBentMove) l25 c25 k25
  have F26 := fun_mk (st := sBent) l26 c26 k26
  have F27 := fun_mk (st := sLaw) l27 c27 k27
  have b1 := F1.binds (ps := ["thing"]) fun _ _ _ _ _ _ us hl => by obtain ⟨_, rfl⟩ := ar1 hl; rfl
  have b2 := F2.binds (ps := ["thing"]) fun _ _ _ _ _ _ us hl => by obtain ⟨_, rfl⟩ := ar1 hl; rfl
  have b3 := F3.binds (ps := ["things", "ties"]) fun _ _ _ _ _ _ us hl => by obtain ⟨_, _, rfl⟩ := ar2 hl; rfl
  have b4 := F4.binds (ps := ["things"]) fun _ _ _ _ _ _ us hl => by obtain ⟨_, rfl⟩ := ar1 hl; rfl
  have b5 := F5.binds (ps := ["things"]) fun _ _ _ _ _ _ us hl => by obtain ⟨_, rfl⟩ := ar1 hl; rfl
  have b6 := F6.binds (ps := ["things"]) fun _ _ _ _ _ _ us hl => by obtain ⟨_, rfl⟩ := ar1 hl; rfl
  have b7 := F7.binds (ps := ["things"]) fun _ _ _ _ _ _ us hl => by obtain ⟨_, rfl⟩ := ar1 hl; rfl
  have b8 := F8.binds (ps := ["things", "ties"]) fun _ _ _ _ _ _ us hl => by obtain ⟨_, _, rfl⟩ := ar2 hl; rfl
  have b9 := F9.binds (ps := ["places", "tie"]) fun _ _ _ _ _ _ us hl => by obtain ⟨_, _, rfl⟩ := ar2 hl; rfl
  have b10 := F10.binds (ps := ["web", "order", "one", "other", "told"]) fun _ _ _ _ _ _ us hl => by obtain ⟨_, _, _, _, _, rfl⟩ := ar5 hl; rfl
  have b11 := F11.binds (ps := ["order", "moves"]) fun _ _ _ _ _ _ us hl => by obtain ⟨_, _, rfl⟩ := ar2 hl; rfl
  have b12 := F12.binds (ps := ["order", "told"]) fun _ _ _ _ _ _ us hl => by obtain ⟨_, _, rfl⟩ := ar2 hl; rfl
  have b13 := F13.binds (ps := ["places", "move"]) fun _ _ _ _ _ _ us hl => by obtain ⟨_, _, rfl⟩ := ar2 hl; rfl
  have b14 := F14.binds (ps := ["_law_script"]) fun _ _ _ _ _ _ us hl => by obtain ⟨_, rfl⟩ := ar1 hl; rfl
  have b15 := F15.binds (ps := ["_law_pen_here", "_law_most"]) fun _ _ _ _ _ _ us hl => by obtain ⟨_, _, rfl⟩ := ar2 hl; rfl
  have b16 := F16.binds (ps := ["_law_pen_here", "_law_many"]) fun _ _ _ _ _ _ us hl => by obtain ⟨_, _, rfl⟩ := ar2 hl; rfl
  have b17 := F17.binds (ps := ["_law_pen_here", "_law_some"]) fun _ _ _ _ _ _ us hl => by obtain ⟨_, _, rfl⟩ := ar2 hl; rfl
  have b18 := F18.binds (ps := ["_law_pen_here"]) fun _ _ _ _ _ _ us hl => by obtain ⟨_, rfl⟩ := ar1 hl; rfl
  have b19 := F19.binds (ps := ["_law_web_here", "_law_one"]) fun _ _ _ _ _ _ us hl => by obtain ⟨_, _, rfl⟩ := ar2 hl; rfl
  have b20 := F20.binds (ps := ["_law_pen_here", "_law_web_here", "_law_order"]) fun _ _ _ _ _ _ us hl => by obtain ⟨_, _, _, rfl⟩ := ar3 hl; rfl
  have b21 := F21.binds (ps := ["_law_web_here", "_law_order", "_law_one", "_law_other"]) fun _ _ _ _ _ _ us hl => by obtain ⟨_, _, _, _, rfl⟩ := ar4 hl; rfl
  have b22 := F22.binds (ps := ["_law_order", "_law_due_here"]) fun _ _ _ _ _ _ us hl => by obtain ⟨_, _, rfl⟩ := ar2 hl; rfl
  have b23 := F23.binds (ps := ["_law_pen_here", "_law_order", "_law_due_here"]) fun _ _ _ _ _ _ us hl => by obtain ⟨_, _, _, rfl⟩ := ar3 hl; rfl
  have b24 := F24.binds (ps := ["_law_pen_here", "_law_order", "_law_place"]) fun _ _ _ _ _ _ us hl => by obtain ⟨_, _, _, rfl⟩ := ar3 hl; rfl
  have b25 := F25.binds (ps := ["_law_pen_here", "_law_order", "_law_move"]) fun _ _ _ _ _ _ us hl => by obtain ⟨_, _, _, rfl⟩ := ar3 hl; rfl
  have b26 := F26.binds (ps := ["_law_pen_here", "_law_order", "_law_moves_here"]) fun _ _ _ _ _ _ us hl => by obtain ⟨_, _, _, rfl⟩ := ar3 hl; rfl
  refine ⟨PySem.W.fnOf "law" "law" (defArgs sLaw) (defBody sLaw) (defScope sLaw) .none kV27 dc27 pm27 an27 cd27 ct27, fun s v => .of_eq rfl, fun base XB GB => ?_⟩
  have c__law_pen : Cal l.prog w K mg base 1 "_law_pen" ["_law_script"] (spPen K) := ⟨_, _, ok_pen F14 B, PySem.W.mg_of X G a14, k14, b14⟩
  have c__law_drawB_ : Cal l.prog w K mg base 1 "_law_draw" ["_law_pen_here", "_law_most"] (spDrawB K) := ⟨_, _, ok_drawB F15 B, PySem.W.mg_of X G a15, k15, b15⟩
  have c__law_draw : Cal l.prog w K mg base 1 "_law_draw" ["_law_pen_here", "_law_most"] (spDraw K) := ⟨_, _, (ok_drawB F15 B).imp (fun _ _ _ _ => drawB_of), PySem.W.mg_of X G a15, k15, b15⟩
  have c__law_names : Cal l.prog w K mg base 2 "_law_names" ["_law_pen_here", "_law_many"] (spNames K) := ⟨_, _, ok_names F16 B c__law_draw, PySem.W.mg_of X G a16, k16, b16⟩
  have c_places_of : Cal l.prog w K mg base 1 "places_of" ["things"] spPlacesX := ⟨_, _, ok_placesX F4 B, PySem.W.mg_of X G a4, k4, b4⟩
  have c_is_name : Cal l.prog w K mg base 1 "is_name" ["thing"] spIsName := ⟨_, _, ok_isname F1 B TMOST_SIGNS, PySem.W.mg_of X G a1, k1, b1⟩
  have c_is_tie_among : Cal l.prog w K mg base 2 "is_tie_among" ["places", "tie"] spAmong := ⟨_, _, ok_among F9 B c_is_name, PySem.W.mg_of X G a9, k9, b9⟩
  have c_are_unlike : Cal l.prog w K mg base 2 "are_unlike" ["things"] spUnlike := ⟨_, _, ok_unlike F7 B c_places_of, PySem.W.mg_of X G a7, k7, b7⟩
  have c_are_unlike_names : Cal l.prog w K mg base 3 "are_unlike_names" ["things"] spUNm := ⟨_, _, ok_unm F6 B c_is_name c_are_unlike, PySem.W.mg_of X G a6, k6, b6⟩
  have c_are_things : Cal l.prog w K mg base 4 "are_things" ["things"] spAre := ⟨_, _, ok_are F5 B TMOST_THINGS c_are_unlike_names, PySem.W.mg_of X G a5, k5, b5⟩
  have c_first_wrong_tie : Cal l.prog w K mg base 3 "first_wrong_tie" ["things", "ties"] spWrong := ⟨_, _, ok_wrong F8 B TMOST_TIES c_places_of c_is_tie_among, PySem.W.mg_of X G a8, k8, b8⟩
  have c_web_of : Cal l.prog w K mg base 5 "web_of" ["things", "ties"] spWebOf := ⟨_, _, ok_web_of F3 B c_are_things c_first_wrong_tie, PySem.W.mg_of X G a3, k3, b3⟩
  have c__law_turned : Cal l.prog w K mg base 2 "_law_turned" ["_law_pen_here", "_law_some"] (spTurned K) := ⟨_, _, ok_turned F17 B c__law_draw, PySem.W.mg_of X G a17, k17, b17⟩
  have c_places_ofN : Cal l.prog w K mg base 1 "places_of" ["things"] spPlaces := ⟨_, _, (ok_placesX F4 B).imp placesX_of, PySem.W.mg_of X G a4, k4, b4⟩
  have c__law_web : Cal l.prog w K mg base 6 "_law_web" ["_law_pen_here"] (spLWeb K) := ⟨_, _, ok_lweb F18 B c__law_draw c__law_names c__law_turned c_web_of, PySem.W.mg_of X G a18, k18, b18⟩
  have c__law_reached : Cal l.prog w K mg base 1 "_law_reached" ["_law_web_here", "_law_one"] spReachX := ⟨_, _, ok_reachX (ok_reach F19 B) (ok_reachL F19 B), PySem.W.mg_of X G a19, k19, b19⟩
  have c__law_pair : Cal l.prog w K mg base 2 "_law_pair" ["_law_pen_here", "_law_web_here", "_law_order"] (spPair K) := ⟨_, _, ok_pair F20 B c__law_draw, PySem.W.mg_of X G a20, k20, b20⟩
  have c__law_due : Cal l.prog w K mg base 2 "_law_due" ["_law_web_here", "_law_order", "_law_one", "_law_other"] spDue := ⟨_, _, ok_due F21 B c__law_reached, PySem.W.mg_of X G a21, k21, b21⟩
  have c__law_laid : Cal l.prog w K mg base 1 "_law_laid" ["_law_order", "_law_due_here"] spLaid := ⟨_, _, ok_laid F22 B Zzip, PySem.W.mg_of X G a22, k22, b22⟩
  have c_is_wholeG : Cal l.prog w K mg base 1 "is_whole" ["thing"] spWholeX := ⟨_, _, ok_wholeX F2 B, PySem.W.mg_of X G a2, k2, b2⟩
  have c_places_ofI : Cal l.prog w K mg base 1 "places_of" ["things"] spPlG := ⟨_, _, ok_plG F4 B, PySem.W.mg_of X G a4, k4, b4⟩
  have c_are_unlikeI : Cal l.prog w K mg base 2 "are_unlike" ["things"] spUnlG := ⟨_, _, ok_unlG F7 B c_places_ofI, PySem.W.mg_of X G a7, k7, b7⟩
  have c_is_move : Cal l.prog w K mg base 2 "is_move" ["places", "move"] spIsMvG := ⟨_, _, ok_isMvG F13 B c_is_name c_is_wholeG, PySem.W.mg_of X G a13, k13, b13⟩
  have c_are_movesQ : Cal l.prog w K mg base 3 "are_moves" ["order", "told"] spAreQ := ⟨_, _, ok_areQ F12 B Zsorted c_places_ofN c_is_move c_are_unlikeI, PySem.W.mg_of X G a12, k12, b12⟩
  have c_are_moves : Cal l.prog w K mg base 3 "are_moves" ["order", "told"] spAreMoves := ⟨_, _, (ok_areQ F12 B Zsorted c_places_ofN c_is_move c_are_unlikeI).imp (fun _ _ _ _ => are_right), PySem.W.mg_of X G a12, k12, b12⟩
  have c_moved : Cal l.prog w K mg base 1 "moved" ["order", "moves"] spMoved := ⟨_, _, ok_moved F11 B, PySem.W.mg_of X G a11, k11, b11⟩
  have c_lets_moves : Cal l.prog w K mg base 4 "lets_moves" ["web", "order", "one", "other", "told"] spLetX := ⟨_, _, ok_letX (ok_lets F10 B c_are_moves c_places_ofN c_moved) (ok_letF F10 B c_are_movesQ), PySem.W.mg_of X G a10, k10, b10⟩
  have c__law_moves : Cal l.prog w K mg base 2 "_law_moves" ["_law_pen_here", "_law_order", "_law_due_here"] (spMv31 K) := ⟨_, _, ok_mv31 F23 B c__law_draw c__law_laid, PySem.W.mg_of X G a23, k23, b23⟩
  have c__law_odd : Cal l.prog w K mg base 2 "_law_odd" ["_law_pen_here", "_law_order", "_law_place"] (spOdd K) := ⟨_, _, ok_odd F24 B c__law_drawB_, PySem.W.mg_of X G a24, k24, b24⟩
  have c__law_bent_move : Cal l.prog w K mg base 3 "_law_bent_move" ["_law_pen_here", "_law_order", "_law_move"] (spBentMv K) := ⟨_, _, ok_bentmv F25 B c__law_draw c__law_odd, PySem.W.mg_of X G a25, k25, b25⟩
  have c__law_bent : Cal l.prog w K mg base 4 "_law_bent" ["_law_pen_here", "_law_order", "_law_moves_here"] (spBent K) := ⟨_, _, ok_bent F26 B c__law_draw c__law_bent_move, PySem.W.mg_of X G a26, k26, b26⟩
  exact ok_law F27 B c__law_pen c__law_draw c__law_web c__law_pair c__law_due c__law_moves c__law_bent c__law_laid c_lets_moves c_web_of
theorem walk {l : PySem.W.OpenLaw} {q : Program} {loose : List Str} {XP : (Str → Option Value) → Heap → Prop} {YP : World → Heap → Prop} {d : DefRec} {K : Params → PySem.W.Frag} (hn : l.most = some 63) (hdf : d.params.defaults = [])
    (hY : ∀ (w : World) (h : Heap), YP w h → (K w.params).In h)
    (F : ∀ (w : World) (mg : Str → Option Value) (fa : Addr) (h : Heap), (K w.params).In h → h.Ns mainGlobals mg → mg d.name = some (.ref fa) →
      ∃ fd : FuncData, (∀ (s : Shared) (u : Value), BindsTo s fd ⟨[u], []⟩ [("_law_script", u)]) ∧ ∀ base : Heap, (K w.params).In base → base.Ns mainGlobals mg → FnOk l.prog w (K w.params) mg base CX0 7 fa fd ["_law_script"] (spLaw (K w.params))) :
    PySem.W.WalkO q loose XP YP l.row.toRowW d [] (fun f vs => PySem.call f vs) :=
  L2.walk_of (n := 63) (k := 7) (x := "_law_script") (CX := fun _ => CX0) (sp := fun w => spLaw (K w.params)) hn (by decide) hdf ⟨rfl, by decide, by decide, rfl⟩ hY F (fun _ _ a ns hl _ hS => ⟨a, ns, rfl, hS, fun _ => rfl⟩) fun _ _ _ _ _ z => z
end
end K31
open PySem PySem.W PyProof.Rows
set_option maxRecDepth 100000 in
set_option maxHeartbeats 0 in
theorem PySem.Challenge.cw_orderkeep_k31_what_is_no_move_holds : PySem.Challenge.rw_orderkeep_k31_what_is_no_move.Holds := by
  w_on; o_law; k_head; (case hw => w_witness2)
  k_fill
  refine K31.walk (l := PySem.Challenge.rw_orderkeep_k31_what_is_no_move) rfl rfl (fun w h Y => PySem.W.kIn_of Y) ?F
  case F =>
    intro w mg fa h KX G hmg
    refine' K31.all_mk KX G hmg ?a1 ?l1 ?c1 ?k1 ?a2 ?l2 ?c2 ?k2 ?a3 ?l3 ?c3 ?k3 ?a4 ?l4 ?c4 ?k4 ?a5 ?l5 ?c5 ?k5 ?a6 ?l6 ?c6 ?k6 ?a7 ?l7 ?c7 ?k7 ?a8 ?l8 ?c8 ?k8 ?a9 ?l9 ?c9 ?k9 ?a10 ?l10 ?c10 ?k10 ?a11 ?l11 ?c11 ?k11 ?a12 ?l12 ?c12 ?k12 ?a13 ?l13 ?c13 ?k13 ?a14 ?l14 ?c14 ?k14 ?a15 ?l15 ?c15 ?k15 ?a16 ?l16 ?c16 ?k16 ?a17 ?l17 ?c17 ?k17 ?a18 ?l18 ?c18 ?k18 ?a19 ?l19 ?c19 ?k19 ?a20 ?l20 ?c20 ?k20 ?a21 ?l21 ?c21 ?k21 ?a22 ?l22 ?c22 ?k22 ?a23 ?l23 ?c23 ?k23 ?a24 ?l24 ?c24 ?k24 ?a25 ?l25 ?c25 ?k25 ?a26 ?l26 ?c26 ?k26 ?a27 ?l27 ?c27 ?k27 ?z1 ?z2 ?z3 ?z4 ?z5 ?z6 ?z7 ?z8 ?z9 ?z10 ?z11 ?z12 ?z13 ?z14 ?z15 ?z16 ?z17 ?y1 ?y2 ?y3
    (case a1 => k_is)
    (case l1 => k_is)
    (case c1 => k_is)
    (case k1 => k_is)
    (case a2 => k_is)
    (case l2 => k_is)
    (case c2 => k_is)
    (case k2 => k_is)
    (case a3 => k_is)
    (case l3 => k_is)
    (case c3 => k_is)
    (case k3 => k_is)
    (case a4 => k_is)
    (case l4 => k_is)
    (case c4 => k_is)
    (case k4 => k_is)
    (case a5 => k_is)
    (case l5 => k_is)
    (case c5 => k_is)
    (case k5 => k_is)
    (case a6 => k_is)
    (case l6 => k_is)
    (case c6 => k_is)
    (case k6 => k_is)
    (case a7 => k_is)
    (case l7 => k_is)
    (case c7 => k_is)
    (case k7 => k_is)
    (case a8 => k_is)
    (case l8 => k_is)
    (case c8 => k_is)
    (case k8 => k_is)
    (case a9 => k_is)
    (case l9 => k_is)
    (case c9 => k_is)
    (case k9 => k_is)
    (case a10 => k_is)
    (case l10 => k_is)
    (case c10 => k_is)
    (case k10 => k_is)
    (case a11 => k_is)
    (case l11 => k_is)
    (case c11 => k_is)
    (case k11 => k_is)
    (case a12 => k_is)
    (case l12 => k_is)
    (case c12 => k_is)
    (case k12 => k_is)
    (case a13 => k_is)
    (case l13 => k_is)
    (case c13 => k_is)
    (case k13 => k_is)
    (case a14 => k_is)
    (case l14 => k_is)
    (case c14 => k_is)
    (case k14 => k_is)
    (case a15 => k_is)
    (case l15 => k_is)
    (case c15 => k_is)
    (case k15 => k_is)
    (case a16 => k_is)
    (case l16 => k_is)
    (case c16 => k_is)
    (case k16 => k_is)
    (case a17 => k_is)
    (case l17 => k_is)
    (case c17 => k_is)
    (case k17 => k_is)
    (case a18 => k_is)
    (case l18 => k_is)
    (case c18 => k_is)
    (case k18 => k_is)
    (case a19 => k_is)
    (case l19 => k_is)
    (case c19 => k_is)
    (case k19 => k_is)
    (case a20 => k_is)
    (case l20 => k_is)
    (case c20 => k_is)
    (case k20 => k_is)
    (case a21 => k_is)
    (case l21 => k_is)
    (case c21 => k_is)
    (case k21 => k_is)
    (case a22 => k_is)
    (case l22 => k_is)
    (case c22 => k_is)
    (case k22 => k_is)
    (case a23 => k_is)
    (case l23 => k_is)
    (case c23 => k_is)
    (case k23 => k_is)
    (case a24 => k_is)
    (case l24 => k_is)
    (case c24 => k_is)
    (case k24 => k_is)
    (case a25 => k_is)
    (case l25 => k_is)
    (case c25 => k_is)
    (case k25 => k_is)
    (case a26 => k_is)
    (case l26 => k_is)
    (case c26 => k_is)
    (case k26 => k_is)
    (case a27 => k_is)
    (case l27 => k_is)
    (case c27 => k_is)
    (case k27 => k_is)
    (case z1 => k_is)
    (case z2 => k_is)
    (case z3 => k_is)
    (case z4 => k_is)
    (case z5 => k_is)
    (case z6 => k_is)
    (case z7 => k_is)
    (case z8 => k_is)
    (case z9 => k_is)
    (case z10 => k_is)
    (case z11 => k_is)
    (case z12 => k_is)
    (case z13 => k_is)
    (case z14 => k_is)
    (case z15 => k_is)
    (case z16 => k_is)
    (case z17 => k_is)
    (case y1 => k_is)
    (case y2 => k_is)
    (case y3 => k_is)