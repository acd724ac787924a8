import PyProof.Rows.All
import Wide.All
import OpenK.AllK
import Wide.FinOn
import Lean
import PyProof.EqAt
import PyProof.EqKinds
import PyProof.TupleCall
import PySem.Challenge.RW_stillflow_k01_worlds
-- CHANGE: your row's module here, as the last of these rows
set_option Elab.async false
set_option linter.all false
set_option maxRecDepth 100000
/-! THE HAND LAYER, for ints, bools, texts, own classes, LISTS and tuples (index, slices, in, append, pop ..), calls, loops. Paste it whole ahead of your own text; what your proof does not reach may be deleted. -/
namespace L2
open PySem PySem.Spec PyProof.Rows
/-- a key: an int or a str -/
abbrev Key := Sum Int Str
def keyIs : Key → Value → Bool
  | .inl k, v => Value.isInt k v
  | .inr x, v => Value.isStrOf x v
def keyH (w : World) : Key → Int
  | .inl k => hashInt k
  | .inr x => hashStr w x
theorem keyIs_shape : ∀ {k : Key} {v : Value}, keyIs k v = true → (∃ i t, k = Sum.inl i ∧ v = Value.int i t) ∨ (∃ x t, k = Sum.inr x ∧ v = Value.str x t)
  | .inl i, v, h => by
    obtain ⟨t, e⟩ := Value.isInt_shape (k := i) (v := v) h
    exact .inl ⟨i, t, rfl, e⟩
  | .inr x, v, h => by
    obtain ⟨t, e⟩ := Value.isStrOf_shape (x := x) (v := v) h
    exact .inr ⟨x, t, rfl, e⟩
theorem key_ll (a b : Int) : decide ((Sum.inl a : Key) = Sum.inl b) = (a == b) := by
  by_cases e : a = b
  · subst e; simp
  · have h : ¬ (Sum.inl a : Key) = Sum.inl b := fun q => e (Sum.inl.inj q)
    rw [decide_eq_false h]
    exact (beq_eq_false_iff_ne.mpr e).symm
theorem key_rr (a b : Str) : decide ((Sum.inr a : Key) = Sum.inr b) = decide (a = b) := by
  by_cases e : a = b
  · subst e; simp
  · have h : ¬ (Sum.inr a : Key) = Sum.inr b := fun q => e (Sum.inr.inj q)
    rw [decide_eq_false h, decide_eq_false e]
theorem key_lr (a : Int) (b : Str) : decide ((Sum.inl a : Key) = Sum.inr b) = false := decide_eq_false (fun q => nomatch q)
theorem key_rl (a : Str) (b : Int) : decide ((Sum.inr a : Key) = Sum.inl b) = false := decide_eq_false (fun q => nomatch q)
def mixKind (prog : Program) (w : World) : PySem.KeyKind prog w Key where
  is := keyIs
  hash := keyH w
  inj := fun v a b ha hb => by
    rcases keyIs_shape ha with ⟨i, t, rfl, rfl⟩ | ⟨x, t, rfl, rfl⟩
    · rcases keyIs_shape hb with ⟨j, u, rfl, e⟩ | ⟨y, u, rfl, e⟩
      · injection e with e1 _; rw [e1]
      · exact nomatch e
    · rcases keyIs_shape hb with ⟨j, u, rfl, e⟩ | ⟨y, u, rfl, e⟩
      · exact nomatch e
      · injection e with e1 _; rw [e1]
  byValue := fun k v h => by
    rcases keyIs_shape h with ⟨i, t, rfl, rfl⟩ | ⟨x, t, rfl, rfl⟩ <;> rfl
  pyHash := fun hv h => by
    rcases keyIs_shape hv with ⟨i, t, rfl, rfl⟩ | ⟨x, t, rfl, rfl⟩
    · exact wpAny_pyHash_int h
    · exact wpAny_pyHash_str h
  eqBool := fun hu hv h => by
    rcases keyIs_shape hu with ⟨i, t, rfl, rfl⟩ | ⟨x, t, rfl, rfl⟩
    · rcases keyIs_shape hv with ⟨j, u, rfl, rfl⟩ | ⟨y, u, rfl, rfl⟩
      · rw [key_ll] at h; exact wpAny_eqBool_int h
      · rw [key_lr] at h; exact SeqAt.EqAt.int_str i t y u _ _ _ _ h
    · rcases keyIs_shape hv with ⟨j, u, rfl, rfl⟩ | ⟨y, u, rfl, rfl⟩
      · rw [key_rl] at h; exact SeqAt.EqAt.str_int x t j u _ _ _ _ h
      · rw [key_rr] at h; exact wpAny_eqBool_str h
  «strs» := fun k x t v h => by
    rcases keyIs_shape h with ⟨i, u, rfl, e⟩ | ⟨y, u, rfl, e⟩
    · exact nomatch e
    · injection e with e1 _
      subst e1
      cases v <;> rfl
end L2
namespace L2
open PySem PySem.Spec PyProof.Rows
/-- a value, without the heap -/
inductive V where
  | non | bl (b : Bool) | int (i : Int) | str (x : Str) | byt (b : Array UInt8) | flt (b : UInt64) | ref (a : Addr) | ty (n : String)
  deriving DecidableEq
def RelV : V → Value → Prop
  | .non, u => u = Value.none
  | .bl b, u => u = Value.bool b
  | .int i, u => ∃ t, u = Value.int i t
  | .str x, u => ∃ t, u = Value.str x t
  | .byt b, u => ∃ t, u = Value.bytes b t
  | .flt b, u => ∃ t, u = Value.float b t
  | .ref a, u => u = Value.ref a
  | .ty n, u => u = Value.type n
abbrev Vals : List V → List Value → Prop := Paired RelV
theorem Vals.length {xs : List V} {us : List Value} (r : Vals xs us) : xs.length = us.length := Paired.length r
theorem Vals.get : ∀ {xs : List V} {us : List Value} {i : Nat} {x : V}, Vals xs us → xs[i]? = some x → ∃ u, us[i]? = some u ∧ RelV x u
  | _, _, _, _, .nil, e => by simp at e
  | _, _, 0, _, .cons r _, e => by simp at e; subst e; exact ⟨_, rfl, r⟩
  | _, _, i + 1, x, .cons _ t, e => by
    obtain ⟨u, h1, h2⟩ := Vals.get (i := i) (x := x) t (by simpa using e)
    exact ⟨u, by simpa using h1, h2⟩
theorem Vals.set {x : V} {u : Value} (r : RelV x u) : ∀ {xs : List V} {us : List Value} (i : Nat), Vals xs us → Vals (xs.set i x) (us.set i u)
  | _, _, _, .nil => .nil
  | _, _, 0, .cons _ t => .cons r t
  | _, _, i + 1, .cons q t => .cons q (Vals.set r i t)
theorem Vals.append : ∀ {xs ys : List V} {us ws : List Value}, Vals xs us → Vals ys ws → Vals (xs ++ ys) (us ++ ws)
  | _, _, _, _, .nil, s => s
  | _, _, _, _, .cons r t, s => .cons r (Vals.append t s)
theorem Vals.take : ∀ {xs : List V} {us : List Value} (n : Nat), Vals xs us → Vals (xs.take n) (us.take n)
  | _, _, 0, _ => .nil
  | _, _, _ + 1, .nil => .nil
  | _, _, n + 1, .cons r t => .cons r (Vals.take n t)
theorem Vals.drop : ∀ {xs : List V} {us : List Value} (n : Nat), Vals xs us → Vals (xs.drop n) (us.drop n)
  | _, _, 0, r => r
  | _, _, _ + 1, .nil => .nil
  | _, _, n + 1, .cons _ t => Vals.drop n t
def RelO : Option V → Option Value → Prop
  | some v, some u => RelV v u
  | none, none => True
  | _, _ => False
def KV {κ : Type} : List (κ × V) → List (κ × Value) → Prop := Paired fun (p : κ × V) (q : κ × Value) => p.1 = q.1 ∧ RelV p.2 q.2
/-- a key of a dict (00_mix): an int or a text -/
def kV : Key → V
  | .inl i => .int i
  | .inr x => .str x
/-- what stands at a tracked address -/
inductive HO where
  /-- a list -/
  | lst (xs : List V)
  /-- a tuple (never changes) -/
  | tup (xs : List V)
  /-- a dict whose keys are ints and texts; one whose keys are tuples of ints and texts (the empty one is both) -/
  | dK (kvs : List (Key × V)) | dT (kvs : List (List Key × V))
  /-- a set of ints: its members, its size -/
  | set (S : Int → Bool) (n : Nat)
  /-- an instance of the class at C, its dict at dx, its attributes -/
  | ins (C dx : Addr) (fs : List (Str × V))
  /-- the dict of the instance at x -/
  | own (x : Addr)
  /-- the dict of an exception -/
  | xd (fs : List (Str × V))
  /-- a bound method, f of x -/
  | met (f x : Addr)
  /-- a range object lo, lo + 1, .. below hi -/
  | rng (lo hi : Int)
  /-- a thing that is known to the object (the script; a dict while a loop walks it): read, never written while it is so -/
  | frz (o : Obj) (u : HO)
  /-- a code object's table -/
  | tbl (ps : Array Value)
  /-- any other thing, by what is true of its one object (a def of one's own: SetO a S n := HO.ext fun h => ..) -/
  | ext (φ : Heap → Prop)
abbrev Hp := Addr → Option HO
def upd (H : Hp) (a : Addr) (o : HO) : Hp := fun b => if b = a then some o else H b
theorem upd_same {H : Hp} {a : Addr} {o : HO} : upd H a o a = some o := by unfold upd; rw [if_pos rfl]
theorem upd_ne {H : Hp} {a b : Addr} {o : HO} (h : b ≠ a) : upd H a o b = H b := by unfold upd; rw [if_neg h]
theorem ne_of_none {H : Hp} {a b : Addr} {o : HO} (h : H a = some o) (h' : H b = none) : a ≠ b := by
  intro e; subst e; rw [h] at h'; cases h'
section
variable (P : Program) (w : World)
def ObjOk (H : Hp) (h : Heap) (a : Addr) : HO → Prop
  | .lst xs => xs.length ≤ sizeLine ∧ ∃ (its : List Value) (n : Nat), Vals xs its ∧ h.get? a = some { cls := .type "list", data := .seq its.toArray n }
  | .tup xs => xs.length ≤ sizeLine ∧ ∃ its : List Value, Vals xs its ∧ IsTup h a its.toArray
  | .dK kvs => kvs.length ≤ sizeLine ∧ (a == sysModules) = false ∧ ∃ vs, KV kvs vs ∧ h.DictOf (mixKind P w) a vs
  | .dT kvs => kvs.length ≤ sizeLine ∧ (a == sysModules) = false ∧ ∃ xs : List (List Key × Addr × Value),
      Paired (fun (p : List Key × V) (q : List Key × Addr × Value) => p.1 = q.1 ∧ H q.2.1 = some (.tup (p.1.map kV)) ∧ RelV p.2 q.2.2) kvs xs ∧
      ∃ o es ep, h.get? a = some o ∧ o.ExactDict ∧ o.data = .dict es ep ∧ es.toList = xs.map (entryOfKey (tupleKind (mixKind P w))) ∧ (xs.map (·.1)).Nodup
  | .set S n => h.SetOf (intKind P w) a S n
  | .ins C dx fs => H dx = some (.own a) ∧ fs.length ≤ 1000 ∧ dx ≠ a ∧ h.get? a = some (PySem.W.instObj C dx) ∧
      ∃ mA, h.Ns1 dx mA ∧ (∀ f, RelO (fs.lookup f) (mA f)) ∧ PySem.Within mA (fs.map (·.1))
  | .own _ => ∃ o, h.get? a = some o
  | .xd fs => ∃ mA, h.Ns1 a mA ∧ ∀ f, RelO (fs.lookup f) (mA f)
  | .rng lo hi => ∃ t u v, h.get? a = some { cls := .type "range", data := .fields #[.int lo t, .int hi u, .int 1 v] }
  | .frz o u => h.get? a = some o ∧ ObjOk H h a u
  | .tbl ps => h.get? a = some { cls := .none, data := .fields ps }
  | .met f x => h.get? a = some (PySem.W.methodObj (.ref f) (.ref x))
  | .ext φ => φ h ∧ (∃ o, h.get? a = some o) ∧ ∀ h1 h2 : Heap, φ h1 → (∀ o, h1.get? a = some o → h2.get? a = some o) → φ h2
/-- the abstract heap is held -/
def HOk (H : Hp) (h : Heap) : Prop := ∀ a o, H a = some o → ObjOk P w H h a o
end
section
variable {P : Program} {w : World} {H H' : Hp} {h h' : Heap} {a : Addr} {o : HO}
theorem ObjOk.lt (x : ObjOk P w H h a o) : a < h.objs.size := by
  cases o with
  | lst xs => obtain ⟨_, _, _, _, e⟩ := x; exact Heap.lt_size e
  | tup xs => obtain ⟨_, _, _, p⟩ := x; exact p.lt
  | dK kvs => obtain ⟨_, _, _, _, o, _, _, e, _⟩ := x; exact Heap.lt_size e
  | dT kvs => obtain ⟨_, _, _, _, o, _, _, e, _⟩ := x; exact Heap.lt_size e
  | set S n => obtain ⟨o, _, _, _, e, _⟩ := x; exact Heap.lt_size e
  | ins C dx fs => obtain ⟨_, _, _, e, _⟩ := x; exact Heap.lt_size e
  | own y => obtain ⟨_, e⟩ := x; exact Heap.lt_size e
  | xd fs => obtain ⟨_, ⟨_, _, _, e, _⟩, _⟩ := x; exact Heap.lt_size e
  | rng lo hi => obtain ⟨_, _, _, e⟩ := x; exact Heap.lt_size e
  | frz ob u => obtain ⟨e, _⟩ := x; exact Heap.lt_size e
  | tbl ps => exact Heap.lt_size (show h.get? a = some _ from x)
  | met f y => exact Heap.lt_size (show h.get? a = some _ from x)
  | ext φ => obtain ⟨_, ⟨_, e⟩, _⟩ := x; exact Heap.lt_size e
theorem Paired.mapP {α β : Type} {F G : α → β → Prop} : ∀ {l₁ : List α} {l₂ : List β}, Paired F l₁ l₂ → (∀ a b, F a b → G a b) → Paired G l₁ l₂
  | _, _, .nil, _ => .nil
  | _, _, .cons r t, f => .cons (f _ _ r) (Paired.mapP t f)
/-- what an object's description leans on: its own object, its own dict, the tuples -/
theorem ObjOk.stay (x : ObjOk P w H h a o) (k : ∀ b u, (b = a ∨ H b = some (.own a)) → h.get? b = some u → h'.get? b = some u)
    (ho : ∀ b, H b = some (.own a) → H' b = some (.own a)) (ht : ∀ b xs, H b = some (.tup xs) → H' b = some (.tup xs)) : ObjOk P w H' h' a o := by
  induction o with
  | lst xs => obtain ⟨z, its, n, r, e⟩ := x; exact ⟨z, its, n, r, k _ _ (.inl rfl) e⟩
  | tup xs => obtain ⟨z, its, r, ob, e, c⟩ := x; exact ⟨z, its, r, ob, k _ _ (.inl rfl) e, c⟩
  | dK kvs => obtain ⟨z, y, vs, r, ob, es, ep, e, c⟩ := x; exact ⟨z, y, vs, r, ob, es, ep, k _ _ (.inl rfl) e, c⟩
  | dT kvs =>
    obtain ⟨z, y, xs, r, ob, es, ep, e, c⟩ := x
    exact ⟨z, y, xs, Paired.mapP r fun p q z => ⟨z.1, ht _ _ z.2.1, z.2.2⟩, ob, es, ep, k _ _ (.inl rfl) e, c⟩
  | set S n => obtain ⟨ob, es, ep, t, e, c⟩ := x; exact ⟨ob, es, ep, t, k _ _ (.inl rfl) e, c⟩
  | ins C dx fs =>
    obtain ⟨d, z, ne, e, mA, ⟨od, es, ep, e2, c⟩, r⟩ := x
    exact ⟨ho _ d, z, ne, k _ _ (.inl rfl) e, mA, ⟨od, es, ep, k _ _ (.inr d) e2, c⟩, r⟩
  | own y => obtain ⟨ob, e⟩ := x; exact ⟨ob, k _ _ (.inl rfl) e⟩
  | xd fs => obtain ⟨mA, ⟨od, es, ep, e, c⟩, r⟩ := x; exact ⟨mA, ⟨od, es, ep, k _ _ (.inl rfl) e, c⟩, r⟩
  | rng lo hi => obtain ⟨t, u, v, e⟩ := x; exact ⟨t, u, v, k _ _ (.inl rfl) e⟩
  | frz ob u ih => obtain ⟨e, q⟩ := x; exact ⟨k _ _ (.inl rfl) e, ih q⟩
  | tbl ps =>
    have e : h.get? a = some { cls := .none, data := .fields ps } := x
    show h'.get? a = some { cls := .none, data := .fields ps }
    exact k a _ (.inl rfl) e
  | met f y =>
    have e : h.get? a = some (PySem.W.methodObj (.ref f) (.ref y)) := x
    show h'.get? a = some (PySem.W.methodObj (.ref f) (.ref y))
    exact k a _ (.inl rfl) e
  | ext φ => obtain ⟨p, ⟨o, e⟩, st⟩ := x; exact ⟨st _ _ p fun o q => k _ _ (.inl rfl) q, ⟨o, k _ _ (.inl rfl) e⟩, st⟩
theorem HOk.lt (x : HOk P w H h) (e : H a = some o) : a < h.objs.size := (x a o e).lt
theorem HOk.fresh (x : HOk P w H h) (e : h.objs.size ≤ a) : H a = none := by
  cases q : H a with
  | none => rfl
  | some u => exact absurd (Nat.lt_of_lt_of_le (x.lt q) e) (Nat.lt_irrefl _)
/-- every object of the heap is kept -/
theorem HOk.kept (x : HOk P w H h) (k : ∀ b u, h.get? b = some u → h'.get? b = some u) : HOk P w H h' := fun a o e =>
  (x a o e).stay (fun b u _ q => k b u q) (fun _ q => q) fun _ _ q => q
/-- a new object is laid and tracked -/
theorem HOk.laid (x : HOk P w H h) (k : ∀ b u, h.get? b = some u → h'.get? b = some u) (hp : h.objs.size ≤ a) (new : ObjOk P w (upd H a o) h' a o) : HOk P w (upd H a o) h' := fun b u e => by
  have hn := x.fresh hp
  by_cases hb : b = a
  · subst hb; rw [upd_same] at e; cases e; exact new
  · rw [upd_ne hb] at e
    exact (x b u e).stay (fun c v _ q => k c v q) (fun c q => by rw [upd_ne (ne_of_none q hn)]; exact q) fun c xs q => by rw [upd_ne (ne_of_none q hn)]; exact q
end
/-- what may be read as u: it is u, or a known u -/
def Rd (H : Hp) (a : Addr) (u : HO) : Prop := H a = some u ∨ ∃ o, H a = some (.frz o u)
theorem Rd.of {H : Hp} {a : Addr} {u : HO} (h : H a = some u) : Rd H a u := .inl h
theorem Rd.ok {P : Program} {w : World} {H : Hp} {h : Heap} {a : Addr} {u : HO} (r : Rd H a u) (x : HOk P w H h) : ObjOk P w H h a u := by
  rcases r with r | ⟨o, r⟩
  · exact x a u r
  · obtain ⟨_, q⟩ := x a _ r
    exact q
/-- what may be written -/
def Mut : Option HO → Prop
  | some (.lst _) => True
  | some (.dK _) => True
  | some (.dT _) => True
  | some (.set _ _) => True
  | some (.ins _ _ _) => True
  | some (.ext _) => True
  | _ => False
section
variable {P : Program} {w : World} {H : Hp} {h h' : Heap} {x e : Addr} {o' : HO}
/-- the object at e is changed: x itself, or the dict of the instance x -/
theorem HOk.write (ok : HOk P w H h) (mu : Mut (H x)) (he : e = x ∨ H e = some (.own x)) (k : ∀ b u, b ≠ e → h.get? b = some u → h'.get? b = some u) (heo : ∃ u, h'.get? e = some u)
    (new : ObjOk P w (upd H x o') h' x o') : HOk P w (upd H x o') h' := fun b u q => by
  have nown : ∀ c y, H c = some (.own y) → c ≠ x := fun c y r z => by subst z; rw [r] at mu; exact mu
  have ntup : ∀ c xs, H c = some (.tup xs) → c ≠ x := fun c xs r z => by subst z; rw [r] at mu; exact mu
  by_cases hb : b = x
  · subst hb; rw [upd_same] at q; cases q; exact new
  · rw [upd_ne hb] at q
    by_cases hbe : b = e
    · have q' : H b = some (.own x) := by
        rcases he with z | z
        · exact absurd (hbe.trans z) hb
        · rw [hbe]; exact z
      rw [q] at q'; cases q'
      obtain ⟨v, hv⟩ := heo
      exact ⟨v, by rw [hbe]; exact hv⟩
    · refine (ok b u q).stay (fun c v hc r => k c v ?_ r) (fun c r => by rw [upd_ne (nown c b r)]; exact r) fun c xs r => by rw [upd_ne (ntup c xs r)]; exact r
      rcases hc with rfl | hc
      · exact hbe
      · rintro rfl
        rcases he with z | z
        · exact nown c b hc z
        · rw [hc] at z; cases z; exact hb rfl
end
/-! ### kept unless tracked; of the frames at fs (the callers') the slots may change (an exception that passes writes there); of the records at ex (iterators) nothing is said -/
structure Un (fs ex : List Addr) (H H' : Hp) (h h' : Heap) : Prop where
  keep : ∀ b o, h.get? b = some o → H b = none → b ∉ fs → b ∉ ex → h'.get? b = some o
  slot : ∀ b o, h.get? b = some o → H b = none → b ∈ fs → b ∉ ex → ∃ sl, h'.get? b = some { o with slots := sl }
  free : ∀ b o, h.get? b = some o → H b = none → b ∉ ex → H' b = none
  there : ∀ b o, h.get? b = some o → b ∉ ex → ∃ o', h'.get? b = some o'
  tups : ∀ b xs, H b = some (.tup xs) → H' b = some (.tup xs)
  frzs : ∀ b o u, H b = some (.frz o u) → H' b = some (.frz o u)
  tbls : ∀ b ps, H b = some (.tbl ps) → ∃ more, H' b = some (.tbl (ps ++ more))
section
variable {fs fs' ex ex' : List Addr} {H H1 H2 : Hp} {h h1 h2 h' : Heap} {a x e : Addr} {o : HO}
theorem Un.any (u : Un fs ex H H1 h h1) {b : Addr} {ob : Obj} (q : h.get? b = some ob) (n : H b = none) (hx : b ∉ ex) : ∃ sl, h1.get? b = some { ob with slots := sl } := by
  by_cases hb : b ∈ fs
  · exact u.slot b ob q n hb hx
  · exact ⟨ob.slots, u.keep b ob q n hb hx⟩
theorem Un.trans (a : Un fs ex H H1 h h1) (b : Un fs ex H1 H2 h1 h2) : Un fs ex H H2 h h2 where
  keep := fun c ob q n hc hx => b.keep c ob (a.keep c ob q n hc hx) (a.free c ob q n hx) hc hx
  slot := fun c ob q n hc hx => by
    obtain ⟨sl, e1⟩ := a.slot c ob q n hc hx
    obtain ⟨sl', e2⟩ := b.slot c _ e1 (a.free c ob q n hx) hc hx
    exact ⟨sl', e2⟩
  free := fun c ob q n hx => by
    obtain ⟨o', e1⟩ := a.there c ob q hx
    exact b.free c o' e1 (a.free c ob q n hx) hx
  there := fun c ob q hx => by
    obtain ⟨o', e1⟩ := a.there c ob q hx
    exact b.there c o' e1 hx
  tups := fun c xs q => b.tups c xs (a.tups c xs q)
  frzs := fun c ob xs q => b.frzs c ob xs (a.frzs c ob xs q)
  tbls := fun c ps q => by
    obtain ⟨m1, e1⟩ := a.tbls c ps q
    obtain ⟨m2, e2⟩ := b.tbls c _ e1
    exact ⟨m1 ++ m2, by rw [e2, Array.append_assoc]⟩
theorem Un.kept (k : ∀ b u, h.get? b = some u → h'.get? b = some u) : Un fs ex H H h h' :=
  ⟨fun b ob q _ _ _ => k b ob q, fun b ob q _ _ _ => ⟨ob.slots, k b ob q⟩, fun _ _ _ n _ => n, fun b ob q _ => ⟨ob, k b ob q⟩, fun _ _ q => q, fun _ _ _ q => q, fun _ ps q => ⟨#[], by rw [q]; simp⟩⟩
theorem Un.refl : Un fs ex H H h h := Un.kept fun _ _ q => q
theorem Un.laid (k : ∀ b u, h.get? b = some u → h'.get? b = some u) (hp : h.objs.size ≤ a) (hn : H a = none) : Un fs ex H (upd H a o) h h' where
  keep := fun b u q _ _ _ => k b u q
  slot := fun b u q _ _ _ => ⟨u.slots, k b u q⟩
  free := fun b u q n _ => by rw [upd_ne (Nat.ne_of_lt (Nat.lt_of_lt_of_le (Heap.lt_size q) hp))]; exact n
  there := fun b u q _ => ⟨u, k b u q⟩
  tups := fun b xs q => by rw [upd_ne (ne_of_none q hn)]; exact q
  frzs := fun b u xs q => by rw [upd_ne (ne_of_none q hn)]; exact q
  tbls := fun b ps q => ⟨#[], by rw [upd_ne (ne_of_none q hn), q]; simp⟩
theorem Un.write (mu : Mut (H x)) (he : e = x ∨ H e = some (.own x)) (k : ∀ b u, b ≠ e → h.get? b = some u → h'.get? b = some u) (heo : ∃ u, h'.get? e = some u) : Un fs ex H (upd H x o) h h' := by
  have hx : ∀ b, H b = none → b ≠ x := fun b n z => by subst z; rw [n] at mu; exact mu
  have hb : ∀ b, H b = none → b ≠ e := fun b n z => by
    subst z
    rcases he with r | r
    · exact hx b n r
    · rw [n] at r; cases r
  have hm : ∀ b u, H b = some u → ¬ Mut (some u) → b ≠ x := fun b u q nm z => by subst z; rw [q] at mu; exact nm mu
  refine ⟨fun b u q n _ _ => k b u (hb b n) q, fun b u q n _ _ => ⟨u.slots, k b u (hb b n) q⟩, fun b u q n _ => by rw [upd_ne (hx b n)]; exact n, fun b u q _ => ?_,
    fun b xs q => by rw [upd_ne (hm b _ q fun z => z)]; exact q, fun b u xs q => by rw [upd_ne (hm b _ q fun z => z)]; exact q, fun b ps q => ⟨#[], by rw [upd_ne (hm b _ q fun z => z), q]; simp⟩⟩
  by_cases hbe : b = e
  · subst hbe; exact heo
  · exact ⟨u, k b u hbe q⟩
theorem Un.mono (u : Un fs ex H H1 h h1) (hs : ∀ b ∈ fs, b ∈ fs') (hx : ∀ b ∈ ex, b ∈ ex') : Un fs' ex' H H1 h h1 :=
  ⟨fun b ob q n hb he => u.keep b ob q n (fun z => hb (hs b z)) fun z => he (hx b z), fun _ _ q n _ he => u.any q n fun z => he (hx _ z), fun b ob q n he => u.free b ob q n fun z => he (hx b z), fun b ob q he => u.there b ob q fun z => he (hx b z), u.tups, u.frzs, u.tbls⟩
end
/-! ### the heap without what is tracked -/
def trk (h : Heap) (H : Hp) : List Addr := (List.range h.objs.size).filter fun a => (H a).isSome
def hidT (h : Heap) (H : Hp) : Heap := PySem.W.hideAll h (trk h H)
theorem hidT_size (h : Heap) (H : Hp) : (hidT h H).objs.size = h.objs.size := PySem.W.hideAll_size _ _
theorem hidT_get {h : Heap} {H : Hp} {b : Addr} {o : Obj} (e : h.get? b = some o) (n : H b = none) : (hidT h H).get? b = some o :=
  PySem.W.hideAll_get _ e fun hm => by
    have q : (H b).isSome = true := (List.mem_filter.mp hm).2
    rw [n] at q; simp at q
theorem of_hidT {h : Heap} {H : Hp} {b : Addr} {o : Obj} (e : (hidT h H).get? b = some o) : h.get? b = some o ∧ H b = none := by
  have e' : h.get? b = some o := PySem.W.of_hideAll (trk h H) e
  refine ⟨e', ?_⟩
  cases q : H b with
  | none => rfl
  | some x =>
    have hm : b ∈ trk h H := List.mem_filter.mpr ⟨List.mem_range.mpr (Heap.lt_size e'), by simp [q]⟩
    have z : (hidT h H).get? b = none := PySem.W.hideAll_none (trk h H) hm
    rw [z] at e; cases e
/-! ### OpenK's ledger, filled with every new object but one -/
def allNews (g h : Heap) (L : Addr) : List (Addr × Obj) := (List.range h.objs.size).filterMap fun a => if a = L ∨ (g.get? a).isSome = true then none else (h.get? a).map fun o => (a, o)
def rest (g h : Heap) (L d : Addr) : List (Addr × Obj) := (allNews g h L).filter fun p => decide (p.1 ≠ d)
end L2
namespace L2
open PySem PySem.Spec PyProof.Rows
/-- the module's facts, over the base: the heap at the law's entry without what is tracked there -/
structure Mod (K : PySem.W.Frag) (mg : Str → Option Value) (base : Heap) : Prop where
  kin : K.In base
  glob : base.Ns mainGlobals mg
  blt : ∃ mb, base.Ns builtinsNs mb ∧ ∀ x : Str, x ≠ "__name__" → mb x = bootBuiltins x
  nolimit : base.NoLimit
/-- the context: a def's body (or a comprehension's block) running. base: fixed through the whole law; s₀, H₀: the entry; outer: the frames whose slots others may change (a def's callers); stack: all frames that run;
   ex: iterators that were made ahead of the entry and are walked here (a comprehension's); fn: the names whose cells were made at the entry (a def: all; a comprehension's block: its own); calm: not within an except suite; pn: pins that every state bears; xe: what is wanted of an exception that leaves the code -/
structure Cx where
  prog : Program
  w : World
  K : PySem.W.Frag
  mg : Str → Option Value
  base : Heap
  A : Around
  N : List Str
  s₀ : Shared
  H₀ : Hp
  env : Env
  outer : List Env
  stack : List Env
  ex : List Addr
  fn : Str → Bool
  calm : Bool
  pn : List (Addr × Obj)
  xe : Value → Shared → Prop
/-- the callers' frames -/
def frs (l : List Env) : List Addr := l.filterMap (·.frame)
abbrev Cx.fs (X : Cx) : List Addr := frs X.outer
def Vis (sc : Scope) (x : Str) : Prop := sc.names.lookup x = some .local ∨ sc.names.lookup x = some .cell ∨ sc.names.lookup x = some .free
def Loc (sc : Scope) (x : Str) : Prop := sc.names.lookup x = some .local ∨ sc.names.lookup x = some .cell
def Look (env : Env) (h : Heap) (m : Str → Option Value) (x : Str) (u : Value) : Prop :=
  (env.kindOf x = some .local ∧ m x = some u) ∨ ((env.kindOf x = some .cell ∨ env.kindOf x = some .free) ∧ ∃ c, env.cells.lookup x = some c ∧ h.IsCell c (some u))
structure Cx.Ok (X : Cx) : Prop where
  mod : Mod X.K X.mg X.base
  kind : X.env.scope.kind = .function
  glob : X.env.globals = mainGlobals
  blt : X.env.builtins = builtinsNs
  above : X.s₀.heap.objs.size ≤ X.env.locals
  inj : ∀ x y c, X.env.cells.lookup x = some c → X.env.cells.lookup y = some c → x = y
  has : ∀ x, (X.env.kindOf x = some .cell ∨ X.env.kindOf x = some .free) → ∃ c, X.env.cells.lookup x = some c
  cab : ∀ x c, X.fn x = true → X.env.cells.lookup x = some c → X.s₀.heap.objs.size ≤ c
  hd : X.calm = true → X.A.handled = none
  frames : X.A.frames = some X.stack
  stk : X.stack = X.outer ∨ (X.stack = X.env :: X.outer ∧ X.env.frame = some X.env.locals)
  exf : ∀ b ∈ X.ex, b ≠ X.env.locals ∧ ∀ x c, X.env.cells.lookup x = some c → c ≠ b
  bs : ∀ b o, X.base.get? b = some o → X.s₀.heap.get? b = some o ∧ X.H₀ b = none
  bsz : X.base.objs.size ≤ X.s₀.heap.objs.size
  noex : ∀ b o, X.base.get? b = some o → b ∉ X.ex
  exfs : ∀ b ∈ X.ex, b ∉ X.fs
  funs : X.s₀.heap.FunFrames X.base X.outer
  frf : ∀ b ∈ X.fs, X.H₀ b = none
structure Inv (X : Cx) (pins : List (Addr × Obj)) (σ : List (Option V)) (H : Hp) (s : Shared) : Prop where
  ok : X.Ok
  os : s.os = X.s₀.os
  bare : AllBare s.gens
  base : Un X.fs X.ex X.H₀ H X.s₀.heap s.heap
  loc : ∃ m, s.heap.Ns X.env.locals m ∧ ∀ (i : Nat) (x : Str) (v : V), X.N[i]? = some x → σ[i]? = some (some v) → Vis X.env.scope x → ∃ u, RelV v u ∧ Look X.env s.heap m x u
  cell : ∀ x c, X.env.cells.lookup x = some c → ∃ v, s.heap.IsCell c v
  free : H X.env.locals = none
  freeC : ∀ x c, X.env.cells.lookup x = some c → H c = none
  pin : ∀ p ∈ X.pn ++ pins, s.heap.get? p.1 = some p.2 ∧ H p.1 = none ∧ p.1 ≠ X.env.locals ∧ p.1 ∉ X.fs ∧ ∀ v, p.2.data ≠ .cell v
  hok : HOk X.prog X.w H s.heap
  len : σ.length = X.N.length
section
variable {X : Cx} {pins : List (Addr × Obj)} {σ : List (Option V)} {H H' : Hp} {s : Shared} {h' : Heap}
theorem Cx.Ok.nofr (ok : X.Ok) {b : Addr} {o : Obj} (e : X.base.get? b = some o) : b ∉ X.fs := fun hb => by
  have := (ok.funs.mem hb).1
  rw [e] at this; cases this
theorem Inv.bs (I : Inv X pins σ H s) : ∀ b o, X.base.get? b = some o → s.heap.get? b = some o ∧ H b = none := fun b o e =>
  ⟨I.base.keep b o (I.ok.bs b o e).1 (I.ok.bs b o e).2 (I.ok.nofr e) (I.ok.noex b o e), I.base.free b o (I.ok.bs b o e).1 (I.ok.bs b o e).2 (I.ok.noex b o e)⟩
theorem Inv.bk (I : Inv X pins σ H s) : ∀ b o, X.base.get? b = some o → s.heap.get? b = some o := fun b o e => (I.bs b o e).1
theorem Inv.mod (I : Inv X pins σ H s) : Mod X.K X.mg X.base := I.ok.mod
theorem Inv.kIn (I : Inv X pins σ H s) : X.K.In s.heap := I.ok.mod.kin.keeps I.bk
theorem Inv.nolimit (I : Inv X pins σ H s) : s.heap.NoLimit := I.ok.mod.nolimit.keeps I.bk
/-- the frame over the base: for OpenK's rules (K.In X.base is I.mod.kin) -/
theorem Inv.fr (I : Inv X pins σ H s) : ∃ m, Fr X.base X.env.locals s.heap m :=
  let ⟨m, hn, _⟩ := I.loc
  ⟨m, hn, I.bk, Nat.le_trans I.ok.bsz I.ok.above⟩
theorem Inv.lt (I : Inv X pins σ H s) : X.env.locals < s.heap.objs.size := let ⟨_, hn, _⟩ := I.loc; hn.lt
theorem Inv.sz (I : Inv X pins σ H s) : X.s₀.heap.objs.size ≤ s.heap.objs.size := Nat.le_trans I.ok.above (Nat.le_of_lt I.lt)
theorem Inv.nofs (I : Inv X pins σ H s) {a : Addr} (h : s.heap.objs.size ≤ a) : a ∉ X.fs := fun hb => by
  obtain ⟨_, o, ho, _⟩ := I.ok.funs.mem hb
  exact absurd (Nat.lt_of_lt_of_le (Heap.lt_size ho) (Nat.le_trans I.sz h)) (Nat.lt_irrefl _)
theorem Inv.cne (I : Inv X pins σ H s) : ∀ x c, X.env.cells.lookup x = some c → c ≠ X.env.locals := fun x c e z => by
  obtain ⟨v, o, ho, hd⟩ := I.cell x c e
  obtain ⟨m, ⟨o', es, ep, ho', hd', _⟩, _⟩ := I.loc
  rw [z, ho'] at ho; cases ho; rw [hd'] at hd; cases hd
theorem Inv.funs (I : Inv X pins σ H s) : s.heap.FunFrames X.base X.outer := by
  have all : ∀ (l : List Env), (∀ b ∈ frs l, b ∈ X.fs) → X.s₀.heap.FunFrames X.base l → s.heap.FunFrames X.base l := by
    intro l
    induction l with
    | nil => intro _ _; trivial
    | cons env r ih =>
      intro hs hl
      obtain ⟨hk, ⟨L, o, hf, hn, ho, hd⟩, hr⟩ := hl
      have hL : L ∈ X.fs := hs L (by unfold frs; rw [List.filterMap_cons, hf]; exact List.mem_cons_self)
      obtain ⟨sl, e⟩ := I.base.slot L o ho (I.ok.frf L hL) hL fun z => I.ok.exfs L z hL
      exact ⟨hk, ⟨L, _, hf, hn, e, hd⟩, ih (fun b hb => hs b (by unfold frs; rw [List.filterMap_cons, hf]; exact List.mem_cons_of_mem _ hb)) hr⟩
  exact all X.outer (fun _ hb => hb) I.ok.funs
/-- the frames that run, for a call -/
theorem Inv.stack (I : Inv X pins σ H s) : s.heap.FunFrames X.base X.stack := by
  rcases I.ok.stk with e | ⟨e, hf⟩
  · rw [e]; exact I.funs
  · rw [e]
    obtain ⟨m, hn, _⟩ := I.loc
    refine .cons (by rw [I.ok.kind]; decide) hf hn ?_ I.funs
    exact Heap.get?_none_of_le (Nat.le_trans I.ok.bsz I.ok.above)
theorem Inv.stkSub (I : Inv X pins σ H s) : ∀ b ∈ frs X.stack, b ∈ X.env.locals :: X.fs := fun b hb => by
  rcases I.ok.stk with e | ⟨e, hf⟩
  · rw [e] at hb; exact List.mem_cons_of_mem _ hb
  · rw [e] at hb
    unfold frs at hb
    rw [List.filterMap_cons, hf] at hb
    exact hb
theorem Inv.stkFree (I : Inv X pins σ H s) : ∀ b ∈ frs X.stack, H b = none := fun b hb => by
  rcases List.mem_cons.mp (I.stkSub b hb) with e | hb
  · rw [e]; exact I.free
  · obtain ⟨_, o, ho, _⟩ := I.ok.funs.mem hb
    exact I.base.free b o ho (I.ok.frf b hb) fun z => I.ok.exfs b z hb
/-- THE STEP: the untracked objects but the frame and the records at ch are kept (the callers' frames up to slots), the frame's map is kept, the new abstract heap is held -/
theorem Inv.step {g' : Array GenState} {t' : Nat} {d' : Drawn} {ch : List Addr} (I : Inv X pins σ H s)
    (hch : ∀ b ∈ ch, (b ∈ X.ex ∨ X.s₀.heap.objs.size ≤ b) ∧ b ≠ X.env.locals ∧ (∀ x c, X.env.cells.lookup x = some c → c ≠ b) ∧ ∀ p ∈ X.pn ++ pins, p.1 ≠ b)
    (keep : ∀ b o, b ≠ X.env.locals → b ∉ X.fs → b ∉ ch → s.heap.get? b = some o → H b = none → h'.get? b = some o)
    (slot : ∀ b o, b ≠ X.env.locals → b ∈ X.fs → b ∉ ch → s.heap.get? b = some o → H b = none → ∃ sl, h'.get? b = some { o with slots := sl }) (free : ∀ b o, b ∉ ch → s.heap.get? b = some o → H b = none → H' b = none)
    (there : ∀ b o, b ∉ ch → s.heap.get? b = some o → ∃ o', h'.get? b = some o')
    (tups : ∀ b xs, H b = some (.tup xs) → H' b = some (.tup xs)) (frzs : ∀ b o u, H b = some (.frz o u) → H' b = some (.frz o u)) (tbls : ∀ b ps, H b = some (.tbl ps) → ∃ more, H' b = some (.tbl (ps ++ more)))
    (ns : ∀ m, s.heap.Ns X.env.locals m → h'.Ns X.env.locals m) (hok : HOk X.prog X.w H' h') (hg : AllBare g') :
    Inv X pins σ H' { s with heap := h', gens := g', drawn := d', toks := t' } := by
  have neL : ∀ b o, X.s₀.heap.get? b = some o → b ≠ X.env.locals := fun b o e => Nat.ne_of_lt (Nat.lt_of_lt_of_le (Heap.lt_size e) I.ok.above)
  have neC : ∀ b o, X.s₀.heap.get? b = some o → b ∉ X.ex → b ∉ ch := fun b o e hx hb => by
    rcases (hch b hb).1 with z | z
    · exact hx z
    · exact absurd (Nat.lt_of_lt_of_le (Heap.lt_size e) z) (Nat.lt_irrefl _)
  have cellK : ∀ x c, X.env.cells.lookup x = some c → ∀ v, s.heap.IsCell c v → h'.IsCell c v := fun x c e v ⟨o, ho, hd⟩ => by
    have nch : c ∉ ch := fun z => (hch c z).2.2.1 x c e rfl
    by_cases hc : c ∈ X.fs
    · obtain ⟨sl, q⟩ := slot c o (I.cne x c e) hc nch ho (I.freeC x c e)
      exact ⟨_, q, hd⟩
    · exact ⟨o, keep c o (I.cne x c e) hc nch ho (I.freeC x c e), hd⟩
  refine ⟨I.ok, I.os, hg, ⟨fun b o e n hb hx => ?_, fun b o e n hb hx => ?_, fun b o e n hx => ?_, fun b o e hx => ?_, fun b xs e => tups b xs (I.base.tups b xs e), fun b o xs e => frzs b o xs (I.base.frzs b o xs e), fun b ps e => ?_⟩, ?_, fun x c e => ?_, ?_, fun x c e => ?_, fun p hp => ?_, hok, I.len⟩
  · exact keep b o (neL b o e) hb (neC b o e hx) (I.base.keep b o e n hb hx) (I.base.free b o e n hx)
  · obtain ⟨sl, e1⟩ := I.base.slot b o e n hb hx
    obtain ⟨sl', e2⟩ := slot b _ (neL b o e) hb (neC b o e hx) e1 (I.base.free b o e n hx)
    exact ⟨sl', e2⟩
  · obtain ⟨o', e1⟩ := I.base.there b o e hx
    exact free b o' (neC b o e hx) e1 (I.base.free b o e n hx)
  · obtain ⟨o', e1⟩ := I.base.there b o e hx
    exact there b o' (neC b o e hx) e1
  · obtain ⟨m1, e1⟩ := I.base.tbls b ps e
    obtain ⟨m2, e2⟩ := tbls b _ e1
    exact ⟨m1 ++ m2, by rw [e2, Array.append_assoc]⟩
  · obtain ⟨m, hn, hl⟩ := I.loc
    refine ⟨m, ns m hn, fun i x v e1 e2 e3 => ?_⟩
    obtain ⟨u, r, l⟩ := hl i x v e1 e2 e3
    refine ⟨u, r, ?_⟩
    rcases l with l | ⟨k, c, e, z⟩
    · exact .inl l
    · exact .inr ⟨k, c, e, cellK x c e _ z⟩
  · obtain ⟨v, z⟩ := I.cell x c e
    exact ⟨v, cellK x c e v z⟩
  · obtain ⟨m, ⟨o, _, _, ho, _⟩, _⟩ := I.loc
    exact free _ o (fun z => (hch _ z).2.1 rfl) ho I.free
  · obtain ⟨v, o, ho, hd⟩ := I.cell x c e
    exact free c o (fun z => (hch c z).2.2.1 x c e rfl) ho (I.freeC x c e)
  · obtain ⟨e, n, ne, nf, d⟩ := I.pin p hp
    have nch : p.1 ∉ ch := fun z => (hch p.1 z).2.2.2 p hp rfl
    exact ⟨keep p.1 p.2 ne nf nch e n, free p.1 p.2 nch e n, ne, nf, d⟩
/-- .. where the frame's own object is kept too -/
theorem Inv.un {t' : Nat} (I : Inv X pins σ H s) (u : Un X.fs [] H H' s.heap h') (hok : HOk X.prog X.w H' h') : Inv X pins σ H' { s with heap := h', toks := t' } := by
  obtain ⟨m, ⟨o, es, ep, ho, r⟩, _⟩ := id I.loc
  obtain ⟨sl, hL⟩ := u.any ho I.free (by simp)
  exact I.step (g' := s.gens) (d' := s.drawn) (ch := []) (fun _ z => nomatch z) (fun b o _ hb _ e n => u.keep b o e n hb (by simp)) (fun b o _ hb _ e n => u.slot b o e n hb (by simp)) (fun b o _ e n => u.free b o e n (by simp)) (fun b o _ e => u.there b o e (by simp)) u.tups u.frzs u.tbls (fun m' hm => by
    obtain ⟨o', es', ep', ho', r'⟩ := hm
    rw [ho] at ho'; cases ho'
    exact ⟨_, es', ep', hL, r'⟩) hok I.bare
/-- behind a call (or a comprehension's block): the slots of this frame may have changed too, the records at ch may have turned -/
theorem Inv.call {g' : Array GenState} {t' : Nat} {d' : Drawn} {ch : List Addr} (I : Inv X pins σ H s) (u : Un (frs X.stack) ch H H' s.heap h') (hok : HOk X.prog X.w H' h') (hg : AllBare g')
    (hch : ∀ b ∈ ch, (b ∈ X.ex ∨ X.s₀.heap.objs.size ≤ b) ∧ b ≠ X.env.locals ∧ (∀ x c, X.env.cells.lookup x = some c → c ≠ b) ∧ ∀ p ∈ X.pn ++ pins, p.1 ≠ b) :
    Inv X pins σ H' { s with heap := h', gens := g', drawn := d', toks := t' } := by
  obtain ⟨m, ⟨o, es, ep, ho, r⟩, _⟩ := id I.loc
  obtain ⟨sl, hL⟩ := u.any ho I.free fun z => (hch _ z).2.1 rfl
  exact I.step (ch := ch) hch (fun b o hL hb hc e n => u.keep b o e n (fun z => (List.mem_cons.mp (I.stkSub b z)).elim hL hb) hc) (fun b o _ _ hc e n => u.any e n hc) (fun b o hc e n => u.free b o e n hc) (fun b o hc e => u.there b o e hc) u.tups u.frzs u.tbls (fun m' hm => by
    obtain ⟨o', es', ep', ho', r'⟩ := hm
    rw [ho] at ho'; cases ho'
    exact ⟨_, es', ep', hL, r'⟩) hok hg
/-- an untracked record of ours (an iterator) has turned -/
theorem Inv.turned {t' : Nat} {it : Addr} (I : Inv X pins σ H s) (k : ∀ b o, b ≠ it → s.heap.get? b = some o → h'.get? b = some o) (hn : H it = none) (hL : it ≠ X.env.locals)
    (h1 : it ∈ X.ex ∨ X.s₀.heap.objs.size ≤ it) (h2 : ∀ x c, X.env.cells.lookup x = some c → c ≠ it) (h3 : ∀ p ∈ X.pn ++ pins, p.1 ≠ it) : Inv X pins σ H { s with heap := h', toks := t' } := by
  have nit : ∀ b u, H b = some u → b ≠ it := fun b u e z => by rw [z, hn] at e; cases e
  refine I.step (g' := s.gens) (d' := s.drawn) (ch := [it]) (fun b hb => ?_) (fun b o _ _ hc e _ => k b o (fun z => hc (by simp [z])) e) (fun b o _ _ hc e _ => ⟨o.slots, k b o (fun z => hc (by simp [z])) e⟩) (fun _ _ _ _ n => n)
    (fun b o hc e => ⟨o, k b o (fun z => hc (by simp [z])) e⟩) (fun _ _ e => e) (fun _ _ _ e => e) (fun b ps e => ⟨#[], by rw [e]; simp⟩) (fun m hm => ?_) (fun b u e => ?_) I.bare
  · have e : b = it := by simpa using hb
    subst e
    exact ⟨h1, hL, h2, h3⟩
  · obtain ⟨o, es, ep, ho, r⟩ := hm
    exact ⟨o, es, ep, k _ o (Ne.symm hL) ho, r⟩
  · refine (I.hok b u e).stay (fun c v hc q => k c v ?_ q) (fun _ q => q) fun _ _ q => q
    rcases hc with z | z
    · rw [z]; exact nit b u e
    · exact nit c _ z
theorem Inv.tok (I : Inv X pins σ H s) (t : Nat) : Inv X pins σ H { s with toks := t } := I.un (h' := s.heap) (t' := t) Un.refl I.hok
/-- all objects kept -/
theorem Inv.kept {t' : Nat} (I : Inv X pins σ H s) (k : ∀ b u, s.heap.get? b = some u → h'.get? b = some u) : Inv X pins σ H { s with heap := h', toks := t' } := I.un (Un.kept k) (I.hok.kept k)
/-- a new object laid and tracked -/
theorem Inv.laid {a : Addr} {o : HO} {t' : Nat} (I : Inv X pins σ H s) (k : ∀ b u, s.heap.get? b = some u → h'.get? b = some u) (hp : s.heap.objs.size ≤ a) (new : ObjOk X.prog X.w (upd H a o) h' a o) :
    Inv X pins σ (upd H a o) { s with heap := h', toks := t' } := I.un (Un.laid k hp (I.hok.fresh hp)) (I.hok.laid k hp new)
/-- an object written -/
theorem Inv.write {x e : Addr} {o : HO} {t' : Nat} (I : Inv X pins σ H s) (mu : Mut (H x)) (he : e = x ∨ H e = some (.own x)) (k : ∀ b u, b ≠ e → s.heap.get? b = some u → h'.get? b = some u) (heo : ∃ u, h'.get? e = some u)
    (new : ObjOk X.prog X.w (upd H x o) h' x o) : Inv X pins σ (upd H x o) { s with heap := h', toks := t' } := I.un (Un.write mu he k heo) (I.hok.write mu he k heo new)
theorem Inv.pins_of {pins' : List (Addr × Obj)} (I : Inv X pins σ H s) (h : ∀ p ∈ pins', s.heap.get? p.1 = some p.2 ∧ H p.1 = none ∧ p.1 ≠ X.env.locals ∧ p.1 ∉ X.fs ∧ ∀ v, p.2.data ≠ .cell v) : Inv X pins' σ H s :=
  ⟨I.ok, I.os, I.bare, I.base, I.loc, I.cell, I.free, I.freeC, fun p hp => (List.mem_append.mp hp).elim (fun z => I.pin p (List.mem_append_left _ z)) (h p), I.hok, I.len⟩
theorem nodup_ix {N : List Str} (hN : N.Nodup) {i j : Nat} {x : Str} (a : N[i]? = some x) (b : N[j]? = some x) : i = j := by
  obtain ⟨h1, e1⟩ := List.getElem?_eq_some_iff.mp a
  obtain ⟨h2, e2⟩ := List.getElem?_eq_some_iff.mp b
  exact (List.getElem_inj hN).mp (e1.trans e2.symm)
/-- a name is stored; what changed -/
theorem store_ok2 {M : Model} {A : Around} {E : Value → Shared → Prop} {i : Nat} {x : Str} {v : V} {u : Value} {Q : Unit → Shared → Prop} (I : Inv X pins σ H s) (hN : X.N.Nodup) (hi : X.N[i]? = some x) (hx : Loc X.env.scope x) (r : RelV v u)
    (h : ∀ s', Inv X pins (σ.set i (some v)) H s' → (∃ a, Heap.SameBut a s.heap s'.heap ∧ (a = X.env.locals ∨ X.env.cells.lookup x = some a)) → Q () s') (hf : X.fn x = true ∨ X.env.scope.names.lookup x = some .local := by first | exact .inl rfl | exact .inr rfl | assumption) : wpAny M A (storeName X.env x u) Q E s := by
  obtain ⟨m, hn, hl⟩ := id I.loc
  have hcls : (X.env.scope.kind == .class || (X.env.scope.kind == .module && X.env.locals != X.env.globals)) = false := by rw [I.ok.kind]; rfl
  have hiσ : i < σ.length := by rw [I.len]; exact (List.getElem?_eq_some_iff.mp hi).1
  have cne := I.cne
  have tracked : ∀ {a : Addr} {h' : Heap}, (∃ o, s.heap.get? a = some o ∧ H a = none) → Heap.SameBut a s.heap h' → HOk X.prog X.w H h' := fun {a h'} ha hs b ob e => by
    obtain ⟨_, _, hfree⟩ := ha
    refine (I.hok b ob e).stay (fun c w' hc q => (hs.2 c ?_).trans q) (fun _ q => q) fun _ _ q => q
    rintro rfl
    rcases hc with rfl | hc
    · rw [hfree] at e; cases e
    · rw [hfree] at hc; cases hc
  rcases hx with hk | hk
  · refine wpAny_storeName_local hk hn (fun h' hn' hs => ?_) hcls
    obtain ⟨oL, _, _, hoL, _⟩ := id hn
    refine h _ ⟨I.ok, I.os, I.bare, ⟨fun b o e n hb hx => ?_, fun b o e n hb hx => ?_, I.base.free, fun b o e hx => ?_, I.base.tups, I.base.frzs, I.base.tbls⟩, ⟨_, hn', fun j y v' e1 e2 e3 => ?_⟩, fun y c e => ?_, I.free, I.freeC, fun p hp => ?_, tracked ⟨oL, hoL, I.free⟩ hs, by simpa using I.len⟩ ⟨_, hs, .inl rfl⟩
    · exact (hs.2 b (Nat.ne_of_lt (Nat.lt_of_lt_of_le (Heap.lt_size e) I.ok.above))).trans (I.base.keep b o e n hb hx)
    · obtain ⟨sl, e1⟩ := I.base.slot b o e n hb hx
      exact ⟨sl, (hs.2 b (Nat.ne_of_lt (Nat.lt_of_lt_of_le (Heap.lt_size e) I.ok.above))).trans e1⟩
    · obtain ⟨o', e1⟩ := I.base.there b o e hx
      exact ⟨o', (hs.2 b (Nat.ne_of_lt (Nat.lt_of_lt_of_le (Heap.lt_size e) I.ok.above))).trans e1⟩
    · by_cases hj : j = i
      · subst hj
        rw [hi] at e1; cases e1
        rw [List.getElem?_set_self hiσ] at e2
        cases e2
        exact ⟨u, r, .inl ⟨hk, by simp⟩⟩
      · rw [List.getElem?_set_ne (Ne.symm hj)] at e2
        obtain ⟨u', r', q⟩ := hl j y v' e1 e2 e3
        refine ⟨u', r', ?_⟩
        rcases q with ⟨k, e⟩ | ⟨k, c, e, z⟩
        · refine .inl ⟨k, ?_⟩
          have : y ≠ x := fun e => hj (nodup_ix hN e1 (e ▸ hi))
          simp [this, e]
        · exact .inr ⟨k, c, e, z.sameBut hs (cne y c e)⟩
    · obtain ⟨w', z⟩ := I.cell y c e
      exact ⟨w', z.sameBut hs (cne y c e)⟩
    · obtain ⟨e, n, ne, nf, d⟩ := I.pin p hp
      exact ⟨(hs.2 p.1 ne).trans e, n, ne, nf, d⟩
  · have hfn : X.fn x = true := by
      rcases hf with z | z
      · exact z
      · rw [z] at hk; cases hk
    obtain ⟨c, hc⟩ := I.ok.has x (.inl hk)
    obtain ⟨w', z⟩ := I.cell x c hc
    refine wpAny_storeName_cell I.ok.kind hk hc z (fun h' hc' hs => ?_)
    obtain ⟨oc, hoc, hocd⟩ := id z
    refine h { s with heap := h' } ⟨I.ok, I.os, I.bare, ⟨fun b o e n hb hx => ?_, fun b o e n hb hx => ?_, I.base.free, fun b o e hx => ?_, I.base.tups, I.base.frzs, I.base.tbls⟩, ⟨m, hn.sameBut hs (Ne.symm (cne x c hc)), fun j y v' e1 e2 e3 => ?_⟩, fun y c' e => ?_, I.free, I.freeC, fun p hp => ?_, tracked ⟨oc, hoc, I.freeC x c hc⟩ hs, by simpa using I.len⟩ ⟨c, hs, .inr hc⟩
    · exact (hs.2 b (Nat.ne_of_lt (Nat.lt_of_lt_of_le (Heap.lt_size e) (I.ok.cab x c hfn hc)))).trans (I.base.keep b o e n hb hx)
    · obtain ⟨sl, e1⟩ := I.base.slot b o e n hb hx
      exact ⟨sl, (hs.2 b (Nat.ne_of_lt (Nat.lt_of_lt_of_le (Heap.lt_size e) (I.ok.cab x c hfn hc)))).trans e1⟩
    · obtain ⟨o', e1⟩ := I.base.there b o e hx
      exact ⟨o', (hs.2 b (Nat.ne_of_lt (Nat.lt_of_lt_of_le (Heap.lt_size e) (I.ok.cab x c hfn hc)))).trans e1⟩
    · by_cases hj : j = i
      · subst hj
        rw [hi] at e1; cases e1
        rw [List.getElem?_set_self hiσ] at e2
        cases e2
        exact ⟨u, r, .inr ⟨.inl hk, c, hc, hc'⟩⟩
      · rw [List.getElem?_set_ne (Ne.symm hj)] at e2
        obtain ⟨u', r', q⟩ := hl j y v' e1 e2 e3
        refine ⟨u', r', ?_⟩
        rcases q with q | ⟨k, c', e, z'⟩
        · exact .inl q
        · refine .inr ⟨k, c', e, z'.sameBut hs ?_⟩
          rintro rfl
          exact hj (nodup_ix hN e1 (I.ok.inj _ _ _ e hc ▸ hi))
    · by_cases hcc : c' = c
      · subst hcc; exact ⟨_, hc'⟩
      · obtain ⟨w2, z2⟩ := I.cell y c' e
        exact ⟨w2, z2.sameBut hs hcc⟩
    · obtain ⟨e, n, ne, nf, d⟩ := I.pin p hp
      refine ⟨(hs.2 p.1 ?_).trans e, n, ne, nf, d⟩
      intro q
      rw [q, hoc] at e
      have q' : oc = p.2 := Option.some.inj e
      exact d w' (by rw [← q']; exact hocd)
theorem store_ok {M : Model} {A : Around} {E : Value → Shared → Prop} {i : Nat} {x : Str} {v : V} {u : Value} {Q : Unit → Shared → Prop} (I : Inv X pins σ H s) (hN : X.N.Nodup) (hi : X.N[i]? = some x) (hx : Loc X.env.scope x) (r : RelV v u)
    (h : ∀ s', Inv X pins (σ.set i (some v)) H s' → Q () s') (hf : X.fn x = true ∨ X.env.scope.names.lookup x = some .local := by first | exact .inl rfl | exact .inr rfl | assumption) : wpAny M A (storeName X.env x u) Q E s :=
  store_ok2 I hN hi hx r (fun s' I' _ => h s' I') hf
/-- behind a call or a block, the state as it is -/
theorem Inv.call' {s' : Shared} {ch : List Addr} (I : Inv X pins σ H s) (ho : s'.os = s.os) (u : Un (frs X.stack) ch H H' s.heap s'.heap) (hok : HOk X.prog X.w H' s'.heap) (hg : AllBare s'.gens)
    (hch : ∀ b ∈ ch, (b ∈ X.ex ∨ X.s₀.heap.objs.size ≤ b) ∧ b ≠ X.env.locals ∧ (∀ x c, X.env.cells.lookup x = some c → c ≠ b) ∧ ∀ p ∈ X.pn ++ pins, p.1 ≠ b) : Inv X pins σ H' s' := by
  obtain ⟨h', g', d', t', o'⟩ := s'
  have e : o' = s.os := ho
  subst e
  exact I.call (g' := g') (t' := t') (d' := d') u hok hg hch
end
/-! ### the judgements -/
/-- an exception: its class, its own dict's address (where it has one), the abstract heap behind it -/
abbrev XK := Value → Option Addr → Hp → Prop
abbrev St := List (Option V)
abbrev VK := V → Hp → Prop
/-- an expression's reading; a test's; an argument list's -/
abbrev TE := St → Hp → VK → Prop
abbrev TT := St → Hp → (Bool → Hp → Prop) → Prop
abbrev TA := St → Hp → (List V → Hp → Prop) → Prop
/-- what is wanted behind a statement -/
structure Ends where
  nx : St → Hp → Prop
  rt : VK
  bk : St → Hp → Prop := fun _ _ => False
  ct : St → Hp → Prop := fun _ _ => False
abbrev TS := Ends → St → Hp → Prop
def EP (X : Cx) (pins : List (Addr × Obj)) (σ : St) (Q : VK) (u : Value) (s' : Shared) : Prop := ∃ v H', Inv X pins σ H' s' ∧ RelV v u ∧ Q v H'
def TP (X : Cx) (pins : List (Addr × Obj)) (σ : St) (Q : Bool → Hp → Prop) (b : Bool) (s' : Shared) : Prop := ∃ H', Inv X pins σ H' s' ∧ Q b H'
def AP (X : Cx) (pins : List (Addr × Obj)) (σ : St) (Q : List V → Hp → Prop) (us : List Value) (s' : Shared) : Prop := ∃ vs H', Inv X pins σ H' s' ∧ Vals vs us ∧ Q vs H'
def SP (X : Cx) (pins : List (Addr × Obj)) (D : Ends) (f : Flow) (s' : Shared) : Prop :=
  match f with
  | .next => ∃ σ' H', Inv X pins σ' H' s' ∧ D.nx σ' H'
  | .brk => ∃ σ' H', Inv X pins σ' H' s' ∧ D.bk σ' H'
  | .cont => ∃ σ' H', Inv X pins σ' H' s' ∧ D.ct σ' H'
  | .ret u => ∃ v σ' H', Inv X pins σ' H' s' ∧ RelV v u ∧ D.rt v H'
def PE (X : Cx) (e : Expr) (t : TE) : Prop :=
  ∀ (pins : List (Addr × Obj)) (s : Shared) (σ : St) (H : Hp) (Q : VK), Inv X pins σ H s → t σ H Q → wpAny (model X.prog X.w) X.A (eval e X.env) (EP X pins σ Q) X.xe s
def PT (X : Cx) (e : Expr) (t : TT) : Prop :=
  ∀ (pins : List (Addr × Obj)) (s : Shared) (σ : St) (H : Hp) (Q : Bool → Hp → Prop), Inv X pins σ H s → t σ H Q → wpAny (model X.prog X.w) X.A (isTrue e X.env (eval e X.env)) (TP X pins σ Q) X.xe s
/-- a test whatever its 'whole' is (and, or) -/
def PW (X : Cx) (e : Expr) (t : TT) : Prop :=
  ∀ (whole : Sem Value) (pins : List (Addr × Obj)) (s : Shared) (σ : St) (H : Hp) (Q : Bool → Hp → Prop), Inv X pins σ H s → t σ H Q → wpAny (model X.prog X.w) X.A (isTrue e X.env whole) (TP X pins σ Q) X.xe s
theorem PW.pt {X : Cx} {e : Expr} {t : TT} (h : PW X e t) : PT X e t := h _
/-- an argument list (no star), from the left -/
def PA (X : Cx) (es : List Expr) (t : TA) : Prop :=
  ∀ (pos : Pos) (pins : List (Addr × Obj)) (s : Shared) (σ : St) (H : Hp) (Q : List V → Hp → Prop), Inv X pins σ H s → t σ H Q → wpAny (model X.prog X.w) X.A (spliced (backTo pos (starEach es X.env))) (AP X pins σ Q) X.xe s
def PS (X : Cx) (st : Stmt) (t : TS) : Prop :=
  ∀ (pins : List (Addr × Obj)) (s : Shared) (σ : St) (H : Hp) (D : Ends), Inv X pins σ H s → t D σ H → wpAny (model X.prog X.w) X.A (exec st X.env) (SP X pins D) X.xe s
def PSs (X : Cx) (st : List Stmt) (t : TS) : Prop :=
  ∀ (pins : List (Addr × Obj)) (s : Shared) (σ : St) (H : Hp) (D : Ends), Inv X pins σ H s → t D σ H → wpAny (model X.prog X.w) X.A (execs st X.env) (SP X pins D) X.xe s
/-- weaken the end -/
theorem thn {α : Type} {t : Sem α} {Q Q' : α → Shared → Prop} {M : Model} {A : Around} {E : Value → Shared → Prop} {s : Shared} (h : wpAny M A t Q E s) (hQ : ∀ a s, Q a s → Q' a s) : wpAny M A t Q' E s := wpAny_mono h hQ fun _ _ x => x
end L2
namespace L2
open PySem PySem.Spec PyProof.Rows
section
variable {X : Cx}
/-- two expressions in a row -/
theorem bin {a b : Expr} {ta tb : TE} (ha : PE X a ta) (hb : PE X b tb) {pins : List (Addr × Obj)} {s : Shared} {σ : St} {H : Hp} {R : V → V → Hp → Prop} (I : Inv X pins σ H s) (h : ta σ H fun x H1 => tb σ H1 fun y H2 => R x y H2)
    {α : Type} {Q : α → Shared → Prop} {f : Value → Value → Sem α}
    (hf : ∀ v u s2 x y H2, Inv X pins σ H2 s2 → RelV x v → RelV y u → R x y H2 → wpAny (model X.prog X.w) X.A (f v u) Q X.xe s2) :
    wpAny (model X.prog X.w) X.A (eval a X.env) (fun v s₁ => wpAny (model X.prog X.w) X.A (eval b X.env) (fun u s₂ => wpAny (model X.prog X.w) X.A (f v u) Q X.xe s₂) X.xe s₁) X.xe s := by
  refine thn (ha pins s σ H _ I h) fun v s1 ⟨x, H1, I1, r1, q1⟩ => ?_
  refine thn (hb pins s1 σ H1 _ I1 q1) fun u s2 ⟨y, H2, I2, r2, q2⟩ => ?_
  exact hf v u s2 x y H2 I2 r1 r2 q2
/-! ### names and constants -/
def tVar (i : Nat) : TE := fun σ H Q => ∃ v, σ[i]? = some (some v) ∧ Q v H
def tC (v : V) : TE := fun _ H Q => Q v H
theorem pe_var {i : Nat} {x : Str} {pos : Pos} (hN : X.N[i]? = some x) (hv : Vis X.env.scope x) (hd : (x == ("__debug__" : Str)) = false := by decide) (hcd : (x == ("__classdict__" : Str)) = false := by decide) : PE X (.Name x pos) (tVar i) := by
  intro pins s σ H Q I h
  obtain ⟨v, e, h⟩ := h
  obtain ⟨m, hn, hl⟩ := I.loc
  obtain ⟨u, r, l⟩ := hl i x v hN e hv
  have fin : EP X pins σ Q u s := ⟨v, H, I, r, h⟩
  rcases l with ⟨hk, hm⟩ | ⟨hk, c, hc, hcell⟩
  · exact wpAny_Name (wpAny_loadName_local I.ok.kind hk hn hm fin) hd
  · rcases hk with hk | hk
    · exact wpAny_Name (wpAny_loadName_cell I.ok.kind hk hc hcell fin) hd
    · exact wpAny_Name (wpAny_loadName_free I.ok.kind hk hc hcell fin hcd) hd
theorem pe_int {i j pos} : PE X (.Constant (.int i) j pos) (tC (.int i)) := fun _ _ _ H _ I h => wpAny_Constant_int ⟨.int i, H, I.tok _, ⟨_, rfl⟩, h⟩
theorem pe_bl {b j pos} : PE X (.Constant (.bool b) j pos) (tC (.bl b)) := fun _ _ _ H _ I h => Constant_bool ⟨.bl b, H, I, rfl, h⟩
theorem pe_non {j pos} : PE X (.Constant .none j pos) (tC .non) := fun _ _ _ H _ I h => Constant_none ⟨.non, H, I, rfl, h⟩
theorem pe_str {x j pos} : PE X (.Constant (.str x) j pos) (tC (.str x)) := fun _ _ _ H _ I h => Calls.Constant_str ⟨.str x, H, I.tok _, ⟨_, rfl⟩, h⟩
/-- a global name of the def -/
def Gl (X : Cx) (x : Str) : Prop := X.env.kindOf x = some .globalImplicit
theorem ld_glob {E : Value → Shared → Prop} {pins : List (Addr × Obj)} {s : Shared} {σ : St} {H : Hp} {x : Str} {u : Value} {pos : Pos} {Q : Value → Shared → Prop} (I : Inv X pins σ H s) (hg : Gl X x) (hm : X.mg x = some u) (h : Q u s)
    (hd : (x == ("__debug__" : Str)) = false := by decide) : wpAny (model X.prog X.w) X.A (eval (.Name x pos) X.env) Q E s :=
  Calls.Name_function_global I.ok.kind hg (Calls.loadGlobal_global (by rw [I.ok.glob]; exact I.mod.glob.keeps I.bk) hm h) hd
theorem ld_blt {E : Value → Shared → Prop} {pins : List (Addr × Obj)} {s : Shared} {σ : St} {H : Hp} {x : Str} {u : Value} {pos : Pos} {Q : Value → Shared → Prop} (I : Inv X pins σ H s) (hg : Gl X x) (hm : X.mg x = none) (hv : bootBuiltins x = some u) (h : Q u s)
    (hn : x ≠ "__name__" := by decide) (hd : (x == ("__debug__" : Str)) = false := by decide) : wpAny (model X.prog X.w) X.A (eval (.Name x pos) X.env) Q E s := by
  obtain ⟨mb, h1, h2⟩ := I.mod.blt
  exact Calls.Name_function_global I.ok.kind hg (Calls.loadGlobal_builtin (by rw [I.ok.glob]; exact I.mod.glob.keeps I.bk) hm (by rw [I.ok.blt]; exact h1.keeps I.bk) ((h2 x hn).trans hv) h) hd
/-- a module's constant, a class, a function, as a value -/
theorem pe_glob {x : Str} {v : V} {u : Value} {pos : Pos} (hg : Gl X x) (hm : X.mg x = some u) (r : RelV v u) (hd : (x == ("__debug__" : Str)) = false := by decide) : PE X (.Name x pos) (tC v) :=
  fun _ _ _ H _ I h => ld_glob I hg hm ⟨v, H, I, r, h⟩ hd
theorem pe_bltn {x : Str} {v : V} {u : Value} {pos : Pos} (hg : Gl X x) (hm : X.mg x = none) (hv : bootBuiltins x = some u) (r : RelV v u) (hn : x ≠ "__name__" := by decide) (hd : (x == ("__debug__" : Str)) = false := by decide) : PE X (.Name x pos) (tC v) :=
  fun _ _ _ H _ I h => ld_blt I hg hm hv ⟨v, H, I, r, h⟩ hn hd
/-! ### arithmetic -/
variable {a b : Expr} {ta tb : TE} {pos : Pos}
/-! ### comparisons -/
/-- a comparison as a value, as a test -/
def tB (t : TE) : TT := fun σ H Q => t σ H fun x H1 => ∃ c, x = .bl c ∧ Q c H1
/-- an expression whose value is a bool, as a test -/
theorem pt_val {e : Expr} {t : TE} (h : PE X e t) (he : ∀ whole, isTrue e X.env whole = (do let v ← whole; standAt e.pos; holding [v] (truthy v)) := by intro _; rfl) : PT X e (tB t) := by
  intro pins s σ H Q I hw
  refine isTrue_plain (thn (h pins s σ H _ I hw) fun v s1 ⟨x, H1, I1, r1, q1⟩ => ?_) (he _)
  obtain ⟨d, rfl, q⟩ := q1
  cases r1
  exact wpAny_truthy_bool ⟨H1, I1, q⟩
/-! ### and, or, not -/
variable {tA tB' : TT} {rest : List Expr}
def tAnd (t u : TT) : TT := fun σ H Q => t σ H fun c H1 => if c = true then u σ H1 Q else Q false H1
def tOr (t u : TT) : TT := fun σ H Q => t σ H fun c H1 => if c = true then Q true H1 else u σ H1 Q
def tNot (t : TT) : TT := fun σ H Q => t σ H fun c H1 => Q (!c) H1
theorem pw_and1 (ha : PT X a tA) : PW X (.BoolOp .And [a] pos) tA := by
  intro wh pins s σ H Q I h
  refine isTrue_and (thn (ha pins s σ H Q I h) fun c s1 e => ?_)
  cases c with
  | true => exact isTrue_and_nil e
  | false => exact e
theorem pw_or1 (ha : PT X a tA) : PW X (.BoolOp .Or [a] pos) tA := by
  intro wh pins s σ H Q I h
  refine isTrue_or (thn (ha pins s σ H Q I h) fun c s1 e => ?_)
  cases c with
  | false => exact isTrue_or_nil e
  | true => exact e
theorem pw_and (ha : PT X a tA) (hb : PW X (.BoolOp .And (b :: rest) pos) tB') : PW X (.BoolOp .And (a :: b :: rest) pos) (tAnd tA tB') := by
  intro wh pins s σ H Q I h
  refine isTrue_and (thn (ha pins s σ H _ I h) fun c s1 ⟨H1, I1, q1⟩ => ?_)
  cases c with
  | true => exact hb wh pins s1 σ H1 Q I1 q1
  | false => exact ⟨H1, I1, q1⟩
theorem pw_or (ha : PT X a tA) (hb : PW X (.BoolOp .Or (b :: rest) pos) tB') : PW X (.BoolOp .Or (a :: b :: rest) pos) (tOr tA tB') := by
  intro wh pins s σ H Q I h
  refine isTrue_or (thn (ha pins s σ H _ I h) fun c s1 ⟨H1, I1, q1⟩ => ?_)
  cases c with
  | true => exact ⟨H1, I1, q1⟩
  | false => exact hb wh pins s1 σ H1 Q I1 q1
theorem pt_not (ha : PT X a tA) : PT X (.UnaryOp .Not a pos) (tNot tA) := by
  intro pins s σ H Q I h
  exact isTrue_not (ha pins s σ H (fun c H1 => Q (!c) H1) I h)
/-- .. as values (bools) -/
def tAndV (ta tb : TE) : TE := fun σ H Q => ta σ H fun x H1 => ∃ c, x = .bl c ∧ if c = true then tb σ H1 Q else Q (.bl false) H1
def tNotV (ta : TE) : TE := fun σ H Q => ta σ H fun x H1 => ∃ c, x = .bl c ∧ Q (.bl (!c)) H1
theorem pe_one {op} {t : TE} (h : PE X a t) : PE X (.BoolOp op [a] pos) t := fun pins s σ H Q I hw => BoolOp_one (h pins s σ H Q I hw)
theorem pe_and (ha : PE X a ta) (hb : PE X (.BoolOp .And (b :: rest) pos) tb) : PE X (.BoolOp .And (a :: b :: rest) pos) (tAndV ta tb) := by
  intro pins s σ H Q I h
  refine BoolOp_and (thn (ha pins s σ H _ I h) fun v s1 ⟨x, H1, I1, r1, q1⟩ => ?_)
  obtain ⟨c, rfl, q1⟩ := q1
  cases r1
  refine wpAny_truthy_bool ?_
  cases c with
  | true => exact hb pins s1 σ H1 Q I1 q1
  | false => exact ⟨.bl false, H1, I1, rfl, q1⟩
theorem pe_not (ha : PE X a ta) : PE X (.UnaryOp .Not a pos) (tNotV ta) := by
  intro pins s σ H Q I h
  refine UnaryOp_ (thn (ha pins s σ H _ I h) fun v s1 ⟨x, H1, I1, r1, q1⟩ => ?_)
  obtain ⟨c, rfl, q1⟩ := q1
  cases r1
  exact not_of (wpAny_truthy_bool ⟨.bl (!c), H1, I1, rfl, q1⟩)
end
end L2
namespace L2
open PySem PySem.Spec PyProof.Rows
/-! ### a list, a tuple that is read: tracked, frozen, or an object of the module -/
def SqL (K : PySem.W.Frag) (H : Hp) (a : Addr) (xs : List V) : Prop :=
  Rd H a (.lst xs) ∨
    ∃ (o : Obj) (its : Array Value) (n : Nat), K.lookup a = some o ∧ o.cls = .type "list" ∧ o.dict = none ∧ o.data = .seq its n ∧ its.size ≤ sizeLine ∧ Vals xs its.toList
def SqT (K : PySem.W.Frag) (H : Hp) (a : Addr) (xs : List V) : Prop :=
  Rd H a (.tup xs) ∨
    ∃ (o : Obj) (its : Array Value) (n : Nat), K.lookup a = some o ∧ o.cls = .type "tuple" ∧ o.data = .seq its n ∧ its.size ≤ sizeLine ∧ Vals xs its.toList
def absV : Value → Option V
  | .none => some .non
  | .bool b => some (.bl b)
  | .int i _ => some (.int i)
  | .str x _ => some (.str x)
  | .bytes b _ => some (.byt b)
  | .float b _ => some (.flt b)
  | .ref a => some (.ref a)
  | .type n => some (.ty n)
  | _ => none
theorem RelV.abs {x : V} {u : Value} (r : RelV x u) : absV u = some x := by
  cases x with
  | non => cases r; rfl
  | bl _ => cases r; rfl
  | int _ => obtain ⟨t, rfl⟩ := r; rfl
  | str _ => obtain ⟨t, rfl⟩ := r; rfl
  | byt _ => obtain ⟨t, rfl⟩ := r; rfl
  | flt _ => obtain ⟨t, rfl⟩ := r; rfl
  | ref _ => cases r; rfl
  | ty _ => cases r; rfl
theorem RelV.inj {x y : V} {u : Value} (r : RelV x u) (q : RelV y u) : x = y := Option.some.inj (r.abs.symm.trans q.abs)
theorem Vals.inj : ∀ {xs ys : List V} {us : List Value}, Vals xs us → Vals ys us → xs = ys
  | _, _, _, .nil, .nil => rfl
  | _, _, _, .cons r t, .cons r' t' => by rw [r.inj r', Vals.inj t t']
section
variable {X : Cx} {pins : List (Addr × Obj)} {σ : St} {H : Hp} {s : Shared} {a : Addr} {xs ys : List V}
theorem SqL.of {K : PySem.W.Frag} (h : H a = some (.lst xs)) : SqL K H a xs := .inl (.inl h)
theorem SqT.of {K : PySem.W.Frag} (h : H a = some (.tup xs)) : SqT K H a xs := .inl (.inl h)
theorem Inv.list (I : Inv X pins σ H s) (h : SqL X.K H a xs) : ∃ its : List Value, Vals xs its ∧ PlainL s.heap a its.toArray ∧ xs.length ≤ sizeLine := by
  rcases h with h | ⟨o, its, n, hk, hc, hd, hs, hz, r⟩
  · obtain ⟨z, its, n, r, e⟩ := h.ok I.hok
    exact ⟨its, r, ⟨_, n, e, rfl, rfl, rfl⟩, z⟩
  · refine ⟨its.toList, r, ⟨o, n, I.kIn a o hk, hc, hd, by simpa using hs⟩, ?_⟩
    have e := r.length
    simp only [Array.length_toList] at e
    omega
theorem Inv.tuple (I : Inv X pins σ H s) (h : SqT X.K H a xs) : ∃ its : List Value, Vals xs its ∧ IsTup s.heap a its.toArray ∧ xs.length ≤ sizeLine := by
  rcases h with h | ⟨o, its, n, hk, hc, hs, hz, r⟩
  · obtain ⟨z, its, r, p⟩ := h.ok I.hok
    exact ⟨its, r, p, z⟩
  · refine ⟨its.toList, r, ⟨o, I.kIn a o hk, hc, n, by simpa using hs⟩, ?_⟩
    have e := r.length
    simp only [Array.length_toList] at e
    omega
theorem Inv.list_inj (I : Inv X pins σ H s) (h : SqL X.K H a xs) (h' : SqL X.K H a ys) : xs = ys := by
  obtain ⟨its, r, ⟨o, n, e, _, _, d⟩, _⟩ := I.list h
  obtain ⟨its', r', ⟨o', n', e', _, _, d'⟩, _⟩ := I.list h'
  rw [e] at e'; cases e'
  rw [d] at d'
  injection d' with d1 _
  have : its = its' := by simpa using congrArg Array.toList d1
  subst this
  exact r.inj r'
theorem Inv.tuple_inj (I : Inv X pins σ H s) (h : SqT X.K H a xs) (h' : SqT X.K H a ys) : xs = ys := by
  obtain ⟨its, r, ⟨o, e, _, n, d⟩, _⟩ := I.tuple h
  obtain ⟨its', r', ⟨o', e', _, n', d'⟩, _⟩ := I.tuple h'
  rw [e] at e'; cases e'
  rw [d] at d'
  injection d' with d1 _
  have : its = its' := by simpa using congrArg Array.toList d1
  subst this
  exact r.inj r'
end
/-! ### another wish about exceptions -/
abbrev Cx.wish (X : Cx) (E : Value → Shared → Prop) : Cx := { X with xe := E }
/-- no exception leaves -/
abbrev Cx.nox (X : Cx) : Cx := X.wish fun _ _ => False
theorem Cx.Ok.wish {X : Cx} (ok : X.Ok) (E : Value → Shared → Prop) : (X.wish E).Ok :=
  ⟨ok.mod, ok.kind, ok.glob, ok.blt, ok.above, ok.inj, ok.has, ok.cab, ok.hd, ok.frames, ok.stk, ok.exf, ok.bs, ok.bsz, ok.noex, ok.exfs, ok.funs, ok.frf⟩
theorem Cx.Ok.unwish {X : Cx} {E : Value → Shared → Prop} (ok : (X.wish E).Ok) : X.Ok :=
  ⟨ok.mod, ok.kind, ok.glob, ok.blt, ok.above, ok.inj, ok.has, ok.cab, ok.hd, ok.frames, ok.stk, ok.exf, ok.bs, ok.bsz, ok.noex, ok.exfs, ok.funs, ok.frf⟩
section
variable {X : Cx} {pins : List (Addr × Obj)} {σ : St} {H : Hp} {s : Shared} {E : Value → Shared → Prop}
theorem Inv.wish (I : Inv X pins σ H s) (E : Value → Shared → Prop) : Inv (X.wish E) pins σ H s := ⟨I.ok.wish E, I.os, I.bare, I.base, I.loc, I.cell, I.free, I.freeC, I.pin, I.hok, I.len⟩
theorem Inv.unwish (I : Inv (X.wish E) pins σ H s) : Inv X pins σ H s := ⟨I.ok.unwish, I.os, I.bare, I.base, I.loc, I.cell, I.free, I.freeC, I.pin, I.hok, I.len⟩
theorem SP.unwish {D : Ends} {f : Flow} {s' : Shared} (h : SP (X.wish E) pins D f s') : SP X pins D f s' := by
  cases f with
  | next => obtain ⟨σ', H', I, q⟩ := h; exact ⟨σ', H', I.unwish, q⟩
  | brk => obtain ⟨σ', H', I, q⟩ := h; exact ⟨σ', H', I.unwish, q⟩
  | cont => obtain ⟨σ', H', I, q⟩ := h; exact ⟨σ', H', I.unwish, q⟩
  | ret u => obtain ⟨v, σ', H', I, r, q⟩ := h; exact ⟨v, σ', H', I.unwish, r, q⟩
theorem PE.nox {e : Expr} {t : TE} (h : PE X.nox e t) : PE X e t := fun pins s σ H Q I hw =>
  wpAny_mono (h pins s σ H Q (I.wish _) hw) (fun _ _ ⟨v, H', I', r, q⟩ => ⟨v, H', I'.unwish, r, q⟩) fun _ _ z => False.elim z
theorem PT.nox {e : Expr} {t : TT} (h : PT X.nox e t) : PT X e t := fun pins s σ H Q I hw =>
  wpAny_mono (h pins s σ H Q (I.wish _) hw) (fun _ _ ⟨H', I', q⟩ => ⟨H', I'.unwish, q⟩) fun _ _ z => False.elim z
theorem PSs.nox {st : List Stmt} {t : TS} (h : PSs X.nox st t) : PSs X st t := fun pins s σ H D I hw =>
  wpAny_mono (h pins s σ H D (I.wish _) hw) (fun _ _ q => q.unwish) fun _ _ z => False.elim z
end
/-! ### blocks and small statements -/
section
variable {X : Cx} {st : Stmt} {rest : List Stmt} {t u : TS} {e : Expr} {te : TE} {pos : Pos}
def tNext : TS := fun D σ H => D.nx σ H
def tSeq (t u : TS) : TS := fun D σ H => t { D with nx := u D } σ H
theorem pss_nil : PSs X [] tNext := fun _ _ σ H _ I h => wpAny_execs_nil ⟨σ, H, I, h⟩
theorem pss_cons (h1 : PS X st t) (h2 : PSs X rest u) : PSs X (st :: rest) (tSeq t u) := by
  intro pins s σ H D I h
  refine wpAny_execs_cons (thn (h1 pins s σ H { D with nx := u D } I h) fun f s1 q => ?_)
  cases f with
  | next =>
    obtain ⟨σ', H', I', q⟩ := q
    exact h2 pins s1 σ' H' D I' q
  | ret v => exact q
  | brk => exact q
  | cont => exact q
theorem pss_one (h1 : PS X st t) : PSs X [st] t := by
  intro pins s σ H D I h
  refine wpAny_execs_cons (thn (h1 pins s σ H D I h) fun f s1 q => ?_)
  cases f with
  | next => exact wpAny_execs_nil q
  | ret v => exact q
  | brk => exact q
  | cont => exact q
/-- in a def's body nothing is shown -/
theorem Inv.quiet {pins : List (Addr × Obj)} {σ : St} {H : Hp} {s : Shared} (I : Inv X pins σ H s) : interactive X.env = false := by simp [interactive, I.ok.kind]
/-- an expression whose value is dropped -/
def tDrop (te : TE) : TS := fun D σ H => te σ H fun _ H1 => D.nx σ H1
theorem ps_expr (he : PE X e te) (hs : swapsWith e none pos.line X.env = pure false := by rfl) : PS X (.Expr e pos) (tDrop te) := by
  intro pins s σ H D I h
  exact wpAny_Expr_any (thn (he pins s σ H _ I h) fun v s1 ⟨x, H1, I1, r1, q1⟩ => ⟨σ, H1, I1, q1⟩) I.quiet hs
def tRet (te : TE) : TS := fun D σ H => te σ H D.rt
theorem ps_ret (he : PE X e te) : PS X (.Return (some e) pos) (tRet te) := by
  intro pins s σ H D I h
  exact wpAny_Return_some (thn (he pins s σ H _ I h) fun v s1 ⟨x, H1, I1, r1, q1⟩ => ⟨x, σ, H1, I1, r1, q1⟩)
def tIfS (c : TT) (t u : TS) : TS := fun D σ H => c σ H fun b H1 => if b = true then t D σ H1 else u D σ H1
theorem ps_if {c : Expr} {a b : List Stmt} {tc : TT} (hc : PT X c tc) (ha : PSs X a t) (hb : PSs X b u) : PS X (.If c a b pos) (tIfS tc t u) := by
  intro pins s σ H D I h
  refine wpAny_If (thn (hc pins s σ H _ I h) fun d s1 ⟨H1, I1, q1⟩ => ?_)
  cases d with
  | true => exact ha pins s1 σ H1 D I1 q1
  | false => exact hb pins s1 σ H1 D I1 q1
end
/-! ### targets -/
abbrev TG := V → St → Hp → (St → Hp → Prop) → Prop
abbrev TGs := List V → St → Hp → (St → Hp → Prop) → Prop
def PG (X : Cx) (target : Expr) (t : TG) : Prop :=
  ∀ (pins : List (Addr × Obj)) (s : Shared) (σ : St) (H : Hp) (v : V) (u : Value) (Q : St → Hp → Prop), Inv X pins σ H s → RelV v u → t v σ H Q →
    wpAny (model X.prog X.w) X.A (assign target X.env u) (fun _ s' => ∃ σ' H', Inv X pins σ' H' s' ∧ Q σ' H') X.xe s
/-- several targets, one after another -/
def PGs (X : Cx) (ts : List Expr) (t : TGs) : Prop :=
  ∀ (pins : List (Addr × Obj)) (s : Shared) (σ : St) (H : Hp) (vs : List V) (us : List Value) (Q : St → Hp → Prop), Inv X pins σ H s → Vals vs us → t vs σ H Q →
    wpAny (model X.prog X.w) X.A (assignInOrder ((assignEach ts X.env).map (·.2)) us) (fun _ s' => ∃ σ' H', Inv X pins σ' H' s' ∧ Q σ' H') X.xe s
/-- o[i] = v, by values -/
abbrev TSet := V → V → V → Hp → (Hp → Prop) → Prop
section
variable {X : Cx} {pos : Pos}
def gName (i : Nat) : TG := fun v σ H Q => Q (σ.set i (some v)) H
theorem pg_name {i : Nat} {x : Str} (hN : X.N.Nodup) (hi : X.N[i]? = some x) (hx : Loc X.env.scope x) (hf : X.fn x = true ∨ X.env.scope.names.lookup x = some .local := by first | exact .inl rfl | exact .inr rfl | assumption) : PG X (.Name x pos) (gName i) := by
  intro pins s σ H v u Q I r h
  exact wpAny_assign_Name (store_ok I hN hi hx r (fun s' I' => ⟨_, H, I', h⟩) hf)
def gNil : TGs := fun vs σ H Q => vs = [] ∧ Q σ H
def gCons (t : TG) (u : TGs) : TGs := fun vs σ H Q => ∃ v r, vs = v :: r ∧ t v σ H fun σ' H' => u r σ' H' Q
theorem pgs_nil : PGs X [] gNil := by
  intro pins s σ H vs us Q I r h
  obtain ⟨e, h⟩ := h
  subst e
  cases r
  exact assignInOrder_nil ⟨σ, H, I, h⟩
theorem pgs_cons {e : Expr} {es : List Expr} {t : TG} {u : TGs} (h1 : PG X e t) (h2 : PGs X es u)
    (hs : (assignEach (e :: es) X.env).map (·.2) = assign e X.env :: (assignEach es X.env).map (·.2) := by rfl) : PGs X (e :: es) (gCons t u) := by
  intro pins s σ H vs us Q I r h
  obtain ⟨v, vr, e1, h⟩ := h
  subst e1
  cases r with
  | cons r rr =>
    rw [hs]
    refine assignInOrder_cons (thn (h1 pins s σ H _ _ _ I r h) fun _ s1 ⟨σ1, H1, I1, q1⟩ => ?_)
    exact h2 pins s1 σ1 H1 _ _ Q I1 rr q1
/-- (a, b, ..) = a tuple of that length -/
def gTup (K : PySem.W.Frag) (n : Nat) (t : TGs) : TG := fun v σ H Q => ∃ a xs, v = .ref a ∧ SqT K H a xs ∧ xs.length = n ∧ t xs σ H Q
theorem pg_tup {es : List Expr} {k : Nat} {t : TGs} {n : Nat} (hc : X.calm = true) (h : PGs X es t)
    (hn : (assignEach es X.env).length = n := by rfl) (hst : (assignEach es X.env).findIdx? (·.1) = none := by rfl) : PG X (.Tuple es k pos) (gTup X.K n t) := by
  intro pins s σ H v u Q I r hw
  obtain ⟨a, xs, e1, hq, hl, hw⟩ := hw
  subst e1
  cases r
  obtain ⟨its, rv, ht, hz⟩ := I.tuple hq
  refine assign_Tuple_tuple (I.ok.hd hc) ht (by simp [hn, ← hl, rv.length]) hst fun h' hx => ?_
  have I1 : Inv X pins σ H { s with heap := h' } := I.kept (t' := s.toks) fun b o e => hx b o (Nat.ne_of_lt (Heap.lt_size e)) e
  exact h pins _ σ H xs _ Q I1 (by simpa using rv) hw
/-- o[i] = .. -/
def gSub (to ti : TE) (t : TSet) : TG := fun v σ H Q => to σ H fun o H1 => ti σ H1 fun i H2 => t o i v H2 fun H3 => Q σ H3
/-- target = value -/
def tAsg (te : TE) (g : TG) : TS := fun D σ H => te σ H fun x H1 => g x σ H1 D.nx
/-- name = value -/
theorem ps_set {i : Nat} {x : Str} {e : Expr} {te : TE} {pos' : Pos} (hN : X.N.Nodup) (hi : X.N[i]? = some x) (hx : Loc X.env.scope x) (he : PE X e te) (hs : swapsWith e (some (.Name x pos')) pos.line X.env = pure false := by rfl) (hf : X.fn x = true ∨ X.env.scope.names.lookup x = some .local := by first | exact .inl rfl | exact .inr rfl | assumption) :
    PS X (.Assign [.Name x pos'] e pos) (tAsg te (gName i)) := by
  intro pins s σ H D I h
  refine wpAny_Assign_Name (thn (he pins s σ H _ I h) fun v s1 ⟨y, H1, I1, r1, q1⟩ => ?_) hs
  exact store_ok I1 hN hi hx r1 (fun s2 I2 => ⟨_, H1, I2, q1⟩) hf
end
/-! ### while -/
section
variable {X : Cx} {pos : Pos}
end
/-! ### what a loop or a comprehension walks -/
/-- at turn i: it yields x (the heap may grow), or it stops -/
structure It where
  go : Nat → Hp → Prop
  yld : Nat → Hp → V → Hp → Prop
  stop : Nat → Hp → Prop
/-- the iterator's own objects may turn: they are not the frame's, not pinned, younger than the entry (or a comprehension's own) -/
def FpOk (X : Cx) (pins : List (Addr × Obj)) (H : Hp) (b : Addr) : Prop :=
  H b = none ∧ b ≠ X.env.locals ∧ b ∉ X.fs ∧ (b ∈ X.ex ∨ X.s₀.heap.objs.size ≤ b) ∧ (∀ x c, X.env.cells.lookup x = some c → c ≠ b) ∧ ∀ p ∈ X.pn ++ pins, p.1 ≠ b
theorem Inv.fpOk {X : Cx} {pins : List (Addr × Obj)} {σ : St} {H H' : Hp} {s : Shared} {b : Addr} (I : Inv X pins σ H s) (hb : s.heap.objs.size ≤ b) (hn : H' b = none) : FpOk X pins H' b := by
  refine ⟨hn, Nat.ne_of_gt (Nat.lt_of_lt_of_le I.lt hb), I.nofs hb, .inr (Nat.le_trans I.sz hb), fun x c e z => ?_, fun p hp z => ?_⟩
  · obtain ⟨v, q⟩ := I.cell x c e
    exact absurd (Nat.lt_of_lt_of_le q.lt (by rw [z]; exact hb)) (Nat.lt_irrefl _)
  · exact absurd (Nat.lt_of_lt_of_le (Heap.lt_size (I.pin p hp).1) (by rw [z]; exact hb)) (Nat.lt_irrefl _)
structure Turn (P : Program) (w : World) (K : PySem.W.Frag) (tg : Expr) (J : It) (fp : List Addr) (it : Addr) (tn : Nat → Heap → Prop) : Prop where
  mem : it ∈ fp
  obj : ∀ i h, tn i h → ∀ b ∈ fp, ∃ o, h.get? b = some o ∧ ∀ v, o.data ≠ .cell v
  keep : ∀ i h h', tn i h → (∀ b ∈ fp, ∀ o, h.get? b = some o → h'.get? b = some o) → tn i h'
  item : ∀ (X : Cx), X.prog = P → X.w = w → X.K = K → X.calm = true → ∀ (i : Nat) (pins : List (Addr × Obj)) (s : Shared) (σ : St) (H : Hp) (E : Value → Shared → Prop), Inv X pins σ H s → (∀ b ∈ fp, FpOk X pins H b) → tn i s.heap → J.go i H →
    wpAny (model P w) X.A (pyNext (.ref it)) (fun r s1 => ∃ u, r = some u ∧
      wpAny (model P w) X.A (letOwnedTupleGo tg (.ref it) u) (fun _ s2 => ∃ x H', Inv X pins σ H' s2 ∧ RelV x u ∧ J.yld i H x H' ∧ tn (i + 1) s2.heap ∧ ∀ b ∈ fp, H' b = none) E s1) E s
  done : ∀ (X : Cx), X.prog = P → X.w = w → X.K = K → X.calm = true → ∀ (i : Nat) (pins : List (Addr × Obj)) (s : Shared) (σ : St) (H : Hp) (E : Value → Shared → Prop), Inv X pins σ H s → (∀ b ∈ fp, FpOk X pins H b) → tn i s.heap → J.stop i H →
    wpAny (model P w) X.A (pyNext (.ref it)) (fun r s1 => r = none ∧ Inv X pins σ H s1) E s
  self : ∀ (A : Around) (i : Nat) (s : Shared) (Q : Value → Shared → Prop) (E : Value → Shared → Prop), tn i s.heap → Q (.ref it) s → wpAny (model P w) A (pyIter (.ref it)) Q E s
abbrev TI := St → Hp → (It → Hp → Prop) → Prop
/-- an iterator has come -/
def PIE (X : Cx) (pins : List (Addr × Obj)) (σ : St) (tg : Expr) (R : It → Hp → Prop) (itv : Value) (s2 : Shared) : Prop :=
  ∃ (it : Addr) (fp : List Addr) (tn : Nat → Heap → Prop) (J : It) (H' : Hp), itv = .ref it ∧ Inv X pins σ H' s2 ∧ Turn X.prog X.w X.K tg J fp it tn ∧ tn 0 s2.heap ∧ (∀ b ∈ fp, FpOk X pins H' b) ∧ R J H'
def PI (X : Cx) (tg iter : Expr) (wi : TI) : Prop :=
  ∀ (pins : List (Addr × Obj)) (s : Shared) (σ : St) (H : Hp) (R : It → Hp → Prop), Inv X pins σ H s → wi σ H R →
    wpAny (model X.prog X.w) X.A (eval iter X.env) (fun v s1 => wpAny (model X.prog X.w) X.A (pyIter v) (PIE X pins σ tg R) X.xe s1) X.xe s
/-- the step ahead of the store is nothing for an iterator that keeps no tuple -/
theorem go_of {M : Model} {A : Around} {E : Value → Shared → Prop} {s : Shared} {tg : Expr} {it : Addr} {u : Value} {o : Obj} {n : String} {vs : Array Value} {Q : Unit → Shared → Prop} (ho : s.heap.get? it = some o) (hc : o.cls = .type n) (hd : o.data = .fields vs)
    (hn : ["enumerate", "zip", "dict_itemiterator", "dict_reverseitemiterator", "odict_iterator", "itertools.zip_longest", "itertools.pairwise"].contains n = false) (hQ : Q () s) : wpAny M A (letOwnedTupleGo tg (.ref it) u) Q E s := by
  unfold letOwnedTupleGo
  cases tg <;> first
    | exact wpAny_pure hQ
    | (cases u <;> first
        | exact wpAny_pure hQ
        | (refine wpAny_bind (wpAny_load ho ?_)
           rw [hc, hd]
           show wpAny M A (if (["enumerate", "zip", "dict_itemiterator", "dict_reverseitemiterator", "odict_iterator", "itertools.zip_longest", "itertools.pairwise"].contains n && vs[0]? == some (rawInt _)) = true then _ else _) Q E s
           rw [if_neg (by intro h; rw [hn, Bool.false_and] at h; cases h)]
           exact wpAny_pure hQ))
/-- the list at a, as it stands at each turn (a loop may append to it) -/
def Itl (K : PySem.W.Frag) (a : Addr) : It :=
  ⟨fun i H => ∃ xs x, SqL K H a xs ∧ xs[i]? = some x, fun i H x H' => H' = H ∧ ∀ xs, SqL K H a xs → xs[i]? = some x, fun i H => ∃ xs, SqL K H a xs ∧ xs.length ≤ i⟩
def Itt (K : PySem.W.Frag) (a : Addr) : It :=
  ⟨fun i H => ∃ xs x, SqT K H a xs ∧ xs[i]? = some x, fun i H x H' => H' = H ∧ ∀ xs, SqT K H a xs → xs[i]? = some x, fun i H => ∃ xs, SqT K H a xs ∧ xs.length ≤ i⟩
/-- lo, lo + 1, .. (n of them) -/
def Itr (lo : Int) (n : Nat) : It := ⟨fun i _ => i < n, fun i H x H' => H' = H ∧ x = .int (lo + i), fun i _ => n ≤ i⟩
theorem turn_list {P : Program} {w : World} {K : PySem.W.Frag} {tg : Expr} (a it : Addr) : Turn P w K tg (Itl K a) [it] it (fun i h => h.IsListIter it a i) where
  mem := by simp
  obj := fun i h st b hb => by
    have e : b = it := by simpa using hb
    subst e
    obtain ⟨o, e, c, d⟩ := st
    exact ⟨o, e, fun v z => by rw [d] at z; cases z⟩
  keep := fun i h h' st k => st.at fun o e => k it (by simp) o e
  item := by
    intro X hP hw hK hc i pins s σ H E I hf st hg
    subst hP hw hK
    obtain ⟨xs, x, hq, hx⟩ := hg
    obtain ⟨its, rv, p, hz⟩ := I.list hq
    obtain ⟨u, hu, ru⟩ := rv.get hx
    obtain ⟨f0, f1, f2, f3, f4, f5⟩ := hf it (by simp)
    refine wpAny_pyNext_list_item st p.isList (x := u) (by simpa using hu) fun h' st' sb => ?_
    have I1 : Inv X pins σ H { s with heap := h' } := I.turned (t' := s.toks) (fun b o hb e => (sb.2 b hb).trans e) f0 f1 f3 f4 f5
    obtain ⟨o, e, c, d⟩ := id st'
    exact ⟨u, rfl, go_of (s := { s with heap := h' }) e c d (by decide) ⟨x, H, I1, ru, ⟨rfl, fun ys hy => by rw [I.list_inj hy hq]; exact hx⟩, st', fun b hb => (hf b hb).1⟩⟩
  done := by
    intro X hP hw hK hc i pins s σ H E I hf st hg
    subst hP hw hK
    obtain ⟨xs, hq, hx⟩ := hg
    obtain ⟨its, rv, p, hz⟩ := I.list hq
    obtain ⟨f0, f1, f2, f3, f4, f5⟩ := hf it (by simp)
    have hl := rv.length
    exact wpAny_pyNext_list_end (I.ok.hd hc) st p.isList (by simp; omega) fun h' eb => ⟨rfl, I.turned (t' := s.toks) (fun b o hb e => eb b o hb e) f0 f1 f3 f4 f5⟩
  self := fun _ _ _ _ _ st h => wpAny_pyIter_listiter st h
theorem turn_tuple {P : Program} {w : World} {K : PySem.W.Frag} {tg : Expr} (a it : Addr) : Turn P w K tg (Itt K a) [it] it (fun i h => h.IsTupleIter it a i) where
  mem := by simp
  obj := fun i h st b hb => by
    have e : b = it := by simpa using hb
    subst e
    obtain ⟨o, e, c, d⟩ := st
    exact ⟨o, e, fun v z => by rw [d] at z; cases z⟩
  keep := fun i h h' st k => st.at fun o e => k it (by simp) o e
  item := by
    intro X hP hw hK hc i pins s σ H E I hf st hg
    subst hP hw hK
    obtain ⟨xs, x, hq, hx⟩ := hg
    obtain ⟨its, rv, p, hz⟩ := I.tuple hq
    obtain ⟨u, hu, ru⟩ := rv.get hx
    obtain ⟨f0, f1, f2, f3, f4, f5⟩ := hf it (by simp)
    refine wpAny_pyNext_tuple_item st (show s.heap.IsTuple a its.toArray from p) (x := u) (by simpa using hu) fun h' st' sb => ?_
    have I1 : Inv X pins σ H { s with heap := h' } := I.turned (t' := s.toks) (fun b o hb e => (sb.2 b hb).trans e) f0 f1 f3 f4 f5
    obtain ⟨o, e, c, d⟩ := id st'
    exact ⟨u, rfl, go_of (s := { s with heap := h' }) e c d (by decide) ⟨x, H, I1, ru, ⟨rfl, fun ys hy => by rw [I.tuple_inj hy hq]; exact hx⟩, st', fun b hb => (hf b hb).1⟩⟩
  done := by
    intro X hP hw hK hc i pins s σ H E I hf st hg
    subst hP hw hK
    obtain ⟨xs, hq, hx⟩ := hg
    obtain ⟨its, rv, p, hz⟩ := I.tuple hq
    obtain ⟨f0, f1, f2, f3, f4, f5⟩ := hf it (by simp)
    have hl := rv.length
    exact wpAny_pyNext_tuple_end (I.ok.hd hc) st (show s.heap.IsTuple a its.toArray from p) (by simp; omega) fun h' eb => ⟨rfl, I.turned (t' := s.toks) (fun b o hb e => eb b o hb e) f0 f1 f3 f4 f5⟩
  self := fun _ _ _ _ _ st h => wpAny_pyIter_tupleiter st h
theorem turn_range {P : Program} {w : World} {K : PySem.W.Frag} {tg : Expr} (it : Addr) (lo : Int) (n : Nat) : Turn P w K tg (Itr lo n) [it] it (fun i h => IsRangeIter h it (lo + (i : Nat) * 1) ((n : Int) - (i : Nat)) 1) where
  mem := by simp
  obj := fun i h st b hb => by
    have e : b = it := by simpa using hb
    subst e
    exact ⟨_, st, fun v z => by
      have z' : Data.fields _ = Data.cell v := z
      cases z'⟩
  keep := fun i h h' st k => k it (by simp) _ st
  item := by
    intro X hP hw hK hc i pins s σ H E I hf st hg
    subst hP hw hK
    obtain ⟨f0, f1, f2, f3, f4, f5⟩ := hf it (by simp)
    have W := Walks.range (prog := X.prog) (w := X.w) (I.ok.hd hc) it lo 1 n
    refine W.item i s _ _ hg st fun v h' tk hv st' kk => ?_
    obtain ⟨t, rfl⟩ := hv
    have I1 : Inv X pins σ H { s with heap := h', toks := tk } := I.turned (fun b o hb e => kk b o (by simpa using hb) e) f0 f1 f3 f4 f5
    refine ⟨_, rfl, go_of (s := { s with heap := h', toks := tk }) (n := "range_iterator") st' rfl rfl (by decide) ⟨.int (lo + i), H, I1, ⟨t, ?_⟩, ⟨rfl, rfl⟩, st', fun b hb => (hf b hb).1⟩⟩
    rw [Int.mul_one]
  done := by
    intro X hP hw hK hc i pins s σ H E I hf st hg
    subst hP hw hK
    obtain ⟨f0, f1, f2, f3, f4, f5⟩ := hf it (by simp)
    exact wpAny_pyNext_range_end (I.ok.hd hc) st (by have : n ≤ i := hg; omega) fun h' eb => ⟨rfl, I.turned (t' := s.toks) (fun b o hb e => eb b o hb e) f0 f1 f3 f4 f5⟩
  self := fun _ _ _ _ _ st h => wpAny_pyIter_rangeiter st h
end L2
namespace L2
open PySem PySem.Spec PyProof.Rows
section
variable {X : Cx} {tg : Expr}
/-- a range object just made, walked -/
theorem range_it {pins : List (Addr × Obj)} {σ : St} {H : Hp} {s : Shared} {R : It → Hp → Prop} {E : Value → Shared → Prop} {lo hi : Int} {t u v : Tok} {tk : Nat} (I : Inv X pins σ H s) (h1 : -(2 ^ 62) ≤ lo) (h2 : lo < 2 ^ 62) (h3 : -(2 ^ 62) ≤ hi) (h4 : hi < 2 ^ 62)
    (q : R (Itr lo (hi - lo).toNat) H) : wpAny (model X.prog X.w) X.A (pyIter (.ref s.heap.objs.size)) (PIE X pins σ tg R) E { s with heap := s.heap.push { cls := .type "range", data := .fields #[.int lo t, .int hi u, .int 1 v] }, toks := tk } := by
  refine wpAny_pyIter_range (IsRange.new ..) (small_one h1 h2 h3 h4) ?_
  have I1 : Inv X pins σ H { s with heap := s.heap.push { cls := .type "range", data := .fields #[.int lo t, .int hi u, .int 1 v] }, toks := tk } := I.kept fun b o e => Heap.get?_push_of_some _ e
  refine ⟨(s.heap.push { cls := .type "range", data := .fields #[.int lo t, .int hi u, .int 1 v] }).objs.size, [(s.heap.push { cls := .type "range", data := .fields #[.int lo t, .int hi u, .int 1 v] }).objs.size], _, _, H, rfl,
    I1.kept (t' := tk) fun b o e => Heap.get?_push_of_some _ e, turn_range _ lo (hi - lo).toNat, ?_, fun b hb => ?_, q⟩
  · have e1 : lo + ((0 : Nat) : Int) * 1 = lo := by simp
    have e2 : (((hi - lo).toNat : Nat) : Int) - ((0 : Nat) : Int) = Builtin.Range.rangeSize lo hi 1 := by rw [rangeSize_one]; split <;> omega
    show IsRangeIter _ _ (lo + ((0 : Nat) : Int) * 1) ((((hi - lo).toNat : Nat) : Int) - ((0 : Nat) : Int)) 1
    rw [e1, e2]
    exact Heap.get?_push_size _ rfl
  · have e : b = (s.heap.push { cls := .type "range", data := .fields #[.int lo t, .int hi u, .int 1 v] }).objs.size := by simpa using hb
    subst e
    exact I1.fpOk (Nat.le_refl _) (I1.hok.fresh (Nat.le_refl _))
def iRng1 (ta : TA) : TI := fun σ H R => ta σ H fun vs H1 => ∃ j : Int, vs = [.int j] ∧ -(2 ^ 62) ≤ j ∧ j < 2 ^ 62 ∧ R (Itr 0 j.toNat) H1
theorem pi_range1 {a : Expr} {ta : TA} {p pos : Pos} (hg : Gl X "range") (hm : X.mg "range" = none) (ha : PA X [a] ta) (hs : starEach [a] X.env = [(false, eval a X.env)] := by rfl) : PI X tg (.Call (.Name "range" p) [a] [] pos) (iRng1 ta) := by
  intro pins s σ H R I h
  refine Call_ (ld_blt I hg hm boot_range (PyProof.Rows.callWith_type1 (thn (ha pos pins s σ H _ I h) fun us s1 ⟨vs, H1, I1, r1, q1⟩ => ?_) hs rfl))
  obtain ⟨j, e, q1, q2, q⟩ := q1
  subst e
  cases r1 with
  | cons r rr =>
    cases rr
    obtain ⟨t, rfl⟩ := r
    exact call_range_1 (range_it I1 (by omega) (by omega) q1 q2 (by simpa using q))
/-! ### for -/
/-- W: the invariant by the turn and a measure; N: what the body is to reach -/
def tFor (wi : TI) (g : TG) (tb : TS) : TS := fun D σ H => wi σ H fun J H1 => ∃ W : Nat → Nat → St → Hp → Prop, (∃ m, W 0 m σ H1) ∧ ∀ i m σ H, W i m σ H →
  (J.stop i H ∧ D.nx σ H) ∨ (J.go i H ∧ ∃ N : St → Hp → Prop, (∀ σ' H', N σ' H' → ∃ m', m' < m ∧ W (i + 1) m' σ' H') ∧ ∀ x H', J.yld i H x H' → g x σ H' fun σ2 H2 => tb { D with nx := N, ct := N, bk := D.nx } σ2 H2)
/-- the records at fp as they stand -/
def pinsAt (fp : List Addr) (h : Heap) : List (Addr × Obj) := fp.filterMap fun b => (h.get? b).map fun o => (b, o)
theorem mem_pinsAt {fp : List Addr} {h : Heap} {b : Addr} {o : Obj} (hb : b ∈ fp) (e : h.get? b = some o) : (b, o) ∈ pinsAt fp h := List.mem_filterMap.mpr ⟨b, hb, by rw [e]; rfl⟩
theorem of_pinsAt {fp : List Addr} {h : Heap} {p : Addr × Obj} (hp : p ∈ pinsAt fp h) : p.1 ∈ fp ∧ h.get? p.1 = some p.2 := by
  obtain ⟨b, hb, e⟩ := List.mem_filterMap.mp hp
  cases q : h.get? b with
  | none => rw [q] at e; cases e
  | some o =>
    rw [q] at e
    have e' : (b, o) = p := Option.some.inj e
    subst e'
    exact ⟨hb, q⟩
theorem Inv.pinned {pins : List (Addr × Obj)} {σ : St} {H : Hp} {s : Shared} {fp : List Addr} (I : Inv X pins σ H s) (hf : ∀ b ∈ fp, FpOk X pins H b) (ho : ∀ b ∈ fp, ∃ o, s.heap.get? b = some o ∧ ∀ v, o.data ≠ .cell v) : Inv X (pins ++ pinsAt fp s.heap) σ H s :=
  I.pins_of fun p hp => (List.mem_append.mp hp).elim (fun z => I.pin p (List.mem_append_right _ z)) fun z => by
    obtain ⟨hb, e⟩ := of_pinsAt z
    obtain ⟨f0, f1, f2, _⟩ := hf p.1 hb
    obtain ⟨o, e', d⟩ := ho p.1 hb
    rw [e] at e'; cases e'
    exact ⟨e, f0, f1, f2, d⟩
theorem Inv.unpinned {pins pl : List (Addr × Obj)} {σ : St} {H : Hp} {s : Shared} (I : Inv X (pins ++ pl) σ H s) : Inv X pins σ H s := I.pins_of fun p hp => I.pin p (List.mem_append_right _ (List.mem_append_left _ hp))
theorem ps_for {iter : Expr} {body : List Stmt} {wi : TI} {g : TG} {tb : TS} {pos : Pos} (hp : PassesOwn (model X.prog X.w) X.A X.env X.xe) (hc : X.calm = true) (hi : PI X tg iter wi) (hg : PG X tg g) (hb : PSs X body tb)
    (hs : ∀ x, foldedSetIterable iter X.env x = pure x := by intro _; rfl) : PS X (.For tg iter body [] pos) (tFor wi g tb) := by
  intro pins s σ H D I h
  refine wpAny_For (thn (hi pins s σ H _ I h) fun v s1 h1 => thn h1 fun itv s2 h2 => ?_) hs
  obtain ⟨it, fp, tn, J, H2, e, I2, T, st2, f2, W, ⟨m0, w0⟩, turn⟩ := h2
  subst e
  -- what stays true of the iterator's objects through the loop
  have stat : ∀ {H' : Hp}, (∀ b ∈ fp, H' b = none) → ∀ b ∈ fp, FpOk X pins H' b := fun hn b hb => ⟨hn b hb, (f2 b hb).2⟩
  refine codeAny_forLoop_any (fun n s' => ∃ i σ' H', Inv X pins σ' H' s' ∧ tn i s'.heap ∧ (∀ b ∈ fp, H' b = none) ∧ W i n σ' H') ?_ m0 ⟨0, σ, H2, I2, st2, fun b hb => (f2 b hb).1, w0⟩
  rintro n s3 ⟨i, σ3, H3, I3, st3, fr3, w3⟩
  rcases turn i n σ3 H3 w3 with ⟨stop, qn⟩ | ⟨go, N, hN, step⟩
  · refine wpAny_passesOwn hp (thn (T.done X rfl rfl rfl hc i pins s3 σ3 H3 X.xe I3 (stat fr3) st3 stop) fun r s4 ⟨hr, I4⟩ => ?_)
    subst hr
    exact wpAny_execs_nil ⟨σ3, H3, I4, qn⟩
  · refine wpAny_passesOwn hp (thn (T.item X rfl rfl rfl hc i pins s3 σ3 H3 X.xe I3 (stat fr3) st3 go) fun r s4 ⟨u, hr, h4⟩ => ?_)
    subst hr
    refine wpAny_passesOwn hp (thn h4 fun _ s5 ⟨x, H5, I5, r5, y5, st5, fr5⟩ => ?_)
    have I5' := I5.pinned (stat fr5) (T.obj _ _ st5)
    refine wpAny_passesOwn hp (thn (hg _ s5 σ3 H5 x u _ I5' r5 (step x H5 y5)) fun _ s6 ⟨σ6, H6, I6, q6⟩ => ?_)
    refine wpAny_passesOwn hp (thn (hb _ s6 σ6 H6 _ I6 q6) fun f s7 q7 => ?_)
    have again : ∀ {σ7 : St} {H7 : Hp}, Inv X (pins ++ pinsAt fp s5.heap) σ7 H7 s7 → N σ7 H7 → ∃ m, m < n ∧ ∃ i σ' H', Inv X pins σ' H' s7 ∧ tn i s7.heap ∧ (∀ b ∈ fp, H' b = none) ∧ W i m σ' H' := fun {σ7 H7} I7 n7 => by
      obtain ⟨m', hm, w7⟩ := hN σ7 H7 n7
      refine ⟨m', hm, i + 1, σ7, H7, I7.unpinned, T.keep _ _ _ st5 fun b hb o e => (I7.pin (b, o) (List.mem_append_right _ (List.mem_append_right _ (mem_pinsAt hb e)))).1, fun b hb => ?_, w7⟩
      obtain ⟨o, e, d⟩ := T.obj _ _ st5 b hb
      exact (I7.pin (b, o) (List.mem_append_right _ (List.mem_append_right _ (mem_pinsAt hb e)))).2.1
    cases f with
    | next => obtain ⟨σ7, H7, I7, n7⟩ := q7; exact again I7 n7
    | cont => obtain ⟨σ7, H7, I7, n7⟩ := q7; exact again I7 n7
    | brk => obtain ⟨σ7, H7, I7, q7⟩ := q7; exact ⟨σ7, H7, I7.unpinned, q7⟩
    | ret v => obtain ⟨x7, σ7, H7, I7, r7, q7⟩ := q7; exact ⟨x7, σ7, H7, I7.unpinned, r7, q7⟩
end
/-! ### the forms one uses -/
end L2
namespace L2
open PySem PySem.Spec PyProof.Rows
abbrev R2 := V → V → Hp → VK → Prop
/-- a two-place operation on values: f is binaryOp op, inplaceOp op or compareOp op -/
def OpR (X : Cx) (f : Value → Value → Sem Value) (r : R2) : Prop :=
  ∀ (pins : List (Addr × Obj)) (s : Shared) (σ : St) (H : Hp) (x y : V) (v u : Value) (Q : VK), Inv X pins σ H s → RelV x v → RelV y u → r x y H Q →
    wpAny (model X.prog X.w) X.A (f v u) (EP X pins σ Q) X.xe s
/-- a one-place operation -/
def UnR (X : Cx) (f : Value → Sem Value) (r : V → Hp → VK → Prop) : Prop :=
  ∀ (pins : List (Addr × Obj)) (s : Shared) (σ : St) (H : Hp) (x : V) (v : Value) (Q : VK), Inv X pins σ H s → RelV x v → r x H Q →
    wpAny (model X.prog X.w) X.A (f v) (EP X pins σ Q) X.xe s
/-- a call of a value that is known (a builtin, a type) with values -/
def CallR (X : Cx) (f : Value) (r : List V → Hp → VK → Prop) : Prop :=
  ∀ (pins : List (Addr × Obj)) (s : Shared) (σ : St) (H : Hp) (xs : List V) (us : List Value) (Q : VK), Inv X pins σ H s → Vals xs us → r xs H Q →
    wpAny (model X.prog X.w) X.A (call f us) (EP X pins σ Q) X.xe s
def tOp (r : R2) (ta tb : TE) : TE := fun σ H Q => ta σ H fun x H1 => tb σ H1 fun y H2 => r x y H2 Q
def tUn (r : V → Hp → VK → Prop) (ta : TE) : TE := fun σ H Q => ta σ H fun x H1 => r x H1 Q
/-- ints in, under C, and a value out -/
def rI (C : Int → Int → Prop) (g : Int → Int → V) : R2 := fun x y H Q => ∃ i j, x = .int i ∧ y = .int j ∧ C i j ∧ Q (g i j) H
def rI0 (g : Int → Int → V) : R2 := fun x y H Q => ∃ i j, x = .int i ∧ y = .int j ∧ Q (g i j) H
def rU (g : Int → V) : V → Hp → VK → Prop := fun x H Q => ∃ i, x = .int i ∧ Q (g i) H
section
variable {X : Cx} {a b c : Expr} {ta tb tc : TE} {pos : Pos}
theorem binT (ha : PE X a ta) (hb : PE X b tb) {pins : List (Addr × Obj)} {s : Shared} {σ : St} {H : Hp} {R : V → V → Hp → Prop} (I : Inv X pins σ H s)
    (h : ta σ H fun x H1 => tb σ H1 fun y H2 => R x y H2) {Q : Value → Shared → Prop} {f : Value → Value → Sem Value}
    (hf : ∀ v u s2 x y H2, Inv X pins σ H2 s2 → RelV x v → RelV y u → R x y H2 → wpAny (model X.prog X.w) X.A (f v u) Q X.xe s2) :
    wpAny (model X.prog X.w) X.A (eval a X.env) (fun v s₁ => wpAny (model X.prog X.w) X.A (eval b X.env) (fun u s₂ => wpAny (model X.prog X.w) X.A (f v u) Q X.xe s₂) X.xe s₁) X.xe s := by
  refine thn (ha pins s σ H _ I h) fun v s1 ⟨x, H1, I1, r1, q1⟩ => ?_
  refine thn (hb pins s1 σ H1 _ I1 q1) fun u s2 ⟨y, H2, I2, r2, q2⟩ => ?_
  exact hf v u s2 x y H2 I2 r1 r2 q2
theorem pe_op {op : Operator} {r : R2} (ho : OpR X (binaryOp op) r) (ha : PE X a ta) (hb : PE X b tb) : PE X (.BinOp a op b pos) (tOp r ta tb) := by
  intro pins s σ H Q I h
  exact wpAny_BinOp (binT ha hb I h fun v u s2 x y H2 I2 rx ry q => ho pins s2 σ H2 x y v u Q I2 rx ry q)
theorem pe_un {op : UnaryOp} {r : V → Hp → VK → Prop} (ho : UnR X (unaryOp op) r) (ha : PE X a ta) : PE X (.UnaryOp op a pos) (tUn r ta) := by
  intro pins s σ H Q I h
  exact UnaryOp_ (thn (ha pins s σ H _ I h) fun v s1 ⟨x, H1, I1, r1, q1⟩ => ho pins s1 σ H1 x v Q I1 r1 q1)
/-! ### ints -/
theorem opI {f : Value → Value → Sem Value} {C : Int → Int → Prop} {g : Int → Int → Int}
    (rule : ∀ (i j : Int) (t u : Tok) (s : Shared) (Q : Value → Shared → Prop) (E : Value → Shared → Prop), C i j → Q (.int (g i j) s.toks) { s with toks := s.toks + 1 } → wpAny (model X.prog X.w) X.A (f (.int i t) (.int j u)) Q E s) :
    OpR X f (rI C fun i j => .int (g i j)) := by
  intro pins s σ H x y v u Q I rx ry h
  obtain ⟨i, j, rfl, rfl, hc, q⟩ := h
  obtain ⟨t, rfl⟩ := rx
  obtain ⟨t', rfl⟩ := ry
  exact rule i j t t' s _ _ hc ⟨.int (g i j), H, I.tok _, ⟨_, rfl⟩, q⟩
theorem opI0 {f : Value → Value → Sem Value} {g : Int → Int → Int}
    (rule : ∀ (i j : Int) (t u : Tok) (s : Shared) (Q : Value → Shared → Prop) (E : Value → Shared → Prop), Q (.int (g i j) s.toks) { s with toks := s.toks + 1 } → wpAny (model X.prog X.w) X.A (f (.int i t) (.int j u)) Q E s) :
    OpR X f (rI0 fun i j => .int (g i j)) := by
  intro pins s σ H x y v u Q I rx ry h
  obtain ⟨i, j, rfl, rfl, q⟩ := h
  obtain ⟨t, rfl⟩ := rx
  obtain ⟨t', rfl⟩ := ry
  exact rule i j t t' s _ _ ⟨.int (g i j), H, I.tok _, ⟨_, rfl⟩, q⟩
theorem opB0 {f : Value → Value → Sem Value} {g : Int → Int → Bool}
    (rule : ∀ (i j : Int) (t u : Tok) (s : Shared) (Q : Value → Shared → Prop) (E : Value → Shared → Prop), Q (.bool (g i j)) s → wpAny (model X.prog X.w) X.A (f (.int i t) (.int j u)) Q E s) :
    OpR X f (rI0 fun i j => .bl (g i j)) := by
  intro pins s σ H x y v u Q I rx ry h
  obtain ⟨i, j, rfl, rfl, q⟩ := h
  obtain ⟨t, rfl⟩ := rx
  obtain ⟨t', rfl⟩ := ry
  exact rule i j t t' s _ _ ⟨.bl (g i j), H, I, rfl, q⟩
def CDiv (i j : Int) : Prop := 0 < j ∧ j < 1073741824
def CMul (i j : Int) : Prop := (-(2 ^ 64) < i ∧ i < 2 ^ 64) ∨ (-(2 ^ 64) < j ∧ j < 2 ^ 64)
theorem CMul.ok {i j : Int} (h : CMul i j) : IntMulOk i j := by
  rcases h with ⟨h1, h2⟩ | ⟨h1, h2⟩
  · exact .of_left (intBits_le_64 h1 h2)
  · exact .of_right (intBits_le_64 h1 h2)
theorem op_add : OpR X (binaryOp .Add) (rI0 fun i j => .int (i + j)) := opI0 fun _ _ _ _ _ _ _ q => add_int q
theorem op_sub : OpR X (binaryOp .Sub) (rI0 fun i j => .int (i - j)) := opI0 fun _ _ _ _ _ _ _ q => sub_int q
theorem op_mul : OpR X (binaryOp .Mult) (rI CMul fun i j => .int (i * j)) := opI fun _ _ _ _ _ _ _ hc q => mul_int q hc.ok
/-- // by a positive divisor -/
theorem op_fdiv : OpR X (binaryOp .FloorDiv) (rI CDiv fun i j => .int (i / j)) := opI fun i j _ _ _ _ _ hc q => by
  have h1 : (0 : Int) < j := hc.1
  have h2 : j < 1073741824 := hc.2
  exact floordiv_int (by omega) (by rw [Int.fdiv_eq_ediv_of_nonneg i (by omega)]; exact q) (.inl (PyProof.noPylong_small (by omega)))
/-- % by a positive divisor of any size -/
theorem op_mod : OpR X (binaryOp .Mod) (rI (fun _ j => 0 < j) fun i j => .int (i % j)) := opI fun i j _ _ _ _ _ hc q => by
  have h1 : (0 : Int) < j := hc
  exact mod_int' (by omega) (by rw [Int.fmod_eq_emod_of_nonneg i (by omega)]; exact q)
theorem unI {f : Value → Sem Value} {g : Int → Int}
    (rule : ∀ (i : Int) (t : Tok) (s : Shared) (Q : Value → Shared → Prop) (E : Value → Shared → Prop), Q (.int (g i) s.toks) { s with toks := s.toks + 1 } → wpAny (model X.prog X.w) X.A (f (.int i t)) Q E s) :
    UnR X f (rU fun i => .int (g i)) := by
  intro pins s σ H x v Q I rx h
  obtain ⟨i, rfl, q⟩ := h
  obtain ⟨t, rfl⟩ := rx
  exact rule i t s _ _ ⟨.int (g i), H, I.tok _, ⟨_, rfl⟩, q⟩
theorem un_neg : UnR X (unaryOp .USub) (rU fun i => .int (-i)) := unI fun _ _ _ _ _ q => neg_int q
/-! ### bools among ints: n += (a < b) -/
end
/-! ### comparisons -/
/-- the scalars that == tells apart as data does -/
def scal : V → V → Bool
  | .non, .non => true | .non, .int _ => true | .int _, .non => true | .non, .bl _ => true | .bl _, .non => true | .non, .str _ => true | .str _, .non => true
  | .int _, .int _ => true | .bl _, .bl _ => true | .str _, .str _ => true | .byt _, .byt _ => true
  | .int _, .str _ => true | .str _, .int _ => true | .bl _, .str _ => true | .str _, .bl _ => true
  | _, _ => false
section
variable {X : Cx} {a b c : Expr} {ta tb tc : TE} {pos : Pos}
theorem op_lt : OpR X (compareOp .Lt) (rI0 fun i j => .bl (decide (i < j))) := opB0 fun _ _ _ _ _ _ _ q => lt_int q
theorem op_le : OpR X (compareOp .LtE) (rI0 fun i j => .bl (decide (i ≤ j))) := opB0 fun _ _ _ _ _ _ _ q => le_int q
theorem op_gt : OpR X (compareOp .Gt) (rI0 fun i j => .bl (decide (j < i))) := opB0 fun _ _ _ _ _ _ _ q => gt_int q
theorem op_ge : OpR X (compareOp .GtE) (rI0 fun i j => .bl (decide (j ≤ i))) := opB0 fun _ _ _ _ _ _ _ q => ge_int q
/-- two rules for one operation: by cases -/
theorem OpR.or {f : Value → Value → Sem Value} {r r' : R2} (h : OpR X f r) (h' : OpR X f r') : OpR X f (fun x y H Q => r x y H Q ∨ r' x y H Q) := by
  intro pins s σ H x y v u Q I rx ry q
  rcases q with q | q
  · exact h pins s σ H x y v u Q I rx ry q
  · exact h' pins s σ H x y v u Q I rx ry q
theorem nomark (b : Expr) {op : CmpOp} (h : op ≠ .In := by decide) (h2 : op ≠ .NotIn := by decide) : behindInMarks op b = false := by
  have e1 : (op == CmpOp.In) = false := by cases op <;> first | rfl | exact absurd rfl h
  have e2 : (op == CmpOp.NotIn) = false := by cases op <;> first | rfl | exact absurd rfl h2
  cases b <;> simp [behindInMarks, e1, e2]
/-- a comparison as a value; hm: nomark b, or (for in, not in) by with_unfolding_all rfl -/
theorem pe_cmpR {op : CmpOp} {r : R2} (ho : OpR X (compareOp op) r) (ha : PE X a ta) (hb : PE X b tb) (hm : behindInMarks op b = false) : PE X (.Compare a [op] [b] pos) (tOp r ta tb) := by
  intro pins s σ H Q I h
  exact wpAny_Compare1 (binT ha hb I h fun v u s2 x y H2 I2 rx ry q => ho pins s2 σ H2 x y v u Q I2 rx ry q) hm
/-- a reading of a value as a test -/
def tTest (t : TE) : TT := fun σ H Q => t σ H fun x H' => ∃ k, x = .bl k ∧ Q k H'
theorem pt_cmpR {op : CmpOp} {r : R2} (ho : OpR X (compareOp op) r) (ha : PE X a ta) (hb : PE X b tb) (hm : behindInMarks op b = false) : PT X (.Compare a [op] [b] pos) (tTest (tOp r ta tb)) := by
  intro pins s σ H Q I h
  refine wpAny_isTrue_Compare1 (thn (ha pins s σ H _ I h) fun v s1 ⟨x, H1, I1, r1, q1⟩ => thn (hb pins s1 σ H1 _ I1 q1) fun u s2 ⟨y, H2, I2, r2, q2⟩ =>
    thn (ho pins s2 σ H2 x y v u _ I2 r1 r2 q2) fun c s3 ⟨z, H3, I3, r3, k, e, q3⟩ => ?_) hm
  subst e
  cases r3
  exact wpAny_truthy_bool ⟨H3, I3, q3⟩
/-- a op1 b op2 c -/
def tChain (r r' : R2) (ta tb tc : TE) : TE := fun σ H Q => ta σ H fun x H1 => tb σ H1 fun y H2 => r x y H2 fun z H3 => ∃ k, z = .bl k ∧
  (if k = true then tc σ H3 fun w' H4 => r' y w' H4 Q else Q (.bl false) H3)
theorem pe_chain {op op' : CmpOp} {r r' : R2} (ho : OpR X (compareOp op) r) (ho' : OpR X (compareOp op') r') (ha : PE X a ta) (hb : PE X b tb) (hc : PE X c tc)
    (hm : lastMarks [op, op'] [b, c] = false := by with_unfolding_all rfl) : PE X (.Compare a [op, op'] [b, c] pos) (tChain r r' ta tb tc) := by
  intro pins s σ H Q I h
  refine Compare_chain (thn (ha pins s σ H _ I h) fun v s1 ⟨x, H1, I1, r1, q1⟩ => chain_link (thn (hb pins s1 σ H1 _ I1 q1) fun u s2 ⟨y, H2, I2, r2, q2⟩ =>
    thn (ho pins s2 σ H2 x y v u _ I2 r1 r2 q2) fun d s3 ⟨z, H3, I3, r3, k, e, q3⟩ => ?_)) hm
  subst e
  cases r3
  refine wpAny_truthy_bool ?_
  cases k with
  | false => exact ite_ff ⟨.bl false, H3, I3, rfl, q3⟩
  | true => exact ite_tt (chain_last (thn (hc pins s3 σ H3 _ I3 q3) fun w' s4 ⟨z', H4, I4, r4, q4⟩ => ho' pins s4 σ H4 y z' u w' Q I4 r2 r4 q4))
theorem pt_chain {op op' : CmpOp} {r r' : R2} (ho : OpR X (compareOp op) r) (ho' : OpR X (compareOp op') r') (ha : PE X a ta) (hb : PE X b tb) (hc : PE X c tc)
    (hm : lastMarks [op, op'] [b, c] = false := by with_unfolding_all rfl) : PT X (.Compare a [op, op'] [b, c] pos) (tTest (tChain r r' ta tb tc)) := by
  intro pins s σ H Q I h
  refine isTrue_chain (thn (ha pins s σ H _ I h) fun v s1 ⟨x, H1, I1, r1, q1⟩ => test_link (thn (hb pins s1 σ H1 _ I1 q1) fun u s2 ⟨y, H2, I2, r2, q2⟩ =>
    thn (ho pins s2 σ H2 x y v u _ I2 r1 r2 q2) fun d s3 ⟨z, H3, I3, r3, k, e, q3⟩ => ?_)) hm
  subst e
  cases r3
  refine wpAny_truthy_bool ?_
  cases k with
  | false =>
    obtain ⟨k', e', q'⟩ := q3
    cases e'
    exact ite_ff ⟨H3, I3, q'⟩
  | true =>
    refine ite_tt (test_last (thn (hc pins s3 σ H3 _ I3 q3) fun w' s4 ⟨z', H4, I4, r4, q4⟩ => thn (ho' pins s4 σ H4 y z' u w' _ I4 r2 r4 q4) fun d' s5 ⟨z2, H5, I5, r5, k2, e2, q5⟩ => ?_))
    subst e2
    cases r5
    exact wpAny_truthy_bool ⟨H5, I5, q5⟩
/-! ### truth -/
theorem line63 : (sizeLine : Nat) < 2 ^ 63 := by rw [sizeLine_eq]; decide
/-! ### strs and bytes -/
/-! ### scalar builtins, by CallR -/
theorem vals1 {x : V} {us : List Value} (r : Vals [x] us) : ∃ u, us = [u] ∧ RelV x u := by
  cases r with
  | cons r1 r2 => cases r2; exact ⟨_, rfl, r1⟩
theorem vals2 {x y : V} {us : List Value} (r : Vals [x, y] us) : ∃ u w', us = [u, w'] ∧ RelV x u ∧ RelV y w' := by
  cases r with
  | cons r1 r2 =>
    cases r2 with
    | cons r3 r4 => cases r4; exact ⟨_, _, rfl, r1, r3⟩
end
end L2
namespace L2
open PySem PySem.Spec PyProof.Rows
/-! ### an instance, its attributes a map -/
structure ObjM (h : Heap) (x dx C : Addr) (mA : Str → Option Value) : Prop where
  obj : h.get? x = some (PySem.W.instObj C dx)
  ns : h.Ns1 dx mA
  ne : dx ≠ x
theorem lookIn_ns {h : Heap} {dx : Addr} {mA : Str → Option Value} (n : h.Ns1 dx mA) : ∃ od, h.get? dx = some od ∧ ∀ name, PySem.W.lookIn name od = some (mA name) := by
  obtain ⟨o, es, ep, ho, hd, hk, _, hm⟩ := n
  refine ⟨o, ho, fun name => ?_⟩
  have e := hm name
  unfold nsFind findBy at e
  rw [← Array.find?_toList] at e
  unfold PySem.W.lookIn
  rw [hd]
  dsimp only
  split
  · rename_i y q
    rw [q] at e
    exact congrArg some e
  · rename_i q
    rw [q] at e
    have a : es.toList.any (·.refKey) = false := by
      rw [List.any_eq_false]
      intro y hy
      obtain ⟨z, t, hkey⟩ := hk y (Array.mem_toList_iff.mp hy)
      simp [DictEntry.refKey, hkey]
    have a' : ¬ es.toList.any (·.refKey) = true := by rw [a]; exact Bool.false_ne_true
    rw [if_neg a']
    exact congrArg some e
theorem ObjM.look {h : Heap} {x dx C : Addr} {mA : Str → Option Value} (I : ObjM h x dx C mA) : ∃ od, PySem.W.InstAt h x (PySem.W.instObj C dx) C (some od) ∧ ∀ name, PySem.W.lookIn name od = some (mA name) :=
  let ⟨od, ho, hl⟩ := lookIn_ns I.ns
  ⟨od, ⟨I.obj, rfl, rfl, ho⟩, hl⟩
section
variable {prog : Program} {w : World} {A : Around} {E : Value → Shared → Prop} {s : Shared} {K : PySem.W.Frag} {x dx C f : Addr} {mA : Str → Option Value} {name : Str} {v : Value}
end
/-! ### the attributes as a list of pairs -/
section
variable {P : Program} {w : World} {H H' : Hp} {h h' : Heap} {a C dx : Addr} {fs fs' : List (Str × V)}
end
/-! ### what of the text a class must have -/
structure Cls (K : PySem.W.Frag) (C : Addr) : Prop where
  pg : PySem.W.plainGet K C Str.empty = true
  hd : PySem.W.hasDictIn K C = true
  po : PySem.W.plainOver K C = true
  sa : PySem.W.findIn K (.ref C) "__setattr__" = some (some (.builtin "object.__setattr__"))
theorem Cls.get {K : PySem.W.Frag} {C : Addr} (c : Cls K C) (f : Str) : PySem.W.plainGet K C f = true := c.pg
/-- no class of it has the name -/
def NoAttr (K : PySem.W.Frag) (C : Addr) (f : Str) : Prop := PySem.W.findIn K (.ref C) f = some none
theorem NoAttr.taker {K : PySem.W.Frag} {C : Addr} {f : Str} (n : NoAttr K C f) : PySem.W.takerIn K C f = some none := by
  unfold PySem.W.takerIn
  rw [show PySem.W.findIn K (.ref C) f = some none from n]
  rfl
/-- a constant of the class -/
structure Con (K : PySem.W.Frag) (C : Addr) (f : Str) (v : V) (u : Value) : Prop where
  at_ : PySem.W.findIn K (.ref C) f = some (some u)
  rel : RelV v u
  get : PySem.W.specialIn K u "__get__" = some none
  cp : PySem.W.copiedNames.contains f = false
/-- a method: a plain def of the class or of one above it -/
structure Meth (K : PySem.W.Frag) (C : Addr) (m : Str) (f : Addr) : Prop where
  at_ : PySem.W.findIn K (.ref C) m = some (some (.ref f))
  fn : PySem.W.isFn K (.ref f) = true
  kp : PySem.W.keepIn K (.ref f) = true
section
variable {X : Cx} {pins : List (Addr × Obj)} {σ : St} {H : Hp} {s : Shared} {a C dx : Addr} {fs : List (Str × V)} {f : Str} {v : V} {A : Around} {E : Value → Shared → Prop}
/-- a new instance, tracked, without attributes -/
theorem Inv.made (I : Inv X pins σ H s) : Inv X pins σ (upd (upd H s.heap.objs.size (.own (s.heap.objs.size + 1))) (s.heap.objs.size + 1) (.ins C s.heap.objs.size []))
    { s with heap := (s.heap.push PySem.W.emptyDict).push (PySem.W.instObj C s.heap.objs.size) } := by
  have e1 : (s.heap.push PySem.W.emptyDict).get? s.heap.objs.size = some PySem.W.emptyDict := Heap.get?_push_size s.heap rfl
  have e2 : ((s.heap.push PySem.W.emptyDict).push (PySem.W.instObj C s.heap.objs.size)).get? (s.heap.objs.size + 1) = some (PySem.W.instObj C s.heap.objs.size) := by
    have := Heap.get?_push_size (s.heap.push PySem.W.emptyDict) (o := PySem.W.instObj C s.heap.objs.size) rfl
    rwa [Heap.size_push] at this
  have e3 : (s.heap.push PySem.W.emptyDict).Ns s.heap.objs.size (fun _ => none) := ⟨PySem.W.emptyDict, #[], _, e1, rfl, (fun e he => absurd he (by simp)), fun _ => rfl⟩
  have I1 := I.laid (a := s.heap.objs.size) (o := .own (s.heap.objs.size + 1)) (h' := s.heap.push PySem.W.emptyDict) (t' := s.toks) (fun b u q => Heap.get?_push_of_some _ q) (Nat.le_refl _) ⟨_, e1⟩
  refine I1.laid (a := s.heap.objs.size + 1) (o := .ins C s.heap.objs.size []) (t' := s.toks) (fun b u q => Heap.get?_push_of_some _ q) (Nat.le_of_eq (Heap.size_push _ _)) ?_
  have ne : s.heap.objs.size ≠ s.heap.objs.size + 1 := Nat.ne_of_lt (Nat.lt_succ_self _)
  refine ⟨by rw [upd_ne ne, upd_same], Nat.zero_le _, ne, e2, fun _ => none, (Heap.Ns1.of_empty e3).at fun o q => Heap.get?_push_of_some _ q, fun _ => True.intro, fun y hy => absurd rfl hy⟩
end
/-! ### readings and rules -/
section
variable {X : Cx} {o e value : Expr} {f : Str} {pos pos' tpos : Pos} {ta tv : TE}
end
/-! ### isinstance -/
section
variable {X : Cx} {pins : List (Addr × Obj)} {σ : St} {H : Hp} {s : Shared} {A : Around} {E : Value → Shared → Prop} {Q : Value → Shared → Prop} {c : Value} {b : Bool}
/-- the type of a value, as the fragment's deciders take it; for an instance its class -/
inductive TyOf (K : PySem.W.Frag) (H : Hp) : V → Value → Prop where
  | non : TyOf K H .non (.type "NoneType")
  | bl (x : Bool) : TyOf K H (.bl x) (.type "bool")
  | int (i : Int) : TyOf K H (.int i) (.type "int")
  | str (x : Str) : TyOf K H (.str x) (.type "str")
  | flt (x : UInt64) : TyOf K H (.flt x) (.type "float")
  | lst {a : Addr} {xs : List V} (e : H a = some (.lst xs)) : TyOf K H (.ref a) (.type "list")
  | frz {a : Addr} {o : Obj} {xs : List V} (e : H a = some (.frz o (.lst xs))) : TyOf K H (.ref a) (.type "list")
  | tup {a : Addr} {xs : List V} (e : H a = some (.tup xs)) : TyOf K H (.ref a) (.type "tuple")
  | dK {a : Addr} {kvs : List (Key × V)} (e : H a = some (.dK kvs)) : TyOf K H (.ref a) (.type "dict")
  | dT {a : Addr} {kvs : List (List Key × V)} (e : H a = some (.dT kvs)) : TyOf K H (.ref a) (.type "dict")
  | ins {a C dx : Addr} {fs : List (Str × V)} (e : H a = some (.ins C dx fs)) (cl : Cls K C) (ha : PySem.W.findIn K (.ref C) "__class__" = some (some (.builtin "object.__class__")))
      (hn : PySem.W.specialIn K (.builtin "object.__class__") "__get__" = some (some (.builtin "getset_descriptor.__get__"))) (htk : PySem.W.takesIn K (.builtin "object.__class__") = some true)
      (hm : PySem.W.mroIn K C (.type "object") = some true) : TyOf K H (.ref a) (.ref C)
end
end L2
namespace L2
open PySem PySem.Spec PyProof.Rows
/-! ### room -/
structure Room (k : Nat) (A : Around) : Prop where
  hd : A.handled = none
  dp : A.depth + 3 * k + 5 < recursionLimit
  un : A.units + 16 * k + 200 < cLine
theorem Room.mono {j k : Nat} {A : Around} (r : Room k A) (h : j ≤ k) : Room j A := ⟨r.hd, by have := r.dp; omega, by have := r.un; omega⟩
theorem Room.deeper {k : Nat} {A : Around} (r : Room (k + 1) A) (env : Env) : Room k (A.deeper env) :=
  ⟨r.hd, by have := r.dp; show A.depth + 1 + 3 * k + 5 < _; omega, by have := r.un; show A.units + 3 + 16 * k + 200 < _; omega⟩
theorem Room.in1 {k : Nat} {A : Around} (r : Room (k + 1) A) : Room k A.in1 :=
  ⟨r.hd, by have := r.dp; show A.depth + 3 * k + 5 < _; omega, by have := r.un; show A.units + 1 + 16 * k + 200 < _; omega⟩
theorem make_depth {A : Around} {C : Addr} {us : List Value} {kw : List (Str × Value)} : (A.under (.builtin "type.__call__" ⟨.ref C :: us, kw⟩)).depth = A.depth + 1 := by
  first | rfl | simp [Around.under, Code.weight, Code.isCreation, Code.isGuard, Code.isCaller, Code.frames, Code.isFrame, guardIds]
theorem make_units {A : Around} {C : Addr} {us : List Value} {kw : List (Str × Value)} : (A.under (.builtin "type.__call__" ⟨.ref C :: us, kw⟩)).units = A.units + 1 := by
  first | rfl | simp [Around.under, Code.cUnits, Code.frames, Code.isFrame]
theorem Room.make {k : Nat} {A : Around} (r : Room (k + 1) A) (C : Addr) (us : List Value) (kw : List (Str × Value)) : Room k (A.under (.builtin "type.__call__" ⟨.ref C :: us, kw⟩)) :=
  ⟨r.hd, by have := r.dp; rw [make_depth]; omega, by have := r.un; rw [make_units]; omega⟩
theorem Room.depth {k : Nat} {A : Around} (r : Room k A) : A.depth < recursionLimit := by have := r.dp; omega
theorem Room.units {k : Nat} {A : Around} (r : Room k A) : A.units + 64 < cLine := by have := r.un; omega
theorem Room.units0 {k : Nat} {A : Around} (r : Room k A) : A.units < cLine := by have := r.un; omega
/-! ### argument lists and displays -/
def tNil : TA := fun _ H Q => Q [] H
def tCons (ta : TE) (tr : TA) : TA := fun σ H Q => ta σ H fun x H1 => tr σ H1 fun xs H2 => Q (x :: xs) H2
section
variable {X : Cx} {e : Expr} {es : List Expr} {te : TE} {t : TA} {pos : Pos}
theorem pa_nil : PA X [] tNil := fun _ _ _ _ H Q I h => Calls.spliced_nil ⟨[], H, I, .nil, h⟩
theorem pa_cons (ha : PE X e te) (hr : PA X es t) (hs : starEach (e :: es) X.env = (false, eval e X.env) :: starEach es X.env := by rfl) : PA X (e :: es) (tCons te t) := by
  intro pos pins s σ H Q I h
  rw [hs]
  show wpAny _ _ (spliced ((false, eval e X.env) :: backTo pos (starEach es X.env))) _ _ s
  refine Calls.spliced_cons (thn (ha pins s σ H _ I h) fun u s1 ⟨x, H1, I1, r1, q1⟩ => ?_)
  exact thn (hr pos pins s1 σ H1 _ I1 q1) fun us s2 ⟨xs, H2, I2, r2, q2⟩ => ⟨x :: xs, H2, I2, .cons r1 r2, q2⟩
/-- a tuple, a list of written items -/
def tTup (t : TA) : TE := fun σ H Q => t σ H fun xs H1 => xs.length ≤ sizeLine ∧ ∀ p, H1 p = none → Q (.ref p) (upd H1 p (.tup xs))
def tLst (t : TA) : TE := fun σ H Q => t σ H fun xs H1 => xs.length ≤ sizeLine ∧ ∀ p, H1 p = none → Q (.ref p) (upd H1 p (.lst xs))
theorem pe_tup {x1} (h : PA X es t) : PE X (.Tuple es x1 pos) (tTup t) := by
  intro pins s σ H Q I hq
  refine wpAny_Tuple_spliced (thn (h pos pins s σ H _ I hq) fun us s1 ⟨xs, H1, I1, r, z, q⟩ => ⟨by rw [← r.length]; exact z, ?_⟩)
  have hf : H1 s1.heap.objs.size = none := I1.hok.fresh (Nat.le_refl _)
  refine ⟨.ref s1.heap.objs.size, upd H1 s1.heap.objs.size (.tup xs), I1.laid (t' := s1.toks) (fun b u e => Heap.get?_push_of_some _ e) (Nat.le_refl _) ?_, rfl, q _ hf⟩
  exact ⟨z, us, r, ⟨_, Heap.get?_push_size _ rfl, rfl, _, rfl⟩⟩
theorem pe_lst (h : PA X es t) : PE X (.List es pos) (tLst t) := by
  intro pins s σ H Q I hq
  refine wpAny_List_spliced (thn (h pos pins s σ H _ I hq) fun us s1 ⟨xs, H1, I1, r, z, q⟩ => ⟨by rw [← r.length]; exact z, ?_⟩)
  have hf : H1 s1.heap.objs.size = none := I1.hok.fresh (Nat.le_refl _)
  refine ⟨.ref s1.heap.objs.size, upd H1 s1.heap.objs.size (.lst xs), I1.laid (t' := s1.toks) (fun b u e => Heap.get?_push_of_some _ e) (Nat.le_refl _) ?_, rfl, q _ hf⟩
  exact ⟨z, us, 0, r, Heap.get?_push_size _ rfl⟩
end
/-! ### what a def promises -/
/-- a def's promise: the bound arguments in the parameters' order, the heap, the wanted end, the wanted exception -/
abbrev Sp := List V → Hp → VK → XK → Prop
/-- how an exception lies behind a call (file 08 gives it): the callers' frames, abstract heap and state ahead of the call, the wish, the exception, the state -/
abbrev CXT := List Env → Hp → Shared → XK → Value → Shared → Prop
/-- the state at a call -/
structure Env0 (P : Program) (w : World) (K : PySem.W.Frag) (mg : Str → Option Value) (base : Heap) (A : Around) (outer : List Env) (s : Shared) (H : Hp) : Prop where
  frames : A.frames = some outer
  mod : Mod K mg base
  bs : ∀ b o, base.get? b = some o → s.heap.get? b = some o ∧ H b = none
  bsz : base.objs.size ≤ s.heap.objs.size
  funs : s.heap.FunFrames base outer
  frf : ∀ b ∈ frs outer, H b = none
  hok : HOk P w H s.heap
  bare : AllBare s.gens
/-- a call's end -/
def CE (outer : List Env) (P : Program) (w : World) (H : Hp) (s : Shared) (Q : VK) (u : Value) (s' : Shared) : Prop :=
  ∃ v H', s'.os = s.os ∧ AllBare s'.gens ∧ Un (frs outer) [] H H' s.heap s'.heap ∧ HOk P w H' s'.heap ∧ RelV v u ∧ Q v H'
def CR (CX : CXT) (outer : List Env) (P : Program) (w : World) (H : Hp) (s : Shared) (Q : VK) (E : XK) (r : Result) (s' : Shared) : Prop :=
  match r with
  | .ok (.ret u) => CE outer P w H s Q u s'
  | .ok _ => False
  | .error e => CX outer H s E e s'
structure FnOk (P : Program) (w : World) (K : PySem.W.Frag) (mg : Str → Option Value) (base : Heap) (CX : CXT) (k : Nat) (f : Addr) (fd : FuncData) (ps : List Str) (sp : Sp) : Prop where
  len : ∀ vs H Q E, sp vs H Q E → vs.length = ps.length
  run : ∀ (A : Around) (outer : List Env) (s : Shared) (H : Hp) (args : Args) (us : List Value) (vs : List V) (Q : VK) (E : XK), Room k A → Env0 P w K mg base A outer s H → BindsTo s fd args (ps.zip us) → Vals vs us → sp vs H Q E →
    codeAny (model P w) A (.call (.ref f) args) (CR CX outer P w H s Q E) s
theorem FnOk.mono {P : Program} {w : World} {K : PySem.W.Frag} {mg : Str → Option Value} {base : Heap} {CX : CXT} {j k : Nat} {f : Addr} {fd : FuncData} {ps : List Str} {sp : Sp} (F : FnOk P w K mg base CX j f fd ps sp) (h : j ≤ k) :
    FnOk P w K mg base CX k f fd ps sp := ⟨F.len, fun A outer s H args us vs Q E hr => F.run A outer s H args us vs Q E (hr.mono h)⟩
/-- a weaker promise -/
theorem FnOk.imp {P : Program} {w : World} {K : PySem.W.Frag} {mg : Str → Option Value} {base : Heap} {CX : CXT} {k : Nat} {f : Addr} {fd : FuncData} {ps : List Str} {sp sp' : Sp} (F : FnOk P w K mg base CX k f fd ps sp)
    (h : ∀ vs H Q E, sp' vs H Q E → sp vs H Q E) : FnOk P w K mg base CX k f fd ps sp' :=
  ⟨fun vs H Q E q => F.len vs H Q E (h _ _ _ _ q), fun A outer s H args us vs Q E hr he hb hv hs => F.run A outer s H args us vs Q E hr he hb hv (h _ _ _ _ hs)⟩
theorem Env0.make {P : Program} {w : World} {K : PySem.W.Frag} {mg : Str → Option Value} {base : Heap} {A : Around} {outer : List Env} {s : Shared} {H : Hp} (e : Env0 P w K mg base A outer s H) (C : Addr) (us : List Value) (kw : List (Str × Value)) :
    Env0 P w K mg base (A.under (.builtin "type.__call__" ⟨.ref C :: us, kw⟩)) outer s H := ⟨by first | exact e.frames | (simpa [Around.under, Code.envs, Code.isFrame, pushEnvs] using e.frames), e.mod, e.bs, e.bsz, e.funs, e.frf, e.hok, e.bare⟩
theorem Env0.in1 {P : Program} {w : World} {K : PySem.W.Frag} {mg : Str → Option Value} {base : Heap} {A : Around} {outer : List Env} {s : Shared} {H : Hp} (e : Env0 P w K mg base A outer s H) :
    Env0 P w K mg base A.in1 outer s H := ⟨e.frames, e.mod, e.bs, e.bsz, e.funs, e.frf, e.hok, e.bare⟩
section
variable {X : Cx} {pins : List (Addr × Obj)} {σ : St} {H : Hp} {s s' : Shared}
/-- from a body: what a callee wants -/
theorem Inv.env0 (I : Inv X pins σ H s) : Env0 X.prog X.w X.K X.mg X.base X.A X.stack s H :=
  ⟨I.ok.frames, I.ok.mod, I.bs, Nat.le_trans I.ok.bsz I.sz, I.stack, I.stkFree, I.hok, I.bare⟩
/-- behind a call -/
theorem Inv.after {Q : VK} {u : Value} (I : Inv X pins σ H s) (h : CE X.stack X.prog X.w H s Q u s') : EP X pins σ Q u s' := by
  obtain ⟨v, H', os, bare, un, hok, r, q⟩ := h
  obtain ⟨hh, g, d, t, os'⟩ := s'
  obtain rfl : os' = s.os := os
  exact ⟨v, H', I.call (h' := hh) (g' := g) (d' := d) (t' := t) (ch := []) un hok bare (fun b z => absurd z (by simp)), r, q⟩
end
/-! ### calls -/
/-- f(..): the written arguments, then the defaults dvs; E: what is wanted of an exception -/
def tCall (sp : Sp) (dvs : List V) (E : XK) (t : TA) : TE := fun σ H Q => t σ H fun vs H1 => sp (vs ++ dvs) H1 Q E
/-- how the parameters are bound: us the positional arguments, kw the keywords' values by name, ds the defaults that fill up -/
def Binds (K : PySem.W.Frag) (fd : FuncData) (ps : List Str) (ds : List Value) : Prop :=
  ∀ (s : Shared) (us : List Value), K.In s.heap → (us ++ ds).length = ps.length → BindsTo s fd ⟨us, []⟩ (ps.zip (us ++ ds))
/-- every parameter is given -/
theorem Binds.all {K : PySem.W.Frag} {fd : FuncData} {ps : List Str} (h : ∀ us : List Value, us.length = ps.length → bindArgs fd ⟨us, []⟩ = pure (ps.zip us)) : Binds K fd ps [] := fun s us _ hl => by
  rw [List.append_nil] at hl ⊢
  exact .of_eq (h us hl)
/-- an exception of a callee reaches what this body wants of exceptions -/
def Passes (CX : CXT) (X : Cx) (E : XK) : Prop := ∀ (pins : List (Addr × Obj)) (σ : St) (H : Hp) (s : Shared) (e : Value) (s' : Shared), Inv X pins σ H s → CX X.stack H s E e s' → X.xe e s'
section
variable {X : Cx} {CX : CXT} {k : Nat} {f C : Addr} {fd : FuncData} {ps : List Str} {sp : Sp} {dvs : List V} {ds : List Value} {E : XK} {x m : Str} {p pos apos : Pos} {e o : Expr} {es : List Expr} {ta : TE} {t : TA}
/-- the callee runs -/
theorem run_fn {pins : List (Addr × Obj)} {σ : St} {H : Hp} {s : Shared} {Q : VK} {us : List Value} {vs : List V} (F : FnOk X.prog X.w X.K X.mg X.base CX k f fd ps sp) (hr : Room k X.A) (hb : Binds X.K fd ps ds) (hd : Vals dvs ds) (hx : Passes CX X E)
    (I : Inv X pins σ H s) (r : Vals vs us) (h : sp (vs ++ dvs) H Q E) : wpAny (model X.prog X.w) X.A (call (.ref f) us) (EP X pins σ Q) X.xe s := by
  have r2 : Vals (vs ++ dvs) (us ++ ds) := r.append hd
  have hl : (us ++ ds).length = ps.length := by rw [← r2.length]; exact F.len _ _ _ _ h
  refine wpAny_call (codeAny_mono (F.run X.A X.stack s H ⟨us, []⟩ (us ++ ds) (vs ++ dvs) Q E hr I.env0 (hb s us I.kIn hl) r2 h) fun r s' hq => ?_)
  cases r with
  | error e => exact hx pins σ H s e s' I hq
  | ok fl =>
    cases fl with
    | ret u => exact I.after hq
    | next => exact False.elim hq
    | brk => exact False.elim hq
    | cont => exact False.elim hq
theorem pe_call (F : FnOk X.prog X.w X.K X.mg X.base CX k f fd ps sp) (hr : Room k X.A) (hg : Gl X x) (hm : X.mg x = some (.ref f)) (hk : PySem.W.keepIn X.K (.ref f) = true) (hb : Binds X.K fd ps ds) (hd : Vals dvs ds) (hx : Passes CX X E)
    (ha : PA X (e :: es) t) (hdb : (x == ("__debug__" : Str)) = false := by decide) (he : starEach (e :: es) X.env = (false, eval e X.env) :: starEach es X.env := by rfl) (hpl : (backTo pos (starEach es X.env)).any (·.1) = false := by rfl) :
    PE X (.Call (.Name x p) (e :: es) [] pos) (tCall sp dvs E t) := by
  intro pins s σ H Q I h
  refine wpAny_Call_Name_kw (ld_glob I hg hm ?_ hdb)
  refine PySem.W.callWith_K (h₀ := X.base) I.ok.mod.kin hk (thn (ha pos pins s σ H _ I h) fun us s1 ⟨vs, H1, I1, r, q⟩ => ⟨I1.kIn, ?_⟩) he hpl
  exact run_fn F hr hb hd hx I1 r q
/-- what a class must have to be made -/
structure Mk (K : PySem.W.Frag) (C f : Addr) : Prop where
  makes : PySem.W.makesIn K C = true
  init : PySem.W.findIn K (.ref C) "__init__" = some (some (.ref f))
  fn : PySem.W.isFn K (.ref f) = true
  kp : PySem.W.keepIn K (.ref C) = true
end
/-! ### keywords -/
section
variable {X : Cx} {CX : CXT} {k : Nat} {f C : Addr} {fd : FuncData} {ps ks : List Str} {sp : Sp} {E : XK} {x m : Str} {p pos apos kpos : Pos} {e o : Expr} {es : List Expr} {kws : List Keyword} {te ta : TE} {t tk : TA} {nm : Option Str}
/-- how a call with keywords binds: g puts the positional values us and the keywords' values ws (names ks) in the parameters' order, defaults among them -/
structure KBinds (K : PySem.W.Frag) (fd : FuncData) (ps ks : List Str) (g : List Value → List Value → List Value) (gV : List V → List V → List V) : Prop where
  to : ∀ (s : Shared) (us ws : List Value), K.In s.heap → (g us ws).length = ps.length → BindsTo s fd ⟨us, ks.zip ws⟩ (ps.zip (g us ws))
  rel : ∀ {vs : List V} {us : List Value} {zs : List V} {ws : List Value}, Vals vs us → Vals zs ws → Vals (gV vs zs) (g us ws)
variable {g : List Value → List Value → List Value} {gV : List V → List V → List V}
end
/-! ### a def's body keeps its promise -/
/-- names: the parameters first -/
structure FnScope (N P : List Str) (sc : Scope) : Prop where
  kind : sc.kind = .function
  co : sc.isCoroutine = false
  gen : sc.isGenerator = false
  nd : N.Nodup
  pre : N.take P.length = P
  par : ∀ x ∈ P, sc.names.lookup x = some .local ∨ sc.names.lookup x = some .cell
  nofree : ∀ y ∈ sc.names, y.2 ≠ .free
theorem bindL_out {kindOf : Str → Option NameKind} {x : Str} : ∀ {binds : List (Str × Value)} {m : Str → Option Value}, (∀ v, (x, v) ∉ binds) → bindL kindOf binds m x = m x
  | [], _, _ => rfl
  | (n, v) :: r, m, h => by
    unfold bindL
    rw [bindL_out fun w hw => h w (List.mem_cons_of_mem _ hw)]
    split
    · have : x ≠ n := by rintro rfl; exact h v List.mem_cons_self
      simp [this]
    · rfl
theorem bindC_out {kindOf : Str → Option NameKind} {x : Str} : ∀ {binds : List (Str × Value)} {m : Str → Option Value}, (∀ v, (x, v) ∉ binds) → bindC kindOf binds m x = m x
  | [], _, _ => rfl
  | (n, v) :: r, m, h => by
    unfold bindC
    rw [bindC_out fun w hw => h w (List.mem_cons_of_mem _ hw)]
    split
    · rfl
    · have : x ≠ n := by rintro rfl; exact h v List.mem_cons_self
      simp [this]
theorem bindL_get {kindOf : Str → Option NameKind} {x : Str} {v : Value} : ∀ {P : List Str} {vs : List Value} {i : Nat} {m : Str → Option Value}, P.Nodup → P[i]? = some x → vs[i]? = some v → kindOf x = some .local →
    bindL kindOf (P.zip vs) m x = some v
  | [], _, _, _, _, h, _, _ => by simp at h
  | _ :: _, [], _, _, _, _, h, _ => by simp at h
  | p :: P, w :: vs, 0, m, nd, h1, h2, hk => by
    simp at h1 h2; subst h1; subst h2
    show bindL kindOf ((p, w) :: P.zip vs) m p = _
    unfold bindL
    rw [bindL_out fun v hv => (List.nodup_cons.mp nd).1 (List.of_mem_zip hv).1, if_pos hk]
    simp
  | p :: P, w :: vs, i + 1, m, nd, h1, h2, hk => by
    show bindL kindOf ((p, w) :: P.zip vs) m x = _
    unfold bindL
    exact bindL_get (i := i) (List.nodup_cons.mp nd).2 (by simpa using h1) (by simpa using h2) hk
theorem bindC_get {kindOf : Str → Option NameKind} {x : Str} {v : Value} : ∀ {P : List Str} {vs : List Value} {i : Nat} {m : Str → Option Value}, P.Nodup → P[i]? = some x → vs[i]? = some v → kindOf x ≠ some .local →
    bindC kindOf (P.zip vs) m x = some v
  | [], _, _, _, _, h, _, _ => by simp at h
  | _ :: _, [], _, _, _, _, h, _ => by simp at h
  | p :: P, w :: vs, 0, m, nd, h1, h2, hk => by
    simp at h1 h2; subst h1; subst h2
    show bindC kindOf ((p, w) :: P.zip vs) m p = _
    unfold bindC
    rw [bindC_out fun v hv => (List.nodup_cons.mp nd).1 (List.of_mem_zip hv).1, if_neg hk]
    simp
  | p :: P, w :: vs, i + 1, m, nd, h1, h2, hk => by
    show bindC kindOf ((p, w) :: P.zip vs) m x = _
    unfold bindC
    exact bindC_get (i := i) (List.nodup_cons.mp nd).2 (by simpa using h1) (by simpa using h2) hk
/-- the names' values at the entry -/
def start (N : List Str) (vs : List V) : St := vs.map some ++ List.replicate (N.length - vs.length) none
/-- the context of a def's body, at its entry; an exception leaves the frame, then lies as CX says -/
def cxOf (CX : CXT) (P : Program) (w : World) (K : PySem.W.Frag) (mg : Str → Option Value) (base : Heap) (N : List Str) (qual : Str) (scope : Scope) (f : Addr) (cd : Value) (A : Around) (outer : List Env) (s : Shared) (H : Hp) (E : XK) : Cx where
  prog := P
  w := w
  K := K
  mg := mg
  base := base
  A := A.deeper (envOfC qual scope s.heap.objs.size f cd)
  N := N
  s₀ := s
  H₀ := H
  env := envOfC qual scope s.heap.objs.size f cd
  outer := outer
  stack := envOfC qual scope s.heap.objs.size f cd :: outer
  ex := []
  calm := true
  fn := fun _ => true
  pn := []
  xe := fun e s' => wpAny (model P w) (A.deeper (envOfC qual scope s.heap.objs.size f cd)) (leaving (envOfC qual scope s.heap.objs.size f cd) e) (fun _ s'' => CX outer H s E e s'') (fun e' s'' => CX outer H s E e' s'') s'
theorem cell_has {sc : Scope} {n : Nat} {x : Str} (h : sc.names.lookup x = some .cell) : ∃ c, (cellsFrom n sc.names []).lookup x = some c := by
  have q := PySem.W.cellsFrom_some sc.names n [] (.inl h)
  exact Option.isSome_iff_exists.mp q
theorem inv_start {CX : CXT} {P : Program} {w : World} {K : PySem.W.Frag} {mg : Str → Option Value} {base : Heap} {N ps : List Str} {qual : Str} {scope : Scope} {f : Addr} {cd : Value} {A : Around} {outer : List Env} {s s1 : Shared} {H : Hp} {E : XK} {us : List Value} {vs : List V}
    (S : FnScope N ps scope) (hd : A.handled = none) (e0 : Env0 P w K mg base A outer s H) (hl : vs.length = ps.length) (r : Vals vs us)
    (x : InCallC s s.heap.objs.size (bindL (envOfC qual scope s.heap.objs.size f cd).kindOf (ps.zip us) fun _ => none) (cellsFrom (s.heap.objs.size + 1) scope.names []) (bindC (envOfC qual scope s.heap.objs.size f cd).kindOf (ps.zip us) fun _ => none) s1) :
    Inv (cxOf CX P w K mg base N qual scope f cd A outer s H E) [] (start N vs) H s1 := by
  have hpl : ps.length ≤ N.length := by have := congrArg List.length S.pre; rw [List.length_take] at this; omega
  obtain ⟨h1, tk, rfl, hk⟩ := x.done
  have noA : ∀ b : Addr, b ∉ (cxOf CX P w K mg base N qual scope f cd A outer s H E).ex := fun b z => absurd (show b ∈ ([] : List Addr) from z) (by simp)
  refine ⟨⟨e0.mod, S.kind, rfl, rfl, Nat.le_refl _, fun y z c h1 h2 => ?_, fun y hy => ?_, fun y c _ h => ?_, fun _ => hd, Around.frames_deeper e0.frames, .inr ⟨rfl, rfl⟩, fun b z => absurd z (noA b), e0.bs, e0.bsz, fun b _ _ => noA b, fun b z => absurd z (noA b), e0.funs, e0.frf⟩,
    rfl, e0.bare, Un.kept hk, ⟨_, x.toInCall.ns, fun i y v h1 h2 h3 => ?_⟩, fun y c h => ⟨_, x.cell y c h⟩, e0.hok.fresh (Nat.le_refl _), fun y c h => ?_, fun p hp => absurd (show p ∈ ([] : List (Addr × Obj)) from hp) (by simp), e0.hok.kept hk, ?_⟩
  · exact name_of_addr x.apart (PySem.mem_of_lookup h1) (PySem.mem_of_lookup h2)
  · have hy : scope.names.lookup y = some .cell ∨ scope.names.lookup y = some .free := hy
    rcases hy with hy | hy
    · exact cell_has hy
    · exact absurd rfl (S.nofree _ (PySem.mem_of_lookup hy))
  · exact Nat.le_of_lt (x.above y c (PySem.mem_of_lookup h))
  · have hi : i < vs.length := by
      unfold start at h2
      by_cases hi : i < vs.length
      · exact hi
      · rw [List.getElem?_append_right (by simpa using hi)] at h2
        rw [List.getElem?_replicate] at h2
        split at h2 <;> cases h2
    have ha : vs[i]? = some v := by
      unfold start at h2
      rw [List.getElem?_append_left (by simpa using hi), List.getElem?_map] at h2
      cases e : vs[i]? with
      | none => rw [e] at h2; cases h2
      | some a => rw [e] at h2; cases h2; rfl
    obtain ⟨u, hu, rv⟩ := r.get ha
    have hp : ps[i]? = some y := by
      rw [← S.pre, List.getElem?_take_of_lt (by omega)]; exact h1
    have ndP : ps.Nodup := by rw [← S.pre]; exact S.nd.sublist (List.take_sublist _ _)
    refine ⟨u, rv, ?_⟩
    rcases S.par y (List.mem_of_getElem? hp) with k | k
    · exact .inl ⟨k, bindL_get ndP hp hu k⟩
    · obtain ⟨c, e⟩ := cell_has (n := s.heap.objs.size + 1) k
      refine .inr ⟨.inl k, c, e, ?_⟩
      have q := x.cell y c e
      rw [bindC_get ndP hp hu (by show scope.names.lookup y ≠ _; rw [k]; decide)] at q
      exact q
  · exact e0.hok.fresh (Nat.le_of_lt (x.above y c (PySem.mem_of_lookup h)))
  · unfold start
    show _ = N.length
    rw [List.length_append, List.length_map, List.length_replicate]
    omega
/-- THE RULE: a def (or a method) of the text, by its body. The body's reading t is chosen for each entry; it is run at the parameters' values -/
theorem fn_of {CX : CXT} {P : Program} {w : World} {K : PySem.W.Frag} {mg : Str → Option Value} {base : Heap} {k : Nat} {f : Addr} {name qual : Str} {params : Arguments} {body : List Stmt} {scope : Scope} {dV kV doc pm cdv ct oc : Value} {an od : Option Addr}
    {osl : Array (Option Value)} {N ps : List Str} {sp : Sp} (lk : K.lookup f = some ⟨oc, od, .func (PySem.W.fnOf name qual params body scope dV kV doc pm an cdv ct), osl⟩) (hcd : PySem.W.codeIn K cdv qual = true) (S : FnScope N ps scope)
    (len : ∀ vs H Q E, sp vs H Q E → vs.length = ps.length)
    (hbody : ∀ (A : Around) (outer : List Env) (s : Shared) (H : Hp) (vs : List V) (Q : VK) (E : XK), Room k (A.deeper (envOfC qual scope s.heap.objs.size f cdv)) → sp vs H Q E →
      ∃ t, PSs (cxOf CX P w K mg base N qual scope f cdv A outer s H E) body t ∧ t { nx := fun _ H' => Q .non H', rt := Q } (start N vs) H) :
    FnOk P w K mg base CX (k + 1) f (PySem.W.fnOf name qual params body scope dV kV doc pm an cdv ct) ps sp := by
  refine ⟨len, fun A outer s H args us vs Q E hr e0 hb r hsp => ?_⟩
  have hl := len _ _ _ _ hsp
  have KX : K.In s.heap := e0.mod.kin.keeps fun b o e => (e0.bs b o e).1
  have lim : s.heap.NoLimit := e0.mod.nolimit.keeps fun b o e => (e0.bs b o e).1
  have hkind : ∀ y ∈ ps.zip us, scope.names.lookup y.1 = some .local ∨ (scope.names.lookup y.1 = some .cell ∧ ((cellsFrom (s.heap.objs.size + 1) scope.names []).lookup y.1).isSome = true) := fun ⟨n, v⟩ hy => by
    rcases S.par n (List.of_mem_zip hy).1 with q | q
    · exact .inl q
    · exact .inr ⟨q, PySem.W.cellsFrom_some _ _ _ (.inl q)⟩
  refine codeAny_call_function hr.depth (KX _ _ lk) rfl S.co S.gen rfl (PySem.W.codeRec_of KX hcd) (hb _ _ _ _ ?_)
  refine wpAny_newFunctionEnv_cells S.kind hkind fun env he s1 x => ?_
  subst he
  refine ⟨lim.keeps x.toInCall.keep, codeAny_func ?_⟩
  obtain ⟨t, ht, hq⟩ := hbody A outer s H vs Q E (hr.deeper _) hsp
  have I : Inv (cxOf CX P w K mg base N qual scope f cdv A outer s H E) [] (start N vs) H s1 := inv_start S hr.hd e0 hl r x
  refine wpAny_mono (ht [] s1 (start N vs) H _ I hq) (fun fl s' hs => ?_) fun e s' hs => hs
  have fin : ∀ {σ' : St} {H' : Hp} {v : V} {u : Value}, Inv (cxOf CX P w K mg base N qual scope f cdv A outer s H E) [] σ' H' s' → RelV v u → Q v H' → CE outer P w H s Q u s' :=
    fun {σ' H' v u} J rv q => ⟨v, H', J.os, J.bare, J.base, J.hok, rv, q⟩
  cases fl with
  | ret u =>
    obtain ⟨v, σ', H', J, rv, q⟩ := hs
    exact fin J rv q
  | next =>
    obtain ⟨σ', H', J, q⟩ := hs
    exact fin (v := V.non) (u := Value.none) J rfl q
  | brk =>
    obtain ⟨_, _, _, q⟩ := hs
    exact False.elim q
  | cont =>
    obtain ⟨_, _, _, q⟩ := hs
    exact False.elim q
end L2
namespace L2
open PySem PySem.Spec PyProof.Rows
section
variable {X : Cx} {x : Str} {p pos : Pos} {e : Expr} {es : List Expr} {t : TA} {id T : String} {r : List V → Hp → VK → Prop}
def tCB (r : List V → Hp → VK → Prop) (t : TA) : TE := fun σ H Q => t σ H fun vs H1 => r vs H1 Q
/-- f(e, ..), f a built-in function -/
theorem pe_callB (hc : CallR X (.builtin id) r) (hg : Gl X x) (hm : X.mg x = none) (hv : bootBuiltins x = some (.builtin id)) (ha : PA X (e :: es) t) (hn : x ≠ "__name__" := by decide) (hdb : (x == ("__debug__" : Str)) = false := by decide)
    (he : starEach (e :: es) X.env = (false, eval e X.env) :: starEach es X.env := by rfl) (hpl : (backTo pos (starEach es X.env)).any (·.1) = false := by rfl) : PE X (.Call (.Name x p) (e :: es) [] pos) (tCB r t) := by
  intro pins s σ H Q I h
  refine wpAny_Call_Name_kw (ld_blt I hg hm hv ?_ hn hdb)
  exact PyProof.Rows.callWith_builtin1 (thn (ha pos pins s σ H _ I h) fun us s1 ⟨vs, H1, I1, r1, q1⟩ => hc pins s1 σ H1 vs us Q I1 r1 q1) he hpl
/-- T(e, ..), T a built-in type -/
theorem pe_callTy (hc : CallR X (.type T) r) (hg : Gl X x) (hm : X.mg x = none) (hv : bootBuiltins x = some (.type T)) (ha : PA X (e :: es) t) (hn : x ≠ "__name__" := by decide) (hdb : (x == ("__debug__" : Str)) = false := by decide)
    (he : starEach (e :: es) X.env = (false, eval e X.env) :: starEach es X.env := by rfl) (hpl : (backTo pos (starEach es X.env)).any (·.1) = false := by rfl) : PE X (.Call (.Name x p) (e :: es) [] pos) (tCB r t) := by
  intro pins s σ H Q I h
  refine wpAny_Call_Name_kw (ld_blt I hg hm hv ?_ hn hdb)
  exact PyProof.Rows.callWith_type1 (thn (ha pos pins s σ H _ I h) fun us s1 ⟨vs, H1, I1, r1, q1⟩ => hc pins s1 σ H1 vs us Q I1 r1 q1) he hpl
end
end L2
namespace HT
open PySem PyProof.Rows
/-- t < u of tuples of ints -/
def lexLt : List Int → List Int → Bool
  | [], [] => false
  | [], _ :: _ => true
  | _ :: _, [] => false
  | x :: xs, y :: ys => if x = y then lexLt xs ys else decide (x < y)
theorem lexLt_cons (x y : Int) (xs ys : List Int) : lexLt (x :: xs) (y :: ys) = if x = y then lexLt xs ys else decide (x < y) := rfl
theorem lexLt_nil_nil : lexLt [] [] = false := rfl
theorem lexLt_nil_cons (y : Int) (ys : List Int) : lexLt [] (y :: ys) = true := rfl
theorem lexLt_cons_nil (x : Int) (xs : List Int) : lexLt (x :: xs) [] = false := rfl
theorem eqAt_int (A : Around) (s : Shared) (a : Int) (t : Tok) (c : Int) (u : Tok) : ∃ e, SeqAt.EqAt A s (.int a t) (.int c u) e ∧ (e = true ↔ a = c) :=
  ⟨(a == c), SeqAt.EqAt.int_int a t c u, by simp⟩
section
open PySem.SeqAt
open PySem.AutoSeq1 (wpAny_loadPart')
open PySem.MeetsSeq PySem.MeetsSeq2 PySem.MeetsSeq3
end
section
variable {prog : Program} {w : World} {A : Around} {E : Value → Shared → Prop} {s : Shared}
/-- t + u, t not empty -/
theorem cat_tup {t b : Addr} {vs ws : List Value} {Q : Value → Shared → Prop} (ht : IsTup s.heap t vs.toArray) (hb : IsTup s.heap b ws.toArray) (hv : vs ≠ [])
    (h1 : ws = [] → Q (.ref t) s) (h2 : ws ≠ [] → Q (.ref s.heap.objs.size) { s with heap := s.heap.push { cls := .type "tuple", data := .seq (vs ++ ws).toArray } })
    (hsz : vs.length + ws.length ≤ sizeLine) : wpAny (model prog w) A (binaryOp .Add (.ref t) (.ref b)) Q E s := by
  obtain ⟨⟨cls, dd, data, sl⟩, ho, hc, n, hd⟩ := id ht
  obtain ⟨⟨cls2, dd2, data2, sl2⟩, ho2, hc2, n2, hd2⟩ := id hb
  simp only at hc hd hc2 hd2
  subst hc hd hc2 hd2
  have e : vs.toArray ++ ws.toArray = (vs ++ ws).toArray := by simp
  by_cases hw : ws = []
  · exact concat_meets ⟨_, ho, rfl⟩ ⟨_, ho2, rfl⟩ noFill_tuple_add seq_tuple_add PySem.F.slot_tuple_add PySem.F.entry_tuple_add (PySem.F.args_tuple_add_2 _ _)
      (tuple_addW1 t b vs.toArray ws.toArray n n2 dd dd2 sl sl2 (by simpa using hv) (by simp [hw])) ⟨ho, ho2, h1 hw⟩
  · refine concat_meets ⟨_, ho, rfl⟩ ⟨_, ho2, rfl⟩ noFill_tuple_add seq_tuple_add PySem.F.slot_tuple_add PySem.F.entry_tuple_add (PySem.F.args_tuple_add_2 _ _)
      (tuple_addW2 t b vs.toArray ws.toArray n n2 dd dd2 sl sl2 (by simpa using hv) (by simpa using hw) (by rw [List.size_toArray, List.size_toArray]; exact hsz)) ⟨ho, ho2, ?_⟩
    rw [e]
    exact h2 hw
/-! ### t[a:b], not the whole -/
/-- a slice's bound as a place among n (d where it is left out) -/
def sIx (n d : Nat) : Option Int → Nat
  | none => d
  | some v => if v < 0 then (v + (n : Int)).toNat else min v.toNat n
theorem sIx_none (n d : Nat) : sIx n d none = d := rfl
theorem sIx_nat (n d k : Nat) : sIx n d (some (k : Int)) = min k n := by
  show (if (k : Int) < 0 then ((k : Int) + (n : Int)).toNat else min (k : Int).toNat n) = min k n
  rw [if_neg (by omega), Int.toNat_natCast]
theorem sIx_le (n d : Nat) (hd : d ≤ n) (o : Option Int) : sIx n d o ≤ n := by
  cases o with
  | none => exact hd
  | some v =>
    show (if v < 0 then (v + (n : Int)).toNat else min v.toNat n) ≤ n
    by_cases hv : v < 0
    · rw [if_pos hv]; omega
    · rw [if_neg hv]; exact Nat.min_le_right _ _
theorem clip_eq (v : Int) (n d : Nat) : (if v < 0 then max (v + (n : Int)) 0 else min v (n : Int)) = ((sIx n d (some v) : Nat) : Int) := by
  show (if v < 0 then max (v + (n : Int)) 0 else min v (n : Int)) = (((if v < 0 then (v + (n : Int)).toNat else min v.toNat n) : Nat) : Int)
  by_cases hv : v < 0
  · simp only [if_pos hv]; omega
  · simp only [if_neg hv]; omega
theorem adjust_gen (lo hi : Option Int) (n : Nat) : Builtin.Slice.sliceAdjust lo hi 1 (n : Int) = (((sIx n 0 lo : Nat) : Int), ((sIx n n hi : Nat) : Int)) := by
  have h1 : ¬ ((1 : Int) < 0) := by omega
  unfold Builtin.Slice.sliceAdjust
  simp only [h1, if_false]
  refine Prod.ext ?_ ?_
  · cases lo with
    | none => rfl
    | some v => exact clip_eq v n 0
  · cases hi with
    | none => rfl
    | some v => exact clip_eq v n n
theorem places_gen (i j : Nat) : Builtin.Slice.slicePlaces (i : Int) (j : Int) 1 = j - i := by
  unfold Builtin.Slice.slicePlaces
  have h1 : (1 : Int) > 0 := by omega
  simp only [h1, if_true, Int.ediv_one]
  split <;> omega
theorem slicePart_ {v : Value} {o : Option Int} {Q : Option Int → Shared → Prop} (p : IsPart v o) (h : Q o s) : wpAny (model prog w) A (Builtin.Slice.slicePartIndex v) Q E s := by
  cases p with
  | none => exact slicePart_none h
  | int i t => exact slicePart_int h
theorem sliceApplied_gen {sl : Addr} {vl vu : Value} {lo hi : Option Int} {n : Nat} {Q : Int × Int × Nat → Shared → Prop} (hs : s.heap.IsSliceOf sl vl vu .none) (pl : IsPart vl lo) (pu : IsPart vu hi)
    (h : Q (((sIx n 0 lo : Nat) : Int), 1, sIx n n hi - sIx n 0 lo) s) : wpAny (model prog w) A (Builtin.Slice.sliceApplied (.ref sl) (pure (n : Int))) Q E s := by
  obtain ⟨os, hos, hcs, hds⟩ := id hs
  unfold Builtin.Slice.sliceApplied Builtin.Slice.sliceFields
  refine wpAny_bind (wpAny_bind (wpAny_field hos hds (x := vl) rfl (wpAny_bind (wpAny_field hos hds (x := vu) rfl (wpAny_bind (wpAny_field hos hds (x := .none) rfl (wpAny_pure ?_)))))))
  refine wpAny_bind (slicePart_none ?_)
  show wpAny _ _ (if ((1 : Int) == 0) = true then _ else _) _ _ s
  rw [if_neg (by decide)]
  refine wpAny_bind (slicePart_ pl (wpAny_bind (slicePart_ pu (wpAny_bind (wpAny_pure ?_)))))
  show wpAny _ _ (match Builtin.Slice.sliceAdjust lo hi 1 (n : Int) with | (lo, hi) => pure (lo, (1 : Int), Builtin.Slice.slicePlaces lo hi 1)) _ _ s
  rw [adjust_gen lo hi n]
  show wpAny _ _ (pure (((sIx n 0 lo : Nat) : Int), (1 : Int), Builtin.Slice.slicePlaces ((sIx n 0 lo : Nat) : Int) ((sIx n n hi : Nat) : Int) 1)) _ _ s
  rw [places_gen]
  exact wpAny_pure h
theorem pick_gen (xs : Array Value) (i k : Nat) : ((List.range k).filterMap fun (m : Nat) => xs[((i : Int) + (m : Int) * 1).toNat]?).toArray = ((xs.toList.drop i).take k).toArray := by
  have e : (fun (m : Nat) => xs[((i : Int) + (m : Int) * 1).toNat]?) = fun m => xs[i + m]? := by
    funext m
    have : ((i : Int) + (m : Int) * 1).toNat = i + m := by omega
    rw [this]
  rw [e]
  have := pick_run xs i k
  rw [List.filterMap_map] at this
  have e2 : ((fun x => xs[x]?) ∘ fun x => i + x) = fun m => xs[i + m]? := rfl
  rw [e2] at this
  rw [this]
theorem getItem_tuple_cut {t sl : Addr} {items : Array Value} {vl vu : Value} {lo hi : Option Int} {Q : Value → Shared → Prop} (ht : IsTup s.heap t items) (hs : s.heap.IsSliceOf sl vl vu .none) (pl : IsPart vl lo) (pu : IsPart vu hi)
    (hw : ¬ (sIx items.size 0 lo = 0 ∧ sIx items.size items.size hi = items.size))
    (h : Q (.ref s.heap.objs.size) { s with heap := s.heap.push { cls := .type "tuple", data := .seq ((items.toList.drop (sIx items.size 0 lo)).take (sIx items.size items.size hi - sIx items.size 0 lo)).toArray } })
    (hsz : items.size ≤ sizeLine) : wpAny (model prog w) A (getItem (.ref t) (.ref sl)) Q E s := by
  have htake : sizeOk (.seq ((items.toList.drop (sIx items.size 0 lo)).take (sIx items.size items.size hi - sIx items.size 0 lo)).toArray) := by
    show ((items.toList.drop (sIx items.size 0 lo)).take (sIx items.size items.size hi - sIx items.size 0 lo)).toArray.size ≤ sizeLine
    rw [List.size_toArray, List.length_take, List.length_drop, Array.length_toList]
    omega
  have hj : sIx items.size items.size hi ≤ items.size := sIx_le _ _ (Nat.le_refl _) hi
  obtain ⟨os, hos, hcs, hds⟩ := id hs
  have hTs : s.TypeIs (.ref sl) "slice" := ⟨os, hos, hcs⟩
  unfold getItem
  try with_reducible refine wpAny_holding ?_
  first | refine wpAny_bind (wpAny_pure ?_) | skip
  refine wpAny_bind (wpAny_sequenceKey ht.typeIs (by decide) ?_)
  refine wpAny_bind (wpAny_callSpecial?_slot (name := Str.ofString "__getitem__") ht.typeIs PyProof.Rows.slot_tuple_getitem
    (wpAny_call_entry PyProof.Rows.slot_tuple_getitem ht.typeIs entry_tuple_getitem ?_ (args_tuple_getitem _ _)))
  show wpAny _ _ (Builtin.Tuple.tupleItemsOf (.ref t) >>= _) _ _ s
  refine wpAny_bind (tupleItemsOf_ ht ?_)
  refine wpAny_bind (wpAny_typeOf hTs ?_)
  rw [if_pos (by decide)]
  refine wpAny_bind (sliceApplied_gen hs pl pu ?_)
  have hno : ¬ ((((sIx items.size 0 lo : Nat) : Int) == 0 && (1 : Int) == 1 && (sIx items.size items.size hi - sIx items.size 0 lo) == items.size) = true) := by
    intro q
    rw [Bool.and_eq_true, Bool.and_eq_true] at q
    have q1 : ((sIx items.size 0 lo : Nat) : Int) = 0 := eq_of_beq q.1.1
    have q2 : sIx items.size items.size hi - sIx items.size 0 lo = items.size := eq_of_beq q.2
    exact hw ⟨by omega, by omega⟩
  show wpAny _ _ (if (((sIx items.size 0 lo : Nat) : Int) == 0 && (1 : Int) == 1 && (sIx items.size items.size hi - sIx items.size 0 lo) == items.size) = true then _ else _) _ _ s
  rw [if_neg hno, pick_gen]
  first
    | exact wpAny_bind (m := Builtin.Tuple.tupleExact _) (wpAny_newObj_type (wpAny_pure ⟨_, rfl, wpAny_pure h⟩) htake)
    | exact wpAny_bind (m := Builtin.Tuple.tupleExact _) (wpAny_newObj_type (wpAny_bind (wpAny_pure (wpAny_pure ⟨_, rfl, wpAny_pure h⟩))) htake)
    | exact wpAny_bind (wpAny_bind (m := Builtin.Tuple.tupleExact _) (wpAny_newObj_type (wpAny_pure (wpAny_pure ⟨_, rfl, wpAny_pure h⟩)) htake))
    | exact wpAny_bind (wpAny_bind (m := Builtin.Tuple.tupleExact _) (wpAny_newObj_type (wpAny_pure ⟨_, rfl, wpAny_pure h⟩) htake))
end
end HT
namespace L2
open PySem PySem.Spec PyProof.Rows
/-! ### the parts of a slice -/
abbrev TO := St → Hp → (Option Int → Hp → Prop) → Prop
/-- a slice's part (left out, or an int) -/
def PO (X : Cx) (e : Option Expr) (t : TO) : Prop :=
  ∀ (pins : List (Addr × Obj)) (s : Shared) (σ : St) (H : Hp) (Q : Option Int → Hp → Prop), Inv X pins σ H s → t σ H Q →
    wpAny (model X.prog X.w) X.A (evalPart e X.env) (fun u s' => ∃ o H', Inv X pins σ H' s' ∧ IsPart u o ∧ Q o H') X.xe s
def tNoPart : TO := fun _ H Q => Q none H
def tPart (t : TE) : TO := fun σ H Q => t σ H fun x H1 => ∃ i, x = .int i ∧ Q (some i) H1
theorem intsAre_of {ns : List Int} : ∀ {us : List Value}, Vals (ns.map V.int) us → IntsAre us ns := by
  induction ns with
  | nil => intro us r; rw [List.map_nil] at r; cases r; exact .nil
  | cons n ns ih =>
    intro us r
    rw [List.map_cons] at r
    cases r with
    | cons r1 r2 =>
      obtain ⟨t, e⟩ := r1
      subst e
      exact .cons n t (ih r2)
section
variable {X : Cx} {e : Expr} {te : TE} {lo hi : Option Expr} {tl th : TO} {pos p2 : Pos}
theorem po_none : PO X none tNoPart := by
  intro pins s σ H Q I h
  rw [evalPart_none]
  exact wpAny_pure ⟨none, H, I, .none, h⟩
theorem po_some (h : PE X e te) : PO X (some e) (tPart te) := by
  intro pins s σ H Q I hw
  rw [evalPart_some]
  refine thn (h pins s σ H _ I hw) fun u s1 ⟨x, H1, I1, r1, q1⟩ => ?_
  obtain ⟨i, rfl, q⟩ := q1
  obtain ⟨t, rfl⟩ := r1
  exact ⟨some i, H1, I1, .int i t, q⟩
/-- what a slice of a value is, by values: the slice object stands at sl -/
def SlR (X : Cx) (r : V → Option Int → Option Int → Hp → VK → Prop) : Prop :=
  ∀ (pins : List (Addr × Obj)) (s : Shared) (σ : St) (H : Hp) (x : V) (v vl vu : Value) (lo hi : Option Int) (sl : Addr) (Q : VK), Inv X pins σ H s → RelV x v → s.heap.IsSliceOf sl vl vu .none → IsPart vl lo → IsPart vu hi → r x lo hi H Q →
    ∃ T id, typeLookup (.type T) "__getitem__" = pure (some (.builtin id)) ∧ s.TypeIs v T ∧ wpAny (model X.prog X.w) X.A (getItem v (.ref sl)) (EP X pins σ Q) X.xe s
theorem SlR.or {r r' : V → Option Int → Option Int → Hp → VK → Prop} (h : SlR X r) (h' : SlR X r') : SlR X (fun x lo hi H Q => r x lo hi H Q ∨ r' x lo hi H Q) := by
  intro pins s σ H x v vl vu lo hi sl Q I rx hs pl pu q
  rcases q with q | q
  · exact h pins s σ H x v vl vu lo hi sl Q I rx hs pl pu q
  · exact h' pins s σ H x v vl vu lo hi sl Q I rx hs pl pu q
def tSl (r : V → Option Int → Option Int → Hp → VK → Prop) (te : TE) (tl th : TO) : TE := fun σ H Q => te σ H fun x H1 => tl σ H1 fun l H2 => th σ H2 fun u H3 => r x l u H3 Q
/-- a[lo:hi], any a -/
theorem pe_slice {r : V → Option Int → Option Int → Hp → VK → Prop} (hr : SlR X r) (he : PE X e te) (hl : PO X lo tl) (hu : PO X hi th) : PE X (.Subscript e (.Slice lo hi none p2) pos) (tSl r te tl th) := by
  intro pins s σ H Q I h
  refine Subscript_ (thn (he pins s σ H _ I h) fun v s1 ⟨x, H1, I1, r1, q1⟩ => ?_)
  refine wpAny_Slice (thn (hl pins s1 σ H1 _ I1 q1) fun vl s2 ⟨l, H2, I2, pl, q2⟩ => thn (hu pins s2 σ H2 _ I2 q2) fun vu s3 ⟨u, H3, I3, pu, q3⟩ => ?_)
  rw [evalPart_none]
  refine wpAny_pure ?_
  have I4 : Inv X pins σ H3 { s3 with heap := s3.heap.push { cls := .type "slice", data := .fields #[vl, vu, .none] } } := I3.kept (t' := s3.toks) fun b ob q => Heap.get?_push_of_some _ q
  obtain ⟨T, id, hT, ht, hg⟩ := hr pins { s3 with heap := s3.heap.push { cls := .type "slice", data := .fields #[vl, vu, .none] } } σ H3 x v vl vu l u s3.heap.objs.size Q I4 r1 (Heap.IsSliceOf.new ..) pl pu q3
  show wpAny (model X.prog X.w) X.A (subscriptTail e (.Slice lo hi none p2) v (.ref s3.heap.objs.size)) (EP X pins σ Q) X.xe { s3 with heap := s3.heap.push { cls := .type "slice", data := .fields #[vl, vu, .none] } }
  exact tail_any (ops := [.ref s3.heap.objs.size, v]) ht hT hg (by with_unfolding_all rfl)
/-- the items of xs[lo:hi] -/
def cutV (xs : List V) (lo hi : Option Int) : List V := (xs.drop (HT.sIx xs.length 0 lo)).take (HT.sIx xs.length xs.length hi - HT.sIx xs.length 0 lo)
theorem cutV_length (xs : List V) (lo hi : Option Int) : (cutV xs lo hi).length ≤ xs.length := by
  unfold cutV
  rw [List.length_take, List.length_drop]
  omega
/-- t[lo:hi], not the whole of it (the whole would be t itself) -/
def rSlT (K : PySem.W.Frag) : V → Option Int → Option Int → Hp → VK → Prop := fun x lo hi H Q => ∃ a xs, x = .ref a ∧ SqT K H a xs ∧
  ¬ (HT.sIx xs.length 0 lo = 0 ∧ HT.sIx xs.length xs.length hi = xs.length) ∧ ∀ p, H p = none → Q (.ref p) (upd H p (.tup (cutV xs lo hi)))
theorem sl_tup : SlR X (rSlT X.K) := by
  intro pins s σ H x v vl vu lo hi sl Q I rx hs pl pu h
  obtain ⟨a, xs, rfl, hx, hw, q⟩ := h
  cases rx
  obtain ⟨its, r, ht, hz⟩ := I.tuple hx
  have hlen : its.toArray.size = xs.length := by rw [List.size_toArray]; exact r.length.symm
  refine ⟨"tuple", _, PyProof.Rows.slot_tuple_getitem.lookup, ht.typeIs, ?_⟩
  refine HT.getItem_tuple_cut ht hs pl pu (by rw [hlen]; exact hw) ?_ (by rw [hlen]; exact hz)
  rw [hlen]
  refine ⟨.ref s.heap.objs.size, _, I.laid (t' := s.toks) (o := .tup (cutV xs lo hi)) (fun b ob q => Heap.get?_push_of_some _ q) (Nat.le_refl _) ?_, rfl, q _ (I.hok.fresh (Nat.le_refl _))⟩
  exact ⟨Nat.le_trans (cutV_length xs lo hi) hz, _, (r.drop (HT.sIx xs.length 0 lo)).take (HT.sIx xs.length xs.length hi - HT.sIx xs.length 0 lo), IsTup.new _ _⟩
/-! ### t < u, t + u -/
/-- t + u, t not empty: u empty gives t itself -/
def rCatT (K : PySem.W.Frag) : R2 := fun x y H Q => ∃ a b xs ys, x = .ref a ∧ y = .ref b ∧ SqT K H a xs ∧ SqT K H b ys ∧ xs ≠ [] ∧ xs.length + ys.length ≤ sizeLine ∧
  (ys = [] → Q (.ref a) H) ∧ (ys ≠ [] → ∀ p, H p = none → Q (.ref p) (upd H p (.tup (xs ++ ys))))
theorem Vals.nil_iff {xs : List V} {us : List Value} (r : Vals xs us) : us = [] ↔ xs = [] := by
  cases r with
  | nil => simp
  | cons _ _ => simp
theorem op_catT : OpR X (binaryOp .Add) (rCatT X.K) := by
  intro pins s σ H x y v u Q I rx ry h
  obtain ⟨a, b, xs, ys, rfl, rfl, ha, hb, hx, hz, q1, q2⟩ := h
  cases rx
  cases ry
  obtain ⟨its, r1, p1, _⟩ := I.tuple ha
  obtain ⟨its2, r2, p2, _⟩ := I.tuple hb
  refine HT.cat_tup p1 p2 (fun z => hx (r1.nil_iff.mp z)) (fun z => ⟨.ref a, H, I, rfl, q1 (r2.nil_iff.mp z)⟩) (fun z => ?_) (by rw [← r1.length, ← r2.length]; exact hz)
  refine ⟨.ref s.heap.objs.size, _, I.laid (t' := s.toks) (o := .tup (xs ++ ys)) (fun b ob q => Heap.get?_push_of_some _ q) (Nat.le_refl _) ?_, rfl, q2 (fun w => z (r2.nil_iff.mpr w)) _ (I.hok.fresh (Nat.le_refl _))⟩
  exact ⟨by rw [List.length_append]; exact hz, _, r1.append r2, IsTup.new _ _⟩
end
end L2
namespace L2
open PySem PySem.Spec PyProof.Rows
/-! ### places -/
/-- the place that an index of any sign means -/
def ixN (n : Nat) (i : Int) : Option Nat := if 0 ≤ i then (if i < n then some i.toNat else none) else if -(n : Int) ≤ i then some (i + n).toNat else none
def atI {α : Type} (xs : List α) (i : Int) : Option α := (ixN xs.length i).bind fun j => xs[j]?
theorem ixN_seq {n : Nat} {i : Int} {j : Nat} (h : ixN n i = some j) : seqIndex? i n = some j ∧ j < n ∧ -(n : Int) ≤ i ∧ i < n := by
  unfold ixN at h
  by_cases h0 : 0 ≤ i
  · rw [if_pos h0] at h
    by_cases h1 : i < n
    · rw [if_pos h1] at h
      have e : i.toNat = j := Option.some.inj h
      exact ⟨by rw [seqIndex_of h0 h1, e], by omega, by omega, h1⟩
    · rw [if_neg h1] at h; cases h
  · rw [if_neg h0] at h
    by_cases h1 : -(n : Int) ≤ i
    · rw [if_pos h1] at h
      have e : (i + n).toNat = j := Option.some.inj h
      exact ⟨by rw [seqIndex_neg (by omega) h1, e], by omega, h1, by omega⟩
    · rw [if_neg h1] at h; cases h
theorem atI_get {α : Type} {xs : List α} {i : Int} {v : α} (h : atI xs i = some v) : ∃ j, seqIndex? i xs.length = some j ∧ xs[j]? = some v ∧ j < xs.length ∧ -(xs.length : Int) ≤ i ∧ i < xs.length := by
  unfold atI at h
  cases e : ixN xs.length i with
  | none => rw [e] at h; cases h
  | some j =>
    rw [e] at h
    obtain ⟨h1, h2, h3, h4⟩ := ixN_seq e
    exact ⟨j, h1, h, h2, h3, h4⟩
theorem atI_nat {α : Type} {xs : List α} {j : Nat} {v : α} (h : xs[j]? = some v) : atI xs (j : Int) = some v := by
  have hj : j < xs.length := (List.getElem?_eq_some_iff.mp h).1
  have e : ixN xs.length (j : Int) = some j := by
    unfold ixN
    rw [if_pos (by omega), if_pos (by omega)]; simp
  unfold atI; rw [e]; exact h
/-! ### what may be subscripted -/
/-- what stands as an index of a plain subscript -/
def PlainIx (b : Expr) : Prop := ∀ o i, subscripted b false o i = operate [o, i] (getItem o i)
/-- a subscript by values -/
def IxR (X : Cx) (r : R2) : Prop :=
  ∀ (value slice : Expr) (pins : List (Addr × Obj)) (s : Shared) (σ : St) (H : Hp) (x y : V) (v u : Value) (Q : VK), Inv X pins σ H s → RelV x v → RelV y u → r x y H Q →
    subscripted slice false v u = operate [v, u] (getItem v u) → wpAny (model X.prog X.w) X.A (subscriptTail value slice v u) (EP X pins σ Q) X.xe s
/-- a call of a builtin's method by values: the receiver, the arguments -/
def MtR (X : Cx) (id : String) (r : V → List V → Hp → VK → Prop) : Prop :=
  ∀ (pins : List (Addr × Obj)) (s : Shared) (σ : St) (H : Hp) (x : V) (xs : List V) (v : Value) (us : List Value) (Q : VK), Inv X pins σ H s → RelV x v → Vals xs us → r x xs H Q →
    wpAny (model X.prog X.w) X.A (call (.builtin id) (v :: us)) (EP X pins σ Q) X.xe s
section
variable {X : Cx} {a b : Expr} {ta tb : TE} {pos : Pos}
theorem IxR.or {r r' : R2} (h : IxR X r) (h' : IxR X r') : IxR X (fun x y H Q => r x y H Q ∨ r' x y H Q) := by
  intro value slice pins s σ H x y v u Q I rx ry q hs
  rcases q with q | q
  · exact h value slice pins s σ H x y v u Q I rx ry q hs
  · exact h' value slice pins s σ H x y v u Q I rx ry q hs
theorem MtR.or {id : String} {r r' : V → List V → Hp → VK → Prop} (h : MtR X id r) (h' : MtR X id r') : MtR X id (fun x xs H Q => r x xs H Q ∨ r' x xs H Q) := by
  intro pins s σ H x xs v us Q I rx rs q
  rcases q with q | q
  · exact h pins s σ H x xs v us Q I rx rs q
  · exact h' pins s σ H x xs v us Q I rx rs q
/-- a[b] -/
theorem pe_ix {r : R2} (hr : IxR X r) (ha : PE X a ta) (hb : PE X b tb) (hs : PlainIx b) : PE X (.Subscript a b pos) (tOp r ta tb) := by
  intro pins s σ H Q I h
  exact Subscript_ (binT ha hb I h fun v u s2 x y H2 I2 rx ry q => hr a b pins s2 σ H2 x y v u Q I2 rx ry q (hs _ _))
def rIxL (K : PySem.W.Frag) : R2 := fun x y H Q => ∃ p xs i v, x = .ref p ∧ y = .int i ∧ SqL K H p xs ∧ atI xs i = some v ∧ Q v H
def rIxT (K : PySem.W.Frag) : R2 := fun x y H Q => ∃ p xs i v, x = .ref p ∧ y = .int i ∧ SqT K H p xs ∧ atI xs i = some v ∧ Q v H
def rIxS : R2 := fun x y H Q => ∃ z i c, x = .str z ∧ y = .int i ∧ z.length ≤ sizeLine ∧ atI z.cps.toList i = some c ∧ Q (.str ⟨#[c]⟩) H
theorem ix_list : IxR X (rIxL X.K) := by
  intro value slice pins s σ H x y v u Q I rx ry h hs
  obtain ⟨p, xs, i, z, rfl, rfl, hq, he, q⟩ := h
  cases rx
  obtain ⟨t, rfl⟩ := ry
  obtain ⟨its, r, pl, hz⟩ := I.list hq
  obtain ⟨j, h1, h2, h3, h4, h5⟩ := atI_get he
  obtain ⟨w, ew, rw'⟩ := r.get h2
  have hl := r.length
  have hn := line63
  have fin : EP X pins σ Q w s := ⟨z, H, I, rw', q⟩
  by_cases h0 : 0 ≤ i
  · have hj : i.toNat = j := by
      rw [seqIndex_of h0 h5] at h1
      exact Option.some.inj h1
    exact item_listR pl.isList h0 (by omega) (by rw [hj]; simpa using ew) fin hs
  · have hj : (i + (its.toArray.size : Int)).toNat = j := by
      rw [seqIndex_neg (by omega) h4] at h1
      rw [List.size_toArray, ← hl]
      exact Option.some.inj h1
    exact subscriptTail_builtinR (x := w) pl.isList.typeIs slot_list_getitem.lookup
      (wpAny_getItem_list_neg (Q := fun r s' => r = w ∧ EP X pins σ Q r s') pl.isList (by omega) (by rw [List.size_toArray] <;> omega) (by omega) (by rw [hj]; simpa using ew) ⟨rfl, fin⟩) hs
theorem ix_tup : IxR X (rIxT X.K) := by
  intro value slice pins s σ H x y v u Q I rx ry h hs
  obtain ⟨p, xs, i, z, rfl, rfl, hq, he, q⟩ := h
  cases rx
  obtain ⟨t, rfl⟩ := ry
  obtain ⟨its, r, pl, hz⟩ := I.tuple hq
  obtain ⟨j, h1, h2, h3, h4, h5⟩ := atI_get he
  obtain ⟨w, ew, rw'⟩ := r.get h2
  have hl := r.length
  have hn := line63
  have fin : EP X pins σ Q w s := ⟨z, H, I, rw', q⟩
  exact subscriptTail_builtinR (x := w) pl.typeIs slot_tuple_getitem.lookup
    (getItem_tuple (j := j) (Q := fun r s' => r = w ∧ EP X pins σ Q r s') pl (by omega) (by omega) (by rw [List.size_toArray, ← hl]; exact h1) (by simpa using ew) ⟨rfl, fin⟩) hs
theorem ix_str : IxR X rIxS := by
  intro value slice pins s σ H x y v u Q I rx ry h hs
  obtain ⟨z, i, c, rfl, rfl, hz, he, q⟩ := h
  obtain ⟨t, rfl⟩ := rx
  obtain ⟨t', rfl⟩ := ry
  obtain ⟨j, h1, h2, h3, h4, h5⟩ := atI_get he
  have hl : z.cps.toList.length = z.length := by simp [Str.length]
  rw [hl] at h1 h4 h5
  have hn := line63
  exact tail_any (typeIs_str s z t) slot_str_getitem.lookup (getItem_str (c := c) (by
    have e1 : decide (i < -(2 ^ 63 : Int)) = false := decide_eq_false (by omega)
    have e2 : decide (i ≥ 2 ^ 63) = false := decide_eq_false (by omega)
    rw [e1, e2, Bool.or_false]) (by rw [h1]; simpa using h2) ⟨.str ⟨#[c]⟩, H, I.tok _, ⟨_, rfl⟩, q⟩) hs
/-- list, tuple or str -/
def rIx (K : PySem.W.Frag) : R2 := fun x y H Q => rIxL K x y H Q ∨ rIxT K x y H Q ∨ rIxS x y H Q
theorem ix_seq : IxR X (rIx X.K) := ix_list.or (ix_tup.or ix_str)
/-! ### xs[i] = v, any sign -/
theorem Inv.lst {pins : List (Addr × Obj)} {σ : St} {H : Hp} {s : Shared} {p : Addr} {xs : List V} (I : Inv X pins σ H s) (h : H p = some (.lst xs)) :
    ∃ (its : List Value) (n : Nat), Vals xs its ∧ s.heap.get? p = some { cls := .type "list", data := .seq its.toArray n } ∧ xs.length ≤ sizeLine := by
  obtain ⟨z, its, n, r, e⟩ := I.hok p _ h
  exact ⟨its, n, r, e, z⟩
/-! ### slices -/
theorem slice_bounds (lo hi : Option Int) (n : Nat) : (sliceBounds lo hi none n).1 = ((HT.sIx n 0 lo : Nat) : Int) ∧ (sliceBounds lo hi none n).2.1 = ((HT.sIx n n hi : Nat) : Int) ∧ (sliceBounds lo hi none n).2.2 = 1 := by
  refine ⟨?_, ?_, rfl⟩
  · cases lo with
    | none => simp [sliceBounds, HT.sIx]
    | some i =>
      simp only [sliceBounds, HT.sIx, Option.getD_none, show (1 : Int) > 0 by decide, if_true]
      by_cases h : i < 0
      · simp only [h, if_true] <;> omega
      · simp only [h, if_false] <;> omega
  · cases hi with
    | none => simp [sliceBounds, HT.sIx]
    | some i =>
      simp only [sliceBounds, HT.sIx, Option.getD_none, show (1 : Int) > 0 by decide, if_true]
      by_cases h : i < 0
      · simp only [h, if_true] <;> omega
      · simp only [h, if_false] <;> omega
theorem slicePick_cut (its : List Value) (lo hi : Option Int) : slicePick its.toArray lo hi none = ((its.drop (HT.sIx its.length 0 lo)).take (HT.sIx its.length its.length hi - HT.sIx its.length 0 lo)).toArray := by
  obtain ⟨h1, h2, h3⟩ := slice_bounds lo hi its.toArray.size
  unfold slicePick
  rw [h1, h2, h3]
  simp only [sliceRange_one, pick_run, List.size_toArray] <;> rfl
/-- xs[lo:hi] of a list: a new list -/
def rSlL (K : PySem.W.Frag) : V → Option Int → Option Int → Hp → VK → Prop := fun x lo hi H Q => ∃ a xs, x = .ref a ∧ SqL K H a xs ∧ ∀ p, H p = none → Q (.ref p) (upd H p (.lst (cutV xs lo hi)))
theorem sl_list : SlR X (rSlL X.K) := by
  intro pins s σ H x v vl vu lo hi sl Q I rx hs pl pu h
  obtain ⟨a, xs, rfl, hx, q⟩ := h
  cases rx
  obtain ⟨its, r, ht, hz⟩ := I.list hx
  have hlen := r.length
  refine ⟨"list", _, slot_list_getitem.lookup, ht.isList.typeIs, ?_⟩
  refine wpAny_getItem_list_slice ht.isList hs pl pu .none (by simp) ?_ (by rw [List.size_toArray] <;> omega)
  rw [slicePick_cut, ← hlen]
  refine ⟨.ref s.heap.objs.size, _, I.laid (t' := s.toks) (o := .lst (cutV xs lo hi)) (fun b ob q => Heap.get?_push_of_some _ q) (Nat.le_refl _) ?_, rfl, q _ (I.hok.fresh (Nat.le_refl _))⟩
  exact ⟨Nat.le_trans (cutV_length xs lo hi) hz, _, 0, (r.drop (HT.sIx xs.length 0 lo)).take (HT.sIx xs.length xs.length hi - HT.sIx xs.length 0 lo), Heap.get?_push_size _ rfl⟩
/-! ### in, not in: flat items -/
/-! ### len, list(x), tuple(x) of any list or tuple that is read -/
theorem call_len_seq : CallR X (.builtin "len") (fun xs H Q => ∃ p ys, xs = [.ref p] ∧ (SqL X.K H p ys ∨ SqT X.K H p ys) ∧ Q (.int ys.length) H) := by
  intro pins s σ H xs us Q I r h
  obtain ⟨p, ys, rfl, hq, q⟩ := h
  obtain ⟨u, rfl, rx⟩ := vals1 r
  cases rx
  have hn := line63
  rcases hq with hq | hq
  · obtain ⟨its, r', pl, hz⟩ := I.list hq
    have hlen := r'.length
    exact Calls.call_len_list pl.isList (by simp only [List.size_toArray] <;> omega) ⟨.int ys.length, H, I.tok _, ⟨s.toks + 1, by rw [List.size_toArray, hlen]⟩, q⟩
  · obtain ⟨its, r', pl, hz⟩ := I.tuple hq
    have hlen := r'.length
    exact len_tuple pl (by simp only [List.size_toArray] <;> omega) ⟨.int ys.length, H, I.tok _, ⟨s.toks + 1, by rw [List.size_toArray, hlen]⟩, q⟩
theorem CallR.or {f : Value} {r r' : List V → Hp → VK → Prop} (h : CallR X f r) (h' : CallR X f r') : CallR X f (fun xs H Q => r xs H Q ∨ r' xs H Q) := by
  intro pins s σ H xs us Q I rs q
  rcases q with q | q
  · exact h pins s σ H xs us Q I rs q
  · exact h' pins s σ H xs us Q I rs q
theorem call_list_of : CallR X (.type "list") (fun xs H Q => ∃ p ys, xs = [.ref p] ∧ (SqL X.K H p ys ∨ SqT X.K H p ys) ∧ ∀ l, H l = none → Q (.ref l) (upd H l (.lst ys))) := by
  intro pins s σ H xs us Q I r h
  obtain ⟨p, ys, rfl, hq, q⟩ := h
  obtain ⟨u, rfl, rx⟩ := vals1 r
  cases rx
  have fin : ∀ (its : List Value), Vals ys its → ys.length ≤ sizeLine → ∀ (h' : Heap) (c' : Nat), (∀ b o', s.heap.get? b = some o' → h'.get? b = some o') →
      h'.get? s.heap.objs.size = some { cls := .type "list", dict := none, data := .seq its.toArray c', slots := #[] } → EP X pins σ Q (.ref s.heap.objs.size) { s with heap := h' } := fun its r' hz h' c' kp e =>
    ⟨.ref s.heap.objs.size, _, I.laid (t' := s.toks) kp (Nat.le_refl _) (show ObjOk X.prog X.w _ h' _ (.lst ys) from ⟨hz, its, c', r', e⟩), rfl, q _ (I.hok.fresh (Nat.le_refl _))⟩
  rcases hq with hq | hq
  · obtain ⟨its, r', pl, hz⟩ := I.list hq
    have hlen := r'.length
    obtain ⟨o, ho, hc, n, hd⟩ := pl.isList
    exact call_list_seq p (.inl rfl) ho hc hd (fun h' c' kp e => fin its r' hz h' c' kp e) (by simp only [List.size_toArray] <;> omega)
  · obtain ⟨its, r', pl, hz⟩ := I.tuple hq
    have hlen := r'.length
    obtain ⟨o, ho, hc, n, hd⟩ := pl
    exact call_list_seq p (.inr rfl) ho hc hd (fun h' c' kp e => fin its r' hz h' c' kp e) (by simp only [List.size_toArray] <;> omega)
theorem call_tuple_of : CallR X (.type "tuple") (fun xs H Q => ∃ p ys, xs = [.ref p] ∧ ((SqL X.K H p ys ∧ ∀ l, H l = none → Q (.ref l) (upd H l (.tup ys))) ∨ (SqT X.K H p ys ∧ Q (.ref p) H))) := by
  intro pins s σ H xs us Q I r h
  obtain ⟨p, ys, rfl, h⟩ := h
  obtain ⟨u, rfl, rx⟩ := vals1 r
  cases rx
  rcases h with ⟨hq, q⟩ | ⟨hq, q⟩
  · obtain ⟨its, r', pl, hz⟩ := I.list hq
    have hlen := r'.length
    refine call_tuple_list pl.isList (fun h' kp => ?_) (by simp only [List.size_toArray] <;> omega)
    have I1 : Inv X pins σ H { s with heap := h' } := I.kept (t' := s.toks) kp
    have I2 : Inv X pins σ (upd H h'.objs.size (.tup ys)) { s with heap := h'.push { cls := .type "tuple", data := .seq its.toArray } } :=
      I1.laid (t' := s.toks) (fun b o e => Heap.get?_push_of_some _ e) (Nat.le_refl _) (show ObjOk X.prog X.w _ _ _ (.tup ys) from ⟨hz, its, r', IsTup.new _ _⟩)
    exact ⟨.ref h'.objs.size, _, I2, rfl, q _ (I1.hok.fresh (Nat.le_refl _))⟩
  · obtain ⟨its, r', pl, hz⟩ := I.tuple hq
    exact call_tuple_same pl ⟨.ref p, H, I, rfl, q⟩
/-! ### the call of a builtin's method: o.m(..) -/
/-- the value is of that builtin type -/
def tyV (K : PySem.W.Frag) (T : String) (x : V) (H : Hp) : Prop := match x with
  | .str _ => T = "str"
  | .int _ => T = "int"
  | .ref p => (T = "list" ∧ ∃ xs, SqL K H p xs) ∨ (T = "tuple" ∧ ∃ o, K.lookup p = some o ∧ o.cls = .type "tuple" ∧ o.dict = none) ∨
      (T = "dict" ∧ ((∃ kvs, H p = some (.dK kvs)) ∨ ∃ kvs, H p = some (.dT kvs))) ∨ (T = "set" ∧ ∃ S n, H p = some (.set S n))
  | _ => False
theorem tyV_is {pins : List (Addr × Obj)} {σ : St} {H : Hp} {s : Shared} {T : String} {x : V} {v : Value} (I : Inv X pins σ H s) (r : RelV x v) (ty : tyV X.K T x H) :
    s.TypeIs v T ∧ ∀ a, v = .ref a → ∃ ob, s.heap.get? a = some ob ∧ ob.dict = none := by
  cases x with
  | str z =>
    obtain ⟨t, rfl⟩ := r
    cases (show T = "str" from ty)
    exact ⟨typeIs_str s z t, fun _ e => nomatch e⟩
  | int i =>
    obtain ⟨t, rfl⟩ := r
    cases (show T = "int" from ty)
    exact ⟨typeIs_int s i t, fun _ e => nomatch e⟩
  | ref p =>
    cases r
    rcases ty with ⟨rfl, xs, hq⟩ | ⟨rfl, o, hk, hc, hd⟩ | ⟨rfl, hk⟩ | ⟨rfl, S, n, hk⟩
    · obtain ⟨its, _, pl, _⟩ := I.list hq
      refine ⟨pl.isList.typeIs, fun a e => ?_⟩
      cases e
      obtain ⟨o, n, e, c, hd, _⟩ := pl
      exact ⟨o, e, hd⟩
    · refine ⟨⟨o, I.kIn p o hk, hc⟩, fun a e => ?_⟩
      cases e
      exact ⟨o, I.kIn _ o hk, hd⟩
    · have z : ∃ o, s.heap.get? p = some o ∧ o.ExactDict := by
        rcases hk with ⟨kvs, hk⟩ | ⟨kvs, hk⟩
        · obtain ⟨_, _, _, _, o, _, _, e, ex, _⟩ := I.hok p _ hk
          exact ⟨o, e, ex⟩
        · obtain ⟨_, _, _, _, o, _, _, e, ex, _⟩ := I.hok p _ hk
          exact ⟨o, e, ex⟩
      obtain ⟨o, e, ex⟩ := z
      refine ⟨⟨o, e, ex.1⟩, fun a e2 => ?_⟩
      cases e2
      exact ⟨o, e, ex.2.1⟩
    · obtain ⟨o, _, _, _, e, ex, _⟩ := I.hok p _ hk
      refine ⟨⟨o, e, ex.1⟩, fun a e2 => ?_⟩
      cases e2
      exact ⟨o, e, ex.2.1⟩
  | _ => exact False.elim ty
def tBM (K : PySem.W.Frag) (T : String) (r : V → List V → Hp → VK → Prop) (to : TE) (t : TA) : TE := fun σ H Q => to σ H fun x H1 => tyV K T x H1 ∧ t σ H1 fun xs H2 => r x xs H2 Q
variable {o e : Expr} {es : List Expr} {to : TE} {t : TA} {name : Str} {apos cpos : Pos} {T id : String} {r : V → List V → Hp → VK → Prop}
theorem pe_bm (pa : PlainAttrs T) (slot : Slot T name id) (hty : typeOf (.builtin id) = pure (.type "method_descriptor")) (hm : MtR X id r) (ho : PE X o to) (ha : PA X (e :: es) t)
    (hbase : attributeBase o name X.env (eval o X.env) = eval o X.env := by rfl)
    (hfew : ((backTo cpos (starEach (e :: es) X.env)).all (fun x => !x.1) && (backToKw cpos (keywordEach [] X.env)).all (fun x => x.1.isSome)
      && decide ((e :: es).length + ([] : List Keyword).length + (if ([] : List Keyword).isEmpty then 0 else 1) < 30)) = true := by rfl)
    (hline : (apos.endLine == cpos.line) = true := by rfl) (hs : starEach (e :: es) X.env = (false, eval e X.env) :: starEach es X.env := by rfl) (hplain : (backTo cpos (starEach es X.env)).any (·.1) = false := by rfl) :
    PE X (.Call (.Attribute o name apos) (e :: es) [] cpos) (tBM X.K T r to t) := by
  intro pins s σ H Q I h
  refine wpAny_Call_method_late hbase hfew hline rfl (thn (ho pins s σ H _ I h) fun v s1 ⟨x, H1, I1, r1, ty, q1⟩ => ?_)
  obtain ⟨h1, h2⟩ := tyV_is I1 r1 ty
  refine ⟨T, id, pa, slot, hty, h1, h2, ?_⟩
  have hA := ha cpos pins s1 σ H1 _ I1 q1
  rw [hs] at hA ⊢
  refine Calls.callWith_builtin (by show (false || (backTo cpos (starEach es X.env)).any (·.1)) = false; rw [hplain] <;> rfl) (Calls.evalArgs_plain ?_)
  exact thn hA fun us s2 ⟨vs, H2, I2, r2, q2⟩ => hm pins s2 σ H2 x vs v us Q I2 r1 r2 q2
/- xs.append(e), list.index on a module's tuple .. are MtR facts of 06m -/
end
end L2
namespace L2
open PySem PySem.Spec PyProof.Rows
def MtM (X : Cx) (id : String) (r : V → List V → Hp → VK → Prop) : Prop :=
  ∀ (pins : List (Addr × Obj)) (s : Shared) (σ : St) (H : Hp) (x : V) (xs : List V) (v : Value) (us : List Value) (Q : VK), Inv X pins σ H s → RelV x v → Vals xs us → r x xs H Q →
    wpAny (model X.prog X.w) X.A (call (.builtin id) (v :: us)) (EP X pins σ Q) X.xe s
/-! ### lists of values -/
theorem Vals.one : ∀ {x : V} {us : List Value}, Vals [x] us → ∃ u, us = [u] ∧ RelV x u
  | _, _, .cons r .nil => ⟨_, rfl, r⟩
theorem Vals.two : ∀ {x y : V} {us : List Value}, Vals [x, y] us → ∃ u v, us = [u, v] ∧ RelV x u ∧ RelV y v
  | _, _, _, .cons r (.cons q .nil) => ⟨_, _, rfl, r, q⟩
theorem Vals.zero : ∀ {us : List Value}, Vals [] us → us = []
  | _, .nil => rfl
theorem Vals.reverse {xs : List V} {us : List Value} (h : Vals xs us) : Vals xs.reverse us.reverse := by
  induction h with
  | nil => exact .nil
  | cons r t ih => rw [List.reverse_cons, List.reverse_cons]; exact Vals.append ih (.cons r .nil)
theorem Vals.rep {xs : List V} {us : List Value} (h : Vals xs us) : ∀ k : Nat, Vals (List.replicate k xs).flatten (List.replicate k us).flatten
  | 0 => .nil
  | k + 1 => by
    rw [List.replicate_succ, List.replicate_succ, List.flatten_cons, List.flatten_cons]
    exact Vals.append h (Vals.rep h k)
theorem foldl_rep (its : List Value) : ∀ (k : Nat) (acc : List Value),
    List.foldl (fun x1 x2 => x1 ++ x2) acc.toArray (List.replicate k its.toArray) = (acc ++ (List.replicate k its).flatten).toArray
  | 0, acc => by simp
  | k + 1, acc => by
    have e : acc.toArray ++ its.toArray = (acc ++ its).toArray := by simp
    have e2 : (acc ++ its) ++ (List.replicate k its).flatten = acc ++ (List.replicate (k + 1) its).flatten := by
      rw [List.replicate_succ, List.flatten_cons, List.append_assoc]
    rw [← e2, ← foldl_rep its k (acc ++ its), ← e, List.replicate_succ, List.foldl_cons]
section
variable {X : Cx} {pins : List (Addr × Obj)} {σ : St} {H : Hp} {s : Shared} {l b : Addr} {xs ys zs : List V}
/-! ### the two steps: a tracked list is rewritten, a new list is laid -/
theorem Inv.lset {its its' : List Value} {n : Nat} {f : Array Value → Array Value} {t' : Nat} (I : Inv X pins σ H s) (hH : H l = some (.lst xs))
    (e : s.heap.get? l = some { cls := .type "list", data := .seq its.toArray n }) (hf : f its.toArray = its'.toArray) (hv : Vals ys its') (hz : ys.length ≤ sizeLine) :
    Inv X pins σ (upd H l (.lst ys)) { s with heap := s.heap.update l (Obj.mapSeq f), toks := t' } := by
  have q := PySem.IsL.update e f
  rw [hf] at q
  refine I.write (x := l) (e := l) (by rw [hH]; exact trivial) (.inl rfl) (fun b' u hb hu => (Heap.get?_update_other s.heap (Obj.mapSeq f) (Ne.symm hb)).trans hu) ⟨_, q⟩ ?_
  exact ⟨hz, its', _, hv, q⟩
theorem Inv.lnew {its : List Value} {t' : Nat} (I : Inv X pins σ H s) (hv : Vals ys its) (hz : ys.length ≤ sizeLine) :
    Inv X pins σ (upd H s.heap.objs.size (.lst ys)) { s with heap := s.heap.push { cls := .type "list", data := .seq its.toArray }, toks := t' } :=
  I.laid (fun _ _ q => Heap.get?_push_of_some _ q) (Nat.le_refl _) ⟨hz, its, 0, hv, Heap.get?_push_size _ rfl⟩
theorem Inv.fresh (I : Inv X pins σ H s) : H s.heap.objs.size = none := I.hok.fresh (Nat.le_refl _)
theorem Inv.lstM (I : Inv X pins σ H s) (hH : H l = some (.lst xs)) : xs.length ≤ sizeLine ∧ ∃ (its : List Value) (n : Nat), Vals xs its ∧ xs.length = its.length ∧ s.heap.get? l = some { cls := .type "list", data := .seq its.toArray n } := by
  obtain ⟨z, its, n, r, e⟩ := I.hok l _ hH
  exact ⟨z, its, n, r, r.length, e⟩
theorem notLongL {n : Nat} (h : n ≤ sizeLine) : Builtin.List.listTooLong n = false := by
  unfold Builtin.List.listTooLong
  exact decide_eq_false (by omega)
end
section
variable {X : Cx}
/-! ### methods -/
def rAppend : V → List V → Hp → VK → Prop := fun x vs H Q => ∃ l xs y, x = .ref l ∧ vs = [y] ∧ H l = some (.lst xs) ∧ xs.length < sizeLine ∧ Q .non (upd H l (.lst (xs ++ [y])))
theorem mt_append : MtM X "list.append" rAppend := by
  intro pins s σ H x vs v us Q I rx rv h
  obtain ⟨l, xs, y, rfl, rfl, hH, hz, q⟩ := h
  cases rx
  obtain ⟨u, rfl, ru⟩ := rv.one
  obtain ⟨z, its, n, r, hl, e⟩ := I.lstM hH
  refine call_meets F.slot_list_append ⟨_, e, rfl⟩ F.entry_list_append (F.args_list_append_2 _ _) (PySem.list_append l its.toArray n u (by rw [List.size_toArray]; omega)) ⟨e, ?_⟩
  refine ⟨.non, _, I.lset (its' := its ++ [u]) hH e (by simp) (r.append (.cons ru .nil)) ?_, rfl, q⟩
  rw [List.length_append, List.length_singleton]
  omega
def rExtend : V → List V → Hp → VK → Prop := fun x vs H Q => ∃ l b xs zs, x = .ref l ∧ vs = [.ref b] ∧ H l = some (.lst xs) ∧ H b = some (.lst zs) ∧ xs.length + zs.length ≤ sizeLine ∧ Q .non (upd H l (.lst (xs ++ zs)))
theorem mt_extend : MtM X "list.extend" rExtend := by
  intro pins s σ H x vs v us Q I rx rv h
  obtain ⟨l, b, xs, zs, rfl, rfl, hH, hB, hz, q⟩ := h
  cases rx
  obtain ⟨u, rfl, ru⟩ := rv.one
  cases ru
  obtain ⟨z, its, n, r, hl, e⟩ := I.lstM hH
  obtain ⟨z2, its2, n2, r2, hl2, e2⟩ := I.lstM hB
  have hsz : its.toArray.size + its2.toArray.size ≤ sizeLine := by rw [List.size_toArray, List.size_toArray]; omega
  have hlong : ¬ (!its.toArray.isEmpty && Builtin.List.listTooLong (its.toArray.size + its2.toArray.size)) = true := by
    rw [notLongL hsz, Bool.and_false]
    exact Bool.false_ne_true
  refine call_meets F.slot_list_extend ⟨_, e, rfl⟩ F.entry_list_extend (F.args_list_extend_2 _ _)
    (AutoSeq1.list_extend_list_list_0 l its.toArray n b its2.toArray n2 hlong (by rw [List.size_toArray]; omega) (by omega)) ⟨e, e2, ?_⟩
  refine ⟨.non, _, I.lset (its' := its ++ its2) hH e (by simp) (r.append r2) ?_, rfl, q⟩
  rw [List.length_append]
  omega
/-! ### list + list, list += list, list * int -/
theorem len_rep {α : Type} (xs : List α) (k : Nat) : (List.replicate k xs).flatten.length = k * xs.length := by
  induction k with
  | zero => simp
  | succ k ih => rw [List.replicate_succ, List.flatten_cons, List.length_append, ih, Nat.succ_mul, Nat.add_comm]
/-! ### del xs[i] -/
end
/-! ### xs[a:b] = ys -/
section
variable {prog : Program} {w : World} {A : Around} {E : Value → Shared → Prop} {s : Shared}
end
section
variable {X : Cx}
end
end L2
namespace Att
open PySem PySem.W PySem.Calls PyProof.Rows
/-! ### the script -/
theorem ints_of_wellAll {P : Params} {h : Heap} : ∀ (ns : List Int) (vs : List Value), WellAll P h vs (ns.map WData.int) → IntsAre vs ns := by
  intro ns
  induction ns with
  | nil =>
    intro vs w
    rw [List.map_nil] at w
    cases w
    exact .nil
  | cons n ns ih =>
    intro vs w
    rw [List.map_cons] at w
    cases w with
    | cons a b =>
      cases a
      exact .cons _ _ (ih _ b)
theorem script_of {l : OpenLaw} {n : Nat} (hn : l.most = some n) {P : Params} {h : Heap} {args : List WData} {vals : List Value}
    (hpre : l.row.toRowW.claim.pre args = true) (hwl : WellAll P h vals args) :
    ∃ a vs ns, vals = [Value.ref a] ∧ args = [WData.list (ns.map WData.int)] ∧ h.get? a = some { cls := .type "list", data := .seq vs.toArray } ∧ IntsAre vs ns ∧ ns.length ≤ n := by
  have hsh : WShape.hasAll [] args [.list .int] = true := (pre_splitW hpre).1
  have hc : l.pre.holds [] { args := args } = true := (pre_splitW hpre).2
  obtain ⟨d, r, rfl, h1, h2⟩ := hasAllW_cons hsh
  obtain rfl := hasAllW_nil h2
  obtain ⟨xs, rfl, h3⟩ := hasW_list h1
  obtain ⟨ns, rfl⟩ := items_int h3
  have hlen : ns.length ≤ n := by
    unfold OpenLaw.pre at hc
    have h4 : (WTm.not (.lt (.lit (.int (n : Int))) (.len (.arg 0)))).holds [] { args := [.list (ns.map .int)] } = true := by
      have h4 := (holds_andW hc).1
      rw [hn] at h4
      exact h4
    have h5 := condW_of h4 (w_not (w_lt w_lit (w_len_list (w_arg rfl))))
    rw [List.length_map] at h5
    refine Nat.le_of_not_lt fun q => ?_
    have q' : (n : Int) < ((ns.length : Nat) : Int) := by omega
    first
      | (rw [decide_eq_true q'] at h5; exact absurd h5 (by decide))
      | (simp at h5; omega)
  cases hwl with
  | cons w1 w2 =>
    cases w2
    cases w1 with
    | list ho hall => exact ⟨_, _, ns, rfl, rfl, ho, ints_of_wellAll ns _ hall, hlen⟩
theorem post_true (l : OpenLaw) (args : List WData) : l.row.toRowW.claim.post args (.bool true) args = true :=
  postW_of (r := l.row.toRowW) (X := (true == true))
    (show WShape.has [] (.bool true) .bool = true by first | rfl | decide | simp [WShape.has, WShape.arms, WShape.armsAll])
    (show (WTm.eq .res (.lit (.bool true))).value [] { args := args, res := some (.bool true), after := args } = some (.bool (true == true)) from w_eq_bool (w_res rfl) w_lit) rfl
/-! ### the attachment: holds_open's last premise (the goal 'hc' behind k_head) from a wpAny of the law's body -/
/-- the same from a codeAny of the CALL (for a layer whose function contracts speak of calls) -/
theorem attach_call {l : OpenLaw} {n : Nat} {q : Program} {loose : List Str} {XP : (Str → Option Value) → Heap → Prop} {YP : World → Heap → Prop} {d : DefRec}
    (hn : l.most = some n) (hdf : d.params.defaults = [])
    (call : ∀ (w : World) (s₀ s₁ : Shared) (mg mb : Str → Option Value) (fa : Addr) (o : Obj) (pm cd doc : Value) (a : Addr) (vs : List Value) (ns : List Int),
      Ground q loose [] XP w s₀ mg mb s₁.heap → YP w s₁.heap →
      s₁.heap.get? fa = some o → o.data = .func (docDef d.name d.params d.body d.scope pm cd doc) → s₁.heap.CodeRec cd d.name → mg d.name = some (.ref fa) →
      s₁.heap.get? a = some { cls := .type "list", data := .seq vs.toArray } → IntsAre vs ns → ns.length ≤ n → s₁.gens = #[] →
      codeAny (model l.prog w) callerA (.call (.ref fa) ⟨[.ref a], []⟩) (fun r s' => r = .ok (.ret (.bool true)) ∧ OldK s₁.heap s'.heap ∧ s'.os = s₁.os ∧ AllBare s'.gens) s₁) :
    WalkO q loose XP YP l.row.toRowW d [] (fun f vs => PySem.call f vs) := by
  intro w s₀ s₁ mg mb G Y fa o pm cd doc dV kV ho hd hcd hD hmg hg args vals as hpre hlay hrd hwl hlo
  obtain rfl : dV = .none := Dflts.none hD hdf
  obtain rfl : kV = .none := Dflts.noKw hD
  obtain ⟨a, vs, ns, rfl, rfl, hobj, hints, hlen⟩ := script_of hn hpre hwl
  refine enter_call (codeAny_mono (call w s₀ s₁ mg mb fa o pm cd doc a vs ns G Y ho (fd_plain hd) hcd hmg hobj hints hlen hg) fun r s' hq => ?_)
  obtain ⟨rfl, h2, h3, h4⟩ := hq
  exact ⟨.inl ⟨.bool true, .bool true, [], rfl, fun _ => rfl, .bool true, post_true l _, fun _ => ⟨List.Pairwise.nil, fun _ hm => (nomatch hm)⟩⟩, h2, h3, h4⟩
/-! ### rules over ANY heap (no ledger) from facts about the written part K: the library's own take a ledger (News) for what they write -/
section
variable {prog : Program} {w : World} {A : Around} {E : Value → Shared → Prop} {s : Shared} {K : Frag}
/-! the whole heap as the ledger: makes every rule that writes through a ledger a rule over any heap -/
def ledger (h : Heap) (L d : Addr) : List (Addr × Obj) := (List.range h.objs.size).filterMap fun a => if a = L ∨ a = d then none else (h.get? a).map fun o => (a, o)
end
end Att
namespace L2
open PySem PySem.Spec PyProof.Rows
theorem vals_ints : ∀ {vs : List Value} {ns : List Int}, IntsAre vs ns → Vals (ns.map V.int) vs
  | _, _, .nil => .nil
  | _, _, .cons n t h => .cons ⟨t, rfl⟩ (vals_ints h)
/-- nothing is tracked but the script, known to the object (or it is an object of the module) -/
def Only (H : Hp) : Prop := ∀ b, H b = none ∨ ∃ o xs, H b = some (.frz o (.lst xs))
/-- THE HEAD: the law's promise, at the heap behind the top. F, the promise of the law's def, may use that base is part of the heap (so K.In base, base.Ns mainGlobals mg stand in Mod) -/
theorem law_call {P : Program} {w : World} {K : PySem.W.Frag} {mg mb : Str → Option Value} {CX : CXT} {k : Nat} {fa a : Addr} {fd : FuncData} {x : Str} {sp : Sp} {s₁ : Shared} {vs : List Value} {ns : List Int}
    (KX : K.In s₁.heap) (hns : s₁.heap.Ns mainGlobals mg) (hb : s₁.heap.Ns builtinsNs mb) (hbb : ∀ x : Str, x ≠ "__name__" → mb x = bootBuiltins x) (hlim : s₁.heap.NoLimit) (hg : s₁.gens = #[])
    (ha : s₁.heap.get? a = some { cls := .type "list", data := .seq vs.toArray }) (hi : IntsAre vs ns) (hl : ns.length ≤ sizeLine) (hr : Room k callerA)
    (F : ∀ base : Heap, K.In base → base.Ns mainGlobals mg → FnOk P w K mg base CX k fa fd [x] sp) (hbind : ∀ (s : Shared) (u : Value), BindsTo s fd ⟨[u], []⟩ [(x, u)])
    (hsp : ∀ H : Hp, Only H → SqL K H a (ns.map V.int) → sp [.ref a] H (fun v _ => v = .bl true) fun _ _ _ => False)
    (hCX : ∀ H e s', CX [] H s₁ (fun _ _ _ => False) e s' → False) :
    codeAny (model P w) callerA (.call (.ref fa) ⟨[.ref a], []⟩) (fun r s' => r = .ok (.ret (.bool true)) ∧ OldK s₁.heap s'.heap ∧ s'.os = s₁.os ∧ AllBare s'.gens) s₁ := by
  have rv := vals_ints hi
  have lenV := hi.length
  -- from an abstract heap in which nothing but the script may be tracked
  have core : ∀ H : Hp, Only H → SqL K H a (ns.map V.int) → HOk P w H s₁.heap → (∀ b, H b ≠ none → b = a) → (H a ≠ none → K.lookup a = none) →
      codeAny (model P w) callerA (.call (.ref fa) ⟨[.ref a], []⟩) (fun r s' => r = .ok (.ret (.bool true)) ∧ OldK s₁.heap s'.heap ∧ s'.os = s₁.os ∧ AllBare s'.gens) s₁ := by
    intro H hO hS hok hA hK
    have base_of : ∀ {b : Addr} {o : Obj}, s₁.heap.get? b = some o → H b = none → (hidT s₁.heap H).get? b = some o := fun e n => hidT_get e n
    have noA : ∀ {b : Addr} {o : Obj} {es : Array DictEntry} {ep : Nat}, s₁.heap.get? b = some o → o.data = .dict es ep → H b = none := fun {b o es ep} e d => by
      cases q : H b with
      | none => rfl
      | some u =>
        have e' : b = a := hA b (by rw [q]; simp)
        subst e'
        rw [ha] at e; cases e
        have d' : Data.seq vs.toArray _ = Data.dict es ep := d
        cases d'
    have nsK : ∀ {b : Addr} {m : Str → Option Value}, s₁.heap.Ns b m → (hidT s₁.heap H).Ns b m := fun {b m} ⟨o, es, ep, e, d, r⟩ => ⟨o, es, ep, base_of e (noA e d), d, r⟩
    have hKb : K.In (hidT s₁.heap H) := fun b o e => base_of (KX b o e) (by
      cases q : H b with
      | none => rfl
      | some u =>
        have e' : b = a := hA b (by rw [q]; simp)
        subst e'
        rw [hK (by rw [q]; simp)] at e; cases e)
    have hM : Mod K mg (hidT s₁.heap H) := ⟨hKb, nsK hns, ⟨mb, nsK hb, hbb⟩, let ⟨mc, h1, h2⟩ := hlim; ⟨mc, nsK h1, h2⟩⟩
    have e0 : Env0 P w K mg (hidT s₁.heap H) callerA [] s₁ H := ⟨rfl, hM, fun b o e => of_hidT e, Nat.le_of_eq (hidT_size _ _), trivial, fun b hb => absurd (show b ∈ ([] : List Addr) from hb) (by simp), hok, .of_eq hg⟩
    refine codeAny_mono ((F _ hKb (nsK hns)).run callerA [] s₁ H ⟨[.ref a], []⟩ [.ref a] [.ref a] _ _ hr e0 (hbind s₁ (.ref a)) (.cons rfl .nil) (hsp H hO hS)) fun r s' h => ?_
    cases r with
    | error e => exact (hCX H e s' h).elim
    | ok fl =>
      cases fl with
      | next => exact False.elim h
      | brk => exact False.elim h
      | cont => exact False.elim h
      | ret u =>
        obtain ⟨v, H', os, bare, un, hok', r', q⟩ := h
        have q' : v = .bl true := q
        subst q'
        obtain rfl : u = Value.bool true := r'
        refine ⟨rfl, OldK.of_keep fun b o e => ?_, os, bare⟩
        cases q : H b with
        | none => exact un.keep b o e q (by intro z; exact absurd (show b ∈ ([] : List Addr) from z) (by simp)) (by simp)
        | some u =>
          rcases hO b with z | ⟨ob, xs, z⟩
          · rw [q] at z; cases z
          · have z2 := un.frzs b ob _ z
            obtain ⟨e1, _⟩ := hok b _ z
            obtain ⟨e2, _⟩ := hok' b _ z2
            rw [e] at e1; cases e1
            exact e2
  cases hk : K.lookup a with
  | some o =>
    -- the script is one of the module's own objects
    have e := KX a o hk
    rw [ha] at e
    cases e
    refine core (fun _ => none) (fun _ => .inl rfl) (.inr ⟨_, vs.toArray, _, hk, rfl, rfl, rfl, by rw [List.size_toArray, lenV]; exact hl, by simpa using rv⟩) (fun b u z => by have z' : (none : Option HO) = some u := z; cases z') (fun b z => absurd rfl z) fun z => absurd rfl z
  | none =>
    refine core (fun b => if b = a then some (.frz { cls := .type "list", data := .seq vs.toArray } (.lst (ns.map V.int))) else none) (fun b => ?_) (.inl (.inr ⟨{ cls := .type "list", data := .seq vs.toArray }, if_pos rfl⟩)) (fun b u z => ?_) (fun b z => ?_) fun _ => hk
    · by_cases hb : b = a
      · exact .inr ⟨_, _, if_pos hb⟩
      · exact .inl (if_neg hb)
    · by_cases hb : b = a
      · have z' := (if_pos hb).symm.trans z
        cases z'
        subst hb
        exact ⟨ha, by rw [List.length_map]; exact hl, vs, _, rv, ha⟩
      · have z' := (if_neg hb).symm.trans z
        cases z'
    · by_cases hb : b = a
      · exact hb
      · exact absurd (if_neg hb) z
end L2
namespace L2
open PySem PySem.Spec PyProof.Rows
abbrev KOf {K : PySem.W.Frag} {h : Heap} (_ : K.In h) : PySem.W.Frag := K
/-- the goal that k_head leaves (case hc), from the law's promise. F gives the function object fd (K's own) once, then the promise over every base -/
theorem walk_of {l : PySem.W.OpenLaw} {n k : Nat} {q : Program} {loose : List Str} {XP : (Str → Option Value) → Heap → Prop} {YP : World → Heap → Prop} {d : DefRec} {K : Params → PySem.W.Frag} {CX : World → CXT} {sp : World → Sp} {x : Str}
    (hn : l.most = some n) (hn2 : n ≤ sizeLine) (hdf : d.params.defaults = []) (hr : Room k callerA)
    (hY : ∀ (w : World) (h : Heap), YP w h → (K w.params).In h)
    (F : ∀ (w : World) (mg : Str → Option Value) (fa : Addr) (h : Heap), (K w.params).In h → h.Ns mainGlobals mg → mg d.name = some (.ref fa) →
      ∃ fd : FuncData, (∀ (s : Shared) (u : Value), BindsTo s fd ⟨[u], []⟩ [(x, u)]) ∧
        ∀ base : Heap, (K w.params).In base → base.Ns mainGlobals mg → FnOk l.prog w (K w.params) mg base (CX w) k fa fd [x] (sp w))
    (hsp : ∀ (w : World) (H : Hp) (a : Addr) (ns : List Int), ns.length ≤ n → Only H → SqL (K w.params) H a (ns.map V.int) → sp w [.ref a] H (fun v _ => v = .bl true) fun _ _ _ => False)
    (hCX : ∀ (w : World) (H : Hp) (s : Shared) (e : Value) (s' : Shared), CX w [] H s (fun _ _ _ => False) e s' → False) :
    PySem.W.WalkO q loose XP YP l.row.toRowW d [] (fun f vs => PySem.call f vs) := by
  refine Att.attach_call hn hdf fun w s₀ s₁ mg mb fa o pm cd doc a vs ns G Y ho hd hcd hmg hobj hints hlen hg => ?_
  have KX := hY w _ Y
  obtain ⟨fd, hb, hF⟩ := F w mg fa _ KX G.T.g hmg
  exact law_call KX G.T.g G.T.b G.T.builtins G.T.nolimit hg hobj hints (Nat.le_trans hlen hn2) hr hF hb (fun H hO hS => hsp w H a ns hlen hO hS) fun H e s' => hCX w H s₁ e s'
end L2
/- THE LAST THEOREM (shape; LID, My.* are yours):
   My.Adr: a structure of the addresses that your layer names (classes, functions); My.Txt K t: a structure (Prop) of the equations over K;
   My.txt_mk : {K} {implicit addresses ..} (e1 : nsIn K mainGlobals "law" = some (some (.ref f))) (e2 : K.lookup f = some ⟨oc, od, .func (fnOf "law" "law" params body scope dV kV doc pm an cdv ct), sl⟩) (e3 : codeIn K cdv "law" = true) .. : ∃ t, My.Txt K t
set_option maxRecDepth 100000 in
set_option maxHeartbeats 0 in
theorem PySem.Challenge.cw_LID_holds : PySem.Challenge.rw_LID.Holds := by
  w_on; o_law; k_head; (case hw => w_witness2)
  k_fill
  refine L2.walk_of (l := PySem.Challenge.rw_LID) (n := 63) (k := 40) (x := "script") (CX := fun w => ..) (sp := fun _ => My.sp_law) rfl (by decide) rfl ⟨rfl, by decide, by decide⟩ (fun w h Y => PySem.W.kIn_of Y) ?F ?S ?C
  case F =>
    intro w mg fa h KX G hmg
    have T : ∃ t, My.Txt (L2.KOf KX) t := by
      dsimp only [L2.KOf]                          -- K must stand as «<heap const> w.params» for k_is
      refine' My.txt_mk ?e1 ?e2 ?e3 ..
      (case e1 => PySem.W.k_is)                    -- in the order: a name -> its address -> its object -> its parts
      (case e2 => PySem.W.k_is)
      ..
    obtain ⟨t, T⟩ := T
    have e0 := hmg.symm.trans (PySem.W.mg_of KX G T.law)
    cases e0                                       -- fa is the law's own address
    exact ⟨_, fun s u => .of_eq rfl, fun base kb nb => My.law_fn T kb nb⟩     -- if «.of_eq rfl» comes too early: refine' ⟨_, ?b, fun base kb nb => My.law_fn T kb nb⟩; exact fun s u => .of_eq rfl
  case S => exact fun w H a ns hl hO hS => ..
  case C => exact ..
(the tactic k_is has no namespace: write k_is) -/
/-! SHORT WORDS over the layer: a def of the text, its body, what a loop and a test want. -/
namespace L2
open PySem PySem.Spec PyProof.Rows
/-! ### the text by places -/
def defArgs (s : Stmt) : Arguments := match s with
  | .FunctionDef _ a _ _ _ _ _ _ _ _ => a
  | _ => { posonlyargs := [], args := [], vararg := none, kwonlyargs := [], kw_defaults := [], kwarg := none, defaults := [] }
def defBody (s : Stmt) : List Stmt := match s with
  | .FunctionDef _ _ b _ _ _ _ _ _ _ => b
  | _ => []
def defScope (s : Stmt) : Scope := match s with
  | .FunctionDef _ _ _ _ _ _ sc _ _ _ => sc
  | _ => { kind := .function, names := [], isGenerator := false, isCoroutine := false }
/-! ### no exception leaves a def -/
abbrev CX0 : CXT := fun _ _ _ _ _ _ => False
abbrev E0 : XK := fun _ _ _ => False
theorem pass0 {X : Cx} : Passes CX0 X E0 := fun _ _ _ _ _ _ _ h => h.elim
/-! ### a def (or method) of the text as it stands behind the top -/
structure Fun (K : PySem.W.Frag) (x qual : Str) (st : Stmt) (f : Addr) (fd : FuncData) : Prop where
  ex : ∃ (oc : Value) (od : Option Addr) (kV doc pm : Value) (an : Option Addr) (cdv ct : Value) (osl : Array (Option Value)),
    fd = PySem.W.fnOf x qual (defArgs st) (defBody st) (defScope st) .none kV doc pm an cdv ct ∧ K.lookup f = some ⟨oc, od, .func fd, osl⟩ ∧ PySem.W.codeIn K cdv qual = true
  kp : PySem.W.keepIn K (.ref f) = true
section
variable {P : Program} {w : World} {K : PySem.W.Frag} {mg : Str → Option Value} {base : Heap}
/-- THE RULE for a def: its body as a term of rules, and the reading of that term -/
theorem Fun.ok {x qual : Str} {st : Stmt} {f : Addr} {fd : FuncData} {N ps : List Str} {k : Nat} {sp : Sp} (F : Fun K x qual st f fd) (S : FnScope N ps (defScope st)) (len : ∀ vs H Q E, sp vs H Q E → vs.length = ps.length)
    (hbody : ∀ (cdv : Value) (A : Around) (outer : List Env) (s : Shared) (H : Hp) (vs : List V) (Q : VK) (E : XK), Room k (A.deeper (envOfC qual (defScope st) s.heap.objs.size f cdv)) → sp vs H Q E →
      ∃ t, PSs (cxOf CX0 P w K mg base N qual (defScope st) f cdv A outer s H E).nox (defBody st) t ∧ t { nx := fun _ H' => Q .non H', rt := Q } (start N vs) H) : FnOk P w K mg base CX0 (k + 1) f fd ps sp := by
  obtain ⟨oc, od, kV, doc, pm, an, cdv, ct, osl, rfl, lk, hcd⟩ := F.ex
  refine fn_of lk hcd S len fun A outer s H vs Q E hr hsp => ?_
  obtain ⟨t, h, q⟩ := hbody cdv A outer s H vs Q E hr hsp
  exact ⟨t, h.nox, q⟩
/-- how its arguments bind (no defaults): h is «fun _ _ _ _ _ _ us hl => match us, hl with | [_, _], _ => rfl», one _ a parameter -/
theorem Fun.binds {x qual : Str} {st : Stmt} {f : Addr} {fd : FuncData} {ps : List Str} (F : Fun K x qual st f fd)
    (h : ∀ (kV doc pm : Value) (an : Option Addr) (cdv ct : Value) (us : List Value), us.length = ps.length → bindArgs (PySem.W.fnOf x qual (defArgs st) (defBody st) (defScope st) .none kV doc pm an cdv ct) ⟨us, []⟩ = pure (ps.zip us)) : Binds K fd ps [] := by
  obtain ⟨oc, od, kV, doc, pm, an, cdv, ct, osl, rfl, lk, hcd⟩ := F.ex
  exact .all (h kV doc pm an cdv ct)
theorem fun_mk {x qual : Str} {st : Stmt} {f : Addr} {oc : Value} {od an : Option Addr} {osl : Array (Option Value)} {kV doc pm cdv ct : Value} (l : K.lookup f = some ⟨oc, od, .func (PySem.W.fnOf x qual (defArgs st) (defBody st) (defScope st) .none kV doc pm an cdv ct), osl⟩)
    (c : PySem.W.codeIn K cdv qual = true) (k : PySem.W.keepIn K (.ref f) = true) : Fun K x qual st f (PySem.W.fnOf x qual (defArgs st) (defBody st) (defScope st) .none kV doc pm an cdv ct) := ⟨⟨oc, od, kV, doc, pm, an, cdv, ct, osl, rfl, l, c⟩, k⟩
end
/-! ### expressions in short: the name that stands in the i-th slot -/
section
variable {X : Cx}
end
/-! ### tests -/
theorem iteF {A B : Prop} (h : B) : if false = true then A else B := by
  rw [if_neg Bool.false_ne_true]
  exact h
theorem iteT {A B : Prop} (h : A) : if true = true then A else B := by
  rw [if_pos rfl]
  exact h
/-! ### heaps -/
/-- all that was tracked is as it was -/
def Same (H H' : Hp) : Prop := ∀ b o, H b = some o → H' b = some o
theorem Same.refl (H : Hp) : Same H H := fun _ _ h => h
theorem Same.trans {H H1 H2 : Hp} (a : Same H H1) (b : Same H1 H2) : Same H H2 := fun c o h => b c o (a c o h)
theorem Same.free {H H' : Hp} (e : Same H H') {l : Addr} (h : H' l = Option.none) : H l = Option.none := by
  cases q : H l with
  | none => rfl
  | some o =>
    rw [e l o q] at h
    cases h
theorem Same.seq {K : PySem.W.Frag} {H H' : Hp} {a : Addr} {xs : List V} (e : Same H H') (h : SqL K H a xs) : SqL K H' a xs := by
  rcases h with (h | ⟨o, h⟩) | h
  · exact .inl (.inl (e _ _ h))
  · exact .inl (.inr ⟨o, e _ _ h⟩)
  · exact .inr h
end L2
set_option Elab.async false
set_option linter.all false
set_option maxRecDepth 100000
set_option maxHeartbeats 4000000
namespace L2
open PySem PySem.Spec PyProof.Rows
theorem cellsFrom_app : ∀ (names : List (Str × NameKind)) (n : Nat) (acc : List (Str × Addr)), cellsFrom n names acc = cellsFrom n names [] ++ acc
  | [], _, _ => rfl
  | (name, kind) :: r, n, acc => by
    unfold cellsFrom
    split
    · rw [cellsFrom_app r (n + 1) ((name, n) :: acc), cellsFrom_app r (n + 1) [(name, n)]]
      simp
    · exact cellsFrom_app r n acc
theorem lookup_app_some {α : Type} {x : Str} {c : α} : ∀ {l m : List (Str × α)}, (l ++ m).lookup x = some c → l.lookup x = some c ∨ (l.lookup x = none ∧ m.lookup x = some c)
  | [], _, h => .inr ⟨rfl, h⟩
  | (k, v) :: r, m, h => by
    have ih := @lookup_app_some α x c r m
    rw [List.cons_append, List.lookup_cons] at h
    rw [List.lookup_cons]
    cases e : x == k with
    | true => rw [e] at h; exact .inl h
    | false => rw [e] at h; exact ih h
theorem lookup_app_left {α : Type} {x : Str} {c : α} : ∀ {l m : List (Str × α)}, l.lookup x = some c → (l ++ m).lookup x = some c
  | [], _, h => by cases h
  | (k, v) :: r, m, h => by
    have ih := @lookup_app_left α x c r m
    rw [List.lookup_cons] at h
    rw [List.cons_append, List.lookup_cons]
    cases e : x == k with
    | true => rw [e] at h; exact h
    | false => rw [e] at h; exact ih h
theorem lookup_app_right {α : Type} {x : Str} : ∀ {l m : List (Str × α)}, l.lookup x = none → (l ++ m).lookup x = m.lookup x
  | [], _, _ => rfl
  | (k, v) :: r, m, h => by
    have ih := @lookup_app_right α x r m
    rw [List.lookup_cons] at h
    rw [List.cons_append, List.lookup_cons]
    cases e : x == k with
    | true => rw [e] at h; cases h
    | false => rw [e] at h; exact ih h
/-- only cells are laid -/
theorem cellsFrom_kind : ∀ (names : List (Str × NameKind)) (n : Nat) (x : Str) (c : Addr), (x, c) ∈ cellsFrom n names [] → (x, NameKind.cell) ∈ names
  | [], _, _, _, h => by cases h
  | (name, kind) :: r, n, x, c, h => by
    unfold cellsFrom at h
    split at h
    · rename_i hk
      rw [cellsFrom_app] at h
      rcases List.mem_append.mp h with h | h
      · exact List.mem_cons_of_mem _ (cellsFrom_kind r _ x c h)
      · have : (x, c) = (name, n) := by simpa using h
        cases this
        have : kind = .cell := by simpa using hk
        subst this
        exact List.mem_cons_self
    · exact List.mem_cons_of_mem _ (cellsFrom_kind r n x c h)
/-- the closure of a block -/
def clOf (env : Env) : List (Str × NameKind) → List (Str × Addr) → List (Str × Addr)
  | [], acc => acc
  | (n, k) :: r, acc => if k == .free then clOf env r ((n, (env.cells.lookup n).getD 0) :: acc) else clOf env r acc
theorem closure_go (env : Env) : ∀ (names : List (Str × NameKind)) (acc : List (Str × Addr)), (∀ x ∈ names, x.2 = .free → ∃ c, env.cells.lookup x.1 = some c) →
    (forIn names acc (fun (p : Str × NameKind) (cs : List (Str × Addr)) => (if p.2 == .free then (do let a ← cellOf env p.1; pure (.yield ((p.1, a) :: cs))) else pure (.yield cs) : Sem (ForInStep (List (Str × Addr)))))) = pure (clOf env names acc)
  | [], acc, _ => rfl
  | (n, k) :: r, acc, h => by
    rw [List.forIn_cons]
    have hr := fun x hx => h x (List.mem_cons_of_mem _ hx)
    unfold clOf
    by_cases hk : k = .free
    · obtain ⟨c, hc⟩ := h (n, k) List.mem_cons_self hk
      subst hk
      have e1 : cellOf env n = pure c := by
        have hc' : env.cells.lookup n = some c := hc
        unfold cellOf; rw [hc']
      have hc' : env.cells.lookup n = some c := hc
      simp only [beq_self_eq_true, if_true, e1, pure_bind, hc', Option.getD_some]
      exact closure_go env r _ hr
    · have hb : (k == NameKind.free) = false := by simpa using hk
      simp only [hb, Bool.false_eq_true, if_false, pure_bind]
      exact closure_go env r _ hr
theorem closure_eq {env : Env} {scope : Scope} (h : ∀ x ∈ scope.names, x.2 = .free → ∃ c, env.cells.lookup x.1 = some c) : closureFor scope env = pure (clOf env scope.names []) := by
  have := closure_go env scope.names [] h
  unfold closureFor
  exact (bind_pure _).trans this
theorem clOf_look {env : Env} : ∀ {names : List (Str × NameKind)} {acc : List (Str × Addr)}, (∀ x ∈ names, x.2 = .free → ∃ c, env.cells.lookup x.1 = some c) → (∀ x c, (x, c) ∈ acc → env.cells.lookup x = some c) →
    ∀ x c, (x, c) ∈ clOf env names acc → env.cells.lookup x = some c
  | [], acc, _, ha, x, c, hm => ha x c hm
  | (n, k) :: r, acc, h, ha, x, c, hm => by
    unfold clOf at hm
    have hr := fun x hx => h x (List.mem_cons_of_mem _ hx)
    split at hm
    · rename_i hk
      have hk' : k = .free := by simpa using hk
      obtain ⟨c', hc⟩ := h (n, k) List.mem_cons_self hk'
      have hc : env.cells.lookup n = some c' := hc
      refine clOf_look hr (fun y d hy => ?_) x c hm
      rcases List.mem_cons.mp hy with e | hy
      · cases e; rw [hc]; rfl
      · exact ha y d hy
    · exact clOf_look hr ha x c hm
theorem clOf_has {env : Env} : ∀ {names : List (Str × NameKind)} {acc : List (Str × Addr)} {x : Str}, (names.lookup x = some .free ∨ ∃ c, acc.lookup x = some c) → ∃ c, (clOf env names acc).lookup x = some c
  | [], acc, x, h => by
    rcases h with h | h
    · cases h
    · exact h
  | (n, k) :: r, acc, x, h => by
    unfold clOf
    split
    · rename_i hk
      refine clOf_has ?_
      rcases h with h | ⟨c, h⟩
      · rw [List.lookup_cons] at h
        cases e : x == n with
        | true => exact .inr ⟨_, by rw [List.lookup_cons, e]⟩
        | false => rw [e] at h; exact .inl h
      · refine .inr ?_
        rw [List.lookup_cons]
        cases e : x == n with
        | true => exact ⟨_, rfl⟩
        | false => exact ⟨c, h⟩
    · rename_i hk
      refine clOf_has ?_
      rcases h with h | h
      · rw [List.lookup_cons] at h
        cases e : x == n with
        | true =>
          rw [e] at h
          cases h
          exact absurd rfl hk
        | false => rw [e] at h; exact .inl h
      · exact .inr h
theorem relabel_look {env : Env} : ∀ {names : List (Str × NameKind)} {x : Str} {k : NameKind}, names.lookup x = some k →
    (names.map fun (n, k) => if (k == NameKind.free && env.scope.kind == .function && env.kindOf n == some .cell) then (n, NameKind.cell) else (n, k)).lookup x = some (if (k == NameKind.free && env.scope.kind == .function && env.kindOf x == some .cell) then NameKind.cell else k)
  | [], _, _, h => by cases h
  | (n, k) :: r, x, k', h => by
    have ih := @relabel_look env r x k'
    rw [List.map_cons]
    dsimp only
    cases hx : x == n with
    | true =>
      have e : x = n := by simpa using hx
      subst e
      rw [List.lookup_cons, hx] at h
      cases h
      split <;> simp [List.lookup_cons, *]
    | false =>
      rw [List.lookup_cons, hx] at h
      have ih := ih h
      split
      · rw [List.lookup_cons, hx]; exact ih
      · rw [List.lookup_cons, hx]; exact ih
theorem relabel_out {env : Env} : ∀ {names : List (Str × NameKind)} {x : Str}, names.lookup x = none →
    (names.map fun (n, k) => if (k == NameKind.free && env.scope.kind == .function && env.kindOf n == some .cell) then (n, NameKind.cell) else (n, k)).lookup x = none
  | [], _, h => rfl
  | (n, k) :: r, x, h => by
    have ih := @relabel_out env r x
    rw [List.map_cons]
    dsimp only
    cases hx : x == n with
    | true => rw [List.lookup_cons, hx] at h; cases h
    | false =>
      rw [List.lookup_cons, hx] at h
      split
      · rw [List.lookup_cons, hx]; exact ih h
      · rw [List.lookup_cons, hx]; exact ih h
end L2
set_option Elab.async false
set_option linter.all false
set_option maxRecDepth 100000
set_option maxHeartbeats 4000000
namespace L2
open PySem PySem.Spec PyProof.Rows
def compEnvX (X : Cx) (scope : Scope) (C : Addr) : Env :=
  { scope := relabel scope X.env, locals := C, globals := X.env.globals, cells := cellsFrom (C + 1) scope.names (clOf X.env scope.names []), qual := X.env.qual, func := none, code := X.env.code, frame := X.env.frame, builtins := X.env.builtins }
def cxComp (X : Cx) (scope : Scope) (N : List Str) (fp : List Addr) (s : Shared) (H : Hp) : Cx :=
  { X with N := N, s₀ := s, H₀ := H, env := compEnvX X scope s.heap.objs.size, outer := X.stack, ex := fp, fn := fun x => decide (scope.names.lookup x = some .cell), pn := [], xe := fun _ _ => False }
theorem newCompEnv {M : Model} {A : Around} {E : Value → Shared → Prop} {s : Shared} {scope : Scope} {globals : Addr} {cl : List (Str × Addr)} {qual : Str} {env : Env} {Q : Env → Shared → Prop}
    (hQ : ∀ h', h'.Ns s.heap.objs.size (fun _ => none) → (∀ b o, s.heap.get? b = some o → h'.get? b = some o) → CellsOk h' (s.heap.objs.size + 1) (cellsFrom (s.heap.objs.size + 1) scope.names []) →
      Q { scope := scope, locals := s.heap.objs.size, globals := globals, cells := cellsFrom (s.heap.objs.size + 1) scope.names cl, qual := qual, func := none, code := env.code, frame := env.frame, builtins := env.builtins } { s with heap := h' }) :
    wpAny M A (newFunctionEnv scope globals cl [] qual none .none (some env)) Q E s := by
  simp only [newFunctionEnv, Option.isSome_some, if_true]
  refine wpAny_bind (wpAny_alloc ?_)
  refine wpAny_bind (wpAny_layCells _ (fun name kind cells => by cases hkc : kind == NameKind.cell <;> simp [hkc]) _ _ _ _ ?_)
  have ok := cellsFrom_ok scope.names (s.heap.push { cls := .type "dict", data := .dict #[] }) (s.heap.objs.size + 1) [] ⟨fun _ _ hm => (nomatch hm), List.Pairwise.nil⟩ (by rw [Heap.size_push]; exact Nat.le_refl _)
  rw [Heap.size_push] at ok
  rw [show ({ s with heap := s.heap.push { cls := .type "dict", data := .dict #[] } } : Shared).heap.objs.size = s.heap.objs.size + 1 from Heap.size_push ..]
  rw [List.forIn_nil]
  refine wpAny_bind (wpAny_pure (wpAny_pure ?_))
  exact hQ _ ((Heap.Ns.new s.heap (.type "dict")).keeps (pushCells_keeps _ _)) (fun b o e => pushCells_keeps _ _ b o (Heap.get?_push_of_some _ e)) ok
section
variable {X : Cx} {pins : List (Addr × Obj)} {σ σ' : St} {H : Hp} {s : Shared} {fp : List Addr} {scope : Scope} {N : List Str} {h4 : Heap}
theorem comp_has (ok : X.Ok) (hfree : ∀ x ∈ scope.names, x.2 = .free → X.env.kindOf x.1 = some .cell ∨ X.env.kindOf x.1 = some .free) : ∀ x ∈ scope.names, x.2 = .free → ∃ c, X.env.cells.lookup x.1 = some c :=
  fun x hx hk => ok.has x.1 (hfree x hx hk)
theorem kind_comp {C : Addr} {x : Str} {k : NameKind} (h : scope.names.lookup x = some k) : (compEnvX X scope C).kindOf x = some k ∨ (k = .free ∧ (compEnvX X scope C).kindOf x = some .cell) := by
  have q := relabel_look (env := X.env) h
  have q' : (compEnvX X scope C).kindOf x = some (if (k == NameKind.free && X.env.scope.kind == .function && X.env.kindOf x == some .cell) then NameKind.cell else k) := q
  rw [q']
  split
  · rename_i hc
    have : k = .free := by
      simp only [Bool.and_eq_true, beq_iff_eq] at hc
      exact hc.1.1
    exact .inr ⟨this, rfl⟩
  · exact .inl rfl
theorem kind_comp_inv {C : Addr} {x : Str} {k : NameKind} (h : (compEnvX X scope C).kindOf x = some k) : scope.names.lookup x = some k ∨ (k = .cell ∧ scope.names.lookup x = some .free) := by
  cases e : scope.names.lookup x with
  | none =>
    have q : (compEnvX X scope C).kindOf x = none := relabel_out (env := X.env) e
    rw [q] at h; cases h
  | some k' =>
    rcases kind_comp (X := X) (C := C) e with q | ⟨q, q'⟩
    · rw [q] at h; cases h; exact .inl rfl
    · rw [q'] at h; cases h; subst q; exact .inr ⟨rfl, rfl⟩
theorem inv_comp (I : Inv X pins σ H s) (hf : ∀ b ∈ fp, FpOk X pins H b) (hfl : ∀ b ∈ fp, b < s.heap.objs.size) (hk : scope.kind = .function)
    (hfree : ∀ x ∈ scope.names, x.2 = .free → X.env.kindOf x.1 = some .cell ∨ X.env.kindOf x.1 = some .free)
    (hns : h4.Ns s.heap.objs.size (fun _ => none)) (hkeep : ∀ b o, s.heap.get? b = some o → h4.get? b = some o) (hco : CellsOk h4 (s.heap.objs.size + 1) (cellsFrom (s.heap.objs.size + 1) scope.names []))
    (hdup : ∀ {x : Str}, (x, NameKind.cell) ∈ scope.names → (x, NameKind.free) ∈ scope.names → False) (hcap : ∀ (i : Nat) (x : Str) (v : V), N[i]? = some x → σ'[i]? = some (some v) → scope.names.lookup x = some .free ∧ ∃ j : Nat, X.N[j]? = some x ∧ σ[j]? = some (some v)) (hlen : σ'.length = N.length) (t' : Nat) :
    Inv (cxComp X scope N fp s H) [] σ' H { s with heap := h4, toks := t' } := by
  have hcl := comp_has I.ok hfree
  have clx : ∀ x c, (clOf X.env scope.names []).lookup x = some c → X.env.cells.lookup x = some c := fun x c e => clOf_look hcl (fun _ _ z => by cases z) x c (mem_of_lookup e)
  have look : ∀ x c, (compEnvX X scope s.heap.objs.size).cells.lookup x = some c → (x, c) ∈ cellsFrom (s.heap.objs.size + 1) scope.names [] ∨ X.env.cells.lookup x = some c := fun x c e => by
    have e : (cellsFrom (s.heap.objs.size + 1) scope.names (clOf X.env scope.names [])).lookup x = some c := e
    rw [cellsFrom_app] at e
    rcases lookup_app_some e with q | ⟨_, q⟩
    · exact .inl (mem_of_lookup q)
    · exact .inr (clx x c q)
  have old : ∀ x c, X.env.cells.lookup x = some c → c < s.heap.objs.size := fun x c e => let ⟨_, q⟩ := I.cell x c e; q.lt
  have new : ∀ x c, (x, c) ∈ cellsFrom (s.heap.objs.size + 1) scope.names [] → s.heap.objs.size < c := fun x c e => (hco.empty x c e).2
  refine ⟨⟨I.ok.mod, ?_, I.ok.glob, I.ok.blt, Nat.le_refl _, ?_, ?_, ?_, I.ok.hd, I.ok.frames, .inl rfl, ?_, I.bs, Nat.le_trans I.ok.bsz I.sz, ?_, ?_, I.stack, I.stkFree⟩, rfl, I.bare, Un.kept hkeep, ⟨_, hns, ?_⟩, ?_, I.hok.fresh (Nat.le_refl _), ?_,
    fun p hp => absurd (show p ∈ ([] : List (Addr × Obj)) from hp) (by simp), I.hok.kept hkeep, hlen⟩
  · show (relabel scope X.env).kind = _
    exact hk
  · intro x y c e1 e2
    rcases look x c e1 with a | a <;> rcases look y c e2 with b | b
    · exact name_of_addr hco.apart a b
    · exact absurd (Nat.lt_trans (new x c a) (old y c b)) (Nat.lt_irrefl _)
    · exact absurd (Nat.lt_trans (new y c b) (old x c a)) (Nat.lt_irrefl _)
    · exact I.ok.inj x y c a b
  · intro x hx
    show ∃ c, (cellsFrom (s.heap.objs.size + 1) scope.names (clOf X.env scope.names [])).lookup x = some c
    refine Option.isSome_iff_exists.mp (PySem.W.cellsFrom_some _ _ _ ?_)
    rcases hx with hx | hx
    · rcases kind_comp_inv hx with q | ⟨_, q⟩
      · exact .inl q
      · exact .inr (Option.isSome_iff_exists.mpr (clOf_has (.inl q)))
    · rcases kind_comp_inv hx with q | ⟨q, _⟩
      · exact .inr (Option.isSome_iff_exists.mpr (clOf_has (.inl q)))
      · cases q
  · intro x c hfn e
    have hfn : scope.names.lookup x = some .cell := of_decide_eq_true hfn
    have e : (cellsFrom (s.heap.objs.size + 1) scope.names (clOf X.env scope.names [])).lookup x = some c := e
    obtain ⟨c', hc'⟩ := cell_has (n := s.heap.objs.size + 1) hfn
    rw [cellsFrom_app, lookup_app_left hc'] at e
    cases e
    exact Nat.le_of_lt (new x c (mem_of_lookup hc'))
  · intro b hb
    refine ⟨Nat.ne_of_lt (hfl b hb), fun x c e z => ?_⟩
    rcases look x c e with a | a
    · exact absurd (Nat.lt_trans (new x c a) (by rw [z]; exact hfl b hb)) (Nat.lt_irrefl _)
    · exact (hf b hb).2.2.2.2.1 x c a z
  · intro b o e hb
    obtain ⟨f0, f1, f2, f3, f4, f5⟩ := hf b hb
    rcases f3 with z | z
    · exact I.ok.noex b o e z
    · exact absurd (Nat.lt_of_lt_of_le (Heap.lt_size (I.ok.bs b o e).1) z) (Nat.lt_irrefl _)
  · intro b hb hz
    obtain ⟨f0, f1, f2, f3, f4, f5⟩ := hf b hb
    rcases List.mem_cons.mp (I.stkSub b hz) with z | z
    · exact f1 z
    · exact f2 z
  · intro i x v e1 e2 e3
    obtain ⟨hfr, j, hj, hv⟩ := hcap i x v e1 e2
    have hm : (x, NameKind.free) ∈ scope.names := mem_of_lookup hfr
    obtain ⟨m, hn, hl⟩ := I.loc
    have kx := hfree _ hm rfl
    obtain ⟨u, ru, lk⟩ := hl j x v hj hv (kx.elim (fun k => .inr (.inl k)) fun k => .inr (.inr k))
    refine ⟨u, ru, .inr ⟨?_, ?_⟩⟩
    · rcases kind_comp (X := X) (C := s.heap.objs.size) hfr with q | ⟨_, q⟩
      · exact .inr q
      · exact .inl q
    · rcases lk with ⟨k, _⟩ | ⟨_, c, ec, ic⟩
      · have k : X.env.kindOf x = some .local := k
        rcases kx with k' | k' <;> · rw [k] at k'; cases k'
      · obtain ⟨c', hc'⟩ := clOf_has (env := X.env) (acc := []) (.inl hfr)
        have e' := clx x c' hc'
        rw [ec] at e'
        cases e'
        refine ⟨c, ?_, ic.keeps hkeep⟩
        show (cellsFrom (s.heap.objs.size + 1) scope.names (clOf X.env scope.names [])).lookup x = some c
        rw [cellsFrom_app]
        cases eo : (cellsFrom (s.heap.objs.size + 1) scope.names []).lookup x with
        | none => rw [lookup_app_right eo]; exact hc'
        | some d =>
          have hcm := cellsFrom_kind _ _ _ _ (mem_of_lookup eo)
          exact (hdup hcm hm).elim
  · intro x c e
    rcases look x c e with a | a
    · exact ⟨_, (hco.empty x c a).1⟩
    · obtain ⟨v, q⟩ := I.cell x c a
      exact ⟨v, q.keeps hkeep⟩
  · intro x c e
    rcases look x c e with a | a
    · exact I.hok.fresh (Nat.le_of_lt (new x c a))
    · exact I.freeC x c a
end
end L2
set_option Elab.async false
set_option linter.all false
set_option maxRecDepth 100000
set_option maxHeartbeats 4000000
namespace L2
open PySem PySem.Spec PyProof.Rows
abbrev testsRun (ifs : List Expr) (env : Env) : Sem Bool := forIn ifs true fun c r => if r = true then do let ok ← isTrue c env (eval c env); pure (ForInStep.yield ok) else pure (ForInStep.yield r)
def PTs (X : Cx) (ifs : List Expr) (t : TT) : Prop :=
  ∀ (pins : List (Addr × Obj)) (s : Shared) (σ : St) (H : Hp) (Q : Bool → Hp → Prop), Inv X pins σ H s → t σ H Q → wpAny (model X.prog X.w) X.A (testsRun ifs X.env) (TP X pins σ Q) X.xe s
theorem pts_nil {X : Cx} : PTs X [] (fun _ H Q => Q true H) := fun _ _ _ H _ I h => wpAny_tests_nil ⟨H, I, h⟩
theorem pts_one {X : Cx} {c : Expr} {t : TT} (h : PT X c t) : PTs X [c] t := fun pins s σ H Q I q => wpAny_tests_one (h pins s σ H Q I q)
theorem compLoop_any {prog : Program} {w : World} {A : Around} {R : Result → Shared → Prop} {s : Shared} {elt target iter : Expr} {ifs : List Expr} {scope : Scope} {pos : Pos} {it acc : Value} {env : Env} (I : Nat → Shared → Prop)
    (turn : ∀ n s, I n s → wpAny (model prog w) A (pyNext it) (fun r s₁ => match r with
      | none => R (.ok .next) s₁
      | some v => wpAny (model prog w) A (letOwnedTupleGo target it v) (fun _ s₁' => wpAny (model prog w) A (assign target env v) (fun _ s₂ =>
          wpAny (model prog w) A (testsRun ifs env) (fun ok s₃ =>
            if ok = true then wpAny (model prog w) A (eval elt env) (fun x s₄ =>
              wpAny (model prog w) A (call (.builtin "list.append") [acc, x]) (fun _ s₅ => ∃ m, m < n ∧ I m s₅) (fun _ _ => False) s₄) (fun _ _ => False) s₃
            else ∃ m, m < n ∧ I m s₃) (fun _ _ => False) s₂) (fun _ _ => False) s₁') (fun _ _ => False) s₁) (fun _ _ => False) s)
    (n : Nat) (h : I n s) :
    codeAny (model prog w) A (.compLoop (.ListComp elt [⟨target, iter, ifs, 0⟩] scope pos) 0 it acc env) R s := by
  refine codeAny_loop rfl I (fun n s hI => ?_) n h
  show wpAny _ A ((compTurn (.ListComp elt [⟨target, iter, ifs, 0⟩] scope pos) 0 it acc env).onRaise (fun x => do noteFrame x env; theTreesLotGoes x)) _ _ s
  refine wpAny_noted ?_
  rw [compTurn_list]
  refine wpAny_bind (wpAny_standAt (wpAny_bind (wpAny_mono (turn n s hI) (fun r s₁ h₁ => ?_) fun _ _ h' => h'.elim)))
  cases r with
  | none => exact wpAny_pure h₁
  | some v =>
    refine wpAny_bind (wpAny_mono h₁ (fun _ s₁' h₁' => ?_) fun _ _ h' => h'.elim)
    refine wpAny_bind (wpAny_mono h₁' (fun _ s₂ h₂ => wpAny_bind (wpAny_mono h₂ (fun ok s₃ h₃ => ?_) fun _ _ h' => h'.elim)) fun _ _ h' => h'.elim)
    cases ok with
    | false => exact wpAny_pure ⟨rfl, h₃⟩
    | true =>
      exact wpAny_bind (wpAny_bind (wpAny_mono h₃ (fun x s₄ h₄ => wpAny_bind (wpAny_mono h₄ (fun _ s₅ h₅ => wpAny_pure (wpAny_pure ⟨rfl, h₅⟩)) fun _ _ h' => h'.elim)) fun _ _ h' => h'.elim))
/-- what is known behind a block -/
def CompFin (X : Cx) (pins : List (Addr × Obj)) (σ : St) (Q : VK) (acc : Value) (C : Addr) (r : Result) (s5 : Shared) : Prop :=
  ∃ (D : Addr) (H5 : Hp) (m : Str → Option Value), acc = .ref D ∧ r = .ok .next ∧ Inv X pins σ H5 s5 ∧ s5.heap.Ns C m ∧ FpOk X pins H5 C ∧ Q (.ref D) H5
/-- the loop's reading: W turn measure slots heap -/
def rdComp (J : It) (g : TG) (tt : TT) (te : TE) (D : Addr) (σ0 : St) (H0 : Hp) (Q : VK) : Prop :=
  ∃ W : Nat → Nat → St → Hp → Prop, (∃ m, W 0 m σ0 H0) ∧ ∀ i m σ H, W i m σ H →
    (J.stop i H ∧ Q (.ref D) H) ∨ (J.go i H ∧ ∀ x H', J.yld i H x H' → g x σ H' fun σ2 H2 => tt σ2 H2 fun b H3 =>
      if b = true then te σ2 H3 fun v H4 => ∃ ys, H4 D = some (.lst ys) ∧ ys.length < sizeLine ∧ ∃ m', m' < m ∧ W (i + 1) m' σ2 (upd H4 D (.lst (ys ++ [v])))
      else ∃ m', m' < m ∧ W (i + 1) m' σ2 H3)
section
variable {X : Cx} {pins : List (Addr × Obj)} {σ σ' : St} {H : Hp} {s : Shared} {scope : Scope} {N : List Str}
  {tg iter elt : Expr} {ifs : List Expr} {pos : Pos} {g : TG} {tt : TT} {te : TE}
theorem comp_core {J : It} {fp : List Addr} {it : Addr} {tn : Nat → Heap → Prop} {Q : VK} (hc : X.calm = true) (I : Inv X pins σ H s) (T : Turn X.prog X.w X.K tg J fp it tn) (st : tn 0 s.heap) (hf : ∀ b ∈ fp, FpOk X pins H b) (hk : scope.kind = .function)
    (hfree : ∀ x ∈ scope.names, x.2 = .free → X.env.kindOf x.1 = some .cell ∨ X.env.kindOf x.1 = some .free) (hdup : ∀ {x : Str}, (x, NameKind.cell) ∈ scope.names → (x, NameKind.free) ∈ scope.names → False)
    (hcap : ∀ (i : Nat) (x : Str) (v : V), N[i]? = some x → σ'[i]? = some (some v) → scope.names.lookup x = some .free ∧ ∃ j : Nat, X.N[j]? = some x ∧ σ[j]? = some (some v)) (hlen : σ'.length = N.length)
    (hY : ∀ fp s H, PG (cxComp X scope N fp s H) tg g ∧ PTs (cxComp X scope N fp s H) ifs tt ∧ PE (cxComp X scope N fp s H) elt te)
    (hrd : ∀ D, H D = none → rdComp J g tt te D σ' (upd H D (.lst [])) Q) {E : Value → Shared → Prop} :
    wpAny (model X.prog X.w) X.A (newList []) (fun acc s₃ => wpAny (model X.prog X.w) X.A (newFunctionEnv scope X.env.globals (clOf X.env scope.names []) [] X.env.qual none .none (some X.env)) (fun cenv s₄ =>
      codeAny (model X.prog X.w) X.A (.compStart (.ListComp elt [⟨tg, iter, ifs, 0⟩] scope pos) 0 (.ref it) acc { cenv with scope := relabel scope X.env }) (CompFin X pins σ Q acc cenv.locals) s₄) E s₃) E s := by
  refine wpAny_newObj_type ?_
  have hfl : ∀ b ∈ fp, b < s.heap.objs.size := fun b hb => let ⟨o, e, _⟩ := T.obj _ _ st b hb; Heap.lt_size e
  have I3 := I.lnew (ys := []) (its := []) (t' := s.toks) .nil (Nat.zero_le _)
  have hD : H s.heap.objs.size = none := I.fresh
  obtain ⟨W, ⟨m0, w0⟩, turn⟩ := hrd _ hD
  generalize e3 : ({ s with heap := s.heap.push { cls := .type "list", data := .seq ([] : List Value).toArray }, toks := s.toks } : Shared) = s3 at I3
  have e3h : s3.heap = s.heap.push { cls := .type "list", data := .seq ([] : List Value).toArray } := by rw [← e3]
  generalize hH3 : upd H s.heap.objs.size (.lst []) = H3 at I3 w0 turn
  have hlt : s.heap.objs.size < s3.heap.objs.size := by rw [e3h, Heap.size_push]; exact Nat.lt_succ_self _
  have hk3 : ∀ b o, s.heap.get? b = some o → s3.heap.get? b = some o := fun b o e => by rw [e3h]; exact Heap.get?_push_of_some _ e
  generalize s.heap.objs.size = D at *
  have f3 : ∀ b ∈ fp, FpOk X pins H3 b := fun b hb => by
    obtain ⟨f0, f⟩ := hf b hb
    refine ⟨?_, f⟩
    rw [← hH3, upd_ne (Nat.ne_of_lt (hfl b hb))]
    exact f0
  have st3 : tn 0 s3.heap := T.keep _ _ _ st fun b _ o e => hk3 b o e
  refine newCompEnv fun h4 hns hkp hco => ?_
  dsimp only
  have I4 := inv_comp (N := N) (σ' := σ') (fp := fp) I3 f3 (fun b hb => Nat.lt_trans (hfl b hb) hlt) hk hfree hns hkp hco hdup hcap hlen s3.toks
  have fC : ∀ H', H' s3.heap.objs.size = none → FpOk X pins H' s3.heap.objs.size := fun H' hn => I3.fpOk (Nat.le_refl _) hn
  obtain ⟨hg, htt, hte⟩ := hY fp s3 H3
  have efp : ∀ b ∈ fp, ∀ H' : Hp, H' b = none → FpOk (cxComp X scope N fp s3 H3) [] H' b := fun b hb H' hn => by
    refine ⟨hn, (I4.ok.exf b hb).1, I4.ok.exfs b hb, .inl hb, (I4.ok.exf b hb).2, fun p hp => ?_⟩
    cases hp
  have loop : codeAny (model X.prog X.w) X.A (.compLoop (.ListComp elt [⟨tg, iter, ifs, 0⟩] scope pos) 0 (.ref it) (.ref D) (compEnvX X scope s3.heap.objs.size)) (CompFin X pins σ Q (.ref D) s3.heap.objs.size) { s3 with heap := h4 } := by
    refine compLoop_any (fun n s' => ∃ i σ' H', Inv (cxComp X scope N fp s3 H3) [] σ' H' s' ∧ tn i s'.heap ∧ (∀ b ∈ fp, H' b = none) ∧ W i n σ' H') ?_ m0
      ⟨0, σ', H3, I4, T.keep _ _ _ st3 fun b _ o e => hkp b o e, fun b hb => (f3 b hb).1, w0⟩
    rintro n s5 ⟨i, σ5, H5, I5, st5, fr5, w5⟩
    rcases turn i n σ5 H5 w5 with ⟨stop, q⟩ | ⟨go, step⟩
    · refine thn (T.done (cxComp X scope N fp s3 H3) rfl rfl rfl hc i [] s5 σ5 H5 _ I5 (fun b hb => efp b hb H5 (fr5 b hb)) st5 stop) fun r s6 ⟨hr, I6⟩ => ?_
      subst hr
      obtain ⟨m, hn6, _⟩ := I6.loc
      refine ⟨D, H5, m, rfl, rfl, I3.call' I6.os I6.base I6.hok I6.bare (fun b hb => ?_), hn6, fC H5 I6.free, q⟩
      obtain ⟨f0, f1, f2, f4, f5, f6⟩ := f3 b hb
      exact ⟨f4, f1, f5, f6⟩
    · refine thn (T.item (cxComp X scope N fp s3 H3) rfl rfl rfl hc i [] s5 σ5 H5 _ I5 (fun b hb => efp b hb H5 (fr5 b hb)) st5 go) fun r s6 ⟨u, hr, h6⟩ => ?_
      subst hr
      refine thn h6 fun _ s7 ⟨x, H7, I7, r7, y7, st7, fr7⟩ => ?_
      have I7' := I7.pinned (fun b hb => efp b hb H7 (fr7 b hb)) (T.obj _ _ st7)
      have again : ∀ {pl : List (Addr × Obj)} {σ9 : St} {H9 : Hp} {s9 : Shared} {n' : Nat}, Inv (cxComp X scope N fp s3 H3) ([] ++ pinsAt fp s7.heap) σ9 H9 s9 → W (i + 1) n' σ9 H9 → ∃ i σ' H', Inv (cxComp X scope N fp s3 H3) [] σ' H' s9 ∧ tn i s9.heap ∧ (∀ b ∈ fp, H' b = none) ∧ W i n' σ' H' := fun {pl σ9 H9 s9 n'} I9 w9 => by
        refine ⟨i + 1, σ9, H9, I9.unpinned, T.keep _ _ _ st7 fun b hb o e => (I9.pin (b, o) (List.mem_append_right _ (List.mem_append_right _ (mem_pinsAt hb e)))).1, fun b hb => ?_, w9⟩
        obtain ⟨o, e, d⟩ := T.obj _ _ st7 b hb
        exact (I9.pin (b, o) (List.mem_append_right _ (List.mem_append_right _ (mem_pinsAt hb e)))).2.1
      refine thn (hg _ s7 σ5 H7 x u _ I7' r7 (step x H7 y7)) fun _ s8 ⟨σ8, H8, I8, q8⟩ => ?_
      refine thn (htt _ s8 σ8 H8 _ I8 q8) fun ok s9 ⟨H9, I9, q9⟩ => ?_
      cases ok with
      | false =>
        rw [if_neg (by decide)] at q9
        rw [if_neg (by decide)]
        obtain ⟨m', hm, w9⟩ := q9
        exact ⟨m', hm, again (pl := []) I9 w9⟩
      | true =>
        rw [if_pos rfl] at q9
        rw [if_pos rfl]
        refine thn (hte _ s9 σ8 H9 _ I9 q9) fun y s10 ⟨v, H10, I10, r10, ys, hD10, hz, m', hm, w10⟩ => ?_
        refine thn (mt_append (X := cxComp X scope N fp s3 H3) _ s10 σ8 H10 (.ref D) [v] (.ref D) [y] (fun _ H' => W (i + 1) m' σ8 H') I10 rfl (.cons r10 .nil) ⟨D, ys, v, rfl, rfl, hD10, hz, w10⟩) fun _ s11 ⟨_, H11, I11, _, w11⟩ => ?_
        exact ⟨m', hm, again (pl := []) I11 w11⟩
  exact codeAny_compStart_list loop (T.self _ 0 _ _ _ (T.keep _ _ _ st3 fun b _ o e => hkp b o e) loop)
end
end L2
namespace L2
open PySem PySem.Spec PyProof.Rows
def tComp (wi : TI) (g : TG) (tt : TT) (te : TE) (caps : St → St) : TE := fun σ H Q => wi σ H fun J H1 => ∀ D, H1 D = none → rdComp J g tt te D (caps σ) (upd H1 D (.lst [])) Q
/-- the block's names: its own, then what it sees of the outer ones -/
structure CompSc (X : Cx) (scope : Scope) (N : List Str) (caps : St → St) : Prop where
  kind : scope.kind = .function
  free : ∀ x ∈ scope.names, x.2 = .free → X.env.kindOf x.1 = some .cell ∨ X.env.kindOf x.1 = some .free
  dup : ∀ {x : Str}, (x, NameKind.cell) ∈ scope.names → (x, NameKind.free) ∈ scope.names → False
  loc : ∀ x ∈ scope.names, x.2 = .local → scope.names.lookup x.1 = some .local
  cap : ∀ (σ : St) (i : Nat) (x : Str) (v : V), N[i]? = some x → (caps σ)[i]? = some (some v) → scope.names.lookup x = some .free ∧ ∃ j : Nat, X.N[j]? = some x ∧ σ[j]? = some (some v)
  len : ∀ σ : St, (caps σ).length = N.length
section
variable {X : Cx} {scope : Scope} {N : List Str} {caps : St → St} {tg iter elt : Expr} {ifs : List Expr} {pos : Pos} {wi : TI} {g : TG} {tt : TT} {te : TE}
theorem pe_comp (hc : X.calm = true) (S : CompSc X scope N caps) (hi : PI X tg iter wi)
    (hY : ∀ fp s H, PG (cxComp X scope N fp s H) tg g ∧ PTs (cxComp X scope N fp s H) ifs tt ∧ PE (cxComp X scope N fp s H) elt te)
    (hs : ∀ x, foldedSetIterable iter X.env x = pure x := by intro _; rfl) : PE X (.ListComp elt [⟨tg, iter, ifs, 0⟩] scope pos) (tComp wi g tt te caps) := by
  intro pins s σ H Q I h
  rw [eval_ListComp]
  refine wpAny_comprehension_free (use := none) rfl hs (closure_eq (comp_has I.ok S.free)) S.kind S.loc (thn (hi pins s σ H _ I h) fun v s1 h1 => thn h1 fun itv s2 h2 => ?_)
  obtain ⟨it, fp, tn, J, H2, e, I2, T, st2, f2, rd⟩ := h2
  subst e
  refine thn (comp_core (iter := iter) (pos := pos) (E := X.xe) hc I2 T st2 f2 S.kind S.free S.dup (S.cap σ) (S.len σ) hY rd) fun acc s3 h3 => thn h3 fun cenv s4 h4 => ?_
  refine codeAny_mono h4 fun r s5 h5 => ?_
  obtain ⟨D, H5, m, rfl, rfl, I5, hn, fC, q⟩ := h5
  refine ⟨m, hn, fun h' sb => ?_⟩
  obtain ⟨f0, f1, f2', f3, f4, f5⟩ := fC
  exact ⟨.ref D, H5, I5.turned (t' := s5.toks) (fun b o hb e => (sb.2 b hb).trans e) f0 f1 f3 f4 f5, rfl, q⟩
/-- x = [..], stored ahead of the block's end -/
theorem ps_comp {i : Nat} {y : Str} {py spos : Pos} (hc : X.calm = true) (S : CompSc X scope N caps) (hi : PI X tg iter wi)
    (hY : ∀ fp s H, PG (cxComp X scope N fp s H) tg g ∧ PTs (cxComp X scope N fp s H) ifs tt ∧ PE (cxComp X scope N fp s H) elt te)
    (hN : X.N.Nodup) (hiy : X.N[i]? = some y) (hy : X.env.scope.names.lookup y = some .local)
    (hsw : swapsWith (.ListComp elt [⟨tg, iter, ifs, 0⟩] scope pos) (some (.Name y py)) spos.line X.env = pure true)
    (hs : ∀ x, foldedSetIterable iter X.env x = pure x := by intro _; rfl) : PS X (.Assign [.Name y py] (.ListComp elt [⟨tg, iter, ifs, 0⟩] scope pos) spos) (tAsg (tComp wi g tt te caps) (gName i)) := by
  intro pins s σ H D I h
  rw [exec_Assign_Name_used _ _ _ _ hsw]
  refine wpAny_bind (wpAny_standAt (wpAny_bind ?_))
  show wpAny _ X.A (do let _ ← comprehension (.ListComp elt [⟨tg, iter, ifs, 0⟩] scope pos) scope X.env _ (newList []) false (eval iter X.env) (some (assign (.Name y py) X.env))) _ _ s
  refine wpAny_bind (wpAny_mono (wpAny_comprehension_free (use := some (assign (.Name y py) X.env)) (Q := fun _ s' => SP X pins D .next s') rfl hs (closure_eq (comp_has I.ok S.free)) S.kind S.loc
    (thn (hi pins s σ H _ I h) fun v s1 h1 => thn h1 fun itv s2 h2 => ?_)) (fun _ s' hq => wpAny_pure (wpAny_pure hq)) fun _ _ e => e)
  obtain ⟨it, fp, tn, J, H2, e, I2, T, st2, f2, rd⟩ := h2
  subst e
  refine thn (comp_core (iter := iter) (pos := pos) (E := X.xe) hc I2 T st2 f2 S.kind S.free S.dup (S.cap σ) (S.len σ) hY rd) fun acc s3 h3 => thn h3 fun cenv s4 h4 => ?_
  refine codeAny_mono h4 fun r s5 h5 => ?_
  obtain ⟨D', H5, m, rfl, rfl, I5, hn, fC, q⟩ := h5
  show wpAny _ X.A (assign (.Name y py) X.env (.ref D')) _ _ _
  refine wpAny_assign_Name (store_ok2 (v := .ref D') I5 hN hiy (.inl hy) rfl (fun s6 I6 ⟨a, sa, ha⟩ => ?_) (.inr hy))
  obtain ⟨f0, f1, f2', f3, f4, f5⟩ := fC
  have hne : cenv.locals ≠ a := by
    rcases ha with z | z
    · rw [z]; exact f1
    · exact fun w => f4 y a z w.symm
  refine ⟨m, hn.sameBut sa hne, fun h' sb => ?_⟩
  exact ⟨_, H5, I6.turned (t' := s6.toks) (fun b o hb e => (sb.2 b hb).trans e) f0 f1 f3 f4 f5, q⟩
end
end L2
set_option Elab.async false
set_option linter.all false
set_option maxRecDepth 100000
set_option maxHeartbeats 4000000
namespace Dl
open PySem L2 PySem.Spec PyProof.Rows
abbrev D := PyData
mutual
def Rep (K : PySem.W.Frag) (H : Hp) : D → V → Prop
  | .none, v => v = .non
  | .bool b, v => v = .bl b
  | .int i, v => v = .int i
  | .str x, v => v = .str x
  | .tuple ds, v => ∃ a vs, v = .ref a ∧ SqT K H a vs ∧ Reps K H ds vs
  | .list ds, v => ∃ a vs, v = .ref a ∧ SqL K H a vs ∧ Reps K H ds vs
  | .dict _, _ => False
def Reps (K : PySem.W.Frag) (H : Hp) : List D → List V → Prop
  | [], vs => vs = []
  | d :: ds, vs => ∃ v r, vs = v :: r ∧ Rep K H d v ∧ Reps K H ds r
end
theorem same_tup {K : PySem.W.Frag} {H H' : Hp} {a : Addr} {xs : List V} (e : Same H H') (h : SqT K H a xs) : SqT K H' a xs := by
  rcases h with (h | ⟨o, h⟩) | h
  · exact .inl (.inl (e _ _ h))
  · exact .inl (.inr ⟨o, e _ _ h⟩)
  · exact .inr h
mutual
theorem Rep.mono {K : PySem.W.Frag} {H H' : Hp} (e : Same H H') : ∀ {d : D} {v : V}, Rep K H d v → Rep K H' d v
  | .none, _, h => h
  | .bool _, _, h => h
  | .int _, _, h => h
  | .str _, _, h => h
  | .tuple ds, _, h => by
    simp only [Rep] at h ⊢
    obtain ⟨a, vs, rfl, q, r⟩ := h
    exact ⟨a, vs, rfl, same_tup e q, Reps.mono e r⟩
  | .list ds, _, h => by
    simp only [Rep] at h ⊢
    obtain ⟨a, vs, rfl, q, r⟩ := h
    exact ⟨a, vs, rfl, e.seq q, Reps.mono e r⟩
  | .dict _, _, h => h
theorem Reps.mono {K : PySem.W.Frag} {H H' : Hp} (e : Same H H') : ∀ {ds : List D} {vs : List V}, Reps K H ds vs → Reps K H' ds vs
  | [], _, h => h
  | d :: ds, _, h => by
    simp only [Reps] at h ⊢
    obtain ⟨v, r, rfl, a, b⟩ := h
    exact ⟨v, r, rfl, Rep.mono e a, Reps.mono e b⟩
end
section
variable {K : PySem.W.Frag} {H : Hp}
theorem Reps.nil : Reps K H [] [] := by simp [Reps]
theorem Reps.cons {d : D} {v : V} {ds : List D} {vs : List V} (a : Rep K H d v) (b : Reps K H ds vs) : Reps K H (d :: ds) (v :: vs) := by
  simp only [Reps]; exact ⟨v, vs, rfl, a, b⟩
theorem Reps.cons_inv {d : D} {ds : List D} {vs : List V} (h : Reps K H (d :: ds) vs) : ∃ v r, vs = v :: r ∧ Rep K H d v ∧ Reps K H ds r := by simpa only [Reps] using h
theorem Reps.nil_inv {vs : List V} (h : Reps K H [] vs) : vs = [] := by simpa only [Reps] using h
theorem Reps.length : ∀ {ds : List D} {vs : List V}, Reps K H ds vs → vs.length = ds.length
  | [], _, h => by rw [h.nil_inv]; rfl
  | d :: ds, _, h => by obtain ⟨v, r, rfl, _, b⟩ := h.cons_inv; simp [Reps.length b]
theorem Reps.get : ∀ {ds : List D} {vs : List V} {i : Nat} {v : V}, Reps K H ds vs → vs[i]? = some v → ∃ d, ds[i]? = some d ∧ Rep K H d v
  | [], _, i, v, h, e => by rw [h.nil_inv] at e; simp at e
  | d :: ds, _, i, v, h, e => by
    obtain ⟨v', r, rfl, a, b⟩ := h.cons_inv
    cases i with
    | zero => simp at e; subst e; exact ⟨d, rfl, a⟩
    | succ i => simp at e; obtain ⟨d', h1, h2⟩ := Reps.get b e; exact ⟨d', by simpa using h1, h2⟩
theorem Reps.getD : ∀ {ds : List D} {vs : List V} {i : Nat} {d : D}, Reps K H ds vs → ds[i]? = some d → ∃ v, vs[i]? = some v ∧ Rep K H d v
  | [], _, i, d, h, e => by simp at e
  | d :: ds, _, i, d', h, e => by
    obtain ⟨v', r, rfl, a, b⟩ := h.cons_inv
    cases i with
    | zero => simp at e; subst e; exact ⟨v', rfl, a⟩
    | succ i => simp at e; obtain ⟨v, h1, h2⟩ := Reps.getD b e; exact ⟨v, by simpa using h1, h2⟩
theorem Reps.append : ∀ {ds es : List D} {vs us : List V}, Reps K H ds vs → Reps K H es us → Reps K H (ds ++ es) (vs ++ us)
  | [], _, _, _, h, g => by rw [h.nil_inv]; exact g
  | d :: ds, _, _, _, h, g => by obtain ⟨v, r, rfl, a, b⟩ := h.cons_inv; exact Reps.cons a (Reps.append b g)
theorem Reps.take : ∀ {ds : List D} {vs : List V} (n : Nat), Reps K H ds vs → Reps K H (ds.take n) (vs.take n)
  | [], _, n, h => by rw [h.nil_inv]; simp [Reps]
  | d :: ds, _, 0, h => by simp [Reps]
  | d :: ds, _, n + 1, h => by obtain ⟨v, r, rfl, a, b⟩ := h.cons_inv; exact Reps.cons a (Reps.take n b)
theorem Reps.drop : ∀ {ds : List D} {vs : List V} (n : Nat), Reps K H ds vs → Reps K H (ds.drop n) (vs.drop n)
  | [], _, n, h => by rw [h.nil_inv]; simp [Reps]
  | d :: ds, _, 0, h => h
  | d :: ds, _, n + 1, h => by obtain ⟨v, r, rfl, a, b⟩ := h.cons_inv; exact Reps.drop n b
theorem Reps.reverse : ∀ {ds : List D} {vs : List V}, Reps K H ds vs → Reps K H ds.reverse vs.reverse
  | [], _, h => by rw [h.nil_inv]; simp [Reps]
  | d :: ds, _, h => by
    obtain ⟨v, r, rfl, a, b⟩ := h.cons_inv
    rw [List.reverse_cons, List.reverse_cons]
    exact Reps.append (Reps.reverse b) (Reps.cons a Reps.nil)
theorem Reps.ints : ∀ {ns : List Int}, Reps K H (ns.map PyData.int) (ns.map V.int)
  | [] => Reps.nil
  | n :: ns => Reps.cons (by simp [Rep]) Reps.ints
end
/-- the frozen part HF of the heap H grows, nothing tracked changes; what is newly frozen is new -/
structure Grow (HF H HF' H' : Hp) : Prop where
  hh : Same H H'
  ff : Same HF HF'
  fh : Same HF' H'
  nw : ∀ a o, HF' a = some o → HF a = some o ∨ H a = none
theorem Grow.refl {HF H : Hp} (s : Same HF H) : Grow HF H HF H := ⟨.refl _, .refl _, s, fun _ _ e => .inl e⟩
theorem Grow.trans {HF H HF1 H1 HF2 H2 : Hp} (a : Grow HF H HF1 H1) (b : Grow HF1 H1 HF2 H2) : Grow HF H HF2 H2 :=
  ⟨a.hh.trans b.hh, a.ff.trans b.ff, b.fh, fun x o e => (b.nw x o e).elim (fun z => a.nw x o z) fun z => .inr (a.hh.free z)⟩
theorem same_upd {H : Hp} {p : Addr} {o : HO} (h : H p = none) : Same H (upd H p o) := fun b u e => by rw [upd_ne (ne_of_none e h)]; exact e
theorem Grow.new {HF H : Hp} {p : Addr} {o : HO} (s : Same HF H) (h : H p = none) : Grow HF H (upd HF p o) (upd H p o) := by
  have hf : HF p = none := s.free h
  refine ⟨same_upd h, same_upd hf, fun b u e => ?_, fun b u e => ?_⟩
  · by_cases hb : b = p
    · subst hb; rw [upd_same] at e ⊢; exact e
    · rw [upd_ne hb] at e ⊢; exact s b u e
  · by_cases hb : b = p
    · subst hb; exact .inr h
    · rw [upd_ne hb] at e; exact .inl e
/-- a new object that stays ours -/
theorem Grow.own {HF H : Hp} {p : Addr} {o : HO} (s : Same HF H) (h : H p = none) : Grow HF H HF (upd H p o) :=
  ⟨same_upd h, .refl _, fun b u e => by rw [upd_ne (ne_of_none (s b u e) h)]; exact s b u e, fun _ _ e => .inl e⟩
/-- an object of ours is handed on -/
theorem Grow.freeze {HF H HF1 H1 : Hp} {p : Addr} {o : HO} (g : Grow HF H HF1 H1) (h : H p = none) (h1 : H1 p = some o) (hf : HF1 p = none) : Grow HF H (upd HF1 p o) H1 :=
  ⟨g.hh, g.ff.trans (same_upd hf), fun b u e => by
    by_cases hb : b = p
    · subst hb; rw [upd_same] at e; rw [h1, ← e]
    · rw [upd_ne hb] at e; exact g.fh b u e, fun b u e => by
    by_cases hb : b = p
    · subst hb; exact .inr h
    · rw [upd_ne hb] at e; exact g.nw b u e⟩
abbrev Env := List (Option D)
structure EnvOk (K : PySem.W.Frag) (HF : Hp) (ρ : Env) (σ : L2.St) : Prop where
  get : ∀ (i : Nat) (d : D), ρ[i]? = some (some d) → ∃ v, σ[i]? = some (some v) ∧ Rep K HF d v
  len : ρ.length ≤ σ.length
theorem EnvOk.mono {K : PySem.W.Frag} {HF HF' : Hp} {ρ : Env} {σ : L2.St} (h : EnvOk K HF ρ σ) (e : Same HF HF') : EnvOk K HF' ρ σ := ⟨fun i d q => let ⟨v, a, b⟩ := h.get i d q; ⟨v, a, b.mono e⟩, h.len⟩
/-- an expression's reading by data -/
def tD (K : PySem.W.Frag) (f : Env → Option D) : TE := fun σ H Q => ∃ HF ρ d, Same HF H ∧ EnvOk K HF ρ σ ∧ f ρ = some d ∧ ∀ v H' HF', Grow HF H HF' H' → Rep K HF' d v → Q v H'
def DE (X : Cx) (e : Expr) (f : Env → Option D) : Prop := PE X e (tD X.K f)
/-- .. of an expression that makes a list of its own -/
def tF (K : PySem.W.Frag) (f : Env → Option (List D)) : TE := fun σ H Q => ∃ HF ρ ds, Same HF H ∧ EnvOk K HF ρ σ ∧ f ρ = some ds ∧
  ∀ a vs H' HF', Grow HF H HF' H' → H a = none → HF' a = none → H' a = some (.lst vs) → Reps K HF' ds vs → Q (.ref a) H'
def DF (X : Cx) (e : Expr) (f : Env → Option (List D)) : Prop := PE X e (tF X.K f)
/-- a test's -/
def tDT (K : PySem.W.Frag) (f : Env → Option Bool) : TT := fun σ H Q => ∃ HF ρ b, Same HF H ∧ EnvOk K HF ρ σ ∧ f ρ = some b ∧ ∀ H' HF', Grow HF H HF' H' → Q b H'
def DT (X : Cx) (e : Expr) (f : Env → Option Bool) : Prop := PT X e (tDT X.K f)
/-- arguments' -/
def tDA (K : PySem.W.Frag) (f : Env → Option (List D)) : TA := fun σ H Q => ∃ HF ρ ds, Same HF H ∧ EnvOk K HF ρ σ ∧ f ρ = some ds ∧ ∀ vs H' HF', Grow HF H HF' H' → Reps K HF' ds vs → Q vs H'
def DA (X : Cx) (es : List Expr) (f : Env → Option (List D)) : Prop := PA X es (tDA X.K f)
section
variable {X : Cx}
theorem pe_imp {e : Expr} {t t' : TE} (h : PE X e t) (i : ∀ σ H Q, t' σ H Q → t σ H Q) : PE X e t' := fun pins s σ H Q I q => h pins s σ H Q I (i σ H Q q)
theorem pt_imp {e : Expr} {t t' : TT} (h : PT X e t) (i : ∀ σ H Q, t' σ H Q → t σ H Q) : PT X e t' := fun pins s σ H Q I q => h pins s σ H Q I (i σ H Q q)
theorem pa_imp {e : List Expr} {t t' : TA} (h : PA X e t) (i : ∀ σ H Q, t' σ H Q → t σ H Q) : PA X e t' := fun pos pins s σ H Q I q => h pos pins s σ H Q I (i σ H Q q)
theorem bs {α β : Type} {x : Option α} {f : α → Option β} {b : β} (h : x.bind f = some b) : ∃ a, x = some a ∧ f a = some b := by
  cases x with
  | none => cases h
  | some a => exact ⟨a, rfl, h⟩
/-- a list of its own, handed on -/
theorem DF.de {e : Expr} {f : Env → Option (List D)} (h : DF X e f) : DE X e (fun ρ => (f ρ).map PyData.list) := pe_imp h fun σ H Q ⟨HF, ρ, d, sm, eo, hf, q⟩ => by
  have hf : (f ρ).map PyData.list = some d := hf
  cases e1 : f ρ with
  | none => rw [e1] at hf; cases hf
  | some ds =>
    rw [e1] at hf
    obtain rfl : PyData.list ds = d := Option.some.inj hf
    refine ⟨HF, ρ, ds, sm, eo, e1, fun a vs H' HF' g ha hf' h' r => q _ _ (upd HF' a (.lst vs)) (g.freeze ha h' hf') ?_⟩
    simp only [Rep]
    exact ⟨a, vs, rfl, .inl (.inl upd_same), r.mono (same_upd hf')⟩
def fVar (i : Nat) : Env → Option D := fun ρ => (ρ[i]?).getD none
theorem de_var (i : Nat) {x : Str} {pos : Pos} (hN : X.N[i]? = some x) (hv : Vis X.env.scope x) (hd : (x == ("__debug__" : Str)) = false := by decide) (hcd : (x == ("__classdict__" : Str)) = false := by decide) : DE X (.Name x pos) (fVar i) :=
  pe_imp (pe_var hN hv hd hcd) fun σ H Q ⟨HF, ρ, d, sm, eo, hf, q⟩ => by
    have hf : (ρ[i]?).getD none = some d := hf
    cases e : ρ[i]? with
    | none => rw [e] at hf; cases hf
    | some o =>
      rw [e] at hf
      have hf : o = some d := hf
      subst hf
      obtain ⟨v, a, b⟩ := eo.get i d e
      exact ⟨v, a, q v H HF (.refl sm) b⟩
def fC (d : D) : Env → Option D := fun _ => some d
theorem de_int {i j pos} : DE X (.Constant (.int i) j pos) (fC (.int i)) := pe_imp pe_int fun σ H Q ⟨HF, ρ, d, sm, eo, hf, q⟩ => by cases hf; exact q _ H HF (.refl sm) (by simp [Rep])
theorem de_bl {b j pos} : DE X (.Constant (.bool b) j pos) (fC (.bool b)) := pe_imp pe_bl fun σ H Q ⟨HF, ρ, d, sm, eo, hf, q⟩ => by cases hf; exact q _ H HF (.refl sm) (by simp [Rep])
theorem de_non {j pos} : DE X (.Constant .none j pos) (fC .none) := pe_imp pe_non fun σ H Q ⟨HF, ρ, d, sm, eo, hf, q⟩ => by cases hf; exact q _ H HF (.refl sm) (by simp [Rep])
theorem de_str {x j pos} : DE X (.Constant (.str x) j pos) (fC (.str x)) := pe_imp pe_str fun σ H Q ⟨HF, ρ, d, sm, eo, hf, q⟩ => by cases hf; exact q _ H HF (.refl sm) (by simp [Rep])
theorem de_gint {x : Str} {i : Int} {t : Tok} {pos : Pos} (hg : Gl X x) (hm : X.mg x = some (.int i t)) (hd : (x == ("__debug__" : Str)) = false := by decide) : DE X (.Name x pos) (fC (.int i)) :=
  pe_imp (pe_glob (v := .int i) hg hm ⟨t, rfl⟩ hd) fun σ H Q ⟨HF, ρ, d, sm, eo, hf, q⟩ => by cases hf; exact q _ H HF (.refl sm) (by simp [Rep])
/-- a two-place operation's reading agrees with a function on data -/
def Sem2 (K : PySem.W.Frag) (r : R2) (g : D → D → Option D) : Prop := ∀ HF H x y v1 v2 d Q, Same HF H → Rep K HF x v1 → Rep K HF y v2 → g x y = some d → (∀ v H' HF', Grow HF H HF' H' → Rep K HF' d v → Q v H') → r v1 v2 H Q
def f2 (g : D → D → Option D) (f1 f2 : Env → Option D) : Env → Option D := fun ρ => (f1 ρ).bind fun x => (f2 ρ).bind fun y => g x y
variable {a b c : Expr} {fa fb fc : Env → Option D} {pos : Pos}
theorem t_op {r : R2} {g : D → D → Option D} (hr : Sem2 X.K r g) : ∀ σ H Q, tD X.K (f2 g fa fb) σ H Q → tOp r (tD X.K fa) (tD X.K fb) σ H Q := fun σ H Q ⟨HF, ρ, d, sm, eo, hf, q⟩ => by
  obtain ⟨x, hx, hf⟩ := bs hf
  obtain ⟨y, hy, hg⟩ := bs hf
  exact ⟨HF, ρ, x, sm, eo, hx, fun v1 H1 HF1 g1 r1 => ⟨HF1, ρ, y, g1.fh, eo.mono g1.ff, hy, fun v2 H2 HF2 g2 r2 => hr HF2 H2 x y v1 v2 d Q g2.fh (r1.mono g2.ff) r2 hg fun v H' HF' g3 r3 => q v H' HF' ((g1.trans g2).trans g3) r3⟩⟩
theorem de_op {op : Operator} {r : R2} {g : D → D → Option D} (ho : OpR X (binaryOp op) r) (hr : Sem2 X.K r g) (ha : DE X a fa) (hb : DE X b fb) : DE X (.BinOp a op b pos) (f2 g fa fb) := pe_imp (pe_op ho ha hb) (t_op hr)
theorem de_cmp {op : CmpOp} {r : R2} {g : D → D → Option D} (ho : OpR X (compareOp op) r) (hr : Sem2 X.K r g) (ha : DE X a fa) (hb : DE X b fb) (hm : behindInMarks op b = false) : DE X (.Compare a [op] [b] pos) (f2 g fa fb) := pe_imp (pe_cmpR ho ha hb hm) (t_op hr)
/-! ints -/
def g2I (C : Int → Int → Prop) [∀ i j, Decidable (C i j)] (g : Int → Int → D) : D → D → Option D
  | .int i, .int j => if C i j then some (g i j) else none
  | _, _ => none
theorem sem_I {K : PySem.W.Frag} {C : Int → Int → Prop} [∀ i j, Decidable (C i j)] {gi : Int → Int → Int} : Sem2 K (rI C fun i j => .int (gi i j)) (g2I C fun i j => .int (gi i j)) := by
  intro HF H x y v1 v2 d Q sm r1 r2 hg q
  cases x <;> cases y <;> simp only [g2I] at hg <;> try cases hg
  rename_i i j
  simp only [Rep] at r1 r2
  by_cases hc : C i j
  · rw [if_pos hc] at hg
    cases hg
    exact ⟨i, j, r1, r2, hc, q _ H HF (.refl sm) (by simp [Rep])⟩
  · rw [if_neg hc] at hg; cases hg
theorem sem_I0 {K : PySem.W.Frag} {gi : Int → Int → Int} : Sem2 K (rI0 fun i j => .int (gi i j)) (g2I (fun _ _ => True) fun i j => .int (gi i j)) := by
  intro HF H x y v1 v2 d Q sm r1 r2 hg q
  cases x <;> cases y <;> simp only [g2I] at hg <;> try cases hg
  rename_i i j
  simp only [Rep] at r1 r2
  exact ⟨i, j, r1, r2, q _ H HF (.refl sm) (by simp [Rep])⟩
theorem sem_B0 {K : PySem.W.Frag} {gi : Int → Int → Bool} : Sem2 K (rI0 fun i j => .bl (gi i j)) (g2I (fun _ _ => True) fun i j => .bool (gi i j)) := by
  intro HF H x y v1 v2 d Q sm r1 r2 hg q
  cases x <;> cases y <;> simp only [g2I] at hg <;> try cases hg
  rename_i i j
  simp only [Rep] at r1 r2
  exact ⟨i, j, r1, r2, q _ H HF (.refl sm) (by simp [Rep])⟩
instance (i j : Int) : Decidable (CMul i j) := by unfold CMul; infer_instance
instance (i j : Int) : Decidable (CDiv i j) := by unfold CDiv; infer_instance
end
end Dl
set_option Elab.async false
set_option linter.all false
set_option maxRecDepth 100000
set_option maxHeartbeats 4000000
namespace Dl
open PySem L2 PySem.Spec PyProof.Rows
section
variable {X : Cx} {a b c : Expr} {fa fb fc : Env → Option D} {pos : Pos} {rest : List Expr}
/-! and, or, not, if-else of bools -/
def fAnd (fa fb : Env → Option D) : Env → Option D := fun ρ => (fa ρ).bind fun | .bool true => fb ρ | .bool false => some (.bool false) | _ => none
def fOr (fa fb : Env → Option D) : Env → Option D := fun ρ => (fa ρ).bind fun | .bool true => some (.bool true) | .bool false => fb ρ | _ => none
def gNot : D → Option D | .bool b => some (.bool (!b)) | _ => none
def fNot (fa : Env → Option D) : Env → Option D := fun ρ => (fa ρ).bind gNot
theorem de_one {op} (h : DE X a fa) : DE X (.BoolOp op [a] pos) fa := pe_one h
theorem de_and (ha : DE X a fa) (hb : DE X (.BoolOp .And (b :: rest) pos) fb) : DE X (.BoolOp .And (a :: b :: rest) pos) (fAnd fa fb) := pe_imp (pe_and ha hb) fun σ H Q ⟨HF, ρ, d, sm, eo, hf, q⟩ => by
  obtain ⟨x, hx, hf⟩ := bs hf
  refine ⟨HF, ρ, x, sm, eo, hx, fun v1 H1 HF1 g1 r1 => ?_⟩
  cases x <;> try cases hf
  rename_i k
  simp only [Rep] at r1
  refine ⟨k, r1, ?_⟩
  cases k with
  | true => exact iteT ⟨HF1, ρ, d, g1.fh, eo.mono g1.ff, hf, fun v H' HF' g r => q v H' HF' (g1.trans g) r⟩
  | false => cases hf; exact iteF (q _ H1 HF1 g1 (by simp [Rep]))
theorem de_not (ha : DE X a fa) : DE X (.UnaryOp .Not a pos) (fNot fa) := pe_imp (pe_not ha) fun σ H Q ⟨HF, ρ, d, sm, eo, hf, q⟩ => by
  obtain ⟨x, hx, hf⟩ := bs hf
  refine ⟨HF, ρ, x, sm, eo, hx, fun v1 H1 HF1 g1 r1 => ?_⟩
  cases x <;> try cases hf
  rename_i k
  simp only [Rep] at r1
  exact ⟨k, r1, q _ H1 HF1 g1 (by simp [Rep])⟩
def gB : D → Option Bool | .bool b => some b | _ => none
def fB (f : Env → Option D) : Env → Option Bool := fun ρ => (f ρ).bind gB
/-- a value as a test -/
theorem t_test {f : Env → Option D} : ∀ σ H (Q : Bool → Hp → Prop), tDT X.K (fB f) σ H Q → tD X.K f σ H fun x H1 => ∃ c, x = .bl c ∧ Q c H1 := fun σ H Q ⟨HF, ρ, k, sm, eo, hf, q⟩ => by
  obtain ⟨x, hx, hf⟩ := bs hf
  refine ⟨HF, ρ, x, sm, eo, hx, fun v1 H1 HF1 g1 r1 => ?_⟩
  cases x <;> try cases hf
  simp only [Rep] at r1
  exact ⟨_, r1, q H1 HF1 g1⟩
theorem dt_val {f : Env → Option D} (h : DE X a f) (he : ∀ whole, isTrue a X.env whole = (do let v ← whole; standAt a.pos; holding [v] (truthy v)) := by intro _; rfl) : DT X a (fB f) := pt_imp (pt_val h he) t_test
theorem dt_cmp {op : CmpOp} {r : R2} {g : D → D → Option D} (ho : OpR X (compareOp op) r) (hr : Sem2 X.K r g) (ha : DE X a fa) (hb : DE X b fb) (hm : behindInMarks op b = false) : DT X (.Compare a [op] [b] pos) (fB (f2 g fa fb)) :=
  pt_imp (pt_cmpR ho ha hb hm) fun σ H Q h => t_op hr σ H _ (t_test σ H Q h)
def fAndT (fa fb : Env → Option Bool) : Env → Option Bool := fun ρ => (fa ρ).bind fun | true => fb ρ | false => some false
def fOrT (fa fb : Env → Option Bool) : Env → Option Bool := fun ρ => (fa ρ).bind fun | true => some true | false => fb ρ
def fNotT (fa : Env → Option Bool) : Env → Option Bool := fun ρ => (fa ρ).map (!·)
variable {ta tb : Env → Option Bool}
def DW (X : Cx) (e : Expr) (f : Env → Option Bool) : Prop := PW X e (tDT X.K f)
theorem pw_imp {e : Expr} {t t' : TT} (h : PW X e t) (i : ∀ σ H Q, t' σ H Q → t σ H Q) : PW X e t' := fun wh pins s σ H Q I q => h wh pins s σ H Q I (i σ H Q q)
theorem DW.dt (h : DW X a ta) : DT X a ta := PW.pt h
theorem dw_and1 (ha : DT X a ta) : DW X (.BoolOp .And [a] pos) ta := pw_and1 ha
theorem dw_or1 (ha : DT X a ta) : DW X (.BoolOp .Or [a] pos) ta := pw_or1 ha
theorem dw_and (ha : DT X a ta) (hb : DW X (.BoolOp .And (b :: rest) pos) tb) : DW X (.BoolOp .And (a :: b :: rest) pos) (fAndT ta tb) := pw_imp (pw_and ha hb) fun σ H Q ⟨HF, ρ, d, sm, eo, hf, q⟩ => by
  obtain ⟨x, hx, hf⟩ := bs hf
  refine ⟨HF, ρ, x, sm, eo, hx, fun H1 HF1 g1 => ?_⟩
  cases x with
  | true => exact iteT ⟨HF1, ρ, d, g1.fh, eo.mono g1.ff, hf, fun H' HF' g => q H' HF' (g1.trans g)⟩
  | false => cases hf; exact iteF (q H1 HF1 g1)
theorem dw_or (ha : DT X a ta) (hb : DW X (.BoolOp .Or (b :: rest) pos) tb) : DW X (.BoolOp .Or (a :: b :: rest) pos) (fOrT ta tb) := pw_imp (pw_or ha hb) fun σ H Q ⟨HF, ρ, d, sm, eo, hf, q⟩ => by
  obtain ⟨x, hx, hf⟩ := bs hf
  refine ⟨HF, ρ, x, sm, eo, hx, fun H1 HF1 g1 => ?_⟩
  cases x with
  | false => exact iteF ⟨HF1, ρ, d, g1.fh, eo.mono g1.ff, hf, fun H' HF' g => q H' HF' (g1.trans g)⟩
  | true => cases hf; exact iteT (q H1 HF1 g1)
theorem dt_not (ha : DT X a ta) : DT X (.UnaryOp .Not a pos) (fNotT ta) := pt_imp (pt_not ha) fun σ H Q ⟨HF, ρ, d, sm, eo, hf, q⟩ => by
  have hf : (ta ρ).map (!·) = some d := hf
  cases e : ta ρ with
  | none => rw [e] at hf; cases hf
  | some k => rw [e] at hf; cases hf; exact ⟨HF, ρ, k, sm, eo, e, fun H1 HF1 g1 => q H1 HF1 g1⟩
/-! a op b op' c -/
def fChain (g g' : D → D → Option D) (fa fb fc : Env → Option D) : Env → Option D := fun ρ => (fa ρ).bind fun x => (fb ρ).bind fun y => (g x y).bind fun | .bool true => (fc ρ).bind fun z => g' y z | .bool false => some (.bool false) | _ => none
theorem t_chain {r r' : R2} {g g' : D → D → Option D} (hr : Sem2 X.K r g) (hr' : Sem2 X.K r' g') : ∀ σ H Q, tD X.K (fChain g g' fa fb fc) σ H Q → tChain r r' (tD X.K fa) (tD X.K fb) (tD X.K fc) σ H Q := fun σ H Q ⟨HF, ρ, d, sm, eo, hf, q⟩ => by
  obtain ⟨x, hx, hf⟩ := bs hf
  obtain ⟨y, hy, hf⟩ := bs hf
  obtain ⟨z, hz, hf⟩ := bs hf
  refine ⟨HF, ρ, x, sm, eo, hx, fun v1 H1 HF1 g1 r1 => ⟨HF1, ρ, y, g1.fh, eo.mono g1.ff, hy, fun v2 H2 HF2 g2 r2 => hr HF2 H2 x y v1 v2 z _ g2.fh (r1.mono g2.ff) r2 hz fun v3 H3 HF3 g3 r3 => ?_⟩⟩
  cases z <;> try cases hf
  rename_i k
  simp only [Rep] at r3
  refine ⟨k, r3, ?_⟩
  have G := (g1.trans g2).trans g3
  cases k with
  | false => cases hf; exact iteF (q _ H3 HF3 G (by simp [Rep]))
  | true =>
    obtain ⟨w, hw, hg⟩ := bs hf
    exact iteT ⟨HF3, ρ, w, G.fh, eo.mono G.ff, hw, fun v4 H4 HF4 g4 r4 => hr' HF4 H4 y w v2 v4 d Q g4.fh (r2.mono (g3.ff.trans g4.ff)) r4 hg fun v H' HF' g5 r5 => q v H' HF' ((G.trans g4).trans g5) r5⟩
theorem de_chain {op op' : CmpOp} {r r' : R2} {g g' : D → D → Option D} (ho : OpR X (compareOp op) r) (hr : Sem2 X.K r g) (ho' : OpR X (compareOp op') r') (hr' : Sem2 X.K r' g') (ha : DE X a fa) (hb : DE X b fb) (hc : DE X c fc)
    (hm : lastMarks [op, op'] [b, c] = false := by with_unfolding_all rfl) : DE X (.Compare a [op, op'] [b, c] pos) (fChain g g' fa fb fc) := pe_imp (pe_chain ho ho' ha hb hc hm) (t_chain hr hr')
theorem dt_chain {op op' : CmpOp} {r r' : R2} {g g' : D → D → Option D} (ho : OpR X (compareOp op) r) (hr : Sem2 X.K r g) (ho' : OpR X (compareOp op') r') (hr' : Sem2 X.K r' g') (ha : DE X a fa) (hb : DE X b fb) (hc : DE X c fc)
    (hm : lastMarks [op, op'] [b, c] = false := by with_unfolding_all rfl) : DT X (.Compare a [op, op'] [b, c] pos) (fB (fChain g g' fa fb fc)) :=
  pt_imp (pt_chain ho ho' ha hb hc hm) fun σ H Q h => t_chain hr hr' σ H _ (t_test σ H Q h)
/-! argument lists, displays -/
def fNil : Env → Option (List D) := fun _ => some []
def fCons (f : Env → Option D) (g : Env → Option (List D)) : Env → Option (List D) := fun ρ => (f ρ).bind fun x => (g ρ).map (x :: ·)
theorem da_nil : DA X [] fNil := pa_imp pa_nil fun σ H Q ⟨HF, ρ, d, sm, eo, hf, q⟩ => by cases hf; exact q [] H HF (.refl sm) Reps.nil
theorem da_cons {e : Expr} {es : List Expr} {f : Env → Option D} {g : Env → Option (List D)} (he : DE X e f) (hs : DA X es g) (hst : starEach (e :: es) X.env = (false, eval e X.env) :: starEach es X.env := by rfl) : DA X (e :: es) (fCons f g) :=
  pa_imp (pa_cons he hs hst) fun σ H Q ⟨HF, ρ, d, sm, eo, hf, q⟩ => by
    obtain ⟨x, hx, hf⟩ := bs hf
    have hf : (g ρ).map (x :: ·) = some d := hf
    cases e1 : g ρ with
    | none => rw [e1] at hf; cases hf
    | some xs =>
      rw [e1] at hf; cases hf
      exact ⟨HF, ρ, x, sm, eo, hx, fun v1 H1 HF1 g1 r1 => ⟨HF1, ρ, xs, g1.fh, eo.mono g1.ff, e1, fun vs H2 HF2 g2 r2 => q (v1 :: vs) H2 HF2 (g1.trans g2) (Reps.cons (r1.mono g2.ff) r2)⟩⟩
variable {es : List Expr} {fs : Env → Option (List D)}
def small (ds : List D) : Option (List D) := if ds.length ≤ sizeLine then some ds else none
theorem small_some {ds es : List D} (h : small ds = some es) : es = ds ∧ ds.length ≤ sizeLine := by
  unfold small at h
  split at h
  · cases h; exact ⟨rfl, ‹_›⟩
  · cases h
def fTup (g : Env → Option (List D)) : Env → Option D := fun ρ => (g ρ).bind fun ds => (small ds).map PyData.tuple
def fLst (g : Env → Option (List D)) : Env → Option (List D) := fun ρ => (g ρ).bind small
theorem de_tup {x1} (h : DA X es fs) : DE X (.Tuple es x1 pos) (fTup fs) := pe_imp (pe_tup h) fun σ H Q ⟨HF, ρ, d, sm, eo, hf, q⟩ => by
  obtain ⟨ds, hx, hf⟩ := bs hf
  have hf : (small ds).map PyData.tuple = some d := hf
  cases e : small ds with
  | none => rw [e] at hf; cases hf
  | some es' =>
    rw [e] at hf; cases hf
    obtain ⟨rfl, hz⟩ := small_some e
    refine ⟨HF, ρ, _, sm, eo, hx, fun vs H1 HF1 g1 r1 => ⟨by rw [r1.length]; exact hz, fun p hp => q _ _ (upd HF1 p (.tup vs)) (g1.trans (.new g1.fh hp)) ?_⟩⟩
    simp only [Rep]
    exact ⟨p, vs, rfl, .inl (.inl upd_same), r1.mono (same_upd (g1.fh.free hp))⟩
theorem df_lst (h : DA X es fs) : DF X (.List es pos) (fLst fs) := pe_imp (pe_lst h) fun σ H Q ⟨HF, ρ, d, sm, eo, hf, q⟩ => by
  obtain ⟨ds, hx, hf⟩ := bs hf
  obtain ⟨rfl, hz⟩ := small_some hf
  exact ⟨HF, ρ, _, sm, eo, hx, fun vs H1 HF1 g1 r1 => ⟨by rw [r1.length]; exact hz, fun p hp => q p vs _ HF1 (g1.trans (.own g1.fh hp)) (g1.hh.free hp) (g1.fh.free hp) upd_same r1⟩⟩
/-! a[i] -/
def gIx : D → D → Option D
  | .tuple ds, .int i => atI ds i
  | .list ds, .int i => atI ds i
  | _, _ => none
theorem atI_reps {K : PySem.W.Frag} {HF : Hp} {ds : List D} {vs : List V} {i : Int} {d : D} (r : Reps K HF ds vs) (h : atI ds i = some d) : ∃ v, atI vs i = some v ∧ Rep K HF d v := by
  unfold atI at h ⊢
  rw [r.length]
  obtain ⟨j, hj, h⟩ := bs h
  obtain ⟨v, a, b⟩ := r.getD h
  exact ⟨v, by rw [hj]; exact a, b⟩
theorem sem_ix {K : PySem.W.Frag} : Sem2 K (rIx K) gIx := by
  intro HF H x y v1 v2 d Q sm r1 r2 hg q
  cases x <;> cases y <;> simp only [gIx] at hg <;> try cases hg
  · simp only [Rep] at r1 r2
    obtain ⟨a, vs, rfl, hs, r⟩ := r1
    obtain ⟨v, hv, rv⟩ := atI_reps r hg
    exact .inl ⟨a, vs, _, v, rfl, r2, sm.seq hs, hv, q v H HF (.refl sm) rv⟩
  · simp only [Rep] at r1 r2
    obtain ⟨a, vs, rfl, hs, r⟩ := r1
    obtain ⟨v, hv, rv⟩ := atI_reps r hg
    exact .inr (.inl ⟨a, vs, _, v, rfl, r2, same_tup sm hs, hv, q v H HF (.refl sm) rv⟩)
theorem de_ix (ha : DE X a fa) (hb : DE X b fb) (hs : PlainIx b := by intro _ _; rfl) : DE X (.Subscript a b pos) (f2 gIx fa fb) := pe_imp (pe_ix ix_seq ha hb hs) (t_op sem_ix)
/-! == and != of data, in -/
mutual
theorem reads_of {pins : List (Addr × Obj)} {σ : L2.St} {H HF : Hp} {s : Shared} (I : Inv X pins σ H s) (sm : Same HF H) : ∀ {d : D} {v : V} {u : Value}, Rep X.K HF d v → RelV v u → ∃ as, Reads s.heap u d as
  | .none, _, _, h, r => by simp only [Rep] at h; subst h; cases r; exact ⟨_, .none⟩
  | .bool b, _, _, h, r => by simp only [Rep] at h; subst h; cases r; exact ⟨_, .bool b⟩
  | .int i, _, _, h, r => by simp only [Rep] at h; subst h; obtain ⟨t, rfl⟩ := r; exact ⟨_, .int i t⟩
  | .str i, _, _, h, r => by simp only [Rep] at h; subst h; obtain ⟨t, rfl⟩ := r; exact ⟨_, .str i t⟩
  | .tuple ds, _, _, h, r => by
    simp only [Rep] at h
    obtain ⟨a, vs, rfl, hs, rr⟩ := h
    cases r
    obtain ⟨its, rv, ⟨o, ho, hc, n, hd⟩, _⟩ := I.tuple (same_tup sm hs)
    obtain ⟨as, q⟩ := reads_all I sm rr rv
    exact ⟨as, .tuple ho hc hd (by simpa using q)⟩
  | .list ds, _, _, h, r => by
    simp only [Rep] at h
    obtain ⟨a, vs, rfl, hs, rr⟩ := h
    cases r
    obtain ⟨its, rv, pl, _⟩ := I.list (sm.seq hs)
    obtain ⟨o, ho, hc, n, hd⟩ := pl.isList
    obtain ⟨as, q⟩ := reads_all I sm rr rv
    exact ⟨_, .list ho hc hd (by simpa using q)⟩
  | .dict _, _, _, h, r => by simp only [Rep] at h
theorem reads_all {pins : List (Addr × Obj)} {σ : L2.St} {H HF : Hp} {s : Shared} (I : Inv X pins σ H s) (sm : Same HF H) : ∀ {ds : List D} {vs : List V} {us : List Value}, Reps X.K HF ds vs → Vals vs us → ∃ as, ReadsAll s.heap us ds as
  | [], _, _, h, r => by rw [h.nil_inv] at r; cases r; exact ⟨_, .nil⟩
  | d :: ds, _, _, h, r => by
    obtain ⟨v, vr, rfl, a, b⟩ := h.cons_inv
    cases r with
    | cons r rr =>
      obtain ⟨as, q⟩ := reads_of I sm a r
      obtain ⟨bs, p⟩ := reads_all I sm b rr
      exact ⟨_, .cons q p⟩
end
/-- data, read by the two of them -/
def rD2 (K : PySem.W.Frag) (g : D → D → Option Bool) : R2 := fun v1 v2 H Q => ∃ HF x y k, Same HF H ∧ Rep K HF x v1 ∧ Rep K HF y v2 ∧ g x y = some k ∧ Q (.bl k) H
theorem sem_D2 {K : PySem.W.Frag} {g : D → D → Option Bool} : Sem2 K (rD2 K g) (fun x y => (g x y).map PyData.bool) := by
  intro HF H x y v1 v2 d Q sm r1 r2 hg q
  have hg : (g x y).map PyData.bool = some d := hg
  cases e : g x y with
  | none => rw [e] at hg; cases hg
  | some k => rw [e] at hg; cases hg; exact ⟨HF, x, y, k, sm, r1, r2, e, q _ H HF (.refl sm) (by simp [Rep])⟩
def gEq (x y : D) : Option Bool := if SeqAt.shaped x = true ∧ SeqAt.shaped y = true then some (PyData.eqv x y) else none
def gNe (x y : D) : Option Bool := if SeqAt.shaped x = true ∧ SeqAt.shaped y = true then some (!PyData.eqv x y) else none
theorem op_eqD (hu : X.A.units + 64 < cLine) : OpR X (compareOp .Eq) (rD2 X.K gEq) := by
  intro pins s σ H v1 v2 u1 u2 Q I rx ry h
  obtain ⟨HF, x, y, k, sm, r1, r2, hg, q⟩ := h
  unfold gEq at hg
  split at hg <;> cases hg
  rename_i hh
  obtain ⟨as, ra⟩ := reads_of I sm r1 rx
  obtain ⟨bs, rb⟩ := reads_of I sm r2 ry
  exact eq_dataH ra rb hh.1 hh.2 hu ⟨.bl _, H, I, rfl, q⟩
theorem op_neD (hu : X.A.units + 64 < cLine) : OpR X (compareOp .NotEq) (rD2 X.K gNe) := by
  intro pins s σ H v1 v2 u1 u2 Q I rx ry h
  obtain ⟨HF, x, y, k, sm, r1, r2, hg, q⟩ := h
  unfold gNe at hg
  split at hg <;> cases hg
  rename_i hh
  obtain ⟨as, ra⟩ := reads_of I sm r1 rx
  obtain ⟨bs, rb⟩ := reads_of I sm r2 ry
  exact ne_dataH ra rb hh.1 hh.2 hu ⟨.bl _, H, I, rfl, q⟩
def items : D → Option (List D) | .tuple ds => some ds | .list ds => some ds | _ => none
def gIn (x y : D) : Option Bool := match y with
  | .tuple ds => if SeqAt.shaped x = true ∧ SeqAt.shaped y = true then some (ds.any fun z => PyData.eqv z x) else none
  | .list ds => if SeqAt.shaped x = true ∧ SeqAt.shaped y = true then some (ds.any fun z => PyData.eqv z x) else none
  | _ => none
theorem op_inD (hu : X.A.units + 66 < cLine) : OpR X (compareOp .In) (rD2 X.K gIn) := by
  intro pins s σ H v1 v2 u1 u2 Q I rx ry h
  obtain ⟨HF, x, y, k, sm, r1, r2, hg, q⟩ := h
  obtain ⟨as, ra⟩ := reads_of I sm r1 rx
  obtain ⟨bs, rb⟩ := reads_of I sm r2 ry
  cases y <;> simp only [gIn] at hg <;> try cases hg
  all_goals
    split at hg <;> cases hg
    rename_i ds hh
    have c1 := SeqAt.canLay_of_shaped hh.1
    have c2 := SeqAt.canLay_of_shaped hh.2
    have d1 := SeqAt.depth_of_shaped hh.1
    simp only [PyData.canLay0] at c2
    have m := Nat.min_le_right (PyData.depthAll ds) x.depth
    first
      | exact SeqAt.in_list_reads rb ra c2 c1 (by omega) ⟨.bl _, H, I, rfl, q⟩
      | exact SeqAt.in_tuple_reads rb ra c2 c1 (by omega) ⟨.bl _, H, I, rfl, q⟩
end
end Dl
set_option Elab.async false
set_option linter.all false
set_option maxRecDepth 100000
set_option maxHeartbeats 4000000
namespace Dl
open PySem L2 PySem.Spec PyProof.Rows
/-! a def of the text by a function on data -/
def spD (K : PySem.W.Frag) (n : Nat) (m : List D → Option D) : Sp := fun vs H Q _ => ∃ HF ds d, Same HF H ∧ Reps K HF ds vs ∧ ds.length = n ∧ m ds = some d ∧ ∀ v H' HF', Grow HF H HF' H' → Rep K HF' d v → Q v H'
structure FnD (P : Program) (w : World) (K : PySem.W.Frag) (mg : Str → Option Value) (base : Heap) (k : Nat) (x : Str) (n : Nat) (m : List D → Option D) : Prop where
  ex : ∃ (f : Addr) (fd : FuncData) (ps : List Str), FnOk P w K mg base CX0 k f fd ps (spD K n m) ∧ mg x = some (.ref f) ∧ PySem.W.keepIn K (.ref f) = true ∧ Binds K fd ps []
theorem FnD.mono {P : Program} {w : World} {K : PySem.W.Frag} {mg : Str → Option Value} {base : Heap} {k j : Nat} {x : Str} {n : Nat} {m : List D → Option D} (F : FnD P w K mg base k x n m) (h : k ≤ j) : FnD P w K mg base j x n m := by
  obtain ⟨f, fd, ps, a, b, c, d⟩ := F.ex
  exact ⟨f, fd, ps, a.mono h, b, c, d⟩
/-- a weaker function -/
theorem FnD.imp {P : Program} {w : World} {K : PySem.W.Frag} {mg : Str → Option Value} {base : Heap} {k : Nat} {x : Str} {n : Nat} {m m' : List D → Option D} (F : FnD P w K mg base k x n m) (h : ∀ ds d, ds.length = n → m' ds = some d → m ds = some d) : FnD P w K mg base k x n m' := by
  obtain ⟨f, fd, ps, a, b, c, d⟩ := F.ex
  refine ⟨f, fd, ps, a.imp fun vs H Q E ⟨HF, ds, d, q1, q2, q3, q4, q5⟩ => ⟨HF, ds, d, q1, q2, q3, h ds d q3 q4, q5⟩, b, c, d⟩
section
variable {X : Cx} {a b c e : Expr} {es : List Expr} {fa fb fc : Env → Option D} {fs : Env → Option (List D)} {pos p : Pos} {x : Str}
def fCall (n : Nat) (m : List D → Option D) (fs : Env → Option (List D)) : Env → Option D := fun ρ => (fs ρ).bind fun ds => if ds.length = n then m ds else none
theorem de_call {k n : Nat} {m : List D → Option D} (F : FnD X.prog X.w X.K X.mg X.base k x n m) (hr : Room k X.A) (hg : Gl X x) (ha : DA X (e :: es) fs) (hdb : (x == ("__debug__" : Str)) = false := by decide)
    (he : starEach (e :: es) X.env = (false, eval e X.env) :: starEach es X.env := by rfl) (hpl : (backTo pos (starEach es X.env)).any (·.1) = false := by rfl) : DE X (.Call (.Name x p) (e :: es) [] pos) (fCall n m fs) := by
  obtain ⟨f, fd, ps, ok, hm, hk, hb⟩ := F.ex
  refine pe_imp (pe_call (E := E0) ok hr hg hm hk hb .nil pass0 ha hdb he hpl) fun σ H Q ⟨HF, ρ, d, sm, eo, hf, q⟩ => ?_
  obtain ⟨ds, hx, hf⟩ := bs hf
  split at hf
  · rename_i hl
    exact ⟨HF, ρ, ds, sm, eo, hx, fun vs H1 HF1 g1 r1 => ⟨HF1, ds, d, g1.fh, by rw [List.append_nil]; exact r1, hl, hf, fun v H' HF' g r => q v H' HF' (g1.trans g) r⟩⟩
  · cases hf
/-! built-ins -/
def SemN (K : PySem.W.Frag) (r : List V → Hp → VK → Prop) (g : List D → Option D) : Prop := ∀ HF H ds vs d Q, Same HF H → Reps K HF ds vs → g ds = some d → (∀ v H' HF', Grow HF H HF' H' → Rep K HF' d v → Q v H') → r vs H Q
def fCB (g : List D → Option D) (fs : Env → Option (List D)) : Env → Option D := fun ρ => (fs ρ).bind g
theorem t_CB {r : List V → Hp → VK → Prop} {g : List D → Option D} (hs : SemN X.K r g) : ∀ σ H Q, tD X.K (fCB g fs) σ H Q → tCB r (tDA X.K fs) σ H Q := fun σ H Q ⟨HF, ρ, d, sm, eo, hf, q⟩ => by
  obtain ⟨ds, hx, hf⟩ := bs hf
  exact ⟨HF, ρ, ds, sm, eo, hx, fun vs H1 HF1 g1 r1 => hs HF1 H1 ds vs d Q g1.fh r1 hf fun v H' HF' g2 r2 => q v H' HF' (g1.trans g2) r2⟩
/-- .. that make a list of their own -/
def SemNF (K : PySem.W.Frag) (r : List V → Hp → VK → Prop) (g : List D → Option (List D)) : Prop := ∀ HF H ds vs es Q, Same HF H → Reps K HF ds vs → g ds = some es →
  (∀ a us H' HF', Grow HF H HF' H' → H a = none → HF' a = none → H' a = some (.lst us) → Reps K HF' es us → Q (.ref a) H') → r vs H Q
def fCBF (g : List D → Option (List D)) (fs : Env → Option (List D)) : Env → Option (List D) := fun ρ => (fs ρ).bind g
theorem t_CBF {r : List V → Hp → VK → Prop} {g : List D → Option (List D)} (hs : SemNF X.K r g) : ∀ σ H Q, tF X.K (fCBF g fs) σ H Q → tCB r (tDA X.K fs) σ H Q := fun σ H Q ⟨HF, ρ, d, sm, eo, hf, q⟩ => by
  obtain ⟨ds, hx, hf⟩ := bs hf
  exact ⟨HF, ρ, ds, sm, eo, hx, fun vs H1 HF1 g1 r1 => hs HF1 H1 ds vs d Q g1.fh r1 hf fun a us H' HF' g2 ha hf' h' r2 => q a us H' HF' (g1.trans g2) (g1.hh.free ha) hf' h' r2⟩
/-- the names of built-ins are the built-ins -/
structure Blt (X : Cx) (x : Str) (v : Value) : Prop where
  gl : Gl X x
  mg : X.mg x = none
  bt : bootBuiltins x = some v
theorem de_callB {id : String} {r : List V → Hp → VK → Prop} {g : List D → Option D} (hc : CallR X (.builtin id) r) (hs : SemN X.K r g) (B : Blt X x (.builtin id)) (ha : DA X (e :: es) fs) (hn : x ≠ "__name__" := by decide) (hdb : (x == ("__debug__" : Str)) = false := by decide)
    (he : starEach (e :: es) X.env = (false, eval e X.env) :: starEach es X.env := by rfl) (hpl : (backTo pos (starEach es X.env)).any (·.1) = false := by rfl) : DE X (.Call (.Name x p) (e :: es) [] pos) (fCB g fs) :=
  pe_imp (pe_callB hc B.gl B.mg B.bt ha hn hdb he hpl) (t_CB hs)
theorem df_callB {id : String} {r : List V → Hp → VK → Prop} {g : List D → Option (List D)} (hc : CallR X (.builtin id) r) (hs : SemNF X.K r g) (B : Blt X x (.builtin id)) (ha : DA X (e :: es) fs) (hn : x ≠ "__name__" := by decide) (hdb : (x == ("__debug__" : Str)) = false := by decide)
    (he : starEach (e :: es) X.env = (false, eval e X.env) :: starEach es X.env := by rfl) (hpl : (backTo pos (starEach es X.env)).any (·.1) = false := by rfl) : DF X (.Call (.Name x p) (e :: es) [] pos) (fCBF g fs) :=
  pe_imp (pe_callB hc B.gl B.mg B.bt ha hn hdb he hpl) (t_CBF hs)
theorem de_callTy {T : String} {r : List V → Hp → VK → Prop} {g : List D → Option D} (hc : CallR X (.type T) r) (hs : SemN X.K r g) (B : Blt X x (.type T)) (ha : DA X (e :: es) fs) (hn : x ≠ "__name__" := by decide) (hdb : (x == ("__debug__" : Str)) = false := by decide)
    (he : starEach (e :: es) X.env = (false, eval e X.env) :: starEach es X.env := by rfl) (hpl : (backTo pos (starEach es X.env)).any (·.1) = false := by rfl) : DE X (.Call (.Name x p) (e :: es) [] pos) (fCB g fs) :=
  pe_imp (pe_callTy hc B.gl B.mg B.bt ha hn hdb he hpl) (t_CB hs)
theorem df_callTy {T : String} {r : List V → Hp → VK → Prop} {g : List D → Option (List D)} (hc : CallR X (.type T) r) (hs : SemNF X.K r g) (B : Blt X x (.type T)) (ha : DA X (e :: es) fs) (hn : x ≠ "__name__" := by decide) (hdb : (x == ("__debug__" : Str)) = false := by decide)
    (he : starEach (e :: es) X.env = (false, eval e X.env) :: starEach es X.env := by rfl) (hpl : (backTo pos (starEach es X.env)).any (·.1) = false := by rfl) : DF X (.Call (.Name x p) (e :: es) [] pos) (fCBF g fs) :=
  pe_imp (pe_callTy hc B.gl B.mg B.bt ha hn hdb he hpl) (t_CBF hs)
/-- len -/
def seqOf : D → Option (List D) | .tuple ds => some ds | .list ds => some ds | _ => none
def oneOf : List D → Option D | [d] => some d | _ => none
theorem oneOf_some {ds : List D} {d : D} (h : oneOf ds = some d) : ds = [d] := by
  cases ds with
  | nil => cases h
  | cons x r => cases r with
    | nil => cases h; rfl
    | cons _ _ => cases h
theorem seqOf_some {d : D} {ds : List D} (h : seqOf d = some ds) : d = .tuple ds ∨ d = .list ds := by
  cases d <;> cases h
  · exact .inr rfl
  · exact .inl rfl
def gItems : List D → Option (List D) := fun ds => (oneOf ds).bind seqOf
theorem gItems_some {ds es : List D} (h : gItems ds = some es) : ds = [.tuple es] ∨ ds = [.list es] := by
  obtain ⟨d, h1, h2⟩ := bs h
  rw [oneOf_some h1]
  rcases seqOf_some h2 with rfl | rfl
  · exact .inl rfl
  · exact .inr rfl
def gLen : List D → Option D := fun ds => (gItems ds).map fun es => .int es.length
theorem map_some {α β : Type} {x : Option α} {f : α → β} {b : β} (h : x.map f = some b) : ∃ a, x = some a ∧ f a = b := by
  cases x with
  | none => cases h
  | some a => exact ⟨a, rfl, Option.some.inj h⟩
theorem sem_len {K : PySem.W.Frag} : SemN K (fun xs H Q => ∃ p ys, xs = [.ref p] ∧ (SqL K H p ys ∨ SqT K H p ys) ∧ Q (.int ys.length) H) gLen := by
  intro HF H ds vs d Q sm r hg q
  obtain ⟨es, h1, rfl⟩ := map_some hg
  rcases gItems_some h1 with rfl | rfl
  all_goals
    obtain ⟨v, r', rfl, a, b⟩ := r.cons_inv
    rw [b.nil_inv]
    simp only [Rep] at a
    obtain ⟨p, us, rfl, h, rr⟩ := a
  · exact ⟨p, us, rfl, .inr (same_tup sm h), q _ H HF (.refl sm) (by simp [Rep, rr.length])⟩
  · exact ⟨p, us, rfl, .inl (sm.seq h), q _ H HF (.refl sm) (by simp [Rep, rr.length])⟩
theorem de_len (B : Blt X "len" (.builtin "len")) (ha : DA X [e] fs) (he : starEach [e] X.env = (false, eval e X.env) :: starEach [] X.env := by rfl) : DE X (.Call (.Name "len" p) [e] [] pos) (fCB gLen fs) :=
  de_callB call_len_seq sem_len B ha (by decide) (by decide) he rfl
/-- list(..), tuple(..) -/
theorem sem_list {K : PySem.W.Frag} : SemNF K (fun xs H Q => ∃ p ys, xs = [.ref p] ∧ (SqL K H p ys ∨ SqT K H p ys) ∧ ∀ l, H l = none → Q (.ref l) (upd H l (.lst ys))) gItems := by
  intro HF H ds vs d Q sm r hg q
  rcases gItems_some hg with rfl | rfl
  all_goals
    obtain ⟨v, r', rfl, a, b⟩ := r.cons_inv
    rw [b.nil_inv]
    simp only [Rep] at a
    obtain ⟨p, us, rfl, h, rr⟩ := a
  · exact ⟨p, us, rfl, .inr (same_tup sm h), fun l hl => q l us _ HF (.own sm hl) hl (sm.free hl) upd_same rr⟩
  · exact ⟨p, us, rfl, .inl (sm.seq h), fun l hl => q l us _ HF (.own sm hl) hl (sm.free hl) upd_same rr⟩
theorem df_list (B : Blt X "list" (.type "list")) (ha : DA X [e] fs) (he : starEach [e] X.env = (false, eval e X.env) :: starEach [] X.env := by rfl) : DF X (.Call (.Name "list" p) [e] [] pos) (fCBF gItems fs) :=
  df_callTy call_list_of sem_list B ha (by decide) (by decide) he rfl
theorem rep_newtup {K : PySem.W.Frag} {HF : Hp} {l : Addr} {ds : List D} {vs : List V} (h : HF l = none) (r : Reps K HF ds vs) : Rep K (upd HF l (.tup vs)) (.tuple ds) (.ref l) := by
  simp only [Rep]; exact ⟨l, vs, rfl, .inl (.inl upd_same), r.mono (same_upd h)⟩
theorem sem_tuple {K : PySem.W.Frag} : SemN K (fun xs H Q => ∃ p ys, xs = [.ref p] ∧ ((SqL K H p ys ∧ ∀ l, H l = none → Q (.ref l) (upd H l (.tup ys))) ∨ (SqT K H p ys ∧ Q (.ref p) H))) (fun ds => (gItems ds).map PyData.tuple) := by
  intro HF H ds vs d Q sm r hg q
  obtain ⟨es, h1, rfl⟩ := map_some hg
  rcases gItems_some h1 with rfl | rfl
  all_goals
    obtain ⟨v, r', rfl, a, b⟩ := r.cons_inv
    rw [b.nil_inv]
    have a' := a
    simp only [Rep] at a
    obtain ⟨p, us, rfl, h, rr⟩ := a
  · exact ⟨p, us, rfl, .inr ⟨same_tup sm h, q _ H HF (.refl sm) a'⟩⟩
  · exact ⟨p, us, rfl, .inl ⟨sm.seq h, fun l hl => q _ _ _ (.new sm hl) (rep_newtup (sm.free hl) rr)⟩⟩
theorem de_tuple (B : Blt X "tuple" (.type "tuple")) (ha : DA X [e] fs) (he : starEach [e] X.env = (false, eval e X.env) :: starEach [] X.env := by rfl) : DE X (.Call (.Name "tuple" p) [e] [] pos) (fCB (fun ds => (gItems ds).map PyData.tuple) fs) :=
  de_callTy call_tuple_of sem_tuple B ha (by decide) (by decide) he rfl
/-! isinstance with a built-in type -/
def tyName : D → String | .none => "NoneType" | .bool _ => "bool" | .int _ => "int" | .str _ => "str" | .tuple _ => "tuple" | .list _ => "list" | .dict _ => "dict"
def kit0 (a b : String) : Option Bool := if ((Value.type a) == (Value.type b)) = true then some true else if PySem.W.kitMeta b = true then (fastBuiltinMro a).map (·.contains (Value.type b)) else none
theorem kit_int : ∀ a ∈ ["NoneType", "bool", "int", "str", "tuple", "list"], kit0 a "int" = some (a == "int" || a == "bool") := by decide +kernel
theorem kit_bool : ∀ a ∈ ["NoneType", "bool", "int", "str", "tuple", "list"], kit0 a "bool" = some (a == "bool") := by decide +kernel
theorem kit_tuple : ∀ a ∈ ["NoneType", "bool", "int", "str", "tuple", "list"], kit0 a "tuple" = some (a == "tuple") := by decide +kernel
theorem isinst_D {pins : List (Addr × Obj)} {σ : L2.St} {H HF : Hp} {s : Shared} {A : Around} {E : Value → Shared → Prop} {Q : Value → Shared → Prop} {d : D} {v : V} {u : Value} {T : String} {k : Bool} (I : Inv X pins σ H s) (sm : Same HF H) (r : Rep X.K HF d v) (rv : RelV v u)
    (e : kit0 (tyName d) T = some k) (h : ∀ tk, Q (.bool k) { s with toks := tk }) : wpAny (model X.prog X.w) A (call (.builtin "isinstance") [u, .type T]) Q E s := by
  have e' : PySem.W.kitOne X.K (.type (tyName d)) (.type T) = some k := e
  cases d <;> simp only [Rep] at r
  · subst r; cases rv; exact PySem.W.kia_one PySem.W.kitx_none I.kIn True.intro e' (fun z => nomatch z) h
  · subst r; cases rv; exact PySem.W.kia_one PySem.W.kitx_bool I.kIn True.intro e' (fun z => nomatch z) h
  · subst r; obtain ⟨t, rfl⟩ := rv; exact PySem.W.kia_one PySem.W.kitx_int I.kIn True.intro e' (fun z => nomatch z) h
  · subst r; obtain ⟨t, rfl⟩ := rv; exact PySem.W.kia_one PySem.W.kitx_str I.kIn True.intro e' (fun z => nomatch z) h
  · obtain ⟨a, vs, rfl, hs, rr⟩ := r
    cases rv
    obtain ⟨its, rv, pl, _⟩ := I.list (sm.seq hs)
    obtain ⟨o, ho, hc, n, hd⟩ := pl.isList
    exact PySem.W.kia_one PySem.W.kitx_list I.kIn ⟨o, ho, hc⟩ e' (fun z => nomatch z) h
  · obtain ⟨a, vs, rfl, hs, rr⟩ := r
    cases rv
    obtain ⟨its, rv, ⟨o, ho, hc, n, hd⟩, _⟩ := I.tuple (same_tup sm hs)
    exact PySem.W.kia_one PySem.W.kitx_tuple I.kIn ⟨o, ho, hc⟩ e' (fun z => nomatch z) h
def fIs (T : String) (f : Env → Option D) : Env → Option D := fun ρ => (f ρ).bind fun d => (kit0 (tyName d) T).map PyData.bool
theorem de_is {T : String} {xT : Str} {pT : Pos} {f : Env → Option D} (B : Blt X "isinstance" (.builtin "isinstance")) (C : Blt X xT (.type T)) (h : DE X e f) (hn : xT ≠ "__name__" := by decide) (hd : (xT == ("__debug__" : Str)) = false := by decide)
    (he : starEach [e, .Name xT pT] X.env = (false, eval e X.env) :: starEach [.Name xT pT] X.env := by rfl) : DE X (.Call (.Name "isinstance" p) [e, .Name xT pT] [] pos) (fIs T f) := by
  have hc : CallR X (.builtin "isinstance") (fun xs H Q => ∃ HF d v k, xs = [v, .ty T] ∧ Same HF H ∧ Rep X.K HF d v ∧ kit0 (tyName d) T = some k ∧ Q (.bl k) H) := by
    intro pins s σ H xs us Q I r h
    obtain ⟨HF, d, v, k, rfl, sm, rp, hk, q⟩ := h
    cases r with
    | cons ra rr =>
      cases rr with
      | cons rb rn =>
        cases rn
        cases rb
        exact isinst_D I sm rp ra hk fun tk => ⟨.bl k, H, I.tok _, rfl, q⟩
  refine pe_imp (pe_callB hc B.gl B.mg B.bt (pa_cons h (pa_cons (pe_bltn (v := .ty T) C.gl C.mg C.bt rfl hn hd) pa_nil) he) (by decide) (by decide) he rfl) fun σ H Q ⟨HF, ρ, d, sm, eo, hf, q⟩ => ?_
  obtain ⟨x, hx, hf⟩ := bs hf
  obtain ⟨k, hk, rfl⟩ := map_some hf
  exact ⟨HF, ρ, x, sm, eo, hx, fun v1 H1 HF1 g1 r1 => ⟨HF1, x, v1, k, rfl, g1.fh, r1, hk, q _ H1 HF1 g1 (by simp [Rep])⟩⟩
/-! t + u of tuples, of lists -/
def gCat : D → D → Option D
  | .tuple xs, .tuple ys => (small (xs ++ ys)).map PyData.tuple
  | _, _ => none
def rCatAny (K : PySem.W.Frag) : R2 := fun x y H Q => ∃ a b xs ys, x = .ref a ∧ y = .ref b ∧ SqT K H a xs ∧ SqT K H b ys ∧ xs.length + ys.length ≤ sizeLine ∧
  (xs = [] → Q (.ref b) H) ∧ (ys = [] → Q (.ref a) H) ∧ (∀ p, H p = none → Q (.ref p) (upd H p (.tup (xs ++ ys))))
theorem op_catAny : OpR X (binaryOp .Add) (rCatAny X.K) := by
  intro pins s σ H x y v u Q I rx ry h
  obtain ⟨a, b, xs, ys, rfl, rfl, ha, hb, hz, q0, q1, q2⟩ := h
  by_cases hx : xs = []
  · cases rx
    cases ry
    obtain ⟨its, r1, p1, _⟩ := I.tuple ha
    obtain ⟨its2, r2, p2, _⟩ := I.tuple hb
    obtain ⟨⟨cls, dd, data, sl⟩, ho, hc, n, hd⟩ := id p1
    obtain ⟨⟨cls2, dd2, data2, sl2⟩, ho2, hc2, n2, hd2⟩ := id p2
    simp only at hc hd hc2 hd2
    subst hc hd hc2 hd2
    have e : its = [] := (L2.Vals.nil_iff r1).mpr hx
    exact concat_meets ⟨_, ho, rfl⟩ ⟨_, ho2, rfl⟩ noFill_tuple_add seq_tuple_add PySem.F.slot_tuple_add PySem.F.entry_tuple_add (PySem.F.args_tuple_add_2 _ _)
      (tuple_addW0 a b its.toArray its2.toArray n n2 dd dd2 sl sl2 (by simp [e])) ⟨ho, ho2, ⟨.ref b, H, I, rfl, q0 hx⟩⟩
  · exact op_catT pins s σ H _ _ v u Q I rx ry ⟨a, b, xs, ys, rfl, rfl, ha, hb, hx, hz, q1, fun _ p hp => q2 p hp⟩
theorem sem_cat {K : PySem.W.Frag} : Sem2 K (rCatAny K) gCat := by
  intro HF H x y v1 v2 d Q sm r1 r2 hg q
  cases x <;> cases y <;> simp only [gCat] at hg <;> try cases hg
  rename_i xs ys
  obtain ⟨es, h1, rfl⟩ := map_some hg
  obtain ⟨rfl, hz⟩ := small_some h1
  have r1' := r1
  have r2' := r2
  simp only [Rep] at r1 r2
  obtain ⟨a, vs, rfl, ha, ra⟩ := r1
  obtain ⟨b, us, rfl, hb, rb⟩ := r2
  refine ⟨a, b, vs, us, rfl, rfl, same_tup sm ha, same_tup sm hb, by rw [ra.length, rb.length, ← List.length_append]; exact hz, fun e => ?_, fun e => ?_, fun p hp => q _ _ _ (.new sm hp) (rep_newtup (sm.free hp) (ra.append rb))⟩
  · have : xs = [] := by have := ra.length; rw [e] at this; exact List.length_eq_zero_iff.mp this.symm
    subst this
    exact q _ H HF (.refl sm) r2'
  · have : ys = [] := by have := rb.length; rw [e] at this; exact List.length_eq_zero_iff.mp this.symm
    subst this
    rw [List.append_nil] at q
    exact q _ H HF (.refl sm) r1'
end
end Dl
set_option Elab.async false
set_option linter.all false
set_option maxRecDepth 100000
set_option maxHeartbeats 4000000
namespace Dl
open PySem L2 PySem.Spec PyProof.Rows
/-! what is walked, by data -/
structure IterD (K : PySem.W.Frag) (J : It) (HF : Hp) (ds : List D) : Prop where
  go : ∀ i d H₁ HF₁, ds[i]? = some d → Same HF HF₁ → Same HF₁ H₁ → J.go i H₁ ∧ ∀ x H₂, J.yld i H₁ x H₂ → ∃ HF₂, Grow HF₁ H₁ HF₂ H₂ ∧ Rep K HF₂ d x
  stop : ∀ H₁ HF₁, Same HF HF₁ → Same HF₁ H₁ → J.stop ds.length H₁
def tDI (K : PySem.W.Frag) (f : Env → Option (List D)) : TI := fun σ H R => ∃ HF ρ ds, Same HF H ∧ EnvOk K HF ρ σ ∧ f ρ = some ds ∧ ∀ J H' HF', Grow HF H HF' H' → IterD K J HF' ds → R J H'
def DI (X : Cx) (tg iter : Expr) (f : Env → Option (List D)) : Prop := PI X tg iter (tDI X.K f)
theorem iter_list {K : PySem.W.Frag} {HF : Hp} {a : Addr} {ds : List D} {vs : List V} (h : SqL K HF a vs) (r : Reps K HF ds vs) : IterD K (Itl K a) HF ds where
  go := fun i d H₁ HF₁ e s1 s2 => by
    obtain ⟨v, hv, rv⟩ := r.getD e
    have q := s2.seq (s1.seq h)
    refine ⟨⟨vs, v, q, hv⟩, fun x H₂ ⟨e2, hy⟩ => ⟨HF₁, by rw [e2]; exact .refl s2, ?_⟩⟩
    have := hy vs q
    rw [hv] at this
    cases this
    exact rv.mono s1
  stop := fun H₁ HF₁ s1 s2 => ⟨vs, s2.seq (s1.seq h), by rw [r.length]; exact Nat.le_refl _⟩
theorem iter_tup {K : PySem.W.Frag} {HF : Hp} {a : Addr} {ds : List D} {vs : List V} (h : SqT K HF a vs) (r : Reps K HF ds vs) : IterD K (Itt K a) HF ds where
  go := fun i d H₁ HF₁ e s1 s2 => by
    obtain ⟨v, hv, rv⟩ := r.getD e
    have q := same_tup s2 (same_tup s1 h)
    refine ⟨⟨vs, v, q, hv⟩, fun x H₂ ⟨e2, hy⟩ => ⟨HF₁, by rw [e2]; exact .refl s2, ?_⟩⟩
    have := hy vs q
    rw [hv] at this
    cases this
    exact rv.mono s1
  stop := fun H₁ HF₁ s1 s2 => ⟨vs, same_tup s2 (same_tup s1 h), by rw [r.length]; exact Nat.le_refl _⟩
theorem iter_range {K : PySem.W.Frag} {HF : Hp} {lo : Int} {n : Nat} : IterD K (Itr lo n) HF ((List.range n).map fun i => PyData.int (lo + (i : Nat))) where
  go := fun i d H₁ HF₁ e s1 s2 => by
    rw [List.getElem?_map] at e
    obtain ⟨j, hj, rfl⟩ := map_some e
    obtain ⟨hi, hj'⟩ := List.getElem?_eq_some_iff.mp hj
    have hi' : i < n := by simpa using hi
    have : j = i := by rw [← hj']; simp
    subst this
    exact ⟨hi', fun x H₂ ⟨e2, hx⟩ => ⟨HF₁, by rw [e2]; exact .refl s2, by simp [Rep, hx]⟩⟩
  stop := fun H₁ HF₁ s1 s2 => by
    show n ≤ _
    simp
section
variable {X : Cx} {tg l e : Expr} {f : Env → Option D} {fs : Env → Option (List D)} {pos p : Pos}
theorem pi_imp {t t' : TI} (h : PI X tg l t) (i : ∀ σ H R, t' σ H R → t σ H R) : PI X tg l t' := fun pins s σ H R I q => h pins s σ H R I (i σ H R q)
/-- over a list or a tuple -/
theorem pi_seq {tl : TE} (hl : PE X l tl) : PI X tg l (fun σ H R => tl σ H fun x H1 => ∃ a, x = .ref a ∧ ((∃ xs, SqL X.K H1 a xs ∧ R (Itl X.K a) H1) ∨ ∃ xs, SqT X.K H1 a xs ∧ R (Itt X.K a) H1)) := by
  intro pins s σ H R I h
  refine thn (hl pins s σ H _ I h) fun v s1 ⟨x, H1, I1, r1, q1⟩ => ?_
  obtain ⟨a, e, q⟩ := q1
  subst e
  cases r1
  rcases q with ⟨xs, hq, q⟩ | ⟨xs, hq, q⟩
  · obtain ⟨its, rv, pl, hz⟩ := I1.list hq
    refine wpAny_pyIter_list pl.isList ⟨s1.heap.objs.size, [s1.heap.objs.size], _, _, H1, rfl, I1.kept (t' := s1.toks) fun b o e => Heap.get?_push_of_some _ e, turn_list a _, ⟨_, Heap.get?_push_size _ rfl, rfl, rfl⟩, fun b hb => ?_, q⟩
    cases List.mem_singleton.mp hb
    exact I1.fpOk (Nat.le_refl _) I1.fresh
  · obtain ⟨its, rv, pl, hz⟩ := I1.tuple hq
    refine wpAny_pyIter_tuple (show s1.heap.IsTuple a its.toArray from pl) ⟨s1.heap.objs.size, [s1.heap.objs.size], _, _, H1, rfl, I1.kept (t' := s1.toks) fun b o e => Heap.get?_push_of_some _ e, turn_tuple a _, ⟨_, Heap.get?_push_size _ rfl, rfl, rfl⟩, fun b hb => ?_, q⟩
    cases List.mem_singleton.mp hb
    exact I1.fpOk (Nat.le_refl _) I1.fresh
def fSeq (f : Env → Option D) : Env → Option (List D) := fun ρ => (f ρ).bind seqOf
theorem di_seq (h : DE X l f) : DI X tg l (fSeq f) := pi_imp (pi_seq h) fun σ H R ⟨HF, ρ, ds, sm, eo, hf, q⟩ => by
  obtain ⟨x, hx, hf⟩ := bs hf
  refine ⟨HF, ρ, x, sm, eo, hx, fun v1 H1 HF1 g1 r1 => ?_⟩
  rcases seqOf_some hf with rfl | rfl
  · simp only [Rep] at r1
    obtain ⟨a, vs, rfl, hs, rr⟩ := r1
    exact ⟨a, rfl, .inr ⟨vs, same_tup g1.fh hs, q _ H1 HF1 g1 (iter_tup hs rr)⟩⟩
  · simp only [Rep] at r1
    obtain ⟨a, vs, rfl, hs, rr⟩ := r1
    exact ⟨a, rfl, .inl ⟨vs, g1.fh.seq hs, q _ H1 HF1 g1 (iter_list hs rr)⟩⟩
/-- range(n), range(a, b) -/
def okR (i : Int) : Bool := decide (-(2 ^ 62) ≤ i) && decide (i < 2 ^ 62)
def gRange : List D → Option (List D)
  | [.int j] => if okR j then some ((List.range j.toNat).map fun i => PyData.int ((i : Nat) : Int)) else none
  | _ => none
theorem gRange_some {ds es : List D} (h : gRange ds = some es) : ∃ j, ds = [.int j] ∧ okR j = true ∧ es = (List.range j.toNat).map fun i => PyData.int ((i : Nat) : Int) := by
  unfold gRange at h
  split at h
  · split at h
    · cases h; exact ⟨_, rfl, ‹_›, rfl⟩
    · cases h
  · cases h
def fRange (fs : Env → Option (List D)) : Env → Option (List D) := fun ρ => (fs ρ).bind gRange
theorem di_range (B : Blt X "range" (.type "range")) (h : DA X [e] fs) (hs : starEach [e] X.env = [(false, eval e X.env)] := by rfl) : DI X tg (.Call (.Name "range" p) [e] [] pos) (fRange fs) :=
  pi_imp (pi_range1 B.gl B.mg h hs) fun σ H R ⟨HF, ρ, ds, sm, eo, hf, q⟩ => by
    obtain ⟨x, hx, hf⟩ := bs hf
    obtain ⟨j, rfl, hj, rfl⟩ := gRange_some hf
    refine ⟨HF, ρ, _, sm, eo, hx, fun vs H1 HF1 g1 r1 => ?_⟩
    obtain ⟨v, r, rfl, a, b⟩ := r1.cons_inv
    rw [b.nil_inv]
    simp only [Rep] at a
    subst a
    unfold okR at hj
    rw [Bool.and_eq_true] at hj
    refine ⟨j, rfl, of_decide_eq_true hj.1, of_decide_eq_true hj.2, q _ H1 HF1 g1 ?_⟩
    have := iter_range (K := X.K) (HF := HF1) (lo := 0) (n := j.toNat)
    simpa using this
/-! targets of a block -/
def tDG (K : PySem.W.Frag) (f : Env → D → Option Env) : TG := fun v σ H Q => ∃ HF ρ d ρ', Same HF H ∧ EnvOk K HF ρ σ ∧ Rep K HF d v ∧ f ρ d = some ρ' ∧ ∀ σ', EnvOk K HF ρ' σ' → EnvOk K HF ρ σ' → Q σ' H
def DG (X : Cx) (tg : Expr) (f : Env → D → Option Env) : Prop := PG X tg (tDG X.K f)
theorem pg_imp {t t' : TG} (h : PG X tg t) (i : ∀ v σ H Q, t' v σ H Q → t v σ H Q) : PG X tg t' := fun pins s σ H v u Q I r q => h pins s σ H v u Q I r (i v σ H Q q)
def isFree (ρ : Env) (i : Nat) : Bool := ((ρ[i]?).getD none).isNone
theorem env_set {K : PySem.W.Frag} {HF : Hp} {ρ : Env} {σ : L2.St} {i : Nat} {d : D} {v : V} (eo : EnvOk K HF ρ σ) (r : Rep K HF d v) : EnvOk K HF (ρ.set i (some d)) (σ.set i (some v)) := by
  refine ⟨fun j e h => ?_, by rw [List.length_set, List.length_set]; exact eo.len⟩
  rw [List.getElem?_set] at h ⊢
  by_cases hij : i = j
  · rw [if_pos hij] at h ⊢
    by_cases hl : i < ρ.length
    · rw [if_pos hl] at h
      cases h
      rw [if_pos (Nat.lt_of_lt_of_le hl eo.len)]
      exact ⟨v, rfl, r⟩
    · rw [if_neg hl] at h; cases h
  · rw [if_neg hij] at h ⊢
    exact eo.get j e h
theorem env_old {K : PySem.W.Frag} {HF : Hp} {ρ : Env} {σ : L2.St} {i : Nat} {v : V} (eo : EnvOk K HF ρ σ) (hf : isFree ρ i = true) : EnvOk K HF ρ (σ.set i (some v)) := by
  refine ⟨fun j e h => ?_, by rw [List.length_set]; exact eo.len⟩
  have hij : i ≠ j := by
    intro z; subst z
    unfold isFree at hf; rw [h] at hf; cases hf
  rw [List.getElem?_set, if_neg hij]
  exact eo.get j e h
def fG (i : Nat) : Env → D → Option Env := fun ρ d => if isFree ρ i = true then some (ρ.set i (some d)) else none
theorem dg_name (i : Nat) {x : Str} (hN : X.N.Nodup) (hi : X.N[i]? = some x) (hx : Loc X.env.scope x) (hf : X.fn x = true ∨ X.env.scope.names.lookup x = some .local := by first | exact .inl rfl | exact .inr rfl | assumption) : DG X (.Name x pos) (fG i) :=
  pg_imp (pg_name hN hi hx hf) fun v σ H Q ⟨HF, ρ, d, ρ', sm, eo, r, hf, q⟩ => by
    unfold fG at hf
    split at hf
    · cases hf; exact q _ (env_set eo r) (env_old eo ‹_›)
    · cases hf
/-- (a, b) of a tuple -/
def fG2 (i j : Nat) : Env → D → Option Env := fun ρ d => match d with
  | .tuple [x, y] => if isFree ρ i = true ∧ isFree ρ j = true then some ((ρ.set i (some x)).set j (some y)) else none
  | _ => none
theorem dg_two (i j : Nat) {x y : Str} {px py : Pos} {k : Nat} (hc : X.calm = true) (hN : X.N.Nodup) (hi : X.N[i]? = some x) (hx : Loc X.env.scope x) (hj : X.N[j]? = some y) (hy : Loc X.env.scope y)
    (hf : X.fn x = true ∨ X.env.scope.names.lookup x = some .local := by first | exact .inl rfl | exact .inr rfl | assumption) (hf' : X.fn y = true ∨ X.env.scope.names.lookup y = some .local := by first | exact .inl rfl | exact .inr rfl | assumption) :
    DG X (.Tuple [.Name x px, .Name y py] k pos) (fG2 i j) :=
  pg_imp (pg_tup hc (pgs_cons (pg_name hN hi hx hf) (pgs_cons (pg_name hN hj hy hf') pgs_nil))) fun v σ H Q ⟨HF, ρ, d, ρ', sm, eo, r, hf, q⟩ => by
    unfold fG2 at hf
    split at hf
    · rename_i x' y'
      split at hf
      · rename_i hh
        cases hf
        simp only [Rep] at r
        obtain ⟨a, vs, rfl, hs, rr⟩ := r
        obtain ⟨v1, r1, rfl, a1, b1⟩ := rr.cons_inv
        obtain ⟨v2, r2, rfl, a2, b2⟩ := b1.cons_inv
        rw [b2.nil_inv] at hs
        exact ⟨a, _, rfl, same_tup sm hs, rfl, v1, _, rfl, v2, _, rfl, rfl, q _ (env_set (env_set eo a1) a2) (env_old (env_old eo hh.1) hh.2)⟩
      · cases hf
    · cases hf
/-! a block -/
def compL (tgt : Env → D → Option Env) (tt : Env → Option Bool) (te : Env → Option D) (ρ : Env) : List D → Option (List D)
  | [] => some []
  | d :: ds => (tgt ρ d).bind fun ρ' => (tt ρ').bind fun b => if b = true then (te ρ').bind fun x => (compL tgt tt te ρ ds).map (x :: ·) else compL tgt tt te ρ ds
def DTs (X : Cx) (ifs : List Expr) (f : Env → Option Bool) : Prop := PTs X ifs (tDT X.K f)
theorem dts_nil : DTs X [] (fun _ => some true) := fun pins s σ H Q I ⟨HF, ρ, b, sm, eo, hf, q⟩ => pts_nil pins s σ H Q I (by cases hf; exact q H HF (.refl sm))
theorem dts_one {c : Expr} {t : Env → Option Bool} (h : DT X c t) : DTs X [c] t := pts_one h
def capsV (t : Nat) (cs : List Nat) (σ : L2.St) : L2.St := List.replicate t none ++ cs.map fun j => (σ[j]?).getD none
def capsD (t : Nat) (cs : List Nat) (ρ : Env) : Env := List.replicate t none ++ cs.map fun j => (ρ[j]?).getD none
theorem caps_ok {K : PySem.W.Frag} {HF : Hp} {ρ : Env} {σ : L2.St} {t : Nat} {cs : List Nat} (eo : EnvOk K HF ρ σ) : EnvOk K HF (capsD t cs ρ) (capsV t cs σ) := by
  refine ⟨fun i d h => ?_, by simp [capsD, capsV]⟩
  unfold capsD at h
  unfold capsV
  by_cases hi : i < t
  · rw [List.getElem?_append_left (by simpa using hi), List.getElem?_replicate, if_pos hi] at h
    cases h
  · rw [List.getElem?_append_right (by simpa using hi), List.getElem?_map, List.length_replicate] at h
    rw [List.getElem?_append_right (by simpa using hi), List.getElem?_map, List.length_replicate]
    obtain ⟨j, hj, h⟩ := map_some h
    rw [hj]
    cases e : ρ[j]? with
    | none => rw [e] at h; cases h
    | some o =>
      rw [e] at h
      have h : o = some d := h
      subst h
      obtain ⟨v, a, b⟩ := eo.get j d e
      exact ⟨v, by show some ((σ[j]?).getD none) = _; rw [a]; rfl, b⟩
def fComp (t : Nat) (cs : List Nat) (fi : Env → Option (List D)) (tgt : Env → D → Option Env) (tt : Env → Option Bool) (te : Env → Option D) : Env → Option (List D) := fun ρ => (fi ρ).bind fun ds => (compL tgt tt te (capsD t cs ρ) ds).bind small
variable {elt iter : Expr} {ifs : List Expr} {scope : Scope} {N : List Str} {t : Nat} {cs : List Nat} {fi : Env → Option (List D)} {tgt : Env → D → Option Env} {tt : Env → Option Bool} {te : Env → Option D}
theorem t_comp : ∀ σ H Q, tF X.K (fComp t cs fi tgt tt te) σ H Q → tComp (tDI X.K fi) (tDG X.K tgt) (tDT X.K tt) (tD X.K te) (capsV t cs) σ H Q := fun σ H Q ⟨HF, ρ, out, sm, eo, hf, q⟩ => by
  obtain ⟨ds, hx, hf⟩ := bs hf
  obtain ⟨out', ho, hf⟩ := bs hf
  obtain ⟨rfl, hz⟩ := small_some hf
  refine ⟨HF, ρ, ds, sm, eo, hx, fun J H1 HF1 g1 it Dn hD => ?_⟩
  have eo1 := caps_ok (t := t) (cs := cs) (eo.mono g1.ff)
  have hFD : HF1 Dn = none := g1.fh.free hD
  refine ⟨fun i m σ' H' => m + i = ds.length ∧ ∃ HF' xs ys rest, Grow HF1 H1 HF' H' ∧ HF' Dn = none ∧ H' Dn = some (.lst ys) ∧ Reps X.K HF' xs ys ∧ EnvOk X.K HF' (capsD t cs ρ) σ' ∧ compL tgt tt te (capsD t cs ρ) (ds.drop i) = some rest ∧ xs ++ rest = out,
    ⟨ds.length, rfl, HF1, [], [], out, .own g1.fh hD, hFD, upd_same, Reps.nil, eo1, ho, rfl⟩, ?_⟩
  rintro i m σ' H' ⟨hm, HF', xs, ys, rest, G, hFD', hHD, rr, eo', hc, hout⟩
  by_cases hi : i < ds.length
  · refine .inr ?_
    have hd : ds.drop i = ds[i] :: ds.drop (i + 1) := List.drop_eq_getElem_cons hi
    have he : ds[i]? = some ds[i] := List.getElem?_eq_some_iff.mpr ⟨hi, rfl⟩
    generalize ds[i] = d at hd he
    rw [hd] at hc
    unfold compL at hc
    obtain ⟨ρ', h1, hc⟩ := bs hc
    obtain ⟨b, h2, hc⟩ := bs hc
    obtain ⟨go, yld⟩ := it.go i d H' HF' he G.ff G.fh
    refine ⟨go, fun x H2 y => ?_⟩
    obtain ⟨HF2, G2, rx⟩ := yld x H2 y
    refine ⟨HF2, _, d, ρ', G2.fh, eo'.mono G2.ff, rx, h1, fun σ2 eo2 eo2' => ?_⟩
    refine ⟨HF2, ρ', b, G2.fh, eo2, h2, fun H3 HF3 G3 => ?_⟩
    have nof : ∀ HF4 H4, Grow HF' H' HF4 H4 → HF4 Dn = none := fun HF4 H4 G4 => by
      cases e4 : HF4 Dn with
      | none => rfl
      | some o =>
        rcases G4.nw Dn o e4 with z | z
        · rw [hFD'] at z; cases z
        · rw [hHD] at z; cases z
    cases b with
    | false =>
      refine iteF ⟨m - 1, by omega, by omega, HF3, xs, ys, rest, (G.trans G2).trans G3, nof _ _ (G2.trans G3), (G2.trans G3).hh _ _ hHD, rr.mono (G2.trans G3).ff, eo2'.mono G3.ff, by simpa using hc, hout⟩
    | true =>
      rw [if_pos rfl] at hc
      obtain ⟨z, h3, hc⟩ := bs hc
      obtain ⟨rest', h4, rfl⟩ := map_some hc
      refine iteT ⟨HF3, ρ', z, G3.fh, eo2.mono G3.ff, h3, fun v H4 HF4 G4 rv => ?_⟩
      have GG := (G2.trans G3).trans G4
      have n4 := nof _ _ GG
      have h4D := GG.hh _ _ hHD
      have hlen : ys.length < sizeLine := by
        have e1 := rr.length
        have e2 : out.length = xs.length + (rest'.length + 1) := by rw [← hout]; simp
        omega
      refine ⟨ys, h4D, hlen, m - 1, by omega, by omega, HF4, xs ++ [z], ys ++ [v], rest', ?_, n4, upd_same, (rr.mono GG.ff).append (Reps.cons rv Reps.nil), eo2'.mono (G3.ff.trans G4.ff), h4, by simp [← hout]⟩
      have G5 := G.trans GG
      refine ⟨fun b o e => ?_, G5.ff, fun b o e => ?_, G5.nw⟩
      · rw [upd_ne (ne_of_none e hD)]; exact G5.hh b o e
      · rw [upd_ne (ne_of_none e n4)]; exact G5.fh b o e
  · have hi' : i = ds.length := by omega
    subst hi'
    rw [List.drop_length] at hc
    cases hc
    rw [List.append_nil] at hout
    subst hout
    exact .inl ⟨it.stop H' HF' G.ff G.fh, q Dn ys H' HF' (g1.trans G) (g1.hh.free hD) hFD' hHD rr⟩
theorem df_comp (hc : X.calm = true) (S : CompSc X scope N (capsV t cs)) (hi : DI X tg iter fi)
    (hY : ∀ fp s H, DG (cxComp X scope N fp s H) tg tgt ∧ DTs (cxComp X scope N fp s H) ifs tt ∧ DE (cxComp X scope N fp s H) elt te)
    (hs : ∀ x, foldedSetIterable iter X.env x = pure x := by intro _; rfl) : DF X (.ListComp elt [⟨tg, iter, ifs, 0⟩] scope pos) (fComp t cs fi tgt tt te) := pe_imp (pe_comp (g := tDG X.K tgt) (tt := tDT X.K tt) (te := tD X.K te) hc S hi hY hs) t_comp
end
end Dl
set_option Elab.async false
set_option linter.all false
set_option maxRecDepth 100000
set_option maxHeartbeats 4000000
namespace Dl
open PySem L2 PySem.Spec PyProof.Rows
/-- a name's slot: nothing known, a value, a list that no one else holds -/
inductive Slot where
  | non | val (d : D) | own (ds : List D)
abbrev SEnv := List Slot
def Slot.all : Slot → Option D | .non => none | .val d => some d | .own ds => some (.list ds)
def Slot.frz : Slot → Option D | .val d => some d | _ => none
def Slot.thaw : Slot → Slot | .own ds => .val (.list ds) | s => s
def vAll (ρ : SEnv) : Env := ρ.map Slot.all
def vFrz (ρ : SEnv) : Env := ρ.map Slot.frz
def hand (fz : List Nat) : Nat → SEnv → SEnv
  | _, [] => []
  | k, s :: r => (if fz.contains k = true then s.thaw else s) :: hand fz (k + 1) r
theorem hand_get (fz : List Nat) : ∀ (ρ : SEnv) (k i : Nat), (hand fz k ρ)[i]? = (ρ[i]?).map fun s => if fz.contains (k + i) = true then s.thaw else s
  | [], k, i => by simp [hand]
  | s :: r, k, 0 => by simp [hand]
  | s :: r, k, i + 1 => by
    simp only [hand, List.getElem?_cons_succ]
    rw [hand_get fz r (k + 1) i, Nat.add_assoc, Nat.add_comm 1 i]
theorem hand_len (fz : List Nat) : ∀ (ρ : SEnv) (k : Nat), (hand fz k ρ).length = ρ.length
  | [], k => rfl
  | s :: r, k => by simp [hand, hand_len fz r (k + 1)]
structure SOk (K : PySem.W.Frag) (HF₀ H₀ HF H : Hp) (ρ : SEnv) (σ : L2.St) : Prop where
  gr : Grow HF₀ H₀ HF H
  val : ∀ (i : Nat) (d : D), ρ[i]? = some (.val d) → ∃ v, σ[i]? = some (some v) ∧ Rep K HF d v
  own : ∀ (i : Nat) (ds : List D), ρ[i]? = some (.own ds) → ∃ a vs, σ[i]? = some (some (.ref a)) ∧ H a = some (.lst vs) ∧ HF a = none ∧ H₀ a = none ∧ Reps K HF ds vs
  inj : ∀ (i j : Nat) (ds es : List D) (a : Addr), ρ[i]? = some (.own ds) → ρ[j]? = some (.own es) → σ[i]? = some (some (.ref a)) → σ[j]? = some (some (.ref a)) → i = j
  len : ρ.length ≤ σ.length
section
variable {K : PySem.W.Frag} {HF₀ H₀ HF H HF' H' : Hp} {ρ : SEnv} {σ : L2.St}
theorem SOk.all (S : SOk K HF₀ H₀ HF H ρ σ) : EnvOk K H (vAll ρ) σ := by
  refine ⟨fun i d h => ?_, by simpa [vAll] using S.len⟩
  unfold vAll at h
  rw [List.getElem?_map] at h
  obtain ⟨s, hs, h⟩ := map_some h
  cases s with
  | non => cases h
  | val e => cases h; obtain ⟨v, a, b⟩ := S.val i _ hs; exact ⟨v, a, b.mono S.gr.fh⟩
  | own ds =>
    cases h
    obtain ⟨a, vs, e1, e2, e3, _, e4⟩ := S.own i ds hs
    exact ⟨.ref a, e1, by simp only [Rep]; exact ⟨a, vs, rfl, SqL.of e2, e4.mono S.gr.fh⟩⟩
theorem SOk.frz (S : SOk K HF₀ H₀ HF H ρ σ) : EnvOk K HF (vFrz ρ) σ := by
  refine ⟨fun i d h => ?_, by simpa [vFrz] using S.len⟩
  unfold vFrz at h
  rw [List.getElem?_map] at h
  obtain ⟨s, hs, h⟩ := map_some h
  cases s with
  | non => cases h
  | val e => cases h; exact S.val i _ hs
  | own ds => cases h
theorem SOk.grow (S : SOk K HF₀ H₀ HF H ρ σ) (g : Grow HF H HF' H') : SOk K HF₀ H₀ HF' H' ρ σ where
  gr := S.gr.trans g
  val := fun i d h => let ⟨v, a, b⟩ := S.val i d h; ⟨v, a, b.mono g.ff⟩
  own := fun i ds h => by
    obtain ⟨a, vs, e1, e2, e3, e5, e4⟩ := S.own i ds h
    refine ⟨a, vs, e1, g.hh _ _ e2, ?_, e5, e4.mono g.ff⟩
    cases e : HF' a with
    | none => rfl
    | some o =>
      rcases g.nw a o e with z | z
      · rw [e3] at z; cases z
      · rw [e2] at z; cases z
  inj := S.inj
  len := S.len
theorem SOk.step (S : SOk K HF₀ H₀ HF H ρ σ) (g : Same H H') : SOk K HF₀ H₀ HF H' ρ σ := S.grow ⟨g, .refl _, S.gr.fh.trans g, fun _ _ e => .inl e⟩
/-- some lists are handed on -/
theorem SOk.hand (S : SOk K HF₀ H₀ HF H ρ σ) (fz : List Nat) : ∃ HF1, Same HF HF1 ∧ SOk K HF₀ H₀ HF1 H (hand fz 0 ρ) σ := by
  let P : Addr → Prop := fun a => ∃ i ds, fz.contains i = true ∧ ρ[i]? = some (.own ds) ∧ σ[i]? = some (some (.ref a))
  have cl := Classical.propDecidable
  let HF1 : Hp := fun a => if P a then H a else HF a
  have hP : ∀ a, P a → HF a = none ∧ H₀ a = none := fun a ⟨i, ds, _, h1, h2⟩ => by
    obtain ⟨a', vs, e1, e2, e3, e5, e4⟩ := S.own i ds h1
    rw [h2] at e1
    cases e1
    exact ⟨e3, e5⟩
  have s1 : Same HF HF1 := fun b o e => by
    show (if P b then H b else HF b) = some o
    by_cases h : P b
    · rw [(hP b h).1] at e; cases e
    · rw [if_neg h]; exact e
  have s2 : Same HF1 H := fun b o e => by
    have e : (if P b then H b else HF b) = some o := e
    by_cases h : P b
    · rw [if_pos h] at e; exact e
    · rw [if_neg h] at e; exact S.gr.fh b o e
  refine ⟨HF1, s1, ⟨S.gr.hh, S.gr.ff.trans s1, s2, fun b o e => ?_⟩, fun i d h => ?_, fun i ds h => ?_, fun i j ds es a h1 h2 => ?_, by rw [hand_len]; exact S.len⟩
  · have e : (if P b then H b else HF b) = some o := e
    by_cases h : P b
    · exact .inr (hP b h).2
    · rw [if_neg h] at e; exact S.gr.nw b o e
  · rw [hand_get] at h
    obtain ⟨s, hs, h⟩ := map_some h
    rw [Nat.zero_add] at h
    cases s with
    | non => split at h <;> cases h
    | val e =>
      have : Slot.val e = Slot.val d := by split at h <;> exact h
      cases this
      obtain ⟨v, a, b⟩ := S.val i _ hs
      exact ⟨v, a, b.mono s1⟩
    | own ds =>
      split at h
      · rename_i hc
        cases h
        obtain ⟨a, vs, e1, e2, e3, e5, e4⟩ := S.own i ds hs
        refine ⟨.ref a, e1, ?_⟩
        simp only [Rep]
        refine ⟨a, vs, rfl, .inl (.inl ?_), e4.mono s1⟩
        show (if P a then H a else HF a) = _
        rw [if_pos ⟨i, ds, hc, hs, e1⟩]
        exact e2
      · cases h
  · rw [hand_get] at h
    obtain ⟨s, hs, h⟩ := map_some h
    rw [Nat.zero_add] at h
    cases s with
    | non => split at h <;> cases h
    | val e => split at h <;> cases h
    | own es =>
      split at h
      · cases h
      · rename_i hc
        cases h
        obtain ⟨a, vs, e1, e2, e3, e5, e4⟩ := S.own i ds hs
        refine ⟨a, vs, e1, e2, ?_, e5, e4.mono s1⟩
        show (if P a then H a else HF a) = none
        rw [if_neg ?_]
        · exact e3
        · rintro ⟨j, es, hj, h1, h2⟩
          have := S.inj i j ds es a hs h1 e1 h2
          subst this
          exact hc hj
  · rw [hand_get] at h1 h2
    obtain ⟨s, hs, h1⟩ := map_some h1
    obtain ⟨s', hs', h2⟩ := map_some h2
    rw [Nat.zero_add] at h1 h2
    cases s with
    | non => split at h1 <;> cases h1
    | val e => split at h1 <;> cases h1
    | own xs =>
      cases s' with
      | non => split at h2 <;> cases h2
      | val e => split at h2 <;> cases h2
      | own ys => exact S.inj i j _ _ a hs hs'
theorem SOk.setV (S : SOk K HF₀ H₀ HF H ρ σ) {i : Nat} {d : D} {v : V} (r : Rep K HF d v) : SOk K HF₀ H₀ HF H (ρ.set i (.val d)) (σ.set i (some v)) := by
  have ne : ∀ {j : Nat} {s : Slot}, (ρ.set i (.val d))[j]? = some s → (∀ e, s ≠ .val e) → i ≠ j ∧ ρ[j]? = some s := fun {j s} h hn => by
    rw [List.getElem?_set] at h
    by_cases hij : i = j
    · rw [if_pos hij] at h
      split at h
      · cases h; exact absurd rfl (hn _)
      · cases h
    · rw [if_neg hij] at h; exact ⟨hij, h⟩
  refine ⟨S.gr, fun j e h => ?_, fun j ds h => ?_, fun j k ds es a h1 h2 h3 h4 => ?_, by rw [List.length_set, List.length_set]; exact S.len⟩
  · rw [List.getElem?_set] at h ⊢
    by_cases hij : i = j
    · rw [if_pos hij] at h ⊢
      split at h
      · rename_i hl
        cases h
        rw [if_pos (Nat.lt_of_lt_of_le hl S.len)]
        exact ⟨v, rfl, r⟩
      · cases h
    · rw [if_neg hij] at h ⊢
      exact S.val j e h
  · obtain ⟨hij, h⟩ := ne h fun e z => by cases z
    rw [List.getElem?_set, if_neg hij]
    exact S.own j ds h
  · obtain ⟨n1, h1⟩ := ne h1 fun e z => by cases z
    obtain ⟨n2, h2⟩ := ne h2 fun e z => by cases z
    rw [List.getElem?_set, if_neg n1] at h3
    rw [List.getElem?_set, if_neg n2] at h4
    exact S.inj j k ds es a h1 h2 h3 h4
/-- a list of our own is stored, or changed -/
theorem SOk.setO (S : SOk K HF₀ H₀ HF H ρ σ) {i : Nat} {ds : List D} {a : Addr} {vs : List V} (hs : Same H H') (h1 : H' a = some (.lst vs)) (h2 : HF a = none) (h3 : H₀ a = none) (r : Reps K HF ds vs)
    (fr : ∀ j es, i ≠ j → ρ[j]? = some (.own es) → σ[j]? ≠ some (some (.ref a))) : SOk K HF₀ H₀ HF H' (ρ.set i (.own ds)) (σ.set i (some (.ref a))) := by
  have S := S.step hs
  refine ⟨S.gr, fun j e h => ?_, fun j es h => ?_, fun j k xs ys b e1 e2 e3 e4 => ?_, by rw [List.length_set, List.length_set]; exact S.len⟩
  · rw [List.getElem?_set] at h ⊢
    by_cases hij : i = j
    · rw [if_pos hij] at h
      split at h <;> cases h
    · rw [if_neg hij] at h ⊢
      exact S.val j e h
  · rw [List.getElem?_set] at h ⊢
    by_cases hij : i = j
    · rw [if_pos hij] at h ⊢
      split at h
      · rename_i hl
        cases h
        rw [if_pos (Nat.lt_of_lt_of_le hl S.len)]
        exact ⟨a, vs, rfl, h1, h2, h3, r⟩
      · cases h
    · rw [if_neg hij] at h ⊢
      exact S.own j es h
  · rw [List.getElem?_set] at e1 e2 e3 e4
    by_cases hij : i = j
    · by_cases hik : i = k
      · exact hij.symm.trans hik
      · rw [if_pos hij] at e1 e3
        rw [if_neg hik] at e2 e4
        split at e3
        · cases e3; exact absurd e4 (fr k ys hik e2)
        · cases e3
    · by_cases hik : i = k
      · rw [if_neg hij] at e1 e3
        rw [if_pos hik] at e2 e4
        split at e4
        · cases e4; exact absurd e3 (fr j xs hij e1)
        · cases e4
      · rw [if_neg hij] at e1 e3
        rw [if_neg hik] at e2 e4
        exact S.inj j k xs ys b e1 e2 e3 e4
end
/-- how a statement ends -/
inductive Out where
  | nx (ρ : SEnv) | rt (d : D)
def OutOk (K : PySem.W.Frag) (HF₀ H₀ HF : Hp) (E : Ends) : Out → Prop
  | .nx ρ' => ∀ σ' H' HF', SOk K HF₀ H₀ HF' H' ρ' σ' → Same HF HF' → E.nx σ' H'
  | .rt d => ∀ v H' HF', Grow HF₀ H₀ HF' H' → Rep K HF' d v → E.rt v H'
def tS (K : PySem.W.Frag) (HF₀ H₀ : Hp) (g : SEnv → Option Out) : TS := fun E σ H => ∃ HF ρ o, SOk K HF₀ H₀ HF H ρ σ ∧ g ρ = some o ∧ OutOk K HF₀ H₀ HF E o
def DS (X : Cx) (HF₀ H₀ : Hp) (st : Stmt) (g : SEnv → Option Out) : Prop := PS X st (tS X.K HF₀ H₀ g)
def DSs (X : Cx) (HF₀ H₀ : Hp) (st : List Stmt) (g : SEnv → Option Out) : Prop := PSs X st (tS X.K HF₀ H₀ g)
section
variable {X : Cx} {HF₀ H₀ : Hp} {st : Stmt} {rest : List Stmt} {g g1 g2 : SEnv → Option Out} {e : Expr} {pos : Pos}
theorem ps_imp {t t' : TS} (h : PS X st t) (i : ∀ E σ H, t' E σ H → t E σ H) : PS X st t' := fun pins s σ H E I q => h pins s σ H E I (i E σ H q)
theorem pss_imp {t t' : TS} (h : PSs X rest t) (i : ∀ E σ H, t' E σ H → t E σ H) : PSs X rest t' := fun pins s σ H E I q => h pins s σ H E I (i E σ H q)
def gNx : SEnv → Option Out := fun ρ => some (.nx ρ)
def gSeq (g1 g2 : SEnv → Option Out) : SEnv → Option Out := fun ρ => (g1 ρ).bind fun | .nx ρ' => g2 ρ' | .rt d => some (.rt d)
theorem OutOk.mono {K : PySem.W.Frag} {HF HF' : Hp} {E : Ends} {o : Out} (s : Same HF HF') (h : OutOk K HF₀ H₀ HF E o) : OutOk K HF₀ H₀ HF' E o := by
  cases o with
  | nx ρ' => exact fun σ' H' HF2 S s2 => h σ' H' HF2 S (s.trans s2)
  | rt d => exact h
theorem dss_nil : DSs X HF₀ H₀ [] gNx := pss_imp pss_nil fun E σ H ⟨HF, ρ, o, S, hg, q⟩ => by cases hg; exact q σ H HF S (.refl _)
theorem dss_cons (h1 : DS X HF₀ H₀ st g1) (h2 : DSs X HF₀ H₀ rest g2) : DSs X HF₀ H₀ (st :: rest) (gSeq g1 g2) := pss_imp (pss_cons h1 h2) fun E σ H ⟨HF, ρ, o, S, hg, q⟩ => by
  obtain ⟨o1, h, hg⟩ := bs hg
  refine ⟨HF, ρ, o1, S, h, ?_⟩
  cases o1 with
  | nx ρ' => exact fun σ' H' HF' S' s => ⟨HF', ρ', o, S', hg, q.mono s⟩
  | rt d => cases hg; exact q
theorem dss_one (h1 : DS X HF₀ H₀ st g1) : DSs X HF₀ H₀ [st] g1 := pss_one h1
/-! if, return -/
def gIf (t : Env → Option Bool) (g1 g2 : SEnv → Option Out) : SEnv → Option Out := fun ρ => (t (vAll ρ)).bind fun b => if b = true then g1 ρ else g2 ρ
theorem ds_if {c : Expr} {a b : List Stmt} {t : Env → Option Bool} (hc : DT X c t) (ha : DSs X HF₀ H₀ a g1) (hb : DSs X HF₀ H₀ b g2) : DS X HF₀ H₀ (.If c a b pos) (gIf t g1 g2) := ps_imp (ps_if hc ha hb) fun E σ H ⟨HF, ρ, o, S, hg, q⟩ => by
  obtain ⟨b, h, hg⟩ := bs hg
  refine ⟨H, vAll ρ, b, .refl _, S.all, h, fun H' HF' G => ?_⟩
  cases b with
  | true => exact iteT ⟨HF, ρ, o, S.step G.hh, hg, q⟩
  | false => exact iteF ⟨HF, ρ, o, S.step G.hh, hg, q⟩
theorem all_hand : ∀ (ρ : SEnv) (k n : Nat), k + ρ.length ≤ n → vFrz (hand (List.range n) k ρ) = vAll ρ
  | [], k, n, h => rfl
  | s :: r, k, n, h => by
    have hk : (List.range n).contains k = true := by simp at h ⊢; omega
    have ih := all_hand r (k + 1) n (by simp at h; omega)
    unfold vFrz vAll at ih ⊢
    rw [hand, if_pos hk, List.map_cons, List.map_cons, ih]
    cases s <;> rfl
def gRet (f : Env → Option D) : SEnv → Option Out := fun ρ => (f (vAll ρ)).map Out.rt
theorem ds_ret {f : Env → Option D} (h : DE X e f) : DS X HF₀ H₀ (.Return (some e) pos) (gRet f) := ps_imp (ps_ret h) fun E σ H ⟨HF, ρ, o, S, hg, q⟩ => by
  obtain ⟨d, h, rfl⟩ := map_some hg
  obtain ⟨HF1, s1, S1⟩ := S.hand (List.range ρ.length)
  refine ⟨HF1, vAll ρ, d, S1.gr.fh, ?_, h, fun v H' HF' G r => q v H' HF' (S1.gr.trans G) r⟩
  have := S1.frz
  rw [all_hand ρ 0 ρ.length (by omega)] at this
  exact this
/-! name = value -/
def scal : D → Bool | .none => true | .bool _ => true | .int _ => true | .str _ => true | _ => false
theorem scal_rep {K : PySem.W.Frag} {HF HF' : Hp} {d : D} {v : V} (h : scal d = true) (r : Rep K HF d v) : Rep K HF' d v := by
  cases d <;> cases h <;> (simp only [Rep] at r ⊢; exact r)
def gSet (i : Nat) (fz : List Nat) (f : Env → Option D) : SEnv → Option Out := fun ρ => (f (vAll ρ)).bind fun d => if scal d = true then some (.nx (ρ.set i (.val d))) else (f (vFrz (hand fz 0 ρ))).map fun d' => .nx ((hand fz 0 ρ).set i (.val d'))
theorem t_set {i : Nat} {fz : List Nat} {f : Env → Option D} : ∀ E σ H, tS X.K HF₀ H₀ (gSet i fz f) E σ H → tAsg (tD X.K f) (gName i) E σ H := fun E σ H ⟨HF, ρ, o, S, hg, q⟩ => by
  obtain ⟨d, h, hg⟩ := bs hg
  split at hg
  · rename_i hs
    cases hg
    exact ⟨H, vAll ρ, d, .refl _, S.all, h, fun v H' HF' G r => q _ H' HF ((S.step G.hh).setV (scal_rep hs r)) (.refl _)⟩
  · obtain ⟨d', h', rfl⟩ := map_some hg
    obtain ⟨HF1, s1, S1⟩ := S.hand fz
    exact ⟨HF1, _, d', S1.gr.fh, S1.frz, h', fun v H' HF' G r => q _ H' HF' ((S1.grow G).setV r) (s1.trans G.ff)⟩
theorem ds_set (i : Nat) (fz : List Nat) {x : Str} {f : Env → Option D} {pos' : Pos} (hN : X.N.Nodup) (hi : X.N[i]? = some x) (hx : Loc X.env.scope x) (he : DE X e f) (hs : swapsWith e (some (.Name x pos')) pos.line X.env = pure false := by rfl)
    (hf : X.fn x = true ∨ X.env.scope.names.lookup x = some .local := by first | exact .inl rfl | exact .inr rfl | assumption) : DS X HF₀ H₀ (.Assign [.Name x pos'] e pos) (gSet i fz f) := ps_imp (ps_set hN hi hx he hs hf) t_set
/-- name = a list of its own -/
def gSetF (i : Nat) (fz : List Nat) (f : Env → Option (List D)) : SEnv → Option Out := fun ρ => (f (vFrz (hand fz 0 ρ))).map fun ds => .nx ((hand fz 0 ρ).set i (.own ds))
theorem t_setF {i : Nat} {fz : List Nat} {f : Env → Option (List D)} : ∀ E σ H, tS X.K HF₀ H₀ (gSetF i fz f) E σ H → tAsg (tF X.K f) (gName i) E σ H := fun E σ H ⟨HF, ρ, o, S, hg, q⟩ => by
  obtain ⟨ds, h, rfl⟩ := map_some hg
  obtain ⟨HF1, s1, S1⟩ := S.hand fz
  refine ⟨HF1, _, ds, S1.gr.fh, S1.frz, h, fun a vs H' HF' G ha hf h' r => q _ H' HF' ?_ (s1.trans G.ff)⟩
  have S2 := S1.grow G
  refine S2.setO (.refl _) h' hf (S1.gr.hh.free ha) r fun j es _ hj z => ?_
  obtain ⟨b, us, e1, e2, _⟩ := S1.own j es hj
  rw [e1] at z
  cases z
  rw [ha] at e2; cases e2
theorem ds_setF (i : Nat) (fz : List Nat) {x : Str} {f : Env → Option (List D)} {pos' : Pos} (hN : X.N.Nodup) (hi : X.N[i]? = some x) (hx : Loc X.env.scope x) (he : DF X e f) (hs : swapsWith e (some (.Name x pos')) pos.line X.env = pure false := by rfl)
    (hf : X.fn x = true ∨ X.env.scope.names.lookup x = some .local := by first | exact .inl rfl | exact .inr rfl | assumption) : DS X HF₀ H₀ (.Assign [.Name x pos'] e pos) (gSetF i fz f) := ps_imp (ps_set hN hi hx he hs hf) t_setF
theorem ds_setC (i : Nat) (fz : List Nat) {y : Str} {py spos : Pos} {tg iter elt : Expr} {ifs : List Expr} {scope : Scope} {N : List Str} {t : Nat} {cs : List Nat} {fi : Env → Option (List D)} {tgt : Env → D → Option Env} {tt : Env → Option Bool} {te : Env → Option D}
    (hc : X.calm = true) (S : CompSc X scope N (capsV t cs)) (hi : DI X tg iter fi)
    (hY : ∀ fp s H, DG (cxComp X scope N fp s H) tg tgt ∧ DTs (cxComp X scope N fp s H) ifs tt ∧ DE (cxComp X scope N fp s H) elt te)
    (hN : X.N.Nodup) (hiy : X.N[i]? = some y) (hy : X.env.scope.names.lookup y = some .local)
    (hsw : swapsWith (.ListComp elt [⟨tg, iter, ifs, 0⟩] scope pos) (some (.Name y py)) spos.line X.env = pure true)
    (hs : ∀ x, foldedSetIterable iter X.env x = pure x := by intro _; rfl) : DS X HF₀ H₀ (.Assign [.Name y py] (.ListComp elt [⟨tg, iter, ifs, 0⟩] scope pos) spos) (gSetF i fz (fComp t cs fi tgt tt te)) :=
  ps_imp (ps_comp (g := tDG X.K tgt) (tt := tDT X.K tt) (te := tD X.K te) hc S hi hY hN hiy hy hsw hs) fun E σ H q => by
    have := t_setF E σ H q
    exact t_comp σ H _ this
/-! for -/
def tSG (K : PySem.W.Frag) (HF₀ H₀ : Hp) (f : SEnv → D → Option SEnv) : TG := fun v σ H Q => ∃ HF ρ d ρ', SOk K HF₀ H₀ HF H ρ σ ∧ Rep K HF d v ∧ f ρ d = some ρ' ∧ ∀ σ', SOk K HF₀ H₀ HF H ρ' σ' → Q σ' H
def DSG (X : Cx) (HF₀ H₀ : Hp) (tg : Expr) (f : SEnv → D → Option SEnv) : Prop := PG X tg (tSG X.K HF₀ H₀ f)
def fSG (i : Nat) : SEnv → D → Option SEnv := fun ρ d => some (ρ.set i (.val d))
theorem dsg_name (i : Nat) {x : Str} (hN : X.N.Nodup) (hi : X.N[i]? = some x) (hx : Loc X.env.scope x) (hf : X.fn x = true ∨ X.env.scope.names.lookup x = some .local := by first | exact .inl rfl | exact .inr rfl | assumption) : DSG X HF₀ H₀ (.Name x pos) (fSG i) :=
  pg_imp (pg_name hN hi hx hf) fun v σ H Q ⟨HF, ρ, d, ρ', S, r, hf, q⟩ => by cases hf; exact q _ (S.setV r)
def fSG2 (i j : Nat) : SEnv → D → Option SEnv := fun ρ d => match d with
  | .tuple [x, y] => some ((ρ.set i (.val x)).set j (.val y))
  | _ => none
theorem dsg_two (i j : Nat) {x y : Str} {px py : Pos} {k : Nat} (hc : X.calm = true) (hN : X.N.Nodup) (hi : X.N[i]? = some x) (hx : Loc X.env.scope x) (hj : X.N[j]? = some y) (hy : Loc X.env.scope y)
    (hf : X.fn x = true ∨ X.env.scope.names.lookup x = some .local := by first | exact .inl rfl | exact .inr rfl | assumption) (hf' : X.fn y = true ∨ X.env.scope.names.lookup y = some .local := by first | exact .inl rfl | exact .inr rfl | assumption) :
    DSG X HF₀ H₀ (.Tuple [.Name x px, .Name y py] k pos) (fSG2 i j) :=
  pg_imp (pg_tup hc (pgs_cons (pg_name hN hi hx hf) (pgs_cons (pg_name hN hj hy hf') pgs_nil))) fun v σ H Q ⟨HF, ρ, d, ρ', S, r, hf, q⟩ => by
    unfold fSG2 at hf
    split at hf
    · cases hf
      simp only [Rep] at r
      obtain ⟨a, vs, rfl, hs, rr⟩ := r
      obtain ⟨v1, r1, rfl, a1, b1⟩ := rr.cons_inv
      obtain ⟨v2, r2, rfl, a2, b2⟩ := b1.cons_inv
      rw [b2.nil_inv] at hs
      exact ⟨a, _, rfl, same_tup S.gr.fh hs, rfl, v1, _, rfl, v2, _, rfl, rfl, q _ ((S.setV a1).setV a2)⟩
    · cases hf
def forD (tgt : SEnv → D → Option SEnv) (gb : SEnv → Option Out) : List D → SEnv → Option Out
  | [], ρ => some (.nx ρ)
  | d :: ds, ρ => (tgt ρ d).bind fun ρ1 => (gb ρ1).bind fun | .nx ρ2 => forD tgt gb ds ρ2 | .rt v => some (.rt v)
def gFor (fz : List Nat) (fi : Env → Option (List D)) (tgt : SEnv → D → Option SEnv) (gb : SEnv → Option Out) : SEnv → Option Out := fun ρ => (fi (vFrz (hand fz 0 ρ))).bind fun ds => forD tgt gb ds (hand fz 0 ρ)
theorem ds_for (fz : List Nat) {tg iter : Expr} {body : List Stmt} {fi : Env → Option (List D)} {tgt : SEnv → D → Option SEnv} {gb : SEnv → Option Out} (hp : PassesOwn (model X.prog X.w) X.A X.env X.xe) (hc : X.calm = true) (hi : DI X tg iter fi) (hg : DSG X HF₀ H₀ tg tgt) (hb : DSs X HF₀ H₀ body gb)
    (hs : ∀ x, foldedSetIterable iter X.env x = pure x := by intro _; rfl) : DS X HF₀ H₀ (.For tg iter body [] pos) (gFor fz fi tgt gb) := ps_imp (ps_for hp hc hi hg hb hs) fun E σ H ⟨HF, ρ, o, S, hg, q⟩ => by
  obtain ⟨ds, h, hg⟩ := bs hg
  obtain ⟨HF1, s1, S1⟩ := S.hand fz
  refine ⟨HF1, _, ds, S1.gr.fh, S1.frz, h, fun J H2 HF2 G it => ?_⟩
  refine ⟨fun i m σ' H' => m + i = ds.length ∧ ∃ HF' ρ', SOk X.K HF₀ H₀ HF' H' ρ' σ' ∧ Same HF2 HF' ∧ forD tgt gb (ds.drop i) ρ' = some o, ⟨ds.length, rfl, HF2, _, S1.grow G, .refl _, hg⟩, ?_⟩
  rintro i m σ' H' ⟨hm, HF', ρ', S', s', hf⟩
  by_cases hi : i < ds.length
  · refine .inr ?_
    have hd : ds.drop i = ds[i] :: ds.drop (i + 1) := List.drop_eq_getElem_cons hi
    have he : ds[i]? = some ds[i] := List.getElem?_eq_some_iff.mpr ⟨hi, rfl⟩
    generalize ds[i] = d at hd he
    rw [hd] at hf
    unfold forD at hf
    obtain ⟨ρ1, h1, hf⟩ := bs hf
    obtain ⟨o1, h2, hf⟩ := bs hf
    obtain ⟨go, yld⟩ := it.go i d H' HF' he s' S'.gr.fh
    refine ⟨go, fun σ2 H3 => ∃ HF3 ρ3, SOk X.K HF₀ H₀ HF3 H3 ρ3 σ2 ∧ Same HF2 HF3 ∧ forD tgt gb (ds.drop (i + 1)) ρ3 = some o, fun σ2 H3 ⟨HF3, ρ3, a1, a2, a3⟩ => ⟨m - 1, by omega, by omega, HF3, ρ3, a1, a2, a3⟩, fun x H3 y => ?_⟩
    obtain ⟨HF3, G3, rx⟩ := yld x H3 y
    refine ⟨HF3, ρ', d, ρ1, S'.grow G3, rx, h1, fun σ2 S2 => ⟨HF3, ρ1, o1, S2, h2, ?_⟩⟩
    cases o1 with
    | nx ρ2 => exact fun σ4 H4 HF4 S4 s4 => ⟨HF4, ρ2, S4, (s'.trans G3.ff).trans s4, hf⟩
    | rt d => cases hf; exact q
  · have hi' : i = ds.length := by omega
    subst hi'
    rw [List.drop_length] at hf
    cases hf
    exact .inl ⟨it.stop H' HF' s' S'.gr.fh, q σ' H' HF' S' ((s1.trans G.ff).trans s')⟩
end
end Dl
set_option Elab.async false
set_option linter.all false
set_option maxRecDepth 100000
set_option maxHeartbeats 4000000
namespace Dl
open PySem L2 PySem.Spec PyProof.Rows
/-- the names of a block as its table has them -/
def ScOf (X : Cx) (sc : Scope) : Prop := ∀ x k, sc.names.lookup x = some k → X.env.kindOf x = some k ∨ (k = .free ∧ X.env.kindOf x = some .cell)
structure Bk (X : Cx) (N : List Str) (sc : Scope) (k : Nat) : Prop where
  n : X.N = N
  nd : N.Nodup
  tb : ScOf X sc
  calm : X.calm = true
  fn : ∀ x, sc.names.lookup x = some .cell → X.fn x = true
  room : Room k X.A
  xe : X.xe = fun _ _ => False
  kd : X.env.scope.kind = .function
def bltNames : List Str := ["len", "isinstance", "int", "bool", "tuple", "list", "range", "all", "any", "set", "sorted", "enumerate", "zip", "sum", "min", "max", "reversed"]
def Bn (X : Cx) : Prop := ∀ x ∈ bltNames, X.mg x = none
def glB (sc : Scope) (x : Str) : Bool := decide (sc.names.lookup x = some .globalImplicit)
def visB (N : List Str) (sc : Scope) (i : Nat) (x : Str) : Bool := decide (N[i]? = some x) && (decide (sc.names.lookup x = some .local) || decide (sc.names.lookup x = some .cell) || decide (sc.names.lookup x = some .free)) && !(x == ("__debug__" : Str)) && !(x == ("__classdict__" : Str))
def locB (N : List Str) (sc : Scope) (i : Nat) (x : Str) : Bool := decide (N[i]? = some x) && (decide (sc.names.lookup x = some .local) || decide (sc.names.lookup x = some .cell))
section
variable {X : Cx} {N : List Str} {sc : Scope} {k : Nat}
theorem Bk.gl (C : Bk X N sc k) {x : Str} (h : glB sc x = true) : Gl X x := by
  rcases C.tb x _ (of_decide_eq_true h) with q | ⟨q, _⟩
  · exact q
  · cases q
theorem Bk.vis (C : Bk X N sc k) {i : Nat} {x : Str} (h : visB N sc i x = true) : X.N[i]? = some x ∧ Vis X.env.scope x ∧ (x == ("__debug__" : Str)) = false ∧ (x == ("__classdict__" : Str)) = false := by
  unfold visB at h
  simp only [Bool.and_eq_true, Bool.or_eq_true, decide_eq_true_eq, Bool.not_eq_true'] at h
  obtain ⟨⟨⟨h1, h2⟩, h3⟩, h4⟩ := h
  refine ⟨by rw [C.n]; exact h1, ?_, h3, h4⟩
  rcases h2 with (h2 | h2) | h2
  · rcases C.tb x _ h2 with q | ⟨q, _⟩
    · exact .inl q
    · cases q
  · rcases C.tb x _ h2 with q | ⟨q, _⟩
    · exact .inr (.inl q)
    · cases q
  · rcases C.tb x _ h2 with q | ⟨_, q⟩
    · exact .inr (.inr q)
    · exact .inr (.inl q)
theorem Bk.loc (C : Bk X N sc k) {i : Nat} {x : Str} (h : locB N sc i x = true) : X.N.Nodup ∧ X.N[i]? = some x ∧ Loc X.env.scope x ∧ (X.fn x = true ∨ X.env.scope.names.lookup x = some .local) := by
  unfold locB at h
  simp only [Bool.and_eq_true, Bool.or_eq_true, decide_eq_true_eq] at h
  obtain ⟨h1, h2⟩ := h
  refine ⟨by rw [C.n]; exact C.nd, by rw [C.n]; exact h1, ?_⟩
  rcases h2 with h2 | h2
  · rcases C.tb x _ h2 with q | ⟨q, _⟩
    · exact ⟨.inl q, .inr q⟩
    · cases q
  · rcases C.tb x _ h2 with q | ⟨q, _⟩
    · exact ⟨.inr q, .inl (C.fn x h2)⟩
    · cases q
theorem Bk.blt (C : Bk X N sc k) (B : Bn X) {x : Str} {v : Value} (h : glB sc x = true) (hm : x ∈ bltNames) (hv : bootBuiltins x = some v) : Blt X x v := ⟨C.gl h, B x hm, hv⟩
theorem Bk.v (C : Bk X N sc k) (i : Nat) {x : Str} {pos : Pos} (h : visB N sc i x = true) : DE X (.Name x pos) (fVar i) := let ⟨a, b, c, d⟩ := C.vis h; de_var i a b c d
theorem Bk.pass (C : Bk X N sc k) : PassesOwn (model X.prog X.w) X.A X.env X.xe := by rw [C.xe]; exact PassesOwn.never
/-! blocks -/
def compOk (sc scope : Scope) (N N' : List Str) (t : Nat) (cs : List Nat) : Bool :=
  decide (scope.kind = .function) && scope.names.all (fun p => (!decide (p.2 = NameKind.free) || decide (sc.names.lookup p.1 = some .cell) || decide (sc.names.lookup p.1 = some .free)) && (!decide (p.2 = NameKind.local) || decide (scope.names.lookup p.1 = some .local)))
    && scope.names.all (fun p => !decide (p.2 = NameKind.cell) || !scope.names.any fun q => decide (q.1 = p.1) && decide (q.2 = NameKind.free))
    && decide (N'.length = t + cs.length) && decide (N'.drop t = cs.filterMap fun j => N[j]?) && cs.all (fun j => decide (j < N.length)) && (N'.drop t).all (fun x => decide (scope.names.lookup x = some .free)) && decide N'.Nodup
theorem filterMap_get {α : Type} (N : List α) : ∀ (cs : List Nat), (∀ j ∈ cs, j < N.length) → ∀ (i : Nat), (cs.filterMap fun j => N[j]?)[i]? = (cs[i]?).bind fun j => N[j]?
  | [], _, i => by simp
  | c :: cs, h, i => by
    have hc := h c List.mem_cons_self
    rw [List.filterMap_cons, List.getElem?_eq_getElem hc]
    cases i with
    | zero => simp [hc]
    | succ i =>
      simp only [List.getElem?_cons_succ]
      exact filterMap_get N cs (fun j hj => h j (List.mem_cons_of_mem _ hj)) i
theorem Bk.comp (C : Bk X N sc k) {scope : Scope} {N' : List Str} {t : Nat} {cs : List Nat} (h : compOk sc scope N N' t cs = true) : CompSc X scope N' (capsV t cs) ∧ ∀ fp s H, Bk (cxComp X scope N' fp s H) N' scope k := by
  unfold compOk at h
  simp only [Bool.and_eq_true, decide_eq_true_eq, List.all_eq_true, Bool.or_eq_true, Bool.not_eq_true', decide_eq_false_iff_not] at h
  obtain ⟨⟨⟨⟨⟨⟨⟨h1, h2⟩, h3⟩, h4⟩, h5⟩, h6⟩, h7⟩, h8⟩ := h
  refine ⟨⟨h1, fun x hx hk => ?_, fun {x} a b => ?_, fun x hx hk => ?_, fun σ i x v e1 e2 => ?_, fun σ => ?_⟩, fun fp s H => ⟨rfl, h8, fun x k hx => kind_comp hx, C.calm, fun x hx => decide_eq_true hx, C.room, rfl, h1⟩⟩
  · rcases (h2 x hx).1 with (q | q) | q
    · exact absurd hk q
    · rcases C.tb _ _ q with z | ⟨z, _⟩
      · exact .inl z
      · cases z
    · rcases C.tb _ _ q with z | ⟨_, z⟩
      · exact .inr z
      · exact .inl z
  · rcases h3 _ a with q | q
    · exact q rfl
    · have : (scope.names.any fun q => decide (q.1 = x) && decide (q.2 = NameKind.free)) = true := List.any_eq_true.mpr ⟨_, b, by simp⟩
      rw [this] at q
      cases q
  · rcases (h2 x hx).2 with q | q
    · exact absurd hk q
    · exact q
  · unfold capsV at e2
    by_cases hi : i < t
    · rw [List.getElem?_append_left (by simpa using hi), List.getElem?_replicate, if_pos hi] at e2
      cases e2
    · rw [List.getElem?_append_right (by simpa using hi), List.getElem?_map, List.length_replicate] at e2
      obtain ⟨j, hj, e2⟩ := map_some e2
      have e3 : (N'.drop t)[i - t]? = some x := by rw [List.getElem?_drop]; rw [show t + (i - t) = i by omega]; exact e1
      refine ⟨h7 x (List.mem_of_getElem? e3), j, ?_, ?_⟩
      · rw [h5, filterMap_get N cs h6, hj] at e3
        rw [C.n]; exact e3
      · cases e : σ[j]? with
        | none => rw [e] at e2; cases e2
        | some o => rw [e] at e2; have e2 : o = some v := e2; rw [e2]
  · unfold capsV
    rw [List.length_append, List.length_replicate, List.length_map, h4]
/-! a def of the text -/
def runB (g : SEnv → Option Out) (n : Nat) (args : List D) : Option D := (g (args.map Slot.val ++ List.replicate (n - args.length) .non)).map fun | .rt d => d | .nx _ => .none
theorem fnOkD {P : Program} {w : World} {K : PySem.W.Frag} {mg : Str → Option Value} {base : Heap} {x qual : Str} {st : Stmt} {f : Addr} {fd : FuncData} {ps : List Str} {g : SEnv → Option Out} (F : Fun K x qual st f fd) (S : FnScope N ps (defScope st))
    (body : ∀ X : Cx, X.prog = P → X.w = w → X.K = K → X.mg = mg → X.base = base → Bk X N (defScope st) k → ∀ HF₀ H₀, DSs X HF₀ H₀ (defBody st) g) : FnOk P w K mg base CX0 (k + 1) f fd ps (spD K ps.length (runB g N.length)) := by
  refine F.ok S (fun vs H Q E ⟨HF, ds, d, h1, h2, h3, _⟩ => by rw [h2.length, h3]) (fun cdv A outer s H vs Q E hr ⟨HF, ds, d, sm, rr, hl, hd, q⟩ => ?_)
  refine ⟨_, body (cxOf CX0 P w K mg base N qual (defScope st) f cdv A outer s H E).nox rfl rfl rfl rfl rfl ⟨rfl, S.nd, fun y kd hy => .inl hy, rfl, fun _ _ => rfl, hr, rfl, S.kind⟩ HF H, ?_⟩
  unfold runB at hd
  obtain ⟨o, ho, hd⟩ := map_some hd
  have hpl : ps.length ≤ N.length := by have := congrArg List.length S.pre; rw [List.length_take] at this; omega
  refine ⟨HF, _, o, ⟨.refl sm, fun i e h => ?_, fun i es h => ?_, fun i j es fs a h => ?_, ?_⟩, ho, ?_⟩
  · have hi : i < ds.length := by
      by_cases hi : i < ds.length
      · exact hi
      · rw [List.getElem?_append_right (by simpa using hi), List.getElem?_replicate] at h
        split at h <;> cases h
    rw [List.getElem?_append_left (by simpa using hi), List.getElem?_map] at h
    obtain ⟨d', hd', h⟩ := map_some h
    cases h
    obtain ⟨v, hv, rv⟩ := rr.getD hd'
    refine ⟨v, ?_, rv⟩
    unfold L2.start
    rw [List.getElem?_append_left (by simpa [rr.length] using hi), List.getElem?_map, hv]
    rfl
  · exfalso
    by_cases hi : i < ds.length
    · rw [List.getElem?_append_left (by simpa using hi), List.getElem?_map] at h
      obtain ⟨d', hd', h⟩ := map_some h
      cases h
    · rw [List.getElem?_append_right (by simpa using hi), List.getElem?_replicate] at h
      split at h <;> cases h
  · exfalso
    by_cases hi : i < ds.length
    · rw [List.getElem?_append_left (by simpa using hi), List.getElem?_map] at h
      obtain ⟨d', hd', h⟩ := map_some h
      cases h
    · rw [List.getElem?_append_right (by simpa using hi), List.getElem?_replicate] at h
      split at h <;> cases h
  · unfold L2.start
    rw [List.length_append, List.length_append, List.length_map, List.length_map, List.length_replicate, List.length_replicate, rr.length]
    exact Nat.le_refl _
  · cases o with
    | rt d' => cases hd; exact fun v H' HF' G r => q v H' HF' G r
    | nx ρ' => cases hd; exact fun σ' H' HF' S' _ => q .non H' HF' S'.gr (by simp [Rep])
theorem fnD {P : Program} {w : World} {K : PySem.W.Frag} {mg : Str → Option Value} {base : Heap} {x qual : Str} {st : Stmt} {f : Addr} {fd : FuncData} {ps : List Str} {g : SEnv → Option Out} (F : Fun K x qual st f fd) (S : FnScope N ps (defScope st)) (hb : Binds K fd ps []) (hm : mg x = some (.ref f))
    (body : ∀ X : Cx, X.prog = P → X.w = w → X.K = K → X.mg = mg → X.base = base → Bk X N (defScope st) k → ∀ HF₀ H₀, DSs X HF₀ H₀ (defBody st) g) : FnD P w K mg base (k + 1) x ps.length (runB g N.length) := ⟨f, fd, ps, fnOkD F S body, hm, F.kp, hb⟩
end
/-! xs.append(e), xs.extend([..]), xs.insert(i, e) on a list of our own -/
section
variable {X : Cx} {HF₀ H₀ : Hp} {e e2 : Expr} {pos apos cpos px : Pos} {x : Str}
/-- an item ahead of its store: the value, the slots as they are then -/
def itemD (fz : List Nat) (f : Env → Option D) (ρ : SEnv) : Option (D × SEnv) := (f (vAll ρ)).bind fun d => if scal d = true then some (d, ρ) else (f (vFrz (hand fz 0 ρ))).map fun d' => (d', hand fz 0 ρ)
theorem itemD_run {K : PySem.W.Frag} {HF H : Hp} {ρ ρ' : SEnv} {σ : L2.St} {fz : List Nat} {f : Env → Option D} {d : D} (S : SOk K HF₀ H₀ HF H ρ σ) (h : itemD fz f ρ = some (d, ρ')) {Q : VK}
    (q : ∀ v H' HF', Same HF HF' → SOk K HF₀ H₀ HF' H' ρ' σ → Same H H' → Rep K HF' d v → Q v H') : tD K f σ H Q := by
  obtain ⟨d1, h1, h⟩ := bs h
  split at h
  · rename_i hs
    cases h
    exact ⟨H, vAll ρ, d, .refl _, S.all, h1, fun v H' HF' G r => q v H' HF (.refl _) (S.step G.hh) G.hh (scal_rep hs r)⟩
  · obtain ⟨d2, h2, h⟩ := map_some h
    cases h
    obtain ⟨HF1, s1, S1⟩ := S.hand fz
    exact ⟨HF1, _, d, S1.gr.fh, S1.frz, h2, fun v H' HF' G r => q v H' HF' (s1.trans G.ff) (S1.grow G) G.hh r⟩
/-- the list in slot i is changed -/
def gMut (i : Nat) (m : List D → Option (List D)) (ρ : SEnv) : Option Out := match ρ[i]? with
  | some (.own ds) => (m ds).map fun es => .nx (ρ.set i (.own es))
  | _ => none
theorem gMut_some {i : Nat} {m : List D → Option (List D)} {ρ : SEnv} {o : Out} (h : gMut i m ρ = some o) : ∃ ds es, ρ[i]? = some (.own ds) ∧ m ds = some es ∧ o = .nx (ρ.set i (.own es)) := by
  unfold gMut at h
  split at h
  · rename_i ds hd
    obtain ⟨es, h1, h2⟩ := map_some h
    exact ⟨ds, es, hd, h1, h2.symm⟩
  · cases h
theorem SOk.mut {K : PySem.W.Frag} {HF H : Hp} {ρ : SEnv} {σ : L2.St} (S : SOk K HF₀ H₀ HF H ρ σ) {i : Nat} {ds es : List D} {a : Addr} {vs us : List V} (h : ρ[i]? = some (.own ds)) (ha : σ[i]? = some (some (.ref a))) (hH : H a = some (.lst vs)) (r : Reps K HF es us) :
    SOk K HF₀ H₀ HF (upd H a (.lst us)) (ρ.set i (.own es)) σ := by
  obtain ⟨a', vs', e1, e2, e3, e5, e4⟩ := S.own i ds h
  rw [ha] at e1; cases e1
  have hl : i < ρ.length := (List.getElem?_eq_some_iff.mp h).1
  have gr : Grow HF₀ H₀ HF (upd H a (.lst us)) := ⟨fun b o e => by rw [upd_ne (ne_of_none e e5)]; exact S.gr.hh b o e, S.gr.ff, fun b o e => by rw [upd_ne (ne_of_none e e3)]; exact S.gr.fh b o e, S.gr.nw⟩
  refine ⟨gr, fun j d hj => ?_, fun j xs hj => ?_, fun j k xs ys b f1 f2 f3 f4 => ?_, by rw [List.length_set]; exact S.len⟩
  · rw [List.getElem?_set] at hj
    by_cases hij : i = j
    · rw [if_pos hij] at hj
      split at hj <;> cases hj
    · rw [if_neg hij] at hj; exact S.val j d hj
  · rw [List.getElem?_set] at hj
    by_cases hij : i = j
    · subst hij
      rw [if_pos rfl, if_pos hl] at hj
      cases hj
      exact ⟨a, us, ha, upd_same, e3, e5, r⟩
    · rw [if_neg hij] at hj
      obtain ⟨b, ws, f1, f2, f3, f5, f4⟩ := S.own j xs hj
      refine ⟨b, ws, f1, ?_, f3, f5, f4⟩
      rw [upd_ne]
      · exact f2
      · rintro rfl
        exact hij (S.inj i j ds xs b h hj ha f1)
  · have old : ∀ {j : Nat} {xs : List D}, (ρ.set i (.own es))[j]? = some (.own xs) → ∃ ys, ρ[j]? = some (.own ys) := fun {j xs} hj => by
      rw [List.getElem?_set] at hj
      by_cases hij : i = j
      · subst hij; exact ⟨ds, h⟩
      · rw [if_neg hij] at hj; exact ⟨xs, hj⟩
    obtain ⟨xs', g1⟩ := old f1
    obtain ⟨ys', g2⟩ := old f2
    exact S.inj j k xs' ys' b g1 g2 f3 f4
def gApp (i : Nat) (fz : List Nat) (f : Env → Option D) : SEnv → Option Out := fun ρ => (itemD fz f ρ).bind fun p => gMut i (fun ds => if ds.length < sizeLine then some (ds ++ [p.1]) else none) p.2
theorem ds_append (i : Nat) (fz : List Nat) {f : Env → Option D} (hN : X.N[i]? = some x) (hv : Vis X.env.scope x) (h : DE X e f) (hd : (x == ("__debug__" : Str)) = false := by decide) (hcd : (x == ("__classdict__" : Str)) = false := by decide)
    (hfew : ((backTo cpos (starEach [e] X.env)).all (fun x => !x.1) && (backToKw cpos (keywordEach [] X.env)).all (fun x => x.1.isSome) && decide ([e].length + ([] : List Keyword).length + (if ([] : List Keyword).isEmpty then 0 else 1) < 30)) = true := by rfl)
    (hline : (apos.endLine == cpos.line) = true := by rfl) (hs : starEach [e] X.env = (false, eval e X.env) :: starEach [] X.env := by rfl) :
    DS X HF₀ H₀ (.Expr (.Call (.Attribute (.Name x px) "append" apos) [e] [] cpos) pos) (gApp i fz f) :=
  ps_imp (ps_expr (pe_bm PySem.F.plainAttrs_list PySem.F.slot_list_append PySem.F.type_list_append mt_append (pe_var hN hv hd hcd) (pa_cons h pa_nil hs) rfl hfew hline hs rfl)) fun E σ H ⟨HF, ρ, o, S, hg, q⟩ => by
    obtain ⟨⟨d, ρ'⟩, h1, hg⟩ := bs hg
    obtain ⟨ds, es, h2, h3, rfl⟩ := gMut_some hg
    have hown : ∃ ds', ρ[i]? = some (.own ds') := by
      obtain ⟨d1, _, h1⟩ := bs h1
      split at h1
      · cases h1; exact ⟨ds, h2⟩
      · obtain ⟨d2, _, h1⟩ := map_some h1
        cases h1
        rw [hand_get] at h2
        obtain ⟨s, hs, h2⟩ := map_some h2
        cases s with
        | non => split at h2 <;> cases h2
        | val _ => split at h2 <;> cases h2
        | own xs => exact ⟨xs, hs⟩
    obtain ⟨ds', hown⟩ := hown
    obtain ⟨a, vs, e1, e2, e3, e5, e4⟩ := S.own i ds' hown
    refine ⟨.ref a, e1, .inl ⟨rfl, vs, SqL.of e2⟩, itemD_run S h1 fun v H' HF' s1 S' sh r => ?_⟩
    obtain ⟨a', vs', f1, f2, f3, f5, f4⟩ := S'.own i ds h2
    rw [e1] at f1; cases f1
    split at h3
    · rename_i hz
      cases h3
      exact ⟨a, vs', v, rfl, rfl, f2, by rw [f4.length]; exact hz, q σ _ HF' (S'.mut h2 e1 f2 (f4.append (Reps.cons r Reps.nil))) s1⟩
    · cases h3
end
end Dl
set_option Elab.async false
set_option linter.all false
set_option maxHeartbeats 4000000
namespace SP
open PySem PySem.W PyProof.Rows
def run {α : Type} (lt : Nat → Nat → Bool) : KasT α → α
  | .ret a => a
  | .ask i j k => run lt (k (lt i j))
theorem run_bind {α β : Type} (lt : Nat → Nat → Bool) (f : α → KasT β) : ∀ t : KasT α, run lt (t.bind f) = run lt (f (run lt t))
  | .ret a => rfl
  | .ask i j k => by
    show run lt ((k (lt i j)).bind f) = run lt (f (run lt (k (lt i j))))
    exact run_bind lt f (k (lt i j))
/-- all that is asked lies below n -/
def inB (n : Nat) {α : Type} : KasT α → Prop
  | .ret _ => True
  | .ask i j k => i < n ∧ j < n ∧ ∀ b, inB n (k b)
theorem wp_run {α : Type} {n : Nat} {cmp : Nat → Nat → (Bool → Shared → Prop) → Shared → Prop} {lt : Nat → Nat → Bool} {s : Shared} (hc : ∀ i j C, i < n → j < n → C (lt i j) s → cmp i j C s) : ∀ (t : KasT α) {Q : α → Shared → Prop}, inB n t → Q (run lt t) s → t.kasWp cmp Q s
  | .ret a, Q, _, h => h
  | .ask i j k, Q, b, h => hc i j _ b.1 b.2.1 (wp_run hc (k (lt i j)) (b.2.2 _) h)
/-- .. where what comes back has a property -/
def outB (n : Nat) {α : Type} (R : α → Prop) : KasT α → Prop
  | .ret a => R a
  | .ask i j k => i < n ∧ j < n ∧ ∀ b, outB n R (k b)
theorem outB_bind {α β : Type} {n : Nat} {R : α → Prop} {f : α → KasT β} : ∀ {t : KasT α}, outB n R t → (∀ a, R a → inB n (f a)) → inB n (t.bind f)
  | .ret a, b, h => h a b
  | .ask i j k, b, h => ⟨b.1, b.2.1, fun c => outB_bind (b.2.2 c) h⟩
theorem outB_bindO {α β : Type} {n : Nat} {R : α → Prop} {S : β → Prop} {f : α → KasT β} : ∀ {t : KasT α}, outB n R t → (∀ a, R a → outB n S (f a)) → outB n S (t.bind f)
  | .ret a, b, h => h a b
  | .ask i j k, b, h => ⟨b.1, b.2.1, fun c => outB_bindO (b.2.2 c) h⟩
def Bd (n : Nat) (p : Array Nat) : Prop := ∀ a, p.getD a 0 < n
theorem Bd.perm {n : Nat} {p q : Array Nat} (h : Bd n p) (e : q.Perm p) : Bd n q := by
  intro a
  rw [Array.getD_eq_getD_getElem?]
  cases ha : q[a]? with
  | none => have := h p.size; rw [Array.getD_eq_getD_getElem?] at this; simpa using this
  | some x =>
    have hx : x ∈ q := Array.mem_of_getElem? ha
    have hx' : x ∈ p := e.mem_iff.mp hx
    obtain ⟨i, hi, rfl⟩ := Array.mem_iff_getElem.mp hx'
    have := h i
    rw [Array.getD_eq_getD_getElem?] at this
    simpa [hi] using this
theorem b_asc {n : Nat} {p : Array Nat} (h : Bd n p) : ∀ f m, outB n (fun _ => True) (kas_asc p f m)
  | 0, m => trivial
  | f + 1, m => ⟨h _, h _, fun c => by
    dsimp only
    split
    · trivial
    · exact b_asc h f (m + 1)⟩
theorem b_rev {n : Nat} {p : Array Nat} (h : Bd n p) (i j : Nat) : Bd n (kas_rev p i j) := h.perm (mirror_perm _ _ _ _)
theorem b_desc {n : Nat} : ∀ (f : Nat) {p : Array Nat} (h : Bd n p) (m q : Nat), outB n (fun r => Bd n r.1) (kas_desc f p m q)
  | 0, p, h, m, q => h
  | f + 1, p, h, m, q => ⟨h _, h _, fun c => by
    dsimp only
    split
    · split
      · exact b_desc f (b_rev h _ _) (m + 1) 0
      · exact b_desc f h (m + 1) 0
    · exact ⟨h _, h _, fun d => by
        dsimp only
        split
        · exact h
        · exact b_desc f h (m + 1) (q + 1)⟩⟩
theorem b_tail3 {n : Nat} {p : Array Nat} (h : Bd n p) (m nrem : Nat) : outB n (fun r => Bd n r.2) (kas_tail3 m nrem p) := outB_bindO (b_asc (b_rev h 0 m) _ _) fun _ _ => b_rev h 0 m
theorem b_descPart {n : Nat} {p : Array Nat} (h : Bd n p) (m nrem : Nat) : outB n (fun r => Bd n r.2) (kas_descPart m nrem p) := outB_bindO (b_desc _ h _ _) fun r hr => by
  split
  · exact b_tail3 (b_rev hr _ _) _ _
  · exact b_tail3 hr _ _
theorem b_count {n : Nat} {p : Array Nat} (h : Bd n p) (nrem : Nat) : outB n (fun r => Bd n r.2) (kas_count nrem p) := outB_bindO (b_asc h _ _) fun m _ => by
  split
  · exact h
  · split
    · exact ⟨h _, h _, fun c => by
        dsimp only
        split
        · exact h
        · exact b_descPart (b_rev h _ _) _ _⟩
    · exact b_descPart h _ _
theorem b_place {n : Nat} {p : Array Nat} (h : Bd n p) (k : Nat) : ∀ f l r, outB n (fun _ => True) (kas_place p k f l r)
  | 0, l, r => trivial
  | f + 1, l, r => by
    unfold kas_place
    split
    · trivial
    · exact ⟨h _, h _, fun c => by
        dsimp only
        split
        · exact b_place h k f _ _
        · exact b_place h k f _ _⟩
theorem b_bin {n : Nat} : ∀ (f : Nat) {p : Array Nat} (h : Bd n p) (k : Nat), inB n (kas_bin f p k)
  | 0, p, h, k => trivial
  | f + 1, p, h, k => outB_bind (b_place h k _ _ _) fun l _ => b_bin f (h.perm (bubble_perm _ _ _)) (k + 1)
theorem b_sort {n : Nat} (h1 : 1 ≤ n) : inB n (kas_sort n) := by
  have h : Bd n (List.toArray (List.range n)) := fun a => by
    rw [Array.getD_eq_getD_getElem?]
    by_cases ha : a < n
    · simp [ha]
    · simp [ha]; omega
  refine outB_bind (b_count h n) fun r hr => ?_
  split
  · exact b_bin _ hr _
  · trivial
section
variable (z : Nat → Int)
/-- the key at a place -/
def Z (p : Array Nat) (a : Nat) : Int := z (p.getD a 0)
def ltz : Nat → Nat → Bool := fun i j => decide (z i < z j)
theorem Z_congr {p q : Array Nat} {a b : Nat} (h : p[a]? = q[b]?) : Z z p a = Z z q b := by
  unfold Z
  rw [Array.getD_eq_getD_getElem?, Array.getD_eq_getD_getElem?, h]
theorem Z_rev {p : Array Nat} {i j : Nat} (hj : j ≤ p.size) (k : Nat) : Z z (kas_rev p i j) k = if i ≤ k ∧ k < j then Z z p (i + j - 1 - k) else Z z p k := by
  have e := getElem?_mirror_all (xs := p) (i := i) hj k
  unfold kas_rev
  by_cases h1 : i ≤ k ∧ k < j
  · rw [if_pos h1] at e ⊢; exact Z_congr z e
  · rw [if_neg h1] at e ⊢; exact Z_congr z e
theorem Z_bubble {p : Array Nat} {src d : Nat} (hs : src < p.size) (hd : d ≤ src) (k : Nat) : Z z (bubble p src d) k = if k = src - d then Z z p src else if src - d < k ∧ k ≤ src then Z z p (k - 1) else Z z p k := by
  have e := getElem?_bubble hs d hd k
  by_cases h1 : k = src - d
  · rw [if_pos h1] at e ⊢; exact Z_congr z e
  · rw [if_neg h1] at e ⊢
    by_cases h2 : src - d < k ∧ k ≤ src
    · rw [if_pos h2] at e ⊢; exact Z_congr z e
    · rw [if_neg h2] at e ⊢; exact Z_congr z e
def Up (p : Array Nat) (n : Nat) : Prop := ∀ a b, a ≤ b → b < n → Z z p a ≤ Z z p b
def Dn (p : Array Nat) (n : Nat) : Prop := ∀ a b, a ≤ b → b < n → Z z p b ≤ Z z p a
variable {z}
theorem up_succ {p : Array Nat} {n : Nat} (h : Up z p n) (hn : 1 ≤ n) (h1 : Z z p (n - 1) ≤ Z z p n) : Up z p (n + 1) := by
  intro a b hab hb
  by_cases hbn : b < n
  · exact h a b hab hbn
  · have e : b = n := by omega
    subst e
    by_cases ha : a = b
    · subst ha; exact Int.le_refl _
    · exact Int.le_trans (h a (b - 1) (by omega) (by omega)) h1
theorem asc {p : Array Nat} : ∀ (f n : Nat), 1 ≤ n → Up z p n → n ≤ run (ltz z) (kas_asc p f n) ∧ run (ltz z) (kas_asc p f n) ≤ n + f ∧ Up z p (run (ltz z) (kas_asc p f n)) ∧ (run (ltz z) (kas_asc p f n) < n + f → Z z p (run (ltz z) (kas_asc p f n)) < Z z p (run (ltz z) (kas_asc p f n) - 1))
  | 0, n, hn, h => ⟨Nat.le_refl _, Nat.le_refl _, h, fun q => absurd q (Nat.lt_irrefl _)⟩
  | f + 1, n, hn, h => by
    unfold kas_asc
    show n ≤ run (ltz z) (if ltz z (p.getD n 0) (p.getD (n - 1) 0) = true then .ret n else kas_asc p f (n + 1)) ∧ run (ltz z) (if ltz z (p.getD n 0) (p.getD (n - 1) 0) = true then .ret n else kas_asc p f (n + 1)) ≤ n + (f + 1) ∧ Up z p (run (ltz z) (if ltz z (p.getD n 0) (p.getD (n - 1) 0) = true then .ret n else kas_asc p f (n + 1))) ∧ (run (ltz z) (if ltz z (p.getD n 0) (p.getD (n - 1) 0) = true then .ret n else kas_asc p f (n + 1)) < n + (f + 1) → Z z p (run (ltz z) (if ltz z (p.getD n 0) (p.getD (n - 1) 0) = true then .ret n else kas_asc p f (n + 1))) < Z z p (run (ltz z) (if ltz z (p.getD n 0) (p.getD (n - 1) 0) = true then .ret n else kas_asc p f (n + 1)) - 1))
    by_cases hc : ltz z (p.getD n 0) (p.getD (n - 1) 0) = true
    · rw [if_pos hc]
      exact ⟨Nat.le_refl _, Nat.le_add_right _ _, h, fun _ => of_decide_eq_true hc⟩
    · rw [if_neg hc]
      have h1 : Z z p (n - 1) ≤ Z z p n := by
        have : ¬ (Z z p n < Z z p (n - 1)) := fun q => hc (decide_eq_true q)
        omega
      obtain ⟨a, b, c, d⟩ := asc f (n + 1) (by omega) (up_succ h hn h1)
      exact ⟨by omega, by omega, c, fun q => d (by omega)⟩
/-- a part of equal keys turned about -/
theorem Z_same {p : Array Nat} {i j : Nat} (hj : j ≤ p.size) (h : ∀ a b, i ≤ a → a < j → i ≤ b → b < j → Z z p a = Z z p b) (k : Nat) : Z z (kas_rev p i j) k = Z z p k := by
  rw [Z_rev z hj]
  split
  · rename_i hk
    exact h _ _ (by omega) (by omega) hk.1 hk.2
  · rfl
theorem dn_congr {p q : Array Nat} {n : Nat} (e : ∀ k, Z z q k = Z z p k) (h : Dn z p n) : Dn z q n := fun a b hab hb => by rw [e, e]; exact h a b hab hb
theorem rev_up {p : Array Nat} {n : Nat} (hn : n ≤ p.size) (h : Dn z p n) : Up z (kas_rev p 0 n) n := by
  intro a b hab hb
  rw [Z_rev z hn, Z_rev z hn, if_pos ⟨Nat.zero_le _, by omega⟩, if_pos ⟨Nat.zero_le _, hb⟩]
  exact h _ _ (by omega) (by omega)
theorem rev_size (p : Array Nat) (i j : Nat) : (kas_rev p i j).size = p.size := mirror_size _ _ _ _
theorem rev_perm (p : Array Nat) (i j : Nat) : (kas_rev p i j).Perm p := mirror_perm _ _ _ _
structure DInv (z : Nat → Int) (p₀ p : Array Nat) (n q nrem : Nat) : Prop where
  perm : p.Perm p₀
  size : p.size = p₀.size
  le : n ≤ nrem
  qn : q + 1 ≤ n
  dn : Dn z p n
  eq : ∀ a b, n - (q + 1) ≤ a → a < n → n - (q + 1) ≤ b → b < n → Z z p a = Z z p b
theorem desc {p₀ : Array Nat} {nrem : Nat} (hz : nrem ≤ p₀.size) : ∀ (f : Nat) (p : Array Nat) (n q : Nat), n + f ≤ nrem → DInv z p₀ p n q nrem →
    let r := run (ltz z) (kas_desc f p n q); DInv z p₀ r.1 r.2.1 r.2.2 nrem
  | 0, p, n, q, hn, h => h
  | f + 1, p, n, q, hn, h => by
    intro r
    have hr : r = run (ltz z) (if ltz z (p.getD n 0) (p.getD (n - 1) 0) = true then (if q > 0 then kas_desc f (kas_rev p (n - (q + 1)) n) (n + 1) 0 else kas_desc f p (n + 1) 0)
      else .ask (p.getD (n - 1) 0) (p.getD n 0) fun d => if d = true then .ret (p, n, q) else kas_desc f p (n + 1) (q + 1)) := rfl
    have hq := h.qn
    by_cases hc : ltz z (p.getD n 0) (p.getD (n - 1) 0) = true
    · rw [if_pos hc] at hr
      have hlt : Z z p n < Z z p (n - 1) := of_decide_eq_true hc
      have step : ∀ p' : Array Nat, p'.Perm p₀ → p'.size = p₀.size → (∀ k, Z z p' k = Z z p k) → DInv z p₀ p' (n + 1) 0 nrem := fun p' a1 a2 a3 => by
        refine ⟨a1, a2, by omega, by omega, fun a b hab hb => ?_, fun a b h1 h2 h3 h4 => by rw [show a = b by omega]⟩
        rw [a3, a3]
        by_cases hbn : b < n
        · exact h.dn a b hab hbn
        · have e : b = n := by omega
          subst e
          by_cases ha : a = b
          · subst ha; exact Int.le_refl _
          · exact Int.le_trans (Int.le_of_lt hlt) (h.dn a (b - 1) (by omega) (by omega))
      by_cases hq0 : q > 0
      · rw [if_pos hq0] at hr
        rw [hr]
        exact desc hz f _ (n + 1) 0 (by omega) (step _ ((rev_perm _ _ _).trans h.perm) (by rw [rev_size, h.size]) (Z_same (by rw [h.size]; omega) h.eq))
      · rw [if_neg hq0] at hr
        rw [hr]
        exact desc hz f p (n + 1) 0 (by omega) (step p h.perm h.size fun _ => rfl)
    · rw [if_neg hc] at hr
      have hge : Z z p (n - 1) ≤ Z z p n := by
        have : ¬ (Z z p n < Z z p (n - 1)) := fun q => hc (decide_eq_true q)
        omega
      have hr' : r = run (ltz z) (if ltz z (p.getD (n - 1) 0) (p.getD n 0) = true then .ret (p, n, q) else kas_desc f p (n + 1) (q + 1)) := hr
      by_cases hd : ltz z (p.getD (n - 1) 0) (p.getD n 0) = true
      · rw [if_pos hd] at hr'
        rw [hr']
        exact h
      · rw [if_neg hd] at hr'
        rw [hr']
        have heq : Z z p n = Z z p (n - 1) := by
          have : ¬ (Z z p (n - 1) < Z z p n) := fun q => hd (decide_eq_true q)
          omega
        refine desc hz f p (n + 1) (q + 1) (by omega) ⟨h.perm, h.size, by omega, by omega, fun a b hab hb => ?_, fun a b h1 h2 h3 h4 => ?_⟩
        · by_cases hbn : b < n
          · exact h.dn a b hab hbn
          · have e : b = n := by omega
            subst e
            by_cases ha : a = b
            · subst ha; exact Int.le_refl _
            · rw [heq]; exact h.dn a (b - 1) (by omega) (by omega)
        · have key : ∀ c, n + 1 - (q + 1 + 1) ≤ c → c < n + 1 → Z z p c = Z z p (n - 1) := fun c c1 c2 => by
            by_cases hcn : c < n
            · exact h.eq c (n - 1) (by omega) hcn (by omega) (by omega)
            · have e : c = n := by omega
              subst e; exact heq
          rw [key a h1 h2, key b h3 h4]
structure COk (z : Nat → Int) (p₀ : Array Nat) (nrem : Nat) (r : Nat × Array Nat) : Prop where
  perm : r.2.Perm p₀
  size : r.2.size = p₀.size
  ge : 1 ≤ r.1
  le : r.1 ≤ nrem
  up : Up z r.2 r.1
theorem tail3 {p₀ p : Array Nat} {n nrem : Nat} (hz : nrem ≤ p₀.size) (h1 : 1 ≤ n) (hn : n ≤ nrem) (hp : p.Perm p₀) (hs : p.size = p₀.size) (hd : Dn z p n) : COk z p₀ nrem (run (ltz z) (kas_tail3 n nrem p)) := by
  unfold kas_tail3
  rw [run_bind]
  obtain ⟨a, b, c, _⟩ := asc (nrem - n) n h1 (rev_up (by omega) hd)
  exact ⟨(rev_perm _ _ _).trans hp, by show (kas_rev p 0 n).size = _; rw [rev_size, hs], by show 1 ≤ run _ (kas_asc _ _ _); omega, by show run _ (kas_asc _ _ _) ≤ nrem; omega, c⟩
theorem descPart {p₀ p : Array Nat} {n nrem : Nat} (hz : nrem ≤ p₀.size) (h1 : 1 ≤ n) (hn : n < nrem) (hp : p.Perm p₀) (hs : p.size = p₀.size) (hd : Dn z p n) (hlt : Z z p n ≤ Z z p (n - 1)) : COk z p₀ nrem (run (ltz z) (kas_descPart n nrem p)) := by
  unfold kas_descPart
  rw [run_bind]
  have D := desc (z := z) hz (nrem - (n + 1)) p (n + 1) 0 (by omega) ⟨hp, hs, by omega, by omega, fun a b hab hb => by
    by_cases hbn : b < n
    · exact hd a b hab hbn
    · have e : b = n := by omega
      subst e
      by_cases ha : a = b
      · subst ha; exact Int.le_refl _
      · exact Int.le_trans hlt (hd a (b - 1) (by omega) (by omega)), fun a b h1 h2 h3 h4 => by rw [show a = b by omega]⟩
  dsimp only at D
  generalize run (ltz z) (kas_desc (nrem - (n + 1)) p (n + 1) 0) = r at D
  have hq := D.qn
  split
  · exact tail3 hz (by omega) D.le ((rev_perm _ _ _).trans D.perm) (by rw [rev_size, D.size]) (dn_congr (Z_same (by have := D.size; have := D.le; omega) D.eq) D.dn)
  · exact tail3 hz (by omega) D.le D.perm D.size D.dn
theorem count {p : Array Nat} {nrem : Nat} (hz : nrem ≤ p.size) (h1 : 1 ≤ nrem) : COk z p nrem (run (ltz z) (kas_count nrem p)) := by
  unfold kas_count
  rw [run_bind]
  obtain ⟨a, b, c, d⟩ := asc (z := z) (p := p) (nrem - 1) 1 (Nat.le_refl _) (fun x y hxy hy => by rw [show x = y by omega]; exact Int.le_refl _)
  generalize run (ltz z) (kas_asc p (nrem - 1) 1) = n at a b c d
  split
  · exact ⟨Array.Perm.refl _, rfl, a, by show n ≤ nrem; omega, c⟩
  · rename_i hne
    have hlt : n < nrem := by
      have : n ≠ nrem := fun e => hne (by simp [e])
      omega
    have hd := d (by omega)
    split
    · rename_i hn1
      show COk z p nrem (run (ltz z) (if ltz z (p.getD 0 0) (p.getD (n - 1) 0) = true then .ret (n, p) else kas_descPart n nrem (kas_rev p 0 n)))
      by_cases hc : ltz z (p.getD 0 0) (p.getD (n - 1) 0) = true
      · rw [if_pos hc]
        exact ⟨Array.Perm.refl _, rfl, a, by show n ≤ nrem; omega, c⟩
      · rw [if_neg hc]
        have hge : Z z p (n - 1) ≤ Z z p 0 := by
          have : ¬ (Z z p 0 < Z z p (n - 1)) := fun q => hc (decide_eq_true q)
          omega
        have all : ∀ x, x < n → Z z p x = Z z p 0 := fun x hx => by
          have e1 := c 0 x (Nat.zero_le _) hx
          have e2 := c x (n - 1) (by omega) (by omega)
          omega
        have same := Z_same (z := z) (p := p) (i := 0) (j := n) (by omega) fun x y _ hx _ hy => by rw [all x hx, all y hy]
        refine descPart hz (by omega) hlt (rev_perm _ _ _) (by rw [rev_size]) (fun x y hxy hy => ?_) ?_
        · rw [same, same, all x (by omega), all y hy]; exact Int.le_refl _
        · rw [same, same]; omega
    · exact descPart hz (by omega) hlt (Array.Perm.refl _) rfl (fun x y hxy hy => by rw [show x = y by omega]; exact Int.le_refl _) (by omega)
theorem place {p : Array Nat} {k : Nat} (hu : Up z p k) : ∀ (f l r : Nat), r - l ≤ f → l ≤ r → r ≤ k → (∀ a, a < l → Z z p a ≤ Z z p k) → (∀ a, r ≤ a → a < k → Z z p k ≤ Z z p a) →
    let m := run (ltz z) (kas_place p k f l r); m ≤ k ∧ (∀ a, a < m → Z z p a ≤ Z z p k) ∧ (∀ a, m ≤ a → a < k → Z z p k ≤ Z z p a)
  | 0, l, r, hf, hl, hr, h1, h2 => by
    intro m
    have e : l = r := by omega
    subst e
    exact ⟨hr, h1, h2⟩
  | f + 1, l, r, hf, hl, hr, h1, h2 => by
    intro m
    have hm : m = run (ltz z) (if l ≥ r then .ret l else .ask (p.getD k 0) (p.getD ((l + r) / 2) 0) fun c => if c = true then kas_place p k f l ((l + r) / 2) else kas_place p k f ((l + r) / 2 + 1) r) := rfl
    by_cases hlr : l ≥ r
    · rw [if_pos hlr] at hm
      rw [hm]
      have e : l = r := by omega
      subst e
      exact ⟨hr, h1, h2⟩
    · rw [if_neg hlr] at hm
      have hm' : m = run (ltz z) (if ltz z (p.getD k 0) (p.getD ((l + r) / 2) 0) = true then kas_place p k f l ((l + r) / 2) else kas_place p k f ((l + r) / 2 + 1) r) := hm
      by_cases hc : ltz z (p.getD k 0) (p.getD ((l + r) / 2) 0) = true
      · rw [if_pos hc] at hm'
        rw [hm']
        have hlt : Z z p k < Z z p ((l + r) / 2) := of_decide_eq_true hc
        exact place hu f l ((l + r) / 2) (by omega) (by omega) (by omega) h1 fun a ha hak => Int.le_trans (Int.le_of_lt hlt) (hu _ a ha hak)
      · rw [if_neg hc] at hm'
        rw [hm']
        have hge : Z z p ((l + r) / 2) ≤ Z z p k := by
          have : ¬ (Z z p k < Z z p ((l + r) / 2)) := fun q => hc (decide_eq_true q)
          omega
        exact place hu f ((l + r) / 2 + 1) r (by omega) (by omega) hr (fun a ha => Int.le_trans (hu a ((l + r) / 2) (by omega) (by omega)) hge) h2
theorem bin {p₀ : Array Nat} : ∀ (f : Nat) (p : Array Nat) (k : Nat), p.Perm p₀ → p.size = p₀.size → k + f ≤ p₀.size → Up z p k →
    (run (ltz z) (kas_bin f p k)).Perm p₀ ∧ (run (ltz z) (kas_bin f p k)).size = p₀.size ∧ Up z (run (ltz z) (kas_bin f p k)) (k + f)
  | 0, p, k, hp, hs, hk, hu => ⟨hp, hs, hu⟩
  | f + 1, p, k, hp, hs, hk, hu => by
    unfold kas_bin
    rw [run_bind]
    have P := place hu k 0 k (by omega) (by omega) (Nat.le_refl _) (fun a ha => absurd ha (Nat.not_lt_zero _)) fun a ha hak => absurd ha (by omega)
    dsimp only at P
    generalize run (ltz z) (kas_place p k k 0 k) = l at P
    obtain ⟨p1, p2, p3⟩ := P
    have zb := Z_bubble z (p := p) (src := k) (d := k - l) (by omega) (by omega)
    have e : k - (k - l) = l := by omega
    rw [e] at zb
    obtain ⟨q1, q2, q3⟩ := bin f (bubble p k (k - l)) (k + 1) ((bubble_perm _ _ _).trans hp) (by rw [bubble_size, hs]) (by omega) fun a b hab hb => by
      rw [zb, zb]
      by_cases ha1 : a = l
      · rw [if_pos ha1]
        by_cases hb1 : b = l
        · rw [if_pos hb1]; exact Int.le_refl _
        · rw [if_neg hb1]
          rw [if_pos (by omega)]
          exact p3 _ (by omega) (by omega)
      · rw [if_neg ha1]
        by_cases hb1 : b = l
        · rw [if_pos hb1, if_neg (by omega)]
          exact p2 a (by omega)
        · rw [if_neg hb1]
          by_cases ha2 : l < a ∧ a ≤ k
          · rw [if_pos ha2, if_pos (by omega)]
            exact hu _ _ (by omega) (by omega)
          · rw [if_neg ha2]
            by_cases hb2 : l < b ∧ b ≤ k
            · rw [if_pos hb2]
              exact hu _ _ (by omega) (by omega)
            · rw [if_neg hb2]
              exact hu _ _ hab (by omega)
    exact ⟨q1, q2, by rw [show k + (f + 1) = k + 1 + f by omega]; exact q3⟩
/-- THE SORT: a permutation of 0 .. n - 1 whose keys rise -/
theorem sort_ok {n : Nat} (h1 : 1 ≤ n) : (run (ltz z) (kas_sort n)).toList.Perm (List.range n) ∧ ((run (ltz z) (kas_sort n)).toList.map z).Pairwise (· ≤ ·) := by
  have hsz : (List.toArray (List.range n)).size = n := by simp
  have C := count (z := z) (p := List.toArray (List.range n)) (nrem := n) (by omega) h1
  have fin : ∀ p : Array Nat, p.Perm (List.toArray (List.range n)) → p.size = n → Up z p n → p.toList.Perm (List.range n) ∧ (p.toList.map z).Pairwise (· ≤ ·) := fun p a b c => by
    refine ⟨by have := a.toList; simpa using this, ?_⟩
    rw [List.pairwise_iff_getElem]
    intro i j hi hj hij
    have hi' : i < n := by simpa [b] using hi
    have hj' : j < n := by simpa [b] using hj
    have := c i j (Nat.le_of_lt hij) hj'
    unfold Z at this
    have e1 : p.getD i 0 = p[i] := by simp [Array.getD, b, hi']
    have e2 : p.getD j 0 = p[j] := by simp [Array.getD, b, hj']
    rw [e1, e2] at this
    simpa using this
  unfold kas_sort
  rw [run_bind]
  generalize run (ltz z) (kas_count n (List.toArray (List.range n))) = r at C
  obtain ⟨k, p⟩ := r
  have hs := C.size
  rw [hsz] at hs
  split
  · rename_i hlt
    have hge := C.ge
    have e : max k 1 = k := by have : 1 ≤ k := hge; omega
    rw [e]
    obtain ⟨q1, q2, q3⟩ := bin (z := z) (n - k) p k C.perm C.size (by rw [hsz]; have : k < n := hlt; omega) C.up
    refine fin _ q1 (by rw [q2, hsz]) ?_
    rw [show k + (n - k) = n by have : k < n := hlt; omega] at q3
    exact q3
  · rename_i hnlt
    have hle := C.le
    have e : k = n := by have h3 : k ≤ n := hle; have h4 : ¬ k < n := hnlt; omega
    subst e
    exact fin p C.perm hs C.up
end
end SP
set_option Elab.async false
set_option linter.all false
set_option maxRecDepth 100000
set_option maxHeartbeats 4000000
namespace Srt
open PySem PySem.W PySem.Calls PyProof.Rows
/-- the items as the sort leaves them -/
def outV (z : Nat → Int) (vs : List Value) : List Value := if vs.length < 2 then vs else (SP.run (SP.ltz z) (kas_sort vs.length)).toList.map fun i => vs.getD i Value.none
theorem outV_len (z : Nat → Int) (vs : List Value) : (outV z vs).length = vs.length := by
  unfold outV
  split
  · rfl
  · rename_i h
    have := (SP.sort_ok (z := z) (n := vs.length) (by omega)).1.length_eq
    simpa using this
section
variable {prog : Program} {w : World} {A : Around} {E : Value → Shared → Prop} {s : Shared}
theorem list_sortG {a : Addr} {vs : List Value} {n : Nat} {P : PySem.Fin → Shared → Prop} (ho : s.heap.get? a = some (seqObj "list" vs.toArray n)) (h64 : vs.length < 64) (z : Nat → Int) (κ : SortKind)
    (hk : 2 ≤ vs.length → ∀ h' : Heap, (∀ b o, b ≠ a → s.heap.get? b = some o → h'.get? b = some o) → ∀ Q' : SortKind → Shared → Prop, Q' κ { s with heap := h' } → wpAny (model prog w) A (keyKind' vs.toArray) Q' (fun _ _ => False) { s with heap := h' })
    (hlt : 2 ≤ vs.length → ∀ h' : Heap, (∀ b o, b ≠ a → s.heap.get? b = some o → h'.get? b = some o) → ∀ i j C, i < vs.length → j < vs.length → C (SP.ltz z i j) { s with heap := h' } → kas_ask prog w A κ vs i j C { s with heap := h' })
    (h : ∀ (h' : Heap) (c : Nat), (∀ b o, b ≠ a → s.heap.get? b = some o → h'.get? b = some o) → h'.get? a = some (seqObj "list" (outV z vs).toArray c) → P (.done (.ret .none)) { s with heap := h' }) :
    wpAny (model prog w) A (Builtin.«list.sort» ⟨[.ref a], []⟩) P E s := by
  rw [list_sort_plain]
  have ha : a < s.heap.objs.size := Heap.lt_size ho
  have hsl : vs.length ≤ sizeLine := by rw [sizeLine_eq]; omega
  refine wpAny_bind (listItems_at ho rfl (wpAny_bind (listUpdate_at ho rfl ?_ (by simpa using hsl) (Nat.zero_le _))))
  obtain ⟨e1, ho1⟩ : ∃ e, (s.heap.update a (Obj.mapSeq fun _ => (#[] : Array Value))).get? a = some (seqObj "list" #[] e) := ⟨_, get?_update_seq ho fun _ => #[]⟩
  have kp1 : ∀ b o, b ≠ a → s.heap.get? b = some o → (s.heap.update a (Obj.mapSeq fun _ => (#[] : Array Value))).get? b = some o := fun b o hb e => (Heap.get?_update_other _ _ (Ne.symm hb)).trans e
  refine wpAny_bind (seqEpoch_at ho1 rfl (wpAny_bind (wpAny_newTuple ?_ (by simpa using hsl))))
  refine wpAny_bind (wpAny_newList (wpAny_holding ?_) (Nat.zero_le _))
  have ho3 : (((s.heap.update a (Obj.mapSeq fun _ => (#[] : Array Value))).push (seqObj "tuple" vs.toArray 0)).push (seqObj "list" #[] 0)).get? a = some (seqObj "list" #[] e1) := Heap.get?_push_of_some _ (Heap.get?_push_of_some _ ho1)
  have kp3 : ∀ b o, b ≠ a → s.heap.get? b = some o → (((s.heap.update a (Obj.mapSeq fun _ => (#[] : Array Value))).push (seqObj "tuple" vs.toArray 0)).push (seqObj "list" #[] 0)).get? b = some o := fun b o hb e => Heap.get?_push_of_some _ (Heap.get?_push_of_some _ (kp1 b o hb e))
  show wpAny _ A _ P E { s with heap := ((s.heap.update a (Obj.mapSeq fun _ => (#[] : Array Value))).push (seqObj "tuple" vs.toArray 0)).push (seqObj "list" #[] 0) }
  generalize ((s.heap.update a (Obj.mapSeq fun _ => (#[] : Array Value))).push (seqObj "tuple" vs.toArray 0)).push (seqObj "list" #[] 0) = h3 at ho3 kp3
  clear ho1 kp1
  dsimp only
  -- behind the run: the items are stored
  have fin : ∀ st' : SortSt, (arrOf st').map (·.2) = (outV z vs).toArray → failedOf st' = none →
      wpAny (model prog w) A (do
        let sorted := (arrOf st').map (·.2)
        let touched := (← seqEpoch a) != e1
        Builtin.List.listUpdate (.ref a) fun _ => sorted
        if let some e := failedOf st' then rule "list.sort.comparison-raised"; throw e
        if touched then rule "list.sort.modified"; raiseError "ValueError" "list modified during sort"
        ret .none) P E { s with heap := h3 } := fun st' h1 h2 => by
    dsimp only
    rw [h1, h2]
    refine wpAny_bind (seqEpoch_at ho3 rfl ?_)
    refine wpAny_bind (listUpdate_at ho3 rfl ?_ (Nat.zero_le _) (by show (outV z vs).toArray.size ≤ _; rw [List.size_toArray, outV_len]; omega))
    obtain ⟨c, hc⟩ : ∃ c, (h3.update a (Obj.mapSeq fun _ => (outV z vs).toArray)).get? a = some (seqObj "list" (outV z vs).toArray c) := ⟨_, get?_update_seq ho3 fun _ => (outV z vs).toArray⟩
    have q := h _ c (fun b o hb e => (Heap.get?_update_other _ _ (Ne.symm hb)).trans (kp3 b o hb e)) hc
    simp only [bne_self_eq_false, Bool.false_eq_true, if_false]
    exact wpAny_pure q
  by_cases h2 : vs.toArray.size < 2
  · rw [if_pos h2, if_pos h2]
    refine wpAny_bind (wpAny_pure ?_)
    rw [StateT.run_pure]
    refine wpAny_bind (wpAny_pure (fin _ ?_ rfl))
    have h2' : vs.length < 2 := by simpa using h2
    unfold outV
    rw [if_pos h2']
    show ((vs.toArray.zip vs.toArray).map (·.2)) = vs.toArray
    apply Array.toList_inj.mp
    simp only [Array.toList_map, Array.toList_zip]
    exact List.map_snd_zip (Nat.le_refl _)
  · rw [if_neg h2, if_neg h2]
    have h2' : 2 ≤ vs.length := by
      have : ¬ vs.length < 2 := by simpa using h2
      omega
    refine wpAny_bind (wpAny_mono (hk h2' h3 kp3 (fun κ' s' => κ' = κ ∧ s' = { s with heap := h3 }) ⟨rfl, rfl⟩) (fun κ' s' hs => ?_) fun _ _ x => x.elim)
    obtain ⟨rfl, rfl⟩ := hs
    refine wpAny_bind (wpAny_mono (kat_run (Q := fun st' s' => s' = { s with heap := h3 } ∧ (arrOf st').map (·.2) = (outV z vs).toArray ∧ failedOf st' = none) (G := fun p s' => s' = { s with heap := h3 } ∧ p = SP.run (SP.ltz z) (kas_sort vs.length))
      rfl h2' h64 (fun p st' s' a1 a2 a3 a4 => ⟨a4.1, ?_, a3⟩) (SP.wp_run (hlt h2' h3 kp3) (kas_sort vs.length) (SP.b_sort (by omega)) ⟨rfl, rfl⟩)) ?_ fun _ _ e => e)
    · rw [kat_snds rfl a2, a4.2]
      unfold outV
      rw [if_neg (by omega)]
    · rintro ⟨⟨⟩, st'⟩ s' ⟨hs, h4, h5⟩
      subst hs
      exact fin st' h4 h5
theorem sortedG {l : Addr} {vs : List Value} {Q : Value → Shared → Prop} (hl : s.heap.IsList l vs.toArray) (h64 : vs.length < 64) (z : Nat → Int) (κ : SortKind)
    (hk : 2 ≤ vs.length → ∀ h' : Heap, (∀ b o, s.heap.get? b = some o → h'.get? b = some o) → ∀ Q' : SortKind → Shared → Prop, Q' κ { s with heap := h' } → wpAny (model prog w) A.in1.in1 (keyKind' vs.toArray) Q' (fun _ _ => False) { s with heap := h' })
    (hlt : 2 ≤ vs.length → ∀ h' : Heap, (∀ b o, s.heap.get? b = some o → h'.get? b = some o) → ∀ i j C, i < vs.length → j < vs.length → C (SP.ltz z i j) { s with heap := h' } → kas_ask prog w A.in1.in1 κ vs i j C { s with heap := h' })
    (h : ∀ (h' : Heap) (D : Addr) (c : Nat), (∀ b o, s.heap.get? b = some o → h'.get? b = some o) → s.heap.objs.size ≤ D → h'.get? D = some (seqObj "list" (outV z vs).toArray c) → Q (.ref D) { s with heap := h' }) :
    wpAny (model prog w) A (call (.builtin "sorted") [.ref l]) Q E s := by
  have hsl : vs.length ≤ sizeLine := by rw [sizeLine_eq]; omega
  refine Calls.call_function_entry kind_sorted plain_sorted entry_sorted (args_sorted1 _) ?_
  unfold Builtin.«sorted»
  refine wpAny_bind (m := checkCount "sorted" 1 1 _) (wpAny_pure (wpAny_bind (collect_list hl ?_ hsl)))
  refine wpAny_bind (wpAny_newList ?_ (by simpa using hsl))
  have hsz : ((s.heap.push (seqObj "list" #[] 0)).update s.heap.objs.size (Obj.mapSeq (· ++ vs.toArray))).objs.size = s.heap.objs.size + 1 := by rw [Heap.size_update, size_push']
  have kp : ∀ b o, s.heap.get? b = some o → (((s.heap.push (seqObj "list" #[] 0)).update s.heap.objs.size (Obj.mapSeq (· ++ vs.toArray))).push (seqObj "list" vs.toArray 0)).get? b = some o := fun b o e =>
    Heap.get?_push_of_some _ ((Heap.get?_update_other _ _ (Nat.ne_of_gt (Heap.lt_size e))).trans (Heap.get?_push_of_some _ e))
  have hoD : (((s.heap.push (seqObj "list" #[] 0)).update s.heap.objs.size (Obj.mapSeq (· ++ vs.toArray))).push (seqObj "list" vs.toArray 0)).get? (s.heap.objs.size + 1) = some (seqObj "list" vs.toArray 0) := by
    rw [← hsz]; exact Heap.get?_push_size _ rfl
  show wpAny _ _ _ _ _ { s with heap := ((s.heap.push (seqObj "list" #[] 0)).update s.heap.objs.size (Obj.mapSeq (· ++ vs.toArray))).push (seqObj "list" vs.toArray 0) }
  rw [hsz]
  generalize ((s.heap.push (seqObj "list" #[] 0)).update s.heap.objs.size (Obj.mapSeq (· ++ vs.toArray))).push (seqObj "list" vs.toArray 0) = h1 at kp hoD
  have kk : ∀ h' : Heap, (∀ b o, b ≠ s.heap.objs.size + 1 → h1.get? b = some o → h'.get? b = some o) → ∀ b o, s.heap.get? b = some o → h'.get? b = some o := fun h' q b o e => q b o (Nat.ne_of_lt (Nat.lt_succ_of_lt (Heap.lt_size e))) (kp b o e)
  refine wpAny_bind (wpAny_holding (wpAny_call_entry slot_list_sort ⟨_, hoD, rfl⟩ entry_list_sort (list_sortG hoD h64 z κ (fun a h' q => hk a h' (kk h' q)) (fun a h' q => hlt a h' (kk h' q)) fun h' c q e => ⟨_, rfl, ?_⟩) (args_list_sort _)))
  exact wpAny_pure ⟨_, rfl, h h' _ c (kk h' q) (by omega) e⟩
end
end Srt
set_option Elab.async false
set_option linter.all false
set_option maxRecDepth 100000
set_option maxHeartbeats 4000000
namespace Dl
open PySem L2 PySem.Spec PyProof.Rows
section
variable {X : Cx} {HF₀ H₀ : Hp} {e e2 : Expr} {es : List Expr} {pos apos cpos px p : Pos} {x : Str} {fs : Env → Option (List D)}
/-! xs.extend([..]) -/
def gExt (i : Nat) (fz : List Nat) (f : Env → Option (List D)) : SEnv → Option Out := fun ρ => (f (vFrz (hand fz 0 ρ))).bind fun us => gMut i (fun ds => if ds.length + us.length ≤ sizeLine then some (ds ++ us) else none) (hand fz 0 ρ)
theorem ds_extend (i : Nat) (fz : List Nat) {f : Env → Option (List D)} (hN : X.N[i]? = some x) (hv : Vis X.env.scope x) (h : DF X e f) (hd : (x == ("__debug__" : Str)) = false := by decide) (hcd : (x == ("__classdict__" : Str)) = false := by decide)
    (hfew : ((backTo cpos (starEach [e] X.env)).all (fun x => !x.1) && (backToKw cpos (keywordEach [] X.env)).all (fun x => x.1.isSome) && decide ([e].length + ([] : List Keyword).length + (if ([] : List Keyword).isEmpty then 0 else 1) < 30)) = true := by rfl)
    (hline : (apos.endLine == cpos.line) = true := by rfl) (hs : starEach [e] X.env = (false, eval e X.env) :: starEach [] X.env := by rfl) :
    DS X HF₀ H₀ (.Expr (.Call (.Attribute (.Name x px) "extend" apos) [e] [] cpos) pos) (gExt i fz f) :=
  ps_imp (ps_expr (pe_bm PySem.F.plainAttrs_list PySem.F.slot_list_extend PySem.F.type_list_extend mt_extend (pe_var hN hv hd hcd) (pa_cons h pa_nil hs) rfl hfew hline hs rfl)) fun E σ H ⟨HF, ρ, o, S, hg, q⟩ => by
    obtain ⟨us, h1, hg⟩ := bs hg
    obtain ⟨ds, es, h2, h3, rfl⟩ := gMut_some hg
    obtain ⟨HF1, s1, S1⟩ := S.hand fz
    obtain ⟨a, vs, e1, e2, e3, e5, e4⟩ := S1.own i ds h2
    refine ⟨.ref a, e1, .inl ⟨rfl, vs, SqL.of e2⟩, HF1, _, us, S1.gr.fh, S1.frz, h1, fun b ws H' HF' G hb hf h' r => ?_⟩
    have S2 := S1.grow G
    obtain ⟨a', vs', f1, f2, f3, f5, f4⟩ := S2.own i ds h2
    rw [e1] at f1; cases f1
    split at h3
    · rename_i hz
      cases h3
      exact ⟨a, b, vs', ws, rfl, rfl, f2, h', by rw [f4.length, r.length]; exact hz, q σ _ HF' (S2.mut h2 e1 f2 (f4.append r)) (s1.trans G.ff)⟩
    · cases h3
/-! xs.insert(i, e) -/
def insAt (ds : List D) (k : Int) (d : D) : List D := let j := if k < 0 then (k + (ds.length : Int)).toNat else min k.toNat ds.length; ds.take j ++ d :: ds.drop j
def rInsert : V → List V → Hp → VK → Prop := fun x vs H Q => ∃ l xs k y, x = .ref l ∧ vs = [.int k, y] ∧ H l = some (.lst xs) ∧ xs.length < sizeLine ∧ -(2 ^ 62) ≤ k ∧ k < 2 ^ 62 ∧
  Q .non (upd H l (.lst (xs.take (if k < 0 then (k + (xs.length : Int)).toNat else min k.toNat xs.length) ++ y :: xs.drop (if k < 0 then (k + (xs.length : Int)).toNat else min k.toNat xs.length))))
theorem mt_insert : MtM X "list.insert" rInsert := by
  intro pins s σ H x vs v us Q I rx rv h
  obtain ⟨l, xs, k, y, rfl, rfl, hH, hz, k1, k2, q⟩ := h
  cases rx
  obtain ⟨u1, u2, rfl, ⟨t, rfl⟩, ru⟩ := L2.Vals.two rv
  obtain ⟨z, its, n, r, hl, e⟩ := I.lstM hH
  have hfit : ¬(!Builtin.List.listFitsIndex k) = true := by
    have : Builtin.List.listFitsIndex k = true := by
      unfold Builtin.List.listFitsIndex
      simp only [Bool.and_eq_true, decide_eq_true_eq]
      omega
    rw [this]; simp
  refine call_meets F.slot_list_insert ⟨_, e, rfl⟩ F.entry_list_insert (F.args_list_insert_3 _ _ _) (AutoListH.list_insert_list_int_val_1 l its.toArray n k t u2 hfit (by rw [List.size_toArray]; omega)) ⟨e, ?_⟩
  have hlen : its.length = xs.length := hl.symm
  refine ⟨.non, _, I.lset (its' := its.take (if k < 0 then (k + (xs.length : Int)).toNat else min k.toNat xs.length) ++ u2 :: its.drop (if k < 0 then (k + (xs.length : Int)).toNat else min k.toNat xs.length)) hH e ?_ ((r.take _).append (.cons ru (r.drop _))) ?_, rfl, q⟩
  · dsimp only
    rw [List.size_toArray, hlen]
    apply Array.toList_inj.mp
    simp
    exact List.take_of_length_le (by rw [List.length_drop, hlen]; exact Nat.le_refl _)
  · rw [List.length_append, List.length_cons, List.length_take, List.length_drop]
    omega
def gIns (i : Nat) (fz : List Nat) (fk f : Env → Option D) : SEnv → Option Out := fun ρ => (fk (vAll ρ)).bind fun kd => match kd with
  | .int k => (itemD fz f ρ).bind fun p => gMut i (fun ds => if okR k = true ∧ ds.length < sizeLine then some (insAt ds k p.1) else none) p.2
  | _ => none
theorem ds_insert (i : Nat) (fz : List Nat) {fk f : Env → Option D} (hN : X.N[i]? = some x) (hv : Vis X.env.scope x) (hk : DE X e fk) (h : DE X e2 f) (hd : (x == ("__debug__" : Str)) = false := by decide) (hcd : (x == ("__classdict__" : Str)) = false := by decide)
    (hfew : ((backTo cpos (starEach [e, e2] X.env)).all (fun x => !x.1) && (backToKw cpos (keywordEach [] X.env)).all (fun x => x.1.isSome) && decide ([e, e2].length + ([] : List Keyword).length + (if ([] : List Keyword).isEmpty then 0 else 1) < 30)) = true := by rfl)
    (hline : (apos.endLine == cpos.line) = true := by rfl) (hs : starEach [e, e2] X.env = (false, eval e X.env) :: starEach [e2] X.env := by rfl) (hs2 : starEach [e2] X.env = (false, eval e2 X.env) :: starEach [] X.env := by rfl) :
    DS X HF₀ H₀ (.Expr (.Call (.Attribute (.Name x px) "insert" apos) [e, e2] [] cpos) pos) (gIns i fz fk f) :=
  ps_imp (ps_expr (pe_bm PySem.F.plainAttrs_list PySem.F.slot_list_insert PySem.F.type_list_insert mt_insert (pe_var hN hv hd hcd) (pa_cons hk (pa_cons h pa_nil hs2) hs) rfl hfew hline hs (by rw [hs2]; rfl))) fun E σ H ⟨HF, ρ, o, S, hg, q⟩ => by
    obtain ⟨kd, hkd, hg⟩ := bs hg
    cases kd <;> try cases hg
    rename_i k
    obtain ⟨⟨d, ρ'⟩, h1, hg⟩ := bs hg
    obtain ⟨ds, es, h2, h3, rfl⟩ := gMut_some hg
    have hown : ∃ ds', ρ[i]? = some (.own ds') := by
      obtain ⟨d1, _, h1⟩ := bs h1
      split at h1
      · cases h1; exact ⟨ds, h2⟩
      · obtain ⟨d2, _, h1⟩ := map_some h1
        cases h1
        rw [hand_get] at h2
        obtain ⟨s, hs, h2⟩ := map_some h2
        cases s with
        | non => split at h2 <;> cases h2
        | val _ => split at h2 <;> cases h2
        | own xs => exact ⟨xs, hs⟩
    obtain ⟨ds', hown⟩ := hown
    obtain ⟨a, vs, e1, e2, e3, e5, e4⟩ := S.own i ds' hown
    refine ⟨.ref a, e1, .inl ⟨rfl, vs, SqL.of e2⟩, H, vAll ρ, _, .refl _, S.all, hkd, fun vk Hk HFk Gk rk => ?_⟩
    simp only [Rep] at rk
    subst rk
    refine itemD_run (S.step Gk.hh) h1 fun v H' HF' s1 S' sh r => ?_
    obtain ⟨a', vs', f1, f2, f3, f5, f4⟩ := S'.own i ds h2
    rw [e1] at f1; cases f1
    split at h3
    · rename_i hz
      cases h3
      have ok := hz.1
      unfold okR at ok
      rw [Bool.and_eq_true] at ok
      refine ⟨a, vs', k, v, rfl, rfl, f2, by rw [f4.length]; exact hz.2, of_decide_eq_true ok.1, of_decide_eq_true ok.2, q σ _ HF' (S'.mut h2 e1 f2 ?_) s1⟩
      unfold insAt
      rw [f4.length]
      exact (f4.take _).append (Reps.cons r (f4.drop _))
    · cases h3
/-! list + list -/
def gCatL : D → D → Option (List D)
  | .list xs, .list ys => small (xs ++ ys)
  | _, _ => none
def rCatLL (K : PySem.W.Frag) : R2 := fun x y H Q => ∃ a b xs ys, x = .ref a ∧ y = .ref b ∧ SqL K H a xs ∧ SqL K H b ys ∧ xs.length + ys.length ≤ sizeLine ∧ ∀ p, H p = none → Q (.ref p) (upd H p (.lst (xs ++ ys)))
theorem op_catLL : OpR X (binaryOp .Add) (rCatLL X.K) := by
  intro pins s σ H x y v u Q I rx ry h
  obtain ⟨a, b, xs, ys, rfl, rfl, ha, hb, hz, q⟩ := h
  cases rx
  cases ry
  obtain ⟨its, r1, p1, _⟩ := I.list ha
  obtain ⟨its2, r2, p2, _⟩ := I.list hb
  obtain ⟨⟨cls, dd, data, sl⟩, ho, hc, n, hd⟩ := id p1.isList
  obtain ⟨⟨cls2, dd2, data2, sl2⟩, ho2, hc2, n2, hd2⟩ := id p2.isList
  simp only at hc hd hc2 hd2
  subst hc hd hc2 hd2
  refine concat_meets ⟨_, ho, rfl⟩ ⟨_, ho2, rfl⟩ noFill_list_add seq_list_add PySem.F.slot_list_add PySem.F.entry_list_add (PySem.F.args_list_add_2 _ _) (list_addW a b its.toArray its2.toArray n n2 dd dd2 sl sl2 (by rw [List.size_toArray, List.size_toArray, ← r1.length, ← r2.length]; exact hz)) ⟨ho, ho2, ?_⟩
  have e : its.toArray ++ its2.toArray = (its ++ its2).toArray := by simp
  rw [e]
  exact ⟨.ref s.heap.objs.size, _, I.lnew (t' := s.toks) (r1.append r2) (by rw [List.length_append]; exact hz), rfl, q _ I.fresh⟩
/-! all, any of bools -/
def boolsOf : List D → Option (List Bool)
  | [] => some []
  | .bool b :: r => (boolsOf r).map (b :: ·)
  | _ :: _ => none
theorem boolsOf_some : ∀ {ds : List D} {bs : List Bool}, boolsOf ds = some bs → ds = bs.map PyData.bool
  | [], bs, h => by cases h; rfl
  | d :: r, bs, h => by
    cases d <;> simp only [boolsOf] at h <;> try cases h
    obtain ⟨bs', h1, rfl⟩ := map_some h
    rw [boolsOf_some h1]
    rfl
theorem reps_bools {K : PySem.W.Frag} {H : Hp} : ∀ {bs : List Bool} {vs : List V}, Reps K H (bs.map PyData.bool) vs → vs = bs.map V.bl
  | [], vs, h => h.nil_inv
  | b :: bs, vs, h => by
    obtain ⟨v, r, rfl, a, c⟩ := h.cons_inv
    simp only [Rep] at a
    rw [a, reps_bools c]
    rfl
theorem vals_bools : ∀ {bs : List Bool} {us : List Value}, Vals (bs.map V.bl) us → us = bs.map Value.bool
  | [], us, h => by cases h; rfl
  | b :: bs, us, h => by
    cases h with
    | cons r rr => cases r; rw [vals_bools rr]; rfl
theorem range_all (bs : List Bool) : (List.range bs.length).all (fun i => bs.getD i false) = bs.all id := by
  induction bs with
  | nil => rfl
  | cons b bs ih => rw [List.length_cons, List.range_succ_eq_map, List.all_cons, List.all_map, List.all_cons]; simpa [Function.comp_def] using congrArg (b && ·) ih
theorem call_all_l (hc : X.calm = true) : CallR X (.builtin "all") (fun xs H Q => ∃ (a : Addr) (bs : List Bool), xs = [.ref a] ∧ SqL X.K H a (bs.map V.bl) ∧ Q (.bl (bs.all id)) H) := by
  intro pins s σ H xs us Q I r h
  obtain ⟨a, bs, rfl, hq, q⟩ := h
  obtain ⟨u, rfl, rx⟩ := vals1 r
  cases rx
  obtain ⟨its, rv, pl, hz⟩ := I.list hq
  have hv := vals_bools rv
  subst hv
  have hh : X.A.in1.handled = none := I.ok.hd hc
  refine call_all_walk (wpAny_pyIter_list pl.isList ?_)
  obtain ⟨o, ho, hcl, n, hd⟩ := pl.isList
  have hne : a ≠ s.heap.objs.size := Nat.ne_of_lt (Heap.lt_size ho)
  refine ⟨_, _, _, _, _, _, fun i => bs.getD i false, rfl, Walks.list hh s.heap.objs.size a hne (bs.map Value.bool).toArray, ⟨⟨_, Heap.get?_push_size _ rfl, rfl, rfl⟩, pl.isList.push _⟩, fun i v s' Q' E' hP hQ => ?_, fun h' tk kp => ?_⟩
  · have e : v = Value.bool (bs.getD i false) := by
      have hP : (bs.map Value.bool).toArray[i]? = some v := hP
      rw [List.getElem?_toArray, List.getElem?_map] at hP
      obtain ⟨b, hb, rfl⟩ := map_some hP
      rw [List.getD_eq_getElem?_getD, hb]
      rfl
    subst e
    exact wpAny_truthy_bool hQ
  · refine ⟨.bl (bs.all id), H, ?_, ?_, q⟩
    · exact I.kept (t' := tk) fun b o' e => kp b o' (by simp; exact Nat.ne_of_lt (Heap.lt_size e)) (Heap.get?_push_of_some _ e)
    · show Value.bool _ = Value.bool _
      have := range_all bs
      simp only [List.size_toArray, List.length_map]
      rw [this]
def gAll : List D → Option D := fun ds => (oneOf ds).bind fun d => match d with
  | .list es => (boolsOf es).map fun bs => .bool (bs.all id)
  | _ => none
theorem de_all (hc : X.calm = true) (B : Blt X "all" (.builtin "all")) (ha : DA X [e] fs) (he : starEach [e] X.env = (false, eval e X.env) :: starEach [] X.env := by rfl) : DE X (.Call (.Name "all" p) [e] [] pos) (fCB gAll fs) :=
  de_callB (call_all_l hc) (by
    intro HF H ds vs d Q sm r hg q
    obtain ⟨x, hx, hg⟩ := bs hg
    rw [oneOf_some hx] at r
    cases x <;> try cases hg
    obtain ⟨bs, hb, rfl⟩ := map_some hg
    obtain ⟨v, r', rfl, a, b⟩ := r.cons_inv
    rw [b.nil_inv]
    simp only [Rep] at a
    obtain ⟨p, us, rfl, h, rr⟩ := a
    rw [boolsOf_some hb] at rr
    have := reps_bools rr
    subst this
    exact ⟨p, bs, rfl, sm.seq h, q _ H HF (.refl sm) (by simp [Rep])⟩) B ha (by decide) (by decide) he rfl
end
end Dl
set_option Elab.async false
set_option linter.all false
set_option maxRecDepth 100000
set_option maxHeartbeats 4000000
namespace Dl
open PySem L2 PySem.Spec PyProof.Rows
/-! rows of ints in the order of tuples -/
abbrev lexLt := HT.lexLt
theorem lex_irrefl : ∀ a : List Int, lexLt a a = false
  | [] => rfl
  | x :: a => by show HT.lexLt (x :: a) (x :: a) = false; rw [HT.lexLt_cons, if_pos rfl]; exact lex_irrefl a
theorem lex_trans : ∀ {a b c : List Int}, lexLt a b = true → lexLt b c = true → lexLt a c = true
  | [], [], _, h, _ => by cases h
  | [], _ :: _, [], _, h => by cases h
  | [], _ :: _, _ :: _, _, _ => rfl
  | _ :: _, [], _, h, _ => by cases h
  | _ :: _, _ :: _, [], _, h => by cases h
  | x :: a, y :: b, z :: c, h1, h2 => by
    have h1 : HT.lexLt (x :: a) (y :: b) = true := h1
    have h2 : HT.lexLt (y :: b) (z :: c) = true := h2
    show HT.lexLt (x :: a) (z :: c) = true
    rw [HT.lexLt_cons] at h1 h2 ⊢
    by_cases e1 : x = y
    · rw [if_pos e1] at h1
      by_cases e2 : y = z
      · rw [if_pos e2] at h2
        rw [if_pos (e1.trans e2)]
        exact lex_trans h1 h2
      · rw [if_neg e2] at h2
        rw [if_neg (by omega)]
        have := of_decide_eq_true h2
        exact decide_eq_true (by omega)
    · rw [if_neg e1] at h1
      have q1 := of_decide_eq_true h1
      by_cases e2 : y = z
      · rw [if_neg (by omega)]
        exact decide_eq_true (by omega)
      · rw [if_neg e2] at h2
        have q2 := of_decide_eq_true h2
        rw [if_neg (by omega)]
        exact decide_eq_true (by omega)
theorem lex_total : ∀ {a b : List Int}, lexLt a b = false → lexLt b a = false → a = b
  | [], [], _, _ => rfl
  | [], _ :: _, h, _ => by cases h
  | _ :: _, [], _, h => by cases h
  | x :: a, y :: b, h1, h2 => by
    have h1 : HT.lexLt (x :: a) (y :: b) = false := h1
    have h2 : HT.lexLt (y :: b) (x :: a) = false := h2
    rw [HT.lexLt_cons] at h1 h2
    by_cases e : x = y
    · rw [if_pos e] at h1
      rw [if_pos e.symm] at h2
      rw [e, lex_total h1 h2]
    · rw [if_neg e] at h1
      rw [if_neg (fun z => e z.symm)] at h2
      have := of_decide_eq_false h1
      have := of_decide_eq_false h2
      omega
def lexLe (a b : List Int) : Bool := !lexLt b a
theorem lexLe_trans (a b c : List Int) (h1 : lexLe a b = true) (h2 : lexLe b c = true) : lexLe a c = true := by
  unfold lexLe at *
  rw [Bool.not_eq_true'] at *
  cases e : lexLt c a with
  | false => rfl
  | true =>
    cases e1 : lexLt a b with
    | true => rw [lex_trans e e1] at h2; cases h2
    | false =>
      have := lex_total e1 h1
      subst this
      rw [e] at h2; cases h2
theorem lexLe_total (a b : List Int) : (lexLe a b || lexLe b a) = true := by
  unfold lexLe
  cases e1 : lexLt b a with
  | false => rfl
  | true =>
    cases e2 : lexLt a b with
    | false => rfl
    | true => have := lex_trans e1 e2; rw [lex_irrefl] at this; cases this
theorem lexLe_anti {a b : List Int} (h1 : lexLe a b = true) (h2 : lexLe b a = true) : a = b := by
  unfold lexLe at *
  rw [Bool.not_eq_true'] at *
  exact lex_total h2 h1
/-- two sorted lists of the same items are one -/
theorem sorted_eq {α : Type} {le : α → α → Bool} (anti : ∀ a b, le a b = true → le b a = true → a = b) : ∀ {l m : List α}, l.Perm m → l.Pairwise (fun a b => le a b = true) → m.Pairwise (fun a b => le a b = true) → l = m
  | [], m, p, _, _ => p.nil_eq
  | a :: l, [], p, _, _ => by have := p.length_eq; simp at this
  | a :: l, b :: m, p, h1, h2 => by
    obtain ⟨h1a, h1b⟩ := List.pairwise_cons.mp h1
    obtain ⟨h2a, h2b⟩ := List.pairwise_cons.mp h2
    have e : a = b := by
      have ha : a ∈ b :: m := p.mem_iff.mp List.mem_cons_self
      have hb : b ∈ a :: l := p.mem_iff.mpr List.mem_cons_self
      rcases List.mem_cons.mp ha with e | ha
      · exact e
      · rcases List.mem_cons.mp hb with e | hb
        · exact e.symm
        · exact anti a b (h1a b hb) (h2a a ha)
    subst e
    rw [sorted_eq anti (List.perm_cons a |>.mp p) h1b h2b]
def srt (l : List (List Int)) : List (List Int) := l.mergeSort lexLe
theorem srt_perm (l : List (List Int)) : (srt l).Perm l := List.mergeSort_perm l lexLe
theorem srt_up (l : List (List Int)) : (srt l).Pairwise (fun a b => lexLe a b = true) := List.pairwise_mergeSort lexLe_trans lexLe_total l
theorem srt_of {l m : List (List Int)} (p : l.Perm m) (h : l.Pairwise (fun a b => lexLe a b = true)) : l = srt m := sorted_eq (fun _ _ => lexLe_anti) (p.trans (srt_perm m).symm) h (srt_up m)
/-- a place's number in the order -/
def rk (l : List (List Int)) (a : List Int) : Int := ((l.countP fun b => lexLt b a : Nat) : Int)
theorem rk_lt {l : List (List Int)} {a b : List Int} (ha : a ∈ l) : lexLt a b = decide (rk l a < rk l b) := by
  unfold rk
  have mono : ∀ {a b : List Int}, lexLt a b = true → (l.countP fun c => lexLt c a) ≤ l.countP fun c => lexLt c b := fun {a b} h => List.countP_mono_left fun c _ hc => lex_trans hc h
  have strict : ∀ {a b : List Int} (ha : a ∈ l), lexLt a b = true → (l.countP fun c => lexLt c a) < l.countP fun c => lexLt c b := fun {a b} ha h => by
    have key : ∀ m : List (List Int), a ∈ m → (m.countP fun c => lexLt c a) < m.countP fun c => lexLt c b := fun m hm => by
      induction m with
      | nil => cases hm
      | cons x m ih =>
        rw [List.countP_cons, List.countP_cons]
        have mo : (m.countP fun c => lexLt c a) ≤ m.countP fun c => lexLt c b := List.countP_mono_left fun c _ hc => lex_trans hc h
        rcases List.mem_cons.mp hm with e | hm
        · subst e
          rw [lex_irrefl, h]
          simp only [Bool.false_eq_true, if_false, if_true]
          omega
        · have := ih hm
          by_cases hx : lexLt x a = true
          · rw [hx, lex_trans hx h]; simp only [if_true]; omega
          · have hx' : lexLt x a = false := by simpa using hx
            rw [hx']
            simp only [Bool.false_eq_true, if_false]
            split <;> omega
    exact key l ha
  cases e : lexLt a b with
  | true => exact (decide_eq_true (by have := strict ha e; omega)).symm
  | false =>
    refine (decide_eq_false ?_).symm
    cases e2 : lexLt b a with
    | true => have := mono e2; omega
    | false => rw [lex_total e e2]; omega
end Dl
set_option Elab.async false
set_option linter.all false
set_option maxRecDepth 100000
set_option maxHeartbeats 4000000
namespace Dl
open PySem L2 PySem.Spec PyProof.Rows
section
variable {prog : Program} {w : World} {A : Around} {E : Value → Shared → Prop} {s : Shared}
theorem lex_loop {Q : Bool → Shared → Prop} : ∀ {us ws : List Value} {ns ms : List Int} (i : Nat), IntsAre us ns → IntsAre ws ms → Q (lexLt ns ms) s → PySem.W.KatLex prog w A true (decide (ns.length < ms.length)) Q (us.zip ws) i s
  | [], [], _, _, i, .nil, .nil, h => h
  | [], _ :: _, _, _, i, .nil, .cons _ _ _, h => by
    show Q (decide (0 < _ + 1)) s
    rw [decide_eq_true (Nat.succ_pos _)]
    exact h
  | _ :: _, [], _, _, i, .cons _ _ _, .nil, h => by
    show Q (decide (_ + 1 < 0)) s
    rw [decide_eq_false (Nat.not_lt_zero _)]
    exact h
  | _ :: us, _ :: ws, _, _, i, .cons n t r1, .cons m u r2, h => by
    have h : Q (HT.lexLt (n :: _) (m :: _)) s := h
    rw [HT.lexLt_cons] at h
    refine PySem.W.kat_cons (SeqAt.EqAt.int_int n t m u prog w _ _ ?_)
    cases e : (n == m) with
    | true =>
      have e' : n = m := eq_of_beq e
      rw [if_pos e'] at h
      refine PySem.W.kat_yes ?_
      have := lex_loop (i + 1) r1 r2 h
      simp only [List.length_cons, Nat.add_lt_add_iff_right]
      exact this
    | false =>
      have e' : ¬ n = m := fun q => by rw [q] at e; simp at e
      rw [if_neg e'] at h
      refine PySem.W.kat_no ?_
      by_cases hi : (true && i == 0) = true
      · rw [hi]
        exact oneLt_int h
      · have hi' : (true && i == 0) = false := by simpa using hi
        rw [hi']
        refine PySem.W.kat_one _ _ (lt_int ?_)
        exact h
end
/-! sorted(..) of a list of rows of ints -/
def rowD (ns : List Int) : D := .tuple (ns.map PyData.int)
def intsOf : List D → Option (List Int)
  | [] => some []
  | .int n :: r => (intsOf r).map (n :: ·)
  | _ :: _ => none
theorem intsOf_some : ∀ {ds : List D} {ns : List Int}, intsOf ds = some ns → ds = ns.map PyData.int
  | [], ns, h => by cases h; rfl
  | d :: r, ns, h => by
    cases d <;> simp only [intsOf] at h <;> try cases h
    obtain ⟨ns', h1, rfl⟩ := map_some h
    rw [intsOf_some h1]
    rfl
theorem intsOf_map : ∀ ns : List Int, intsOf (ns.map PyData.int) = some ns
  | [] => rfl
  | n :: ns => by simp [intsOf, intsOf_map ns]
def rowOf : D → Option (List Int) | .tuple ds => (intsOf ds).bind fun ns => if ns = [] then none else some ns | _ => none
theorem rowOf_some {d : D} {ns : List Int} (h : rowOf d = some ns) : d = rowD ns ∧ ns ≠ [] := by
  cases d <;> try cases h
  obtain ⟨ms, h1, h2⟩ := bs h
  split at h2
  · cases h2
  · rename_i hn
    cases h2
    rw [intsOf_some h1]
    exact ⟨rfl, hn⟩
theorem rowOf_row {ns : List Int} (h : ns ≠ []) : rowOf (rowD ns) = some ns := by
  unfold rowD rowOf
  simp only [intsOf_map, Option.bind_some]
  rw [if_neg h]
def rowsOf : List D → Option (List (List Int))
  | [] => some []
  | d :: r => (rowOf d).bind fun ns => (rowsOf r).map (ns :: ·)
theorem rowsOf_some : ∀ {ds : List D} {nss : List (List Int)}, rowsOf ds = some nss → ds = nss.map rowD ∧ ∀ ns ∈ nss, ns ≠ []
  | [], nss, h => by cases h; exact ⟨rfl, fun _ z => by cases z⟩
  | d :: r, nss, h => by
    obtain ⟨ns, h1, h⟩ := bs h
    obtain ⟨rest, h2, rfl⟩ := map_some h
    obtain ⟨e, hn⟩ := rowOf_some h1
    obtain ⟨e2, hn2⟩ := rowsOf_some h2
    refine ⟨by rw [e, e2]; rfl, fun m hm => ?_⟩
    rcases List.mem_cons.mp hm with q | q
    · subst q; exact hn
    · exact hn2 m q
theorem rowsOf_map : ∀ {nss : List (List Int)}, (∀ ns ∈ nss, ns ≠ []) → rowsOf (nss.map rowD) = some nss
  | [], _ => rfl
  | ns :: r, h => by
    simp only [List.map_cons, rowsOf, rowOf_row (h ns List.mem_cons_self), Option.bind_some, rowsOf_map fun m hm => h m (List.mem_cons_of_mem _ hm), Option.map_some]
/-- what stands at a place of the model's list -/
structure RowV (h : Heap) (v : Value) (ns : List Int) : Prop where
  ex : ∃ (a : Addr) (o : Obj) (its : Array Value) (n : Nat), v = .ref a ∧ h.get? a = some o ∧ o.cls = .type "tuple" ∧ o.data = .seq its n ∧ IntsAre its.toList ns
theorem RowV.keep {h h' : Heap} {v : Value} {ns : List Int} (r : RowV h v ns) (k : ∀ b o, h.get? b = some o → h'.get? b = some o) : RowV h' v ns := let ⟨a, o, its, n, e, e1, e2, e3, e4⟩ := r.ex; ⟨a, o, its, n, e, k _ _ e1, e2, e3, e4⟩
section
variable {prog : Program} {w : World} {A : Around} {E : Value → Shared → Prop} {s : Shared}
theorem kat_tups {h : Heap} : ∀ {vs : List Value} {nss : List (List Int)}, Paired (RowV h) vs nss → (∀ ns ∈ nss, ns ≠ []) → ∃ fs : List Value, PySem.W.KatTups h vs fs ∧ fs.length = vs.length ∧ ∀ f ∈ fs, ∃ n t, f = Value.int n t
  | _, _, .nil, _ => ⟨[], trivial, rfl, fun _ z => by cases z⟩
  | _, _, .cons (a := v) (b := ns) r p, hn => by
    obtain ⟨fs, h1, h2, h3⟩ := kat_tups p fun m hm => hn m (List.mem_cons_of_mem _ hm)
    obtain ⟨a, o, its, n, rfl, e1, e2, e3, e4⟩ := r.ex
    cases hits : its.toList with
    | nil =>
      rw [hits] at e4
      cases e4
      exact absurd rfl (hn [] List.mem_cons_self)
    | cons f rest =>
      rw [hits] at e4
      cases e4 with
      | cons m t e5 =>
        have h0 : its[0]? = some (.int m t) := by
          have : its.toList[0]? = some (Value.int m t) := by rw [hits]; rfl
          simpa using this
        exact ⟨.int m t :: fs, PySem.W.KatTups.cons e1 e2 e3 h0 h1, by simp [h2], fun g hg => by
          rcases List.mem_cons.mp hg with q | q
          · exact ⟨m, t, q⟩
          · exact h3 g q⟩
theorem paired_get {α β : Type} {R : α → β → Prop} {d : α} {d' : β} : ∀ {l : List α} {m : List β} {i : Nat}, Paired R l m → i < l.length → R (l.getD i d) (m.getD i d')
  | _, _, i, .nil, h => by simp at h
  | _, _, 0, .cons r _, _ => r
  | _, _, i + 1, .cons _ p, h => by simpa using paired_get (i := i) (d := d) (d' := d') p (by simpa using h)
theorem sorted_rows {l : Addr} {vs : List Value} {nss : List (List Int)} {Q : Value → Shared → Prop} (hl : s.heap.IsList l vs.toArray) (hp : Paired (RowV s.heap) vs nss) (hn : ∀ ns ∈ nss, ns ≠ []) (h64 : vs.length < 64)
    (h : ∀ (h' : Heap) (D : Addr) (c : Nat), (∀ b o, s.heap.get? b = some o → h'.get? b = some o) → s.heap.objs.size ≤ D → h'.get? D = some (seqObj "list" (Srt.outV (fun i => rk nss (nss.getD i [])) vs).toArray c) → Q (.ref D) { s with heap := h' }) :
    wpAny (model prog w) A (call (.builtin "sorted") [.ref l]) Q E s := by
  refine Srt.sortedG hl h64 (fun i => rk nss (nss.getD i [])) (tuples' true) (fun h2 h' kp Q' q => ?_) (fun h2 h' kp i j C hi hj q => ?_) h
  · have hp' : Paired (RowV h') vs nss := Paired.mapP hp fun _ _ r => r.keep kp
    obtain ⟨fs, t, hlen, hf⟩ := kat_tups hp' hn
    refine PySem.W.kat_kind (s := { s with heap := h' }) (T := .type "int") t (by omega) (fun v hv => ?_) (by decide) q
    obtain ⟨n, t, rfl⟩ := hf v hv
    exact PySem.W.Looks.of_pure rfl
  · have ri := (paired_get (d := Value.none) (d' := []) hp hi).keep kp
    have rj := (paired_get (d := Value.none) (d' := []) hp hj).keep kp
    have hlen := hp.length
    obtain ⟨a, o, its, n, ea, e1, e2, e3, e4⟩ := ri.ex
    obtain ⟨b, o', its', n', eb, f1, f2, f3, f4⟩ := rj.ex
    unfold PySem.W.kas_ask
    rw [ea, eb]
    have hmem : nss.getD i [] ∈ nss := by
      rw [List.getD_eq_getElem?_getD, List.getElem?_eq_getElem (by omega)]
      exact List.getElem_mem _
    have q' : C (lexLt (nss.getD i []) (nss.getD j [])) { s with heap := h' } := by
      rw [rk_lt hmem]
      exact q
    refine PySem.W.kat_lt (s := { s with heap := h' }) e1 e3 f1 f3 ?_
    have := lex_loop (prog := prog) (w := w) (A := A.in1.in1) (s := { s with heap := h' }) 0 e4 f4 q'
    have l1 : its.size = (nss.getD i []).length := by have := IntsAre.length e4; simpa using this
    have l2 : its'.size = (nss.getD j []).length := by have := IntsAre.length f4; simpa using this
    rw [l1, l2]
    exact this
end
end Dl
set_option Elab.async false
set_option linter.all false
set_option maxRecDepth 100000
set_option maxHeartbeats 4000000
namespace Dl
open PySem L2 PySem.Spec PyProof.Rows
/-- a list by the sort's places -/
def byP {α : Type} (z : Nat → Int) (l : List α) (d : α) : List α := if l.length < 2 then l else (SP.run (SP.ltz z) (PySem.W.kas_sort l.length)).toList.map fun i => l.getD i d
theorem map_getD_range {α : Type} (l : List α) (d : α) : (List.range l.length).map (fun i => l.getD i d) = l := by
  apply List.ext_getElem
  · simp
  · intro i h1 h2
    simp [h2]
theorem byP_perm {α : Type} (z : Nat → Int) (l : List α) (d : α) : (byP z l d).Perm l := by
  unfold byP
  split
  · exact List.Perm.refl _
  · rename_i h
    have := ((SP.sort_ok (z := z) (n := l.length) (by omega)).1).map fun i => l.getD i d
    rw [map_getD_range] at this
    exact this
theorem byP_srt (nss : List (List Int)) : byP (fun i => rk nss (nss.getD i [])) nss [] = srt nss := by
  refine srt_of (byP_perm _ _ _) ?_
  unfold byP
  split
  · rename_i h
    match nss, h with
    | [], _ => exact List.Pairwise.nil
    | [a], _ => exact List.pairwise_singleton _ _
  · rename_i h
    obtain ⟨hp, hs⟩ := SP.sort_ok (z := fun i => rk nss (nss.getD i [])) (n := nss.length) (by omega)
    rw [List.pairwise_map] at hs ⊢
    refine hs.imp_of_mem fun {i j} hi hj hij => ?_
    have hj' : j < nss.length := by have := hp.mem_iff.mp hj; simpa using this
    unfold lexLe
    rw [rk_lt (l := nss) (a := nss.getD j []) (by rw [List.getD_eq_getElem?_getD, List.getElem?_eq_getElem hj']; exact List.getElem_mem _)]
    simp only [Bool.not_eq_true', decide_eq_false_iff_not]
    omega
section
variable {X : Cx}
theorem reps_byP {K : PySem.W.Frag} {HF : Hp} {ds : List D} {vs : List V} (z : Nat → Int) (r : Reps K HF ds vs) : Reps K HF (byP z ds .none) (byP z vs .non) := by
  unfold byP
  rw [r.length]
  split
  · exact r
  · rename_i h
    obtain ⟨hp, _⟩ := SP.sort_ok (z := z) (n := ds.length) (by omega)
    have key : ∀ l : List Nat, (∀ i ∈ l, i < ds.length) → Reps K HF (l.map fun i => ds.getD i .none) (l.map fun i => vs.getD i .non) := fun l => by
      induction l with
      | nil => exact fun _ => Reps.nil
      | cons i l ih =>
        intro hl
        have hi := hl i List.mem_cons_self
        obtain ⟨v, e1, e2⟩ := r.getD (List.getElem?_eq_getElem hi)
        refine Reps.cons ?_ (ih fun j hj => hl j (List.mem_cons_of_mem _ hj))
        dsimp only
        rw [List.getD_eq_getElem?_getD, List.getD_eq_getElem?_getD, e1, List.getElem?_eq_getElem hi]
        exact e2
    exact key _ fun i hi => by have := hp.mem_iff.mp hi; simpa using this
theorem vals_byP {vs : List V} {us : List Value} (z : Nat → Int) (r : Vals vs us) : Vals (byP z vs .non) (Srt.outV z us) := by
  unfold byP Srt.outV
  rw [r.length]
  split
  · exact r
  · rename_i h
    obtain ⟨hp, _⟩ := SP.sort_ok (z := z) (n := us.length) (by omega)
    have key : ∀ l : List Nat, (∀ i ∈ l, i < vs.length) → Vals (l.map fun i => vs.getD i .non) (l.map fun i => us.getD i Value.none) := fun l => by
      induction l with
      | nil => exact fun _ => .nil
      | cons i l ih =>
        intro hl
        have hi := hl i List.mem_cons_self
        obtain ⟨v, e1, e2⟩ := r.get (List.getElem?_eq_getElem hi)
        refine .cons ?_ (ih fun j hj => hl j (List.mem_cons_of_mem _ hj))
        dsimp only
        rw [List.getD_eq_getElem?_getD, List.getD_eq_getElem?_getD, e1, List.getElem?_eq_getElem hi]
        exact e2
    exact key _ fun i hi => by have := hp.mem_iff.mp hi; rw [r.length]; simpa using this
theorem byP_map (z : Nat → Int) (nss : List (List Int)) : byP z (nss.map rowD) .none = (byP z nss []).map rowD := by
  unfold byP
  rw [List.length_map]
  split
  · rfl
  · rename_i h
    rw [List.map_map]
    obtain ⟨hp, _⟩ := SP.sort_ok (z := z) (n := nss.length) (by omega)
    refine List.map_congr_left fun i hi => ?_
    have hi' : i < nss.length := by have := hp.mem_iff.mp hi; simpa using this
    simp [hi']
theorem rows_at {pins : List (Addr × Obj)} {σ : L2.St} {H HF : Hp} {s : Shared} (I : Inv X pins σ H s) (sm : Same HF H) : ∀ {nss : List (List Int)} {vs : List V} {us : List Value}, Reps X.K HF (nss.map rowD) vs → Vals vs us → Paired (RowV s.heap) us nss
  | [], _, _, h, r => by rw [h.nil_inv] at r; cases r; exact .nil
  | ns :: nss, _, _, h, r => by
    obtain ⟨v, vr, rfl, a, b⟩ := h.cons_inv
    cases r with
    | cons r rr =>
      refine .cons ?_ (rows_at I sm b rr)
      unfold rowD at a
      simp only [Rep] at a
      obtain ⟨p, ws, rfl, hs, rw'⟩ := a
      cases r
      obtain ⟨its, rv, ⟨o, ho, hc, n, hd⟩, _⟩ := I.tuple (same_tup sm hs)
      have : ws = ns.map V.int := by
        have key : ∀ {ns : List Int} {ws : List V}, Reps X.K HF (ns.map PyData.int) ws → ws = ns.map V.int := fun {ns} => by
          induction ns with
          | nil => exact fun h => h.nil_inv
          | cons n ns ih =>
            intro ws h
            obtain ⟨v, r, rfl, a, b⟩ := h.cons_inv
            simp only [Rep] at a
            rw [a, ih b]
            rfl
        exact key rw'
      subst this
      exact ⟨p, o, its.toArray, n, rfl, ho, hc, hd, intsAre_of rv⟩
theorem call_sorted_rows : CallR X (.builtin "sorted") (fun xs H Q => ∃ (HF : Hp) (a : Addr) (vs : List V) (nss : List (List Int)), xs = [.ref a] ∧ Same HF H ∧ SqL X.K HF a vs ∧ Reps X.K HF (nss.map rowD) vs ∧ (∀ ns ∈ nss, ns ≠ []) ∧ nss.length < 64 ∧
    ∀ (Dn : Addr) (us : List V), H Dn = none → Reps X.K HF ((srt nss).map rowD) us → Q (.ref Dn) (upd H Dn (.lst us))) := by
  intro pins s σ H xs us Q I r h
  obtain ⟨HF, a, vs, nss, rfl, sm, hq, rr, hn, h64, q⟩ := h
  obtain ⟨u, rfl, rx⟩ := vals1 r
  cases rx
  obtain ⟨its, rv, pl, hz⟩ := I.list (sm.seq hq)
  have hl1 := rr.length
  rw [List.length_map] at hl1
  refine sorted_rows pl.isList (rows_at I sm rr rv) hn (by have := rv.length; omega) fun h' Dn c kp hD e => ?_
  have hv := vals_byP (fun i => rk nss (nss.getD i [])) rv
  have hr := reps_byP (fun i => rk nss (nss.getD i [])) rr
  rw [byP_map, byP_srt] at hr
  refine ⟨.ref Dn, _, I.laid (t' := s.toks) (o := .lst (byP (fun i => rk nss (nss.getD i [])) vs .non)) kp hD ⟨?_, _, c, hv, e⟩, rfl, q Dn _ (I.hok.fresh hD) hr⟩
  rw [(byP_perm _ _ _).length_eq]
  exact hz
def gSorted : List D → Option (List D) := fun ds => (oneOf ds).bind fun d => match d with
  | .list es => (rowsOf es).bind fun nss => if nss.length < 64 then some ((srt nss).map rowD) else none
  | _ => none
variable {e : Expr} {fs : Env → Option (List D)} {p pos : Pos}
theorem df_sorted (B : Blt X "sorted" (.builtin "sorted")) (ha : DA X [e] fs) (he : starEach [e] X.env = (false, eval e X.env) :: starEach [] X.env := by rfl) : DF X (.Call (.Name "sorted" p) [e] [] pos) (fCBF gSorted fs) :=
  df_callB call_sorted_rows (by
    intro HF H ds vs d Q sm r hg q
    obtain ⟨x, hx, hg⟩ := bs hg
    rw [oneOf_some hx] at r
    cases x <;> try cases hg
    obtain ⟨nss, hb, hg⟩ := bs hg
    split at hg
    · rename_i h64
      cases hg
      obtain ⟨v, r', rfl, a, b⟩ := r.cons_inv
      rw [b.nil_inv]
      simp only [Rep] at a
      obtain ⟨p, us, rfl, h, rr⟩ := a
      obtain ⟨e1, e2⟩ := rowsOf_some hb
      rw [e1] at rr
      exact ⟨HF, p, us, nss, rfl, sm, h, rr, e2, h64, fun Dn ws hD hr => q Dn ws _ HF (.own sm hD) hD (sm.free hD) upd_same hr⟩
    · cases hg) B ha (by decide) (by decide) he rfl
end
end Dl
set_option Elab.async false
set_option linter.all false
set_option maxRecDepth 100000
set_option maxHeartbeats 4000000
namespace En
open PySem PyProof.Rows
open AutoSeq1 (wpAny_loadPart')
section
variable {prog : Program} {w : World} {A : Around} {E : Value → Shared → Prop} {s : Shared}
/-- a tuple's iterator asked for the next one -/
theorem nextT_item {j t : Addr} {k : Nat} {its : Array Value} {v : Value} {Q : Value → Shared → Prop} (hj : s.heap.IsTupleIter j t k) (ht : s.heap.IsTuple t its) (hv : its[k]? = some v)
    (hQ : ∀ g, g.IsTupleIter j t (k + 1) → Heap.SameBut j s.heap g → Q v { s with heap := g }) : wpAny (model prog w) A (Builtin.SmallTypes.nextOf (.ref j)) Q E s := by
  obtain ⟨oj, gj, cj, dj⟩ := id hj
  obtain ⟨ot, gt, _, nt, dt⟩ := ht
  unfold Builtin.SmallTypes.nextOf
  refine wpAny_bind (wpAny_callSpecial?_slot (name := Str.ofString "__next__") hj.typeIs F.slot_tuple_iterator_next (wpAny_call_entry F.slot_tuple_iterator_next hj.typeIs F.entry_tuple_iterator_next ?_ (F.args_tuple_iterator_next_1 _)))
  refine wpAny_bind (m := field (.ref j) 0) (wpAny_field gj dj (x := .ref t) rfl ?_)
  show wpAny _ _ (if (Value.ref t == Value.none) = true then _ else _) _ _ s
  rw [if_neg (show ¬ ((Value.ref t == Value.none) = true) by exact Bool.false_ne_true)]
  refine wpAny_bind (m := field (.ref j) 1) (wpAny_field gj dj (x := .int k 0) rfl ?_)
  refine wpAny_bind (m := seqItems? (.ref t)) (wpAny_seqItems gt dt ?_)
  simp only [Int.toNat_natCast, hv]
  refine wpAny_bind (wpAny_setField gj dj (by simp) (wpAny_pure ⟨v, rfl, wpAny_pure (hQ _ ⟨_, Heap.get?_update_self _ gj (Obj.isFreed_of_fields (Obj.data_mapFields dj _)), (Obj.cls_mapFields ..).trans cj, ?_⟩ (Heap.SameBut.update ..))⟩))
  rw [Obj.data_mapFields dj]; simp [rawInt]
theorem nextT_end {j t : Addr} {k : Nat} {its : Array Value} {Q : Value → Shared → Prop} (hh : A.handled = none) (hj : s.heap.IsTupleIter j t k) (ht : s.heap.IsTuple t its) (hv : its[k]? = none)
    (hE : ∀ g x, Heap.ExtBut j s.heap g → (∃ o, g.get? x = some o ∧ o.cls = .type "StopIteration") → E (.ref x) { s with heap := g }) : wpAny (model prog w) A (Builtin.SmallTypes.nextOf (.ref j)) Q E s := by
  obtain ⟨oj, gj, cj, dj⟩ := id hj
  obtain ⟨ot, gt, _, nt, dt⟩ := ht
  unfold Builtin.SmallTypes.nextOf
  refine wpAny_bind (wpAny_callSpecial?_slot (name := Str.ofString "__next__") hj.typeIs F.slot_tuple_iterator_next (wpAny_call_entry F.slot_tuple_iterator_next hj.typeIs F.entry_tuple_iterator_next ?_ (F.args_tuple_iterator_next_1 _)))
  refine wpAny_bind (m := field (.ref j) 0) (wpAny_field gj dj (x := .ref t) rfl ?_)
  show wpAny _ _ (if (Value.ref t == Value.none) = true then _ else _) _ _ s
  rw [if_neg (show ¬ ((Value.ref t == Value.none) = true) by exact Bool.false_ne_true)]
  refine wpAny_bind (m := field (.ref j) 1) (wpAny_field gj dj (x := .int k 0) rfl ?_)
  refine wpAny_bind (m := seqItems? (.ref t)) (wpAny_seqItems gt dt ?_)
  simp only [Int.toNat_natCast, hv]
  refine wpAny_bind (wpAny_rule (wpAny_bind (wpAny_setField gj dj (by simp) (wpAny_bind (m := newExc (.type "StopIteration") []) ?_))))
  simp only [newExc, newTuple]
  refine wpAny_bind (wpAny_newObj_type (wpAny_bind (m := firstArgMember _ _) (wpAny_of_eq (a := Value.none) (by first | rfl | (simp only [firstArgMember]; rfl)) ?_)) (by size_fits))
  refine wpAny_newObj_type ?_ (by size_fits); simp only [raiseNew]
  refine wpAny_bind (wpAny_handled ?_)
  first | rw [show A.in1.handled = none from hh] | rw [hh]
  exact wpAny_bind (wpAny_pure (wpAny_throw (hE _ _ (((Heap.SameBut.update ..).extBut.push _).push _) ⟨_, Heap.get?_push_size _ rfl, rfl⟩)))
theorem drawsT (hh : A.handled = none) (j t : Addr) (hne : t ≠ j) (its : Array Value) : Draws prog w A j [j, t] its.size (fun i v => its[i]? = some v) (fun i h => h.IsTupleIter j t i ∧ h.IsTuple t its) where
  live := fun _ _ st => let ⟨o, e, _⟩ := st.1; ⟨o, e⟩
  frame := fun _ _ _ st hk => ⟨st.1.at fun o e => hk j (by simp) o e, let ⟨o, e, r⟩ := st.2; ⟨o, hk t (by simp) o e, r⟩⟩
  item := fun i s Q E hi st hQ => nextT_item st.1 st.2 (v := its[i]) (by simp [hi]) fun g hg sb => hQ _ g s.toks (by simp [hi]) ⟨hg, let ⟨o, e, r⟩ := st.2; ⟨o, (sb.2 t hne).trans e, r⟩⟩ sb
  done := fun s Q E st hE => nextT_end hh st.1 st.2 (by simp) hE
theorem meets_enumT (t : Addr) (its : Array Value) (n : Nat) (dd : Option Addr) (sl : Array (Option Value)) :
    Meets (Builtin.«enumerate.__new__» ⟨[.type "enumerate", .ref t], []⟩) (fun _ R s => s.heap.get? t = some { cls := .type "tuple", dict := dd, data := .seq its n, slots := sl } ∧
      R (.ok (.ret (.ref (s.heap.push { cls := .type "tuple_iterator", data := .fields #[.ref t, .int 0 0] }).objs.size)))
        { s with heap := (s.heap.push { cls := .type "tuple_iterator", data := .fields #[.ref t, .int 0 0] }).push { cls := .type "enumerate", data := .fields #[.none, .bool false, .ref s.heap.objs.size, rawInt 0, .none, .none] } }) :=
  .of_wp fun prog w A R s h => by
    obtain ⟨hp, g, d, tk, os⟩ := s
    obtain ⟨hl, h⟩ := h
    have hsub := sub_enumerate
    have hL : Heap.IsTuple (Shared.heap ⟨hp, g, d, tk, os⟩) t its := ⟨_, hl, rfl, n, rfl⟩
    wp_walk using wpAny_loadPart' hl
    refine wpAny_stack_any fun st => wpAny_pure ?_
    split
    · rename_i c _ _ _ _ _
      cases (c == Value.type "enumerate")
      · wp_walk using wpAny_loadPart' hl, wpAny_pyIter_tuple hL
        exact ⟨_, rfl, h⟩
      · wp_walk using wpAny_loadPart' hl, wpAny_pyIter_tuple hL
        exact ⟨_, rfl, h⟩
    · wp_walk using wpAny_loadPart' hl, wpAny_pyIter_tuple hL
      exact ⟨_, rfl, h⟩
theorem call_enumT {t : Addr} {its : Array Value} {Q : Value → Shared → Prop} (ht : s.heap.IsTuple t its)
    (h : ∀ h', IsEnum h' (s.heap.objs.size + 1) s.heap.objs.size 0 .none → h'.IsTupleIter s.heap.objs.size t 0 → h'.objs.size = s.heap.objs.size + 2 → (∀ b o, s.heap.get? b = some o → h'.get? b = some o) → Q (.ref (s.heap.objs.size + 1)) { s with heap := h' }) :
    wpAny (model prog w) A (call (.type "enumerate") [.ref t]) Q E s := by
  obtain ⟨⟨c, dct, dt, sl⟩, hl, hc, n, hd⟩ := ht
  simp only at hc hd
  subst hc hd
  refine callType_new F.called_enumerate (by decide) (F.typeCall_enumerate_1 _) (F.newCall_enumerate_1 _) (fun obj => F.args_object_init_2 obj _) F.entry_enumerate_new (meets_enumT t its n dct sl) ⟨hl, ?_⟩
  have hz : (s.heap.push { cls := .type "tuple_iterator", data := .fields #[.ref t, .int 0 0] }).objs.size = s.heap.objs.size + 1 := by rw [Heap.size_push]
  have he := Heap.get?_push_size (s.heap.push { cls := .type "tuple_iterator", data := .fields #[.ref t, .int 0 0] }) (o := { cls := .type "enumerate", data := .fields #[.none, .bool false, .ref s.heap.objs.size, rawInt 0, .none, .none] }) rfl
  show _ ∧ _
  rw [hz] at he ⊢
  refine ⟨⟨_, he, rfl⟩, h _ he ⟨_, Heap.get?_push_of_some _ (Heap.get?_push_size _ rfl), rfl, rfl⟩ ?_ fun b o x => Heap.get?_push_of_some _ (Heap.get?_push_of_some _ x)⟩
  show (Heap.push _ _).objs.size = _
  rw [Heap.size_push, hz]
end
end En
set_option Elab.async false
set_option linter.all false
set_option maxRecDepth 100000
set_option maxHeartbeats 4000000
namespace Dl
open PySem L2 PySem.Spec PyProof.Rows
section
variable {X : Cx} {pins : List (Addr × Obj)} {σ : L2.St} {H : Hp} {s : Shared} {h' : Heap} {t' : Nat} {ch : List Addr}
/-- untracked records of ours have turned, a new tuple is laid and tracked -/
theorem turn_lay (I : Inv X pins σ H s) (hch : ∀ b ∈ ch, FpOk X pins H b) (k : ∀ b o, b ∉ ch → s.heap.get? b = some o → h'.get? b = some o) {T : Addr} {vals : List Value} {xs : List V} (hT : s.heap.objs.size ≤ T) (ht : IsTup h' T vals.toArray)
    (rv : Vals xs vals) (hz : xs.length ≤ sizeLine) : Inv X pins σ (upd H T (.tup xs)) { s with heap := h', toks := t' } := by
  have nT : H T = none := I.hok.fresh hT
  have ne : ∀ b o, s.heap.get? b = some o → b ≠ T := fun b o e => Nat.ne_of_lt (Nat.lt_of_lt_of_le (Heap.lt_size e) hT)
  have ne2 : ∀ b o, H b = some o → b ≠ T := fun b o e => ne_of_none e nT
  have nch : ∀ b o, H b = some o → b ∉ ch := fun b o e z => by rw [(hch b z).1] at e; cases e
  refine I.step (g' := s.gens) (d' := s.drawn) (ch := ch) (fun b hb => ?_) (fun b o _ _ hc e _ => k b o hc e) (fun b o _ _ hc e _ => ⟨o.slots, k b o hc e⟩) (fun b o _ e n => by rw [upd_ne (ne b o e)]; exact n)
    (fun b o hc e => ⟨o, k b o hc e⟩) (fun b ys e => by rw [upd_ne (ne2 b _ e)]; exact e) (fun b o u e => by rw [upd_ne (ne2 b _ e)]; exact e) (fun b ps e => ⟨#[], by rw [upd_ne (ne2 b _ e), e]; simp⟩) (fun m hm => ?_) (fun b u e => ?_) I.bare
  · obtain ⟨f0, f1, f2, f3, f4, f5⟩ := hch b hb
    exact ⟨f3, f1, f4, f5⟩
  · obtain ⟨o, es, ep, ho, r⟩ := hm
    exact ⟨o, es, ep, k _ o (fun z => (hch _ z).2.1 rfl) ho, r⟩
  · by_cases hb : b = T
    · subst hb
      rw [upd_same] at e
      cases e
      exact ⟨hz, vals, rv, ht⟩
    · rw [upd_ne hb] at e
      refine (I.hok b u e).stay (fun c v hc q => k c v ?_ q) (fun _ q => ?_) fun c v q => ?_
      · rcases hc with z | z
        · rw [z]; exact nch b u e
        · exact nch c _ z
      all_goals first
        | (rw [upd_ne (ne2 _ _ q)]; exact q)
        | exact q
theorem fp_k (I : Inv X pins σ H s) {a b : Addr} {o : Obj} (hf : FpOk X pins H b) (h : X.K.lookup a = some o) : a ≠ b := by
  rintro rfl
  have hb := I.ok.mod.kin a o h
  rcases hf.2.2.2.1 with z | z
  · exact I.ok.noex a o hb z
  · exact absurd (Nat.lt_of_lt_of_le (Heap.lt_size (I.ok.bs a o hb).1) z) (Nat.lt_irrefl _)
theorem fp_neL (I : Inv X pins σ H s) {a b : Addr} {xs : List V} (hf : FpOk X pins H b) (h : SqL X.K H a xs) : a ≠ b := by
  rcases h with (h | ⟨o, h⟩) | ⟨o, its, n, h, _⟩
  · exact ne_of_none h hf.1
  · exact ne_of_none h hf.1
  · exact fp_k I hf h
theorem fp_neT (I : Inv X pins σ H s) {a b : Addr} {xs : List V} (hf : FpOk X pins H b) (h : SqT X.K H a xs) : a ≠ b := by
  rcases h with (h | ⟨o, h⟩) | ⟨o, its, n, h, _⟩
  · exact ne_of_none h hf.1
  · exact ne_of_none h hf.1
  · exact fp_k I hf h
end
/-! enumerate -/
def Ite (sq : Hp → List V → Prop) : It := ⟨fun i H => ∃ xs x, sq H xs ∧ xs[i]? = some x, fun i H v H' => ∃ T y, v = .ref T ∧ H T = none ∧ H' = upd H T (.tup [.int (i : Nat), y]) ∧ ∀ xs, sq H xs → xs[i]? = some y, fun i H => ∃ xs, sq H xs ∧ xs.length ≤ i⟩
theorem turn_enumL {P : Program} {w : World} {K : PySem.W.Frag} {elts : List Expr} {k : Nat} {pos : Pos} (a it e : Addr) (hei : e ≠ it) : Turn P w K (.Tuple elts k pos) (Ite fun H xs => SqL K H a xs) [e, it] e (fun i h => (∃ old, IsEnum h e it i old) ∧ h.IsListIter it a i) where
  mem := by simp
  obj := fun i h st b hb => by
    obtain ⟨⟨old, he⟩, o, ho, hc, hd⟩ := st
    rcases List.mem_cons.mp hb with z | z
    · subst z; exact ⟨_, he, fun v z => by have z : Data.fields _ = Data.cell v := z; cases z⟩
    · cases List.mem_singleton.mp z; exact ⟨o, ho, fun v z => by rw [hd] at z; cases z⟩
  keep := fun i h h' st kk => ⟨let ⟨old, he⟩ := st.1; ⟨old, kk e (by simp) _ he⟩, st.2.at fun o q => kk it (by simp) o q⟩
  item := by
    intro X hP hw hK hc i pins s σ H E I hf st hg
    subst hP hw hK
    obtain ⟨xs, x, hq, hx⟩ := hg
    obtain ⟨its, rv, p, hz⟩ := I.list hq
    obtain ⟨u, hu, ru⟩ := rv.get hx
    have ne1 := fp_neL I (hf e (by simp)) hq
    have ne2 := fp_neL I (hf it (by simp)) hq
    have hh : X.A.in1.handled = none := I.ok.hd hc
    have W := WalksT.enumerateD (Draws.list (prog := X.prog) (w := X.w) hh it a ne2 its.toArray) e hei (by simp; exact ⟨hei, Ne.symm ne1⟩) (by simp)
    have hi : i < its.toArray.size := by
      have := (List.getElem?_eq_some_iff.mp hu).1
      simpa using this
    refine W.item i s _ _ hi ⟨st.1, st.2, p.isList⟩ fun T vals h1 tk hP hT ht hM k1 => ⟨.ref T, rfl, ?_⟩
    obtain ⟨t0, y, hy, rfl⟩ := hP
    refine W.go elts k pos i T _ _ _ hM fun h2 hS k2 => ?_
    have hTw := W.apart i T _ hM
    obtain ⟨oT, hoT, hcT, nT, hdT⟩ := ht
    have ht2 : IsTup h2 T (List.toArray [Value.int (i : Nat) t0, y]) := ⟨oT, k2 T oT hTw hoT, hcT, nT, hdT⟩
    have ey : y = u := by
      have hy : its.toArray[i]? = some y := hy
      rw [List.getElem?_toArray, hu] at hy
      exact (Option.some.inj hy).symm
    subst ey
    refine ⟨.ref T, _, turn_lay (ch := [e, it]) (xs := [.int (i : Nat), x]) I hf (fun b o hb q => k2 b o hb (k1 b o hb q)) hT ht2 (.cons ⟨t0, rfl⟩ (.cons ru .nil)) (by show 2 ≤ sizeLine; decide), rfl, ⟨T, x, rfl, I.hok.fresh hT, rfl, fun ys hy => by rw [I.list_inj hy hq]; exact hx⟩, ⟨hS.1, hS.2.1⟩, fun b hb => ?_⟩
    rw [upd_ne (show b ≠ T from fun z => hTw (by rw [← z]; exact hb))]
    exact (hf b hb).1
  done := by
    intro X hP hw hK hc i pins s σ H E I hf st hg
    subst hP hw hK
    obtain ⟨xs, hq, hx⟩ := hg
    obtain ⟨its, rv, p, hz⟩ := I.list hq
    have ne1 := fp_neL I (hf e (by simp)) hq
    have ne2 := fp_neL I (hf it (by simp)) hq
    have hh : X.A.in1.handled = none := I.ok.hd hc
    have hl := rv.length
    obtain ⟨old, he⟩ := st.1
    have hT : s.TypeIs (.ref e) "enumerate" := ⟨_, he, rfl⟩
    unfold pyNext
    refine wpAny_bind (wpAny_attempt (wpAny_callSpecial?_slot (name := Str.ofString "__next__") hT F.slot_enumerate_next (wpAny_call_entry F.slot_enumerate_next hT F.entry_enumerate_next ?_ (F.args_enumerate_next_1 _))))
    refine wpAny_bind (m := field (.ref e) 2) (wpAny_field he rfl (x := .ref it) rfl ?_)
    refine wpAny_bind (wpAny_nextOf_list_end hh st.2 p.isList (by simp; omega) fun h1 x k1 hx1 => ?_)
    obtain ⟨o, ho, hc1⟩ := hx1
    refine wpAny_bind (wpAny_isInstance (T := "StopIteration") (b := true) ⟨o, ho, hc1⟩ isSubtype_stop (wpAny_pure ⟨rfl, ?_⟩))
    obtain ⟨f0, f1, f2, f3, f4, f5⟩ := hf it (by simp)
    exact I.turned (t' := s.toks) (fun b o hb q => k1 b o hb q) f0 f1 f3 f4 f5
  self := fun _ _ _ _ _ st h => let ⟨_, he⟩ := st.1; wpAny_pyIter_enum he h
theorem turn_enumT {P : Program} {w : World} {K : PySem.W.Frag} {elts : List Expr} {k : Nat} {pos : Pos} (a it e : Addr) (hei : e ≠ it) : Turn P w K (.Tuple elts k pos) (Ite fun H xs => SqT K H a xs) [e, it] e (fun i h => (∃ old, IsEnum h e it i old) ∧ h.IsTupleIter it a i) where
  mem := by simp
  obj := fun i h st b hb => by
    obtain ⟨⟨old, he⟩, o, ho, hc, hd⟩ := st
    rcases List.mem_cons.mp hb with z | z
    · subst z; exact ⟨_, he, fun v z => by have z : Data.fields _ = Data.cell v := z; cases z⟩
    · cases List.mem_singleton.mp z; exact ⟨o, ho, fun v z => by rw [hd] at z; cases z⟩
  keep := fun i h h' st kk => ⟨let ⟨old, he⟩ := st.1; ⟨old, kk e (by simp) _ he⟩, st.2.at fun o q => kk it (by simp) o q⟩
  item := by
    intro X hP hw hK hc i pins s σ H E I hf st hg
    subst hP hw hK
    obtain ⟨xs, x, hq, hx⟩ := hg
    obtain ⟨its, rv, p, hz⟩ := I.tuple hq
    obtain ⟨u, hu, ru⟩ := rv.get hx
    have ne1 := fp_neT I (hf e (by simp)) hq
    have ne2 := fp_neT I (hf it (by simp)) hq
    have hh : X.A.in1.handled = none := I.ok.hd hc
    have W := WalksT.enumerateD (En.drawsT (prog := X.prog) (w := X.w) hh it a ne2 its.toArray) e hei (by simp; exact ⟨hei, Ne.symm ne1⟩) (by simp)
    have hi : i < its.toArray.size := by
      have := (List.getElem?_eq_some_iff.mp hu).1
      simpa using this
    refine W.item i s _ _ hi ⟨st.1, st.2, (show s.heap.IsTuple a its.toArray from p)⟩ fun T vals h1 tk hP hT ht hM k1 => ⟨.ref T, rfl, ?_⟩
    obtain ⟨t0, y, hy, rfl⟩ := hP
    refine W.go elts k pos i T _ _ _ hM fun h2 hS k2 => ?_
    have hTw := W.apart i T _ hM
    obtain ⟨oT, hoT, hcT, nT, hdT⟩ := ht
    have ht2 : IsTup h2 T (List.toArray [Value.int (i : Nat) t0, y]) := ⟨oT, k2 T oT hTw hoT, hcT, nT, hdT⟩
    have ey : y = u := by
      have hy : its.toArray[i]? = some y := hy
      rw [List.getElem?_toArray, hu] at hy
      exact (Option.some.inj hy).symm
    subst ey
    refine ⟨.ref T, _, turn_lay (ch := [e, it]) (xs := [.int (i : Nat), x]) I hf (fun b o hb q => k2 b o hb (k1 b o hb q)) hT ht2 (.cons ⟨t0, rfl⟩ (.cons ru .nil)) (by show 2 ≤ sizeLine; decide), rfl, ⟨T, x, rfl, I.hok.fresh hT, rfl, fun ys hy => by rw [I.tuple_inj hy hq]; exact hx⟩, ⟨hS.1, hS.2.1⟩, fun b hb => ?_⟩
    rw [upd_ne (show b ≠ T from fun z => hTw (by rw [← z]; exact hb))]
    exact (hf b hb).1
  done := by
    intro X hP hw hK hc i pins s σ H E I hf st hg
    subst hP hw hK
    obtain ⟨xs, hq, hx⟩ := hg
    obtain ⟨its, rv, p, hz⟩ := I.tuple hq
    have ne1 := fp_neT I (hf e (by simp)) hq
    have ne2 := fp_neT I (hf it (by simp)) hq
    have hh : X.A.in1.handled = none := I.ok.hd hc
    have hl := rv.length
    obtain ⟨old, he⟩ := st.1
    have hT : s.TypeIs (.ref e) "enumerate" := ⟨_, he, rfl⟩
    unfold pyNext
    refine wpAny_bind (wpAny_attempt (wpAny_callSpecial?_slot (name := Str.ofString "__next__") hT F.slot_enumerate_next (wpAny_call_entry F.slot_enumerate_next hT F.entry_enumerate_next ?_ (F.args_enumerate_next_1 _))))
    refine wpAny_bind (m := field (.ref e) 2) (wpAny_field he rfl (x := .ref it) rfl ?_)
    refine wpAny_bind (En.nextT_end hh st.2 (show s.heap.IsTuple a its.toArray from p) (by simp; omega) fun h1 x k1 hx1 => ?_)
    obtain ⟨o, ho, hc1⟩ := hx1
    refine wpAny_bind (wpAny_isInstance (T := "StopIteration") (b := true) ⟨o, ho, hc1⟩ isSubtype_stop (wpAny_pure ⟨rfl, ?_⟩))
    obtain ⟨f0, f1, f2, f3, f4, f5⟩ := hf it (by simp)
    exact I.turned (t' := s.toks) (fun b o hb q => k1 b o hb q) f0 f1 f3 f4 f5
  self := fun _ _ _ _ _ st h => let ⟨_, he⟩ := st.1; wpAny_pyIter_enum he h
section
variable {X : Cx} {l : Expr} {f : Env → Option D} {fs : Env → Option (List D)} {elts : List Expr} {k : Nat} {pos p tp : Pos}
theorem pi_enum {tl : TA} (B : Blt X "enumerate" (.type "enumerate")) (ha : PA X [l] tl) (hs : starEach [l] X.env = [(false, eval l X.env)] := by rfl) : PI X (.Tuple elts k tp) (.Call (.Name "enumerate" p) [l] [] pos) (fun σ H R => tl σ H fun vs H1 => ∃ a, vs = [.ref a] ∧
    ((∃ xs, SqL X.K H1 a xs ∧ R (Ite fun H xs => SqL X.K H a xs) H1) ∨ ∃ xs, SqT X.K H1 a xs ∧ R (Ite fun H xs => SqT X.K H a xs) H1)) := by
  intro pins s σ H R I h
  refine Call_ (ld_blt I B.gl B.mg B.bt (PyProof.Rows.callWith_type1 (thn (ha pos pins s σ H _ I h) fun us s1 ⟨vs, H1, I1, r1, q1⟩ => ?_) hs rfl))
  obtain ⟨a, e, q⟩ := q1
  subst e
  obtain ⟨u, rfl, rx⟩ := vals1 r1
  cases rx
  have fresh : ∀ b ∈ [s1.heap.objs.size + 1, s1.heap.objs.size], FpOk X pins H1 b := fun b hb => by
    rcases List.mem_cons.mp hb with z | z
    · subst z; exact I1.fpOk (Nat.le_succ _) (I1.hok.fresh (Nat.le_succ _))
    · cases List.mem_singleton.mp z; exact I1.fpOk (Nat.le_refl _) I1.fresh
  rcases q with ⟨xs, hq, q⟩ | ⟨xs, hq, q⟩
  · obtain ⟨its, rv, pl, hz⟩ := I1.list hq
    refine call_enumerate_list pl.isList fun h' he hit hsz kp => wpAny_pyIter_enum (s := { s1 with heap := h' }) he ?_
    exact ⟨_, _, _, _, H1, rfl, I1.kept (t' := s1.toks) kp, turn_enumL a s1.heap.objs.size (s1.heap.objs.size + 1) (Nat.succ_ne_self _), ⟨⟨_, he⟩, hit⟩, fresh, q⟩
  · obtain ⟨its, rv, pl, hz⟩ := I1.tuple hq
    refine En.call_enumT (show s1.heap.IsTuple a its.toArray from pl) fun h' he hit hsz kp => wpAny_pyIter_enum (s := { s1 with heap := h' }) he ?_
    exact ⟨_, _, _, _, H1, rfl, I1.kept (t' := s1.toks) kp, turn_enumT a s1.heap.objs.size (s1.heap.objs.size + 1) (Nat.succ_ne_self _), ⟨⟨_, he⟩, hit⟩, fresh, q⟩
def enumD (k : Nat) : List D → List D
  | [] => []
  | d :: ds => .tuple [.int (k : Nat), d] :: enumD (k + 1) ds
theorem enumD_get : ∀ {ds : List D} {k i : Nat} {d : D}, (enumD k ds)[i]? = some d → ∃ x, ds[i]? = some x ∧ d = .tuple [.int ((k + i : Nat) : Int), x]
  | [], k, i, d, h => by simp [enumD] at h
  | x :: ds, k, 0, d, h => by simp [enumD] at h; exact ⟨x, rfl, h.symm⟩
  | x :: ds, k, i + 1, d, h => by
    simp only [enumD, List.getElem?_cons_succ] at h
    obtain ⟨y, h1, h2⟩ := enumD_get h
    refine ⟨y, by simpa using h1, ?_⟩
    rw [h2, show k + 1 + i = k + (i + 1) by omega]
theorem enumD_len : ∀ (ds : List D) (k : Nat), (enumD k ds).length = ds.length
  | [], k => rfl
  | x :: ds, k => by simp [enumD, enumD_len ds (k + 1)]
theorem iter_enum {K : PySem.W.Frag} {HF : Hp} {sq : Hp → List V → Prop} {ds : List D} {vs : List V} (h : sq HF vs) (mo : ∀ H H', Same H H' → sq H vs → sq H' vs) (r : Reps K HF ds vs) : IterD K (Ite sq) HF (enumD 0 ds) where
  go := fun i d H₁ HF₁ e s1 s2 => by
    obtain ⟨x, hx, rfl⟩ := enumD_get e
    rw [Nat.zero_add]
    obtain ⟨v, hv, rv⟩ := r.getD hx
    have q := mo _ _ s2 (mo _ _ s1 h)
    refine ⟨⟨vs, v, q, hv⟩, fun y H₂ ⟨T, z, e1, hT, e2, hy⟩ => ?_⟩
    have := hy vs q
    rw [hv] at this
    cases this
    subst e1 e2
    exact ⟨_, .new s2 hT, rep_newtup (s2.free hT) (Reps.cons (by simp [Rep]) (Reps.cons (rv.mono s1) Reps.nil))⟩
  stop := fun H₁ HF₁ s1 s2 => ⟨vs, mo _ _ s2 (mo _ _ s1 h), by rw [enumD_len, r.length]; exact Nat.le_refl _⟩
def fEnum (fs : Env → Option (List D)) : Env → Option (List D) := fun ρ => (fs ρ).bind fun ds => (gItems ds).map (enumD 0)
theorem di_enum (B : Blt X "enumerate" (.type "enumerate")) (h : DA X [l] fs) (hs : starEach [l] X.env = [(false, eval l X.env)] := by rfl) : DI X (.Tuple elts k tp) (.Call (.Name "enumerate" p) [l] [] pos) (fEnum fs) :=
  pi_imp (pi_enum B h hs) fun σ H R ⟨HF, ρ, ds, sm, eo, hf, q⟩ => by
    obtain ⟨x, hx, hf⟩ := bs hf
    obtain ⟨es, h1, rfl⟩ := map_some hf
    refine ⟨HF, ρ, x, sm, eo, hx, fun vs H1 HF1 g1 r1 => ?_⟩
    rcases gItems_some h1 with rfl | rfl
    all_goals
      obtain ⟨v, r', rfl, a, b⟩ := r1.cons_inv
      rw [b.nil_inv]
      simp only [Rep] at a
      obtain ⟨c, us, rfl, hs, rr⟩ := a
    · exact ⟨c, rfl, .inr ⟨us, same_tup g1.fh hs, q _ H1 HF1 g1 (iter_enum hs (fun _ _ s h => same_tup s h) rr)⟩⟩
    · exact ⟨c, rfl, .inl ⟨us, g1.fh.seq hs, q _ H1 HF1 g1 (iter_enum hs (fun _ _ s h => s.seq h) rr)⟩⟩
end
end Dl
set_option Elab.async false
set_option linter.all false
set_option maxRecDepth 100000
set_option maxHeartbeats 4000000
namespace Dl
open PySem L2 PySem.Spec PyProof.Rows
/-! zip of two lists -/
def Itz (sq1 sq2 : Hp → List V → Prop) : It := ⟨fun i H => ∃ xs ys x y, sq1 H xs ∧ sq2 H ys ∧ xs[i]? = some x ∧ ys[i]? = some y,
  fun i H v H' => ∃ T x y, v = .ref T ∧ H T = none ∧ H' = upd H T (.tup [x, y]) ∧ (∀ xs, sq1 H xs → xs[i]? = some x) ∧ ∀ ys, sq2 H ys → ys[i]? = some y,
  fun i H => ∃ xs ys, sq1 H xs ∧ sq2 H ys ∧ (xs.length ≤ i ∨ ys.length ≤ i)⟩
section
variable {X : Cx} {pins : List (Addr × Obj)} {σ : L2.St} {H : Hp} {s : Shared} {h' : Heap} {t' : Nat} {ch : List Addr}
/-- untracked records of ours have turned -/
theorem turn_many (I : Inv X pins σ H s) (hch : ∀ b ∈ ch, FpOk X pins H b) (k : ∀ b o, b ∉ ch → s.heap.get? b = some o → h'.get? b = some o) : Inv X pins σ H { s with heap := h', toks := t' } := by
  have nch : ∀ b o, H b = some o → b ∉ ch := fun b o e z => by rw [(hch b z).1] at e; cases e
  refine I.step (g' := s.gens) (d' := s.drawn) (ch := ch) (fun b hb => ?_) (fun b o _ _ hc e _ => k b o hc e) (fun b o _ _ hc e _ => ⟨o.slots, k b o hc e⟩) (fun b o _ e n => n)
    (fun b o hc e => ⟨o, k b o hc e⟩) (fun b ys e => e) (fun b o u e => e) (fun b ps e => ⟨#[], by rw [e]; simp⟩) (fun m hm => ?_) (fun b u e => ?_) I.bare
  · obtain ⟨f0, f1, f2, f3, f4, f5⟩ := hch b hb
    exact ⟨f3, f1, f4, f5⟩
  · obtain ⟨o, es, ep, ho, r⟩ := hm
    exact ⟨o, es, ep, k _ o (fun z => (hch _ z).2.1 rfl) ho, r⟩
  · refine (I.hok b u e).stay (fun c v hc q => k c v ?_ q) (fun _ q => q) fun c v q => q
    rcases hc with z | z
    · rw [z]; exact nch b u e
    · exact nch c _ z
end
structure ZAp (z TI TO i1 i2 : Addr) : Prop where
  a1 : TI ≠ z
  a2 : TO ≠ z
  a3 : i1 ≠ z
  a4 : i2 ≠ z
  a5 : TI ≠ TO
  a6 : TI ≠ i1
  a7 : TI ≠ i2
  a8 : TO ≠ i1
  a9 : TO ≠ i2
  a0 : i1 ≠ i2
theorem turn_zipLL {P : Program} {w : World} {K : PySem.W.Frag} {elts : List Expr} {k : Nat} {pos : Pos} (l1 l2 z TI TO i1 i2 : Addr) (Z : ZAp z TI TO i1 i2) :
    Turn P w K (.Tuple elts k pos) (Itz (fun H xs => SqL K H l1 xs) fun H xs => SqL K H l2 xs) [z, TI, TO, i1, i2] z
      (fun i h => IsZip h z TI TO .none ∧ IsPair h TI (.ref i1) (.ref i2) ∧ (∃ a b, IsPair h TO a b) ∧ h.IsListIter i1 l1 i ∧ h.IsListIter i2 l2 i) where
  mem := by simp
  obj := fun i h st b hb => by
    obtain ⟨hz, hTI, ⟨a, b', hTO⟩, ⟨o1, g1, c1, d1⟩, ⟨o2, g2, c2, d2⟩⟩ := st
    simp only [List.mem_cons, List.not_mem_nil, or_false] at hb
    rcases hb with rfl | rfl | rfl | rfl | rfl
    · exact ⟨_, hz, fun v q => by have q : Data.fields _ = Data.cell v := q; cases q⟩
    · exact ⟨_, hTI, fun v q => by have q : Data.seq _ _ = Data.cell v := q; cases q⟩
    · exact ⟨_, hTO, fun v q => by have q : Data.seq _ _ = Data.cell v := q; cases q⟩
    · exact ⟨o1, g1, fun v q => by rw [d1] at q; cases q⟩
    · exact ⟨o2, g2, fun v q => by rw [d2] at q; cases q⟩
  keep := fun i h h' st kk => by
    obtain ⟨hz, hTI, ⟨a, b', hTO⟩, h1, h2⟩ := st
    exact ⟨kk z (by simp) _ hz, kk TI (by simp) _ hTI, ⟨a, b', kk TO (by simp) _ hTO⟩, h1.at fun o q => kk i1 (by simp) o q, h2.at fun o q => kk i2 (by simp) o q⟩
  item := by
    intro X hP hw hK hc i pins s σ H E I hf st hg
    subst hP hw hK
    obtain ⟨xs, ys, x, y, hq1, hq2, hx, hy⟩ := hg
    obtain ⟨its1, rv1, p1, hz1⟩ := I.list hq1
    obtain ⟨its2, rv2, p2, hz2⟩ := I.list hq2
    obtain ⟨u1, hu1, ru1⟩ := rv1.get hx
    obtain ⟨u2, hu2, ru2⟩ := rv2.get hy
    have D : ZipApart z TI TO i1 i2 l1 l2 := ⟨Z.a1, Z.a2, Z.a3, Z.a4, Z.a5, Z.a6, Z.a7, Z.a8, Z.a9, Z.a0, fp_neL I (hf z (by simp)) hq1, fp_neL I (hf TO (by simp)) hq1, fp_neL I (hf i1 (by simp)) hq1, fp_neL I (hf i2 (by simp)) hq1, fp_neL I (hf z (by simp)) hq2, fp_neL I (hf TO (by simp)) hq2, fp_neL I (hf i1 (by simp)) hq2, fp_neL I (hf i2 (by simp)) hq2⟩
    obtain ⟨hz, hTI, ⟨a, b', hTO⟩, h1, h2⟩ := st
    refine wpAny_pyNext_zip_item D hz hTI hTO h1 h2 p1.isList p2.isList (x := u1) (y := u2) (by simpa using hu1) (by simpa using hu2) fun g b1 b2 b3 b4 b5 b6 hk => ⟨.ref s.heap.objs.size, rfl, ?_⟩
    have lt : ∀ {c : Addr} {o : Obj}, s.heap.get? c = some o → s.heap.objs.size ≠ c := fun e => Nat.ne_of_gt (Heap.lt_size e)
    refine wpAny_letOwnedTupleGo_zip (s := { s with heap := g }) b1 fun g' hz' hs' => ?_
    have b5' : g'.get? s.heap.objs.size = some { cls := .type "tuple", data := .seq #[u1, u2] } := hs'.extBut _ _ (lt hz) b5
    have ht : IsTup g' s.heap.objs.size (List.toArray [u1, u2]) := ⟨_, b5', rfl, _, rfl⟩
    refine ⟨.ref s.heap.objs.size, _, turn_lay (ch := [z, TI, TO, i1, i2]) (xs := [x, y]) (t' := s.toks) I hf (fun b o hb q => ?_) (Nat.le_refl _) ht (.cons ru1 (.cons ru2 .nil)) (by show 2 ≤ sizeLine; decide), rfl,
      ⟨s.heap.objs.size, x, y, rfl, I.fresh, rfl, fun zs hzs => by rw [I.list_inj hzs hq1]; exact hx, fun zs hzs => by rw [I.list_inj hzs hq2]; exact hy⟩,
      ⟨hz', hs'.extBut _ _ Z.a1 (hk _ _ D.TIz D.TITO D.TIi1 D.TIi2 hTI), ⟨_, _, hs'.extBut _ _ Z.a2 b2⟩, b3.extBut hs'.extBut Z.a3, b4.extBut hs'.extBut Z.a4⟩, fun b hb => ?_⟩
    · simp only [List.mem_cons, List.not_mem_nil, or_false, not_or] at hb
      exact hs'.extBut _ _ hb.1 (hk b o hb.1 hb.2.2.1 hb.2.2.2.1 hb.2.2.2.2 q)
    · have : s.heap.objs.size ≠ b := by
        simp only [List.mem_cons, List.not_mem_nil, or_false] at hb
        obtain ⟨o1, g1, _⟩ := h1
        obtain ⟨o2, g2, _⟩ := h2
        rcases hb with rfl | rfl | rfl | rfl | rfl
        · exact lt hz
        · exact lt hTI
        · exact lt hTO
        · exact lt g1
        · exact lt g2
      rw [upd_ne (Ne.symm this)]
      exact (hf b hb).1
  done := by
    intro X hP hw hK hc i pins s σ H E I hf st hg
    subst hP hw hK
    obtain ⟨xs, ys, hq1, hq2, hx⟩ := hg
    obtain ⟨its1, rv1, p1, hz1⟩ := I.list hq1
    obtain ⟨its2, rv2, p2, hz2⟩ := I.list hq2
    have D : ZipApart z TI TO i1 i2 l1 l2 := ⟨Z.a1, Z.a2, Z.a3, Z.a4, Z.a5, Z.a6, Z.a7, Z.a8, Z.a9, Z.a0, fp_neL I (hf z (by simp)) hq1, fp_neL I (hf TO (by simp)) hq1, fp_neL I (hf i1 (by simp)) hq1, fp_neL I (hf i2 (by simp)) hq1, fp_neL I (hf z (by simp)) hq2, fp_neL I (hf TO (by simp)) hq2, fp_neL I (hf i1 (by simp)) hq2, fp_neL I (hf i2 (by simp)) hq2⟩
    obtain ⟨hz, hTI, ⟨a, b', hTO⟩, h1, h2⟩ := st
    have e1 := rv1.length
    have e2 := rv2.length
    refine wpAny_pyNext_zip_end (I.ok.hd hc) D hz hTI hTO h1 h2 p1.isList p2.isList (hx.elim (fun q => .inl (by simp; omega)) fun q => .inr (by simp; omega)) fun g hk => ⟨rfl, ?_⟩
    refine turn_many (ch := [z, TI, TO, i1, i2]) (t' := s.toks) I hf fun b o hb q => ?_
    simp only [List.mem_cons, List.not_mem_nil, or_false, not_or] at hb
    exact hk b o hb.1 hb.2.2.1 hb.2.2.2.1 hb.2.2.2.2 q
  self := fun _ _ _ _ _ st h => wpAny_pyIter_zip st.1 h
section
variable {X : Cx} {l l' : Expr} {fs : Env → Option (List D)} {elts : List Expr} {k : Nat} {pos p tp : Pos}
theorem pi_zip {tl : TA} (B : Blt X "zip" (.type "zip")) (ha : PA X [l, l'] tl) (hs : starEach [l, l'] X.env = (false, eval l X.env) :: starEach [l'] X.env := by rfl) (hs2 : (backTo pos (starEach [l'] X.env)).any (·.1) = false := by rfl) :
    PI X (.Tuple elts k tp) (.Call (.Name "zip" p) [l, l'] [] pos) (fun σ H R => tl σ H fun vs H1 => ∃ a b, vs = [.ref a, .ref b] ∧ ∃ xs ys, SqL X.K H1 a xs ∧ SqL X.K H1 b ys ∧ R (Itz (fun H xs => SqL X.K H a xs) fun H xs => SqL X.K H b xs) H1) := by
  intro pins s σ H R I h
  refine Call_ (ld_blt I B.gl B.mg B.bt (PyProof.Rows.callWith_type1 (thn (ha pos pins s σ H _ I h) fun us s1 ⟨vs, H1, I1, r1, q1⟩ => ?_) hs hs2))
  obtain ⟨a, b, e, xs, ys, hq1, hq2, q⟩ := q1
  subst e
  obtain ⟨u, u', rfl, rx, ry⟩ := vals2 r1
  cases rx
  cases ry
  obtain ⟨its, rv, pl, hz⟩ := I1.list hq1
  obtain ⟨its', rv', pl', hz'⟩ := I1.list hq2
  refine call_zip_2 pl.isList pl'.isList fun g b1 b2 b3 b4 b5 b6 kp => wpAny_pyIter_zip (s := { s1 with heap := g }) b1 ?_
  refine ⟨_, _, _, _, H1, rfl, I1.kept (t' := s1.toks) kp, turn_zipLL a b (s1.heap.objs.size + 4) (s1.heap.objs.size + 2) (s1.heap.objs.size + 3) s1.heap.objs.size (s1.heap.objs.size + 1) ?_, ⟨b1, b2, ⟨_, _, b3⟩, b4, b5⟩, fun c hc => ?_, q⟩
  · constructor <;> (intro z; have z : (_ : Nat) = _ := z; omega)
  · have hge : s1.heap.objs.size ≤ c := by
      simp only [List.mem_cons, List.not_mem_nil, or_false] at hc
      rcases hc with rfl | rfl | rfl | rfl | rfl
      · exact Nat.le_add_right _ _
      · exact Nat.le_add_right _ _
      · exact Nat.le_add_right _ _
      · exact Nat.le_refl _
      · exact Nat.le_add_right _ _
    exact I1.fpOk hge (I1.hok.fresh hge)
def zipD : List D → List D → List D
  | x :: xs, y :: ys => .tuple [x, y] :: zipD xs ys
  | _, _ => []
theorem zipD_get : ∀ {xs ys : List D} {i : Nat} {d : D}, (zipD xs ys)[i]? = some d → ∃ x y, xs[i]? = some x ∧ ys[i]? = some y ∧ d = .tuple [x, y]
  | [], _, i, d, h => by simp [zipD] at h
  | _ :: _, [], i, d, h => by simp [zipD] at h
  | x :: xs, y :: ys, 0, d, h => by simp [zipD] at h; exact ⟨x, y, rfl, rfl, h.symm⟩
  | x :: xs, y :: ys, i + 1, d, h => by
    simp only [zipD, List.getElem?_cons_succ] at h
    obtain ⟨a, b, h1, h2, h3⟩ := zipD_get h
    exact ⟨a, b, by simpa using h1, by simpa using h2, h3⟩
theorem zipD_len : ∀ (xs ys : List D), (zipD xs ys).length = min xs.length ys.length
  | [], _ => by simp [zipD]
  | _ :: _, [] => by simp [zipD]
  | x :: xs, y :: ys => by simp [zipD, zipD_len xs ys]
theorem iter_zip {K : PySem.W.Frag} {HF : Hp} {sq1 sq2 : Hp → List V → Prop} {xs ys : List D} {vs us : List V} (h1 : sq1 HF vs) (mo1 : ∀ H H', Same H H' → sq1 H vs → sq1 H' vs) (h2 : sq2 HF us) (mo2 : ∀ H H', Same H H' → sq2 H us → sq2 H' us) (r1 : Reps K HF xs vs) (r2 : Reps K HF ys us) :
    IterD K (Itz sq1 sq2) HF (zipD xs ys) where
  go := fun i d H₁ HF₁ e s1 s2 => by
    obtain ⟨x, y, hx, hy, rfl⟩ := zipD_get e
    obtain ⟨v, hv, rv⟩ := r1.getD hx
    obtain ⟨u, hu, ru⟩ := r2.getD hy
    have q1 := mo1 _ _ s2 (mo1 _ _ s1 h1)
    have q2 := mo2 _ _ s2 (mo2 _ _ s1 h2)
    refine ⟨⟨vs, us, v, u, q1, q2, hv, hu⟩, fun w H₂ ⟨T, a, b, e1, hT, e2, ha, hb⟩ => ?_⟩
    have ea := ha vs q1
    have eb := hb us q2
    rw [hv] at ea
    rw [hu] at eb
    cases ea
    cases eb
    subst e1 e2
    exact ⟨_, .new s2 hT, rep_newtup (s2.free hT) (Reps.cons (rv.mono s1) (Reps.cons (ru.mono s1) Reps.nil))⟩
  stop := fun H₁ HF₁ s1 s2 => ⟨vs, us, mo1 _ _ s2 (mo1 _ _ s1 h1), mo2 _ _ s2 (mo2 _ _ s1 h2), by rw [zipD_len, r1.length, r2.length]; omega⟩
def gZipL : List D → Option (List D) := fun ds => match ds with
  | [.list xs, .list ys] => some (zipD xs ys)
  | _ => none
theorem gZipL_some {ds es : List D} (h : gZipL ds = some es) : ∃ xs ys, ds = [.list xs, .list ys] ∧ es = zipD xs ys := by
  unfold gZipL at h
  split at h
  · cases h; exact ⟨_, _, rfl, rfl⟩
  · cases h
def fZip (fs : Env → Option (List D)) : Env → Option (List D) := fun ρ => (fs ρ).bind gZipL
theorem di_zip (B : Blt X "zip" (.type "zip")) (h : DA X [l, l'] fs) (hs : starEach [l, l'] X.env = (false, eval l X.env) :: starEach [l'] X.env := by rfl) (hs2 : (backTo pos (starEach [l'] X.env)).any (·.1) = false := by rfl) :
    DI X (.Tuple elts k tp) (.Call (.Name "zip" p) [l, l'] [] pos) (fZip fs) :=
  pi_imp (pi_zip B h hs hs2) fun σ H R ⟨HF, ρ, ds, sm, eo, hf, q⟩ => by
    obtain ⟨x, hx, hf⟩ := bs hf
    obtain ⟨xs, ys, rfl, rfl⟩ := gZipL_some hf
    refine ⟨HF, ρ, _, sm, eo, hx, fun vs H1 HF1 g1 r1 => ?_⟩
    obtain ⟨v, r', rfl, a, b⟩ := r1.cons_inv
    obtain ⟨v', r'', rfl, a', b'⟩ := b.cons_inv
    rw [b'.nil_inv]
    simp only [Rep] at a a'
    obtain ⟨c, us, rfl, hs, rr⟩ := a
    obtain ⟨c', us', rfl, hs', rr'⟩ := a'
    exact ⟨c, c', rfl, us, us', g1.fh.seq hs, g1.fh.seq hs', q _ H1 HF1 g1 (iter_zip hs (fun _ _ s h => s.seq h) hs' (fun _ _ s h => s.seq h) rr rr')⟩
end
end Dl
set_option Elab.async false
set_option linter.all false
set_option maxRecDepth 100000
set_option maxHeartbeats 4000000
namespace Dl
open PySem L2 PySem.Spec PyProof.Rows
/-! slices a[lo:hi] -/
def cut {α : Type} (xs : List α) (lo hi : Option Int) : List α := (xs.drop (HT.sIx xs.length 0 lo)).take (HT.sIx xs.length xs.length hi - HT.sIx xs.length 0 lo)
theorem cut_len {α : Type} (xs : List α) (lo hi : Option Int) : (cut xs lo hi).length ≤ xs.length := by
  unfold cut; rw [List.length_take, List.length_drop]; omega
theorem reps_cut {K : PySem.W.Frag} {H : Hp} {ds : List D} {vs : List V} (r : Reps K H ds vs) (lo hi : Option Int) : Reps K H (cut ds lo hi) (cut vs lo hi) := by
  unfold cut; rw [r.length]; exact (r.drop _).take _
section
variable {X : Cx}
theorem whole_get {prog : Program} {w : World} {A : Around} {E : Value → Shared → Prop} {s : Shared} {t sl : Addr} {its : Array Value} {vl vu : Value} {lo hi : Option Int} {Q : Value → Shared → Prop} (ht : IsTup s.heap t its) (hs : s.heap.IsSliceOf sl vl vu .none) (pl : IsPart vl lo) (pu : IsPart vu hi)
    (hw : HT.sIx its.size 0 lo = 0 ∧ HT.sIx its.size its.size hi = its.size) (h : Q (.ref t) s) : wpAny (model prog w) A (getItem (.ref t) (.ref sl)) Q E s := by
  obtain ⟨os, hos, hcs, hds⟩ := id hs
  have hTs : s.TypeIs (.ref sl) "slice" := ⟨os, hos, hcs⟩
  unfold getItem
  try with_reducible refine wpAny_holding ?_
  first | refine wpAny_bind (wpAny_pure ?_) | skip
  refine wpAny_bind (wpAny_sequenceKey ht.typeIs (by decide) (wpAny_bind (wpAny_callSpecial?_slot (name := Str.ofString "__getitem__") ht.typeIs PyProof.Rows.slot_tuple_getitem (wpAny_call_entry PyProof.Rows.slot_tuple_getitem ht.typeIs entry_tuple_getitem ?_ (args_tuple_getitem _ _)))))
  refine wpAny_bind (m := Builtin.Tuple.tupleItemsOf (.ref t)) (tupleItemsOf_ ht (wpAny_bind (wpAny_typeOf hTs ?_)))
  rw [if_pos (by decide)]
  refine wpAny_bind (HT.sliceApplied_gen hs pl pu ?_)
  show wpAny _ _ (if (((HT.sIx its.size 0 lo : Nat) : Int) == 0 && (1 : Int) == 1 && (HT.sIx its.size its.size hi - HT.sIx its.size 0 lo) == its.size) = true then _ else _) _ _ s
  rw [hw.1, hw.2, if_pos (by simp)]
  unfold Builtin.Tuple.tupleIsExact
  refine wpAny_bind (wpAny_bind (wpAny_typeOf ht.typeIs (wpAny_pure ?_)))
  rw [if_pos (by decide)]
  first
    | exact wpAny_bind (wpAny_rule (wpAny_pure ⟨_, rfl, wpAny_pure h⟩))
    | exact wpAny_bind (wpAny_rule (wpAny_bind (wpAny_pure (wpAny_pure ⟨_, rfl, wpAny_pure h⟩))))
def rSlA (K : PySem.W.Frag) : V → Option Int → Option Int → Hp → VK → Prop := fun x lo hi H Q => ∃ a xs, x = .ref a ∧ SqT K H a xs ∧ (cut xs lo hi = xs → Q (.ref a) H) ∧ ∀ p, H p = none → Q (.ref p) (upd H p (.tup (cut xs lo hi)))
theorem sl_any : SlR X (rSlA X.K) := by
  intro pins s σ H x v vl vu lo hi sl Q I rx hs pl pu h
  obtain ⟨a, xs, rfl, hx, q1, q2⟩ := h
  by_cases hw : HT.sIx xs.length 0 lo = 0 ∧ HT.sIx xs.length xs.length hi = xs.length
  · cases rx
    obtain ⟨its, r, ht, hz⟩ := I.tuple hx
    have hlen : its.toArray.size = xs.length := by rw [List.size_toArray]; exact r.length.symm
    refine ⟨"tuple", _, PyProof.Rows.slot_tuple_getitem.lookup, ht.typeIs, whole_get ht hs pl pu (by rw [hlen]; exact hw) ⟨.ref a, H, I, rfl, q1 ?_⟩⟩
    unfold cut
    rw [hw.1, hw.2, List.drop_zero, Nat.sub_zero, List.take_length]
  · exact sl_tup pins s σ H (.ref a) v vl vu lo hi sl Q I rx hs pl pu ⟨a, xs, rfl, hx, hw, q2⟩
def rSlL (K : PySem.W.Frag) : V → Option Int → Option Int → Hp → VK → Prop := fun x lo hi H Q => ∃ a xs, x = .ref a ∧ SqL K H a xs ∧ ∀ p, H p = none → Q (.ref p) (upd H p (.lst (cut xs lo hi)))
theorem bounds_cut (lo hi : Option Int) (n : Nat) : sliceBounds lo hi none n = (((HT.sIx n 0 lo : Nat) : Int), ((HT.sIx n n hi : Nat) : Int), 1) := by
  have h1 : (1 : Int) > 0 := by omega
  refine Prod.ext ?_ (Prod.ext ?_ rfl)
  · cases lo with
    | none => simp [sliceBounds, HT.sIx]
    | some x =>
      by_cases h : x < 0
      · simp only [sliceBounds, HT.sIx, Option.getD_none, h1, if_true, if_pos h]; omega
      · simp only [sliceBounds, HT.sIx, Option.getD_none, h1, if_true, if_neg h]; omega
  · cases hi with
    | none => simp [sliceBounds, HT.sIx]
    | some x =>
      by_cases h : x < 0
      · simp only [sliceBounds, HT.sIx, Option.getD_none, h1, if_true, if_pos h]; omega
      · simp only [sliceBounds, HT.sIx, Option.getD_none, h1, if_true, if_neg h]; omega
theorem sl_list : SlR X (rSlL X.K) := by
  intro pins s σ H x v vl vu lo hi sl Q I rx hs pl pu h
  obtain ⟨a, xs, rfl, hx, q⟩ := h
  cases rx
  obtain ⟨its, r, p, hz⟩ := I.list hx
  have hlen := r.length
  refine ⟨"list", _, slot_list_getitem.lookup, p.isList.typeIs, wpAny_getItem_list_slice p.isList hs pl pu .none (by simp) ?_ (by rw [List.size_toArray]; omega)⟩
  rw [PySem.W.kmk_pick_nat its.toArray (bounds_cut lo hi its.toArray.size)]
  have e : ((its.toArray.toList.drop (HT.sIx its.toArray.size 0 lo)).take (HT.sIx its.toArray.size its.toArray.size hi - HT.sIx its.toArray.size 0 lo)) = cut its lo hi := by unfold cut; simp
  rw [e]
  have rc : Vals (cut xs lo hi) (cut its lo hi) := by unfold cut; rw [hlen]; exact (r.drop _).take _
  exact ⟨.ref s.heap.objs.size, _, I.lnew (t' := s.toks) rc (Nat.le_trans (cut_len xs lo hi) hz), rfl, q _ I.fresh⟩
/-- a slice's bounds by data -/
def tDO (K : PySem.W.Frag) (f : Env → Option (Option Int)) : TO := fun σ H Q => ∃ HF ρ o, Same HF H ∧ EnvOk K HF ρ σ ∧ f ρ = some o ∧ ∀ H' HF', Grow HF H HF' H' → Q o H'
def DO (X : Cx) (e : Option Expr) (f : Env → Option (Option Int)) : Prop := PO X e (tDO X.K f)
def fNoB : Env → Option (Option Int) := fun _ => some none
def gI : D → Option Int | .int i => some i | _ => none
def fBd (f : Env → Option D) : Env → Option (Option Int) := fun ρ => (f ρ).bind fun d => (gI d).map some
theorem do_none : DO X none fNoB := fun pins s σ H Q I ⟨HF, ρ, o, sm, eo, hf, q⟩ => po_none pins s σ H Q I (by cases hf; exact q H HF (.refl sm))
theorem do_some {e : Expr} {f : Env → Option D} (h : DE X e f) : DO X (some e) (fBd f) := fun pins s σ H Q I ⟨HF, ρ, o, sm, eo, hf, q⟩ => po_some h pins s σ H Q I (by
  obtain ⟨d, hd, hf⟩ := bs hf
  obtain ⟨i, hi, rfl⟩ := map_some hf
  cases d <;> try cases hi
  exact ⟨HF, ρ, _, sm, eo, hd, fun v H1 HF1 g1 r1 => ⟨_, by simpa only [Rep] using r1, q H1 HF1 g1⟩⟩)
variable {a : Expr} {lo hi : Option Expr} {fa : Env → Option D} {fl fh : Env → Option (Option Int)} {pos p2 : Pos}
def fCut {β : Type} (g : D → Option Int → Option Int → Option β) (fa : Env → Option D) (fl fh : Env → Option (Option Int)) : Env → Option β := fun ρ => (fa ρ).bind fun x => (fl ρ).bind fun l => (fh ρ).bind fun h => g x l h
end
end Dl
set_option Elab.async false
set_option linter.all false
set_option maxRecDepth 100000
set_option maxHeartbeats 4000000
namespace Dl
open PySem L2 PySem.Spec PyProof.Rows
/-! t[::-1] of a tuple -/
theorem fm_congr {α β : Type} {f g : α → Option β} : ∀ {l : List α}, (∀ x ∈ l, f x = g x) → l.filterMap f = l.filterMap g
  | [], _ => rfl
  | x :: l, h => by rw [List.filterMap_cons, List.filterMap_cons, h x List.mem_cons_self, fm_congr fun y hy => h y (List.mem_cons_of_mem _ hy)]
theorem pick_rev (xs : List Value) : ((List.range xs.length).filterMap fun (k : Nat) => xs.toArray[(((xs.length : Nat) : Int) - 1 + (k : Int) * (-1)).toNat]?) = xs.reverse := by
  have e : ∀ k ∈ List.range xs.length, xs.toArray[(((xs.length : Nat) : Int) - 1 + (k : Int) * (-1)).toNat]? = xs.reverse[k]? := fun k hk => by
    have hk' : k < xs.length := by simpa using hk
    have : (((xs.length : Nat) : Int) - 1 + (k : Int) * (-1)).toNat = xs.length - 1 - k := by omega
    rw [this, List.getElem?_toArray, List.getElem?_reverse hk']
  rw [fm_congr e]
  have := xs.length_reverse
  apply List.ext_getElem?
  intro i
  have key : ∀ (l : List Value), (List.range l.length).filterMap (fun (k : Nat) => l[k]?) = l := fun l => by
    induction l with
    | nil => rfl
    | cons x l ih =>
      rw [List.length_cons, List.range_succ_eq_map, List.filterMap_cons]
      simp only [List.getElem?_cons_zero]
      rw [List.filterMap_map]
      congr 1
  have k2 := key xs.reverse
  rw [List.length_reverse] at k2
  rw [k2]
theorem rev_get {prog : Program} {w : World} {A : Around} {E : Value → Shared → Prop} {s : Shared} {t sl : Addr} {its : List Value} {tk : Tok} {Q : Value → Shared → Prop} (ht : IsTup s.heap t its.toArray) (hs : s.heap.IsSliceOf sl .none .none (.int (-1) tk))
    (hz : its.length ≤ sizeLine) (h : Q (.ref s.heap.objs.size) { s with heap := s.heap.push { cls := .type "tuple", data := .seq its.reverse.toArray } }) : wpAny (model prog w) A (getItem (.ref t) (.ref sl)) Q E s := by
  obtain ⟨os, hos, hcs, hds⟩ := id hs
  have hTs : s.TypeIs (.ref sl) "slice" := ⟨os, hos, hcs⟩
  unfold getItem
  try with_reducible refine wpAny_holding ?_
  first | refine wpAny_bind (wpAny_pure ?_) | skip
  refine wpAny_bind (wpAny_sequenceKey ht.typeIs (by decide) (wpAny_bind (wpAny_callSpecial?_slot (name := Str.ofString "__getitem__") ht.typeIs PyProof.Rows.slot_tuple_getitem (wpAny_call_entry PyProof.Rows.slot_tuple_getitem ht.typeIs entry_tuple_getitem ?_ (args_tuple_getitem _ _)))))
  refine wpAny_bind (m := Builtin.Tuple.tupleItemsOf (.ref t)) (tupleItemsOf_ ht (wpAny_bind (wpAny_typeOf hTs ?_)))
  rw [if_pos (by decide)]
  have hap : ∀ {R : Int × Int × Nat → Shared → Prop}, R (((its.length : Nat) : Int) - 1, -1, its.length) s → wpAny (model prog w) A.in1 (Builtin.Slice.sliceApplied (.ref sl) (pure ((its.toArray.size : Nat) : Int))) R E s := fun {R} hR => by
    unfold Builtin.Slice.sliceApplied Builtin.Slice.sliceFields
    refine wpAny_bind (wpAny_bind (wpAny_field hos hds (x := .none) rfl (wpAny_bind (wpAny_field hos hds (x := .none) rfl (wpAny_bind (wpAny_field hos hds (x := .int (-1) tk) rfl (wpAny_pure ?_)))))))
    refine wpAny_bind (slicePart_int ?_)
    show wpAny _ _ (if ((-1 : Int) == 0) = true then _ else _) _ _ s
    rw [if_neg (by decide)]
    refine wpAny_bind (slicePart_none (wpAny_bind (slicePart_none (wpAny_bind (wpAny_pure ?_)))))
    have e1 : Builtin.Slice.sliceAdjust none none (-1) ((its.toArray.size : Nat) : Int) = (((its.length : Nat) : Int) - 1, -1) := by simp [Builtin.Slice.sliceAdjust]
    show wpAny _ _ (match Builtin.Slice.sliceAdjust none none (-1) ((its.toArray.size : Nat) : Int) with | (lo, hi) => pure (lo, (-1 : Int), Builtin.Slice.slicePlaces lo hi (-1))) _ _ s
    rw [e1]
    have e2 : Builtin.Slice.slicePlaces (((its.length : Nat) : Int) - 1) (-1) (-1) = its.length := by
      unfold Builtin.Slice.slicePlaces
      rw [if_neg (by decide)]
      simp only [Int.neg_neg, Int.ediv_one]
      split <;> omega
    show wpAny _ _ (pure (((its.length : Nat) : Int) - 1, (-1 : Int), Builtin.Slice.slicePlaces (((its.length : Nat) : Int) - 1) (-1) (-1))) _ _ s
    rw [e2]
    exact wpAny_pure hR
  first
    | refine wpAny_bind (hap ?_)
    | refine wpAny_bind (wpAny_of_in1 (hap ?_))
  show wpAny _ _ (if ((((its.length : Nat) : Int) - 1) == 0 && (-1 : Int) == 1 && its.length == its.toArray.size) = true then _ else _) _ _ s
  rw [if_neg (by simp), pick_rev]
  have hz' : sizeOk (.seq its.reverse.toArray) := by show its.reverse.toArray.size ≤ sizeLine; simpa using hz
  first
    | exact wpAny_bind (m := Builtin.Tuple.tupleExact _) (wpAny_newObj_type (wpAny_pure ⟨_, rfl, wpAny_pure h⟩) hz')
    | exact wpAny_bind (m := Builtin.Tuple.tupleExact _) (wpAny_newObj_type (wpAny_bind (wpAny_pure (wpAny_pure ⟨_, rfl, wpAny_pure h⟩))) hz')
    | exact wpAny_bind (wpAny_bind (m := Builtin.Tuple.tupleExact _) (wpAny_newObj_type (wpAny_pure (wpAny_pure ⟨_, rfl, wpAny_pure h⟩)) hz'))
    | exact wpAny_bind (wpAny_bind (m := Builtin.Tuple.tupleExact _) (wpAny_newObj_type (wpAny_pure ⟨_, rfl, wpAny_pure h⟩) hz'))
section
variable {X : Cx} {a : Expr} {fa : Env → Option D} {pos p2 p3 p4 : Pos} {j : Nat}
theorem pe_rev {ta : TE} (ha : PE X a ta) : PE X (.Subscript a (.Slice none none (some (.UnaryOp .USub (.Constant (.int 1) j p4) p3)) p2) pos) (fun σ H Q => ta σ H fun x H1 => ∃ b xs, x = .ref b ∧ SqT X.K H1 b xs ∧ ∀ p, H1 p = none → Q (.ref p) (upd H1 p (.tup xs.reverse))) := by
  intro pins s σ H Q I h
  refine Subscript_ (thn (ha pins s σ H _ I h) fun v s1 ⟨x, H1, I1, r1, b, xs, e, hq, q⟩ => ?_)
  subst e
  cases r1
  refine wpAny_Slice ?_
  rw [evalPart_none]
  refine wpAny_pure (wpAny_pure ?_)
  have hst := po_some (X := X) (pe_un (op := .USub) un_neg (pe_int (X := X) (i := 1) (j := j) (pos := p4)) (pos := p3)) pins s1 σ H1 (fun o H' => o = some (-1) ∧ H' = H1) I1 ⟨1, rfl, -1, rfl, rfl, rfl⟩
  refine thn hst fun vst s2 ⟨o, H2, I2, pst, e1, e2⟩ => ?_
  subst e1 e2
  cases pst with
  | int _ tk =>
  obtain ⟨its, r, ht, hz⟩ := I2.tuple hq
  have I4 : Inv X pins σ H2 { s2 with heap := s2.heap.push { cls := .type "slice", data := .fields #[.none, .none, .int (-1) tk] } } := I2.kept (t' := s2.toks) fun b ob q => Heap.get?_push_of_some _ q
  obtain ⟨its', r', ht', _⟩ := I4.tuple hq
  refine tail_any (ops := [.ref b, .ref s2.heap.objs.size]) ht'.typeIs PyProof.Rows.slot_tuple_getitem.lookup (rev_get ht' (Heap.IsSliceOf.new ..) (by rw [← r'.length]; exact hz) ?_) (by with_unfolding_all rfl)
  have hv : Vals xs.reverse its'.reverse := L2.Vals.reverse r'
  exact ⟨.ref _, _, I4.laid (t' := s2.toks) (o := .tup xs.reverse) (fun b ob q => Heap.get?_push_of_some _ q) (Nat.le_refl _) ⟨by rw [List.length_reverse]; exact hz, _, hv, IsTup.new _ _⟩, rfl, q _ I4.fresh⟩
def gRev : D → Option D | .tuple ds => some (.tuple ds.reverse) | _ => none
def f1 (g : D → Option D) (f : Env → Option D) : Env → Option D := fun ρ => (f ρ).bind g
theorem de_rev (ha : DE X a fa) : DE X (.Subscript a (.Slice none none (some (.UnaryOp .USub (.Constant (.int 1) j p4) p3)) p2) pos) (f1 gRev fa) := pe_imp (pe_rev ha) fun σ H Q ⟨HF, ρ, d, sm, eo, hf, q⟩ => by
  obtain ⟨x, hx, hf⟩ := bs hf
  refine ⟨HF, ρ, x, sm, eo, hx, fun v1 H1 HF1 g1 r1 => ?_⟩
  cases x <;> try cases hf
  simp only [Rep] at r1
  obtain ⟨b, vs, rfl, hs, rr⟩ := r1
  exact ⟨b, vs, rfl, same_tup g1.fh hs, fun p hp => q _ _ _ (g1.trans (.new g1.fh hp)) (rep_newtup (g1.fh.free hp) rr.reverse)⟩
end
end Dl
set_option Elab.async false
set_option linter.all false
set_option maxRecDepth 100000
set_option maxHeartbeats 4000000
namespace HT
open PySem PyProof.Rows
section
open PySem.SeqAt
open PySem.AutoSeq1 (wpAny_loadPart')
open PySem.MeetsSeq PySem.MeetsSeq2 PySem.MeetsSeq3
theorem rcGe_int (A : Around) (s : Shared) (a : Int) (t : Tok) (c : Int) (u : Tok) (prog : Program) (w : World) (E : Value → Shared → Prop) (Q : Value → Shared → Prop) (h : Q (.bool (decide (c ≤ a))) s) :
    wpAny (model prog w) A (richCompare .GtE (.int a t) (.int c u)) Q E s :=
  (PyProof.Rows.ge_int h : wpAny (model prog w) A (compareOp .GtE (.int a t) (.int c u)) Q E s)
theorem tuple_ge_ints (l b : Addr) (items items2 : Array Value) (n n2 : Nat) (dd dd2 : Option Addr) (sl sl2 : Array (Option Value)) (ns ms : List Int) (hi : IntsAre items.toList ns) (hj : IntsAre items2.toList ms) :
    Meets (Builtin.«tuple.__ge__» ⟨[.ref l, .ref b], []⟩)
      (fun _ R s => s.heap.get? l = some { cls := .type "tuple", dict := dd, data := .seq items n, slots := sl } ∧ s.heap.get? b = some { cls := .type "tuple", dict := dd2, data := .seq items2 n2, slots := sl2 } ∧
        R (.ok (.ret (.bool (!lexLt ns ms)))) s) :=
  .of_wp fun prog w A R s h => by
    obtain ⟨hp, g, d, tk, os⟩ := s; obtain ⟨hl, hb, h⟩ := h
    have f2 := AutoSeq1.sub_tuple_tuple
    have z1 : items.size = ns.length := by rw [← hi.length]; simp
    have z2 : items2.size = ms.length := by rw [← hj.length]; simp
    wp_walk using wpAny_loadPart' hl, wpAny_loadPart' hb, wpAny_forIn_list _ (fun rest b s' => b.1 = none ∧ s' = ⟨hp, g, d, tk, os⟩ ∧ ∃ (vs ws : List Value) (ns' ms' : List Int), rest = vs.zip ws ∧
      IntsAre vs ns' ∧ IntsAre ws ms' ∧ ns'.length + items2.size = ms'.length + items.size ∧ R (.ok (.ret (.bool (!lexLt ns' ms')))) ⟨hp, g, d, tk, os⟩) _
    case turn =>
      rintro ⟨y, x⟩ rest b s' ⟨hb', rfl, vs, ws, ns', ms', hz, hvi, hwi, hlen, hR⟩
      cases hvi with
      | nil => rw [List.zip_nil_left] at hz; cases hz
      | cons a t hvi' =>
        cases hwi with
        | nil => rw [List.zip_nil_right] at hz; cases hz
        | cons c u hwi' =>
          rw [List.zip_cons_cons] at hz
          injection hz with hyx hrest
          injection hyx with hy hx
          subst hy hx
          rw [lexLt_cons] at hR
          simp only [List.length_cons] at hlen
          obtain ⟨e, he, hiff⟩ := eqAt_int A.in1 ⟨hp, g, d, tk, os⟩ a t c u
          refine wpAny_bind (he prog w _ _ ?_)
          cases e with
          | true =>
            rw [if_pos (hiff.mp rfl)] at hR
            wp_walk
            exact ⟨rfl, rfl, _, _, _, _, hrest, hvi', hwi', by omega, hR⟩
          | false =>
            rw [if_neg (fun q => absurd (hiff.mpr q) Bool.false_ne_true)] at hR
            have hri := rcGe_int A.in1 ⟨hp, g, d, tk, os⟩ a t c u prog w
            have e1 : (!decide (a < c)) = decide (c ≤ a) := by
              rw [← decide_not]
              exact decide_eq_decide.mpr (by omega)
            rw [e1] at hR
            wp_walk using hri
            exact ⟨_, rfl, hR⟩
    case fin =>
      rintro ⟨b1, b2⟩ s' ⟨hb', rfl, vs, ws, ns', ms', hz, hvi, hwi, hlen, hR⟩
      simp only at hb'
      subst hb'
      have hv : lexLt ns' ms' = decide (items.size < items2.size) := by
        cases hvi with
        | nil =>
          cases hwi with
          | nil =>
            simp only [List.length_nil] at hlen
            rw [lexLt_nil_nil]
            exact (decide_eq_false (by omega)).symm
          | cons c u hw =>
            simp only [List.length_nil, List.length_cons] at hlen
            rw [lexLt_nil_cons]
            exact (decide_eq_true (by omega)).symm
        | cons a t hv =>
          cases hwi with
          | nil =>
            simp only [List.length_nil, List.length_cons] at hlen
            rw [lexLt_cons_nil]
            exact (decide_eq_false (by omega)).symm
          | cons c u hw =>
            rw [List.zip_cons_cons] at hz
            cases hz
      have hv2 : (!lexLt ns' ms') = decide (items.size ≥ items2.size) := by
        rw [hv, ← decide_not]
        exact decide_eq_decide.mpr (by omega)
      rw [hv2] at hR
      wp_walk
      exact ⟨_, rfl, hR⟩
    case h =>
      exact ⟨rfl, rfl, items.toList, items2.toList, ns, ms, rfl, hi, hj, by omega, h⟩
end
end HT
namespace Dl
open PySem L2 PySem.Spec PyProof.Rows
section
variable {X : Cx}
def tupInts : D → Option (List Int) | .tuple ds => intsOf ds | _ => none
theorem tupInts_some {x : D} {ns : List Int} (h : tupInts x = some ns) : x = .tuple (ns.map PyData.int) := by
  cases x <;> try cases h
  rename_i xs
  have h : intsOf xs = some ns := h
  rw [intsOf_some h]
def gGeT : D → D → Option Bool := fun x y => (tupInts x).bind fun ns => (tupInts y).map fun ms => !lexLt ns ms
theorem op_geT (hu : X.A.units < cLine) : OpR X (compareOp .GtE) (rD2 X.K gGeT) := by
  intro pins s σ H v1 v2 u1 u2 Q I rx ry h
  obtain ⟨HF, x, y, k, sm, r1, r2, hg, q⟩ := h
  obtain ⟨ns, h1, hg⟩ := bs hg
  obtain ⟨ms, h2, rfl⟩ := map_some hg
  rw [tupInts_some h1] at r1
  rw [tupInts_some h2] at r2
  have key : ∀ {ns : List Int} {v : V} {u : Value}, Rep X.K HF (.tuple (ns.map PyData.int)) v → RelV v u → ∃ a its, u = .ref a ∧ IsTup s.heap a its ∧ IntsAre its.toList ns := fun {ns v u} r rv => by
    have p : RowV s.heap u ns := by
      cases rows_at (X := X) (us := [u]) (vs := [v]) (nss := [ns]) I sm (Reps.cons r Reps.nil) (.cons rv .nil) with
      | cons p _ => exact p
    obtain ⟨a, o, its, n, rfl, e1, e2, e3, e4⟩ := p.ex
    exact ⟨a, its, rfl, ⟨o, e1, e2, n, e3⟩, e4⟩
  obtain ⟨a, its, rfl, ⟨⟨cls, dd, data, sl⟩, ho, hc, n, hd⟩, i1⟩ := key r1 rx
  obtain ⟨b, its2, rfl, ⟨⟨cls2, dd2, data2, sl2⟩, ho2, hc2, n2, hd2⟩, i2⟩ := key r2 ry
  simp only at hc hd hc2 hd2
  subst hc hd hc2 hd2
  exact richCompare_meets_room (op := .GtE) ⟨_, ho, rfl⟩ ⟨_, ho2, rfl⟩ PySem.F.slot_tuple_ge PySem.F.entry_tuple_ge (PySem.F.args_tuple_ge_2 _ _) (HT.tuple_ge_ints a b its its2 n n2 dd dd2 sl sl2 ns ms i1 i2)
    ⟨ho, ho2, show Value.bool (!lexLt ns ms) ≠ Value.notImplemented ∧ EP X pins σ Q (.bool (!lexLt ns ms)) s from ⟨(fun x => nomatch x), ⟨.bl _, H, I, rfl, q⟩⟩⟩ hu
end
end Dl
namespace En
open PySem PyProof.Rows
open AutoSeq1 (wpAny_loadPart')
theorem noFill_tup : fillsNumberSlot (.type "tuple") "mul" = pure false := PySem.fillsNumberSlot_seq (id := "tuple.__mul__") (r := some (.builtin "tuple.__rmul__")) F.slot_tuple_mul.lookup (by decide +kernel) F.slot_tuple_rmul.lookup (by decide +kernel)
theorem repeat_tup : seqRepeat? (.type "tuple") = pure (some (.builtin "tuple.__mul__")) := by
  unfold seqRepeat?
  rw [PySem.seqSlot_of (T := "tuple") (name := "__mul__") (id := "tuple.__mul__") F.slot_tuple_mul.lookup (by decide +kernel), PySem.seqSlot_of (T := "tuple") (name := "__rmul__") (id := "tuple.__rmul__") F.slot_tuple_rmul.lookup (by decide +kernel)]; rfl
theorem rmul_tup (a : Int) (t : Tok) (l : Addr) (its : Array Value) (n : Nat) (dd : Option Addr) (sl : Array (Option Value)) :
    Meets (Builtin.«int.__rmul__» ⟨[.int a t, .ref l], []⟩) (fun _ R s => s.heap.get? l = some { cls := .type "tuple", dict := dd, data := .seq its n, slots := sl } ∧ R (.ok (.ret Value.notImplemented)) s) :=
  .of_wp fun prog w A R s h => by
    obtain ⟨hp, g, d, tk, os⟩ := s; obtain ⟨hl, h⟩ := h
    wp_walk
    exact ⟨_, rfl, h⟩
end En
set_option Elab.async false
set_option linter.all false
set_option maxRecDepth 100000
set_option maxHeartbeats 4000000
namespace En
open PySem PyProof.Rows
open AutoSeq1 (wpAny_loadPart')
theorem mulT_same (l : Addr) (its : Array Value) (n : Nat) (dd : Option Addr) (sl : Array (Option Value)) (k : Int) (t : Tok) (h1 : ¬ (decide (k < -(2 ^ 63)) || decide (k ≥ 2 ^ 63)) = true) (h2 : (its.isEmpty || k == 1) = true) :
    Meets (Builtin.«tuple.__mul__» ⟨[.ref l, .int k t], []⟩) (fun _ R s => s.heap.get? l = some { cls := .type "tuple", dict := dd, data := .seq its n, slots := sl } ∧ R (.ok (.ret (.ref l))) s) :=
  .of_wp fun prog w A R s h => by
    obtain ⟨hp, g, d, tk, os⟩ := s; obtain ⟨hl, h⟩ := h
    have f1 := AutoSeq1.idx_int
    wp_walk using wpAny_loadPart' hl
    rw [if_neg h1]
    wp_walk using wpAny_loadPart' hl
    exact ⟨_, rfl, h⟩
theorem mulT_none (l : Addr) (its : Array Value) (n : Nat) (dd : Option Addr) (sl : Array (Option Value)) (k : Int) (t : Tok) (h1 : ¬ (decide (k < -(2 ^ 63)) || decide (k ≥ 2 ^ 63)) = true) (h2 : ¬ (its.isEmpty || k == 1) = true) (h3 : (decide (k ≤ 0) || its.isEmpty) = true) :
    Meets (Builtin.«tuple.__mul__» ⟨[.ref l, .int k t], []⟩) (fun _ R s => s.heap.get? l = some { cls := .type "tuple", dict := dd, data := .seq its n, slots := sl } ∧ R (.ok (.ret (.ref s.heap.objs.size))) { s with heap := s.heap.push { cls := .type "tuple", data := .seq #[] } }) :=
  .of_wp fun prog w A R s h => by
    obtain ⟨hp, g, d, tk, os⟩ := s; obtain ⟨hl, h⟩ := h
    have f1 := AutoSeq1.idx_int
    wp_walk using wpAny_loadPart' hl
    rw [if_neg h1]
    wp_walk using wpAny_loadPart' hl
    exact ⟨_, rfl, h⟩
theorem mulT_many (l : Addr) (its : Array Value) (n : Nat) (dd : Option Addr) (sl : Array (Option Value)) (k : Int) (t : Tok) (h1 : ¬ (decide (k < -(2 ^ 63)) || decide (k ≥ 2 ^ 63)) = true) (h2 : ¬ (its.isEmpty || k == 1) = true) (h3 : ¬ (decide (k ≤ 0) || its.isEmpty) = true)
    (h4 : ¬ ((its.size : Nat) : Int) * k > (2 ^ 63 - 1) / 8) (h5 : ¬ Builtin.Tuple.tupleTooMany (((its.size : Nat) : Int) * k) = true) (hz : ((List.replicate k.toNat its).foldl (· ++ ·) #[]).size ≤ sizeLine) :
    Meets (Builtin.«tuple.__mul__» ⟨[.ref l, .int k t], []⟩) (fun _ R s => s.heap.get? l = some { cls := .type "tuple", dict := dd, data := .seq its n, slots := sl } ∧ R (.ok (.ret (.ref s.heap.objs.size))) { s with heap := s.heap.push { cls := .type "tuple", data := .seq ((List.replicate k.toNat its).foldl (· ++ ·) #[]) } }) :=
  .of_wp fun prog w A R s h => by
    obtain ⟨hp, g, d, tk, os⟩ := s; obtain ⟨hl, h⟩ := h
    have f1 := AutoSeq1.idx_int
    wp_walk using wpAny_loadPart' hl
    rw [if_neg h1]
    wp_walk using wpAny_loadPart' hl
    rw [if_neg h4]
    wp_walk using wpAny_loadPart' hl
    exact ⟨_, rfl, h⟩
end En
namespace Dl
open PySem L2 PySem.Spec PyProof.Rows
section
variable {X : Cx}
def rRepT (K : PySem.W.Frag) : R2 := fun x y H Q => ∃ a k xs, x = .ref a ∧ y = .int k ∧ SqT K H a xs ∧ -(2 ^ 62) ≤ k ∧ k < 2 ^ 62 ∧ xs.length * k.toNat ≤ sizeLine ∧ ((List.replicate k.toNat xs).flatten = xs → Q (.ref a) H) ∧
  ∀ p, H p = none → Q (.ref p) (upd H p (.tup (List.replicate k.toNat xs).flatten))
theorem op_repT : OpR X (binaryOp .Mult) (rRepT X.K) := by
  intro pins s σ H x y v u Q I rx ry h
  obtain ⟨a, k, xs, rfl, rfl, hq, k1, k2, hz, q1, q2⟩ := h
  cases rx
  obtain ⟨t, rfl⟩ := ry
  obtain ⟨its, r, pl, hzx⟩ := I.tuple hq
  have hl := r.length
  obtain ⟨⟨cls, dd, data, sl⟩, ho, hc, n, hd⟩ := id pl
  simp only at hc hd
  subst hc hd
  have b1 : ¬ (decide (k < -(2 ^ 63)) || decide (k ≥ 2 ^ 63)) = true := by
    simp only [Bool.or_eq_true, decide_eq_true_eq]
    omega
  refine wpAny_binaryOp_repeat_ref (T := "tuple") (U := "int") (by decide) ⟨_, ho, rfl⟩ (fun s' => typeIs_int s' k t) En.noFill_tup F.fills_int_mul F.slot_int_rmul En.repeat_tup F.slot_int_index.lookup
    (call_meets F.slot_int_rmul (typeIs_int s k t) F.entry_int_rmul (F.args_int_rmul_2 _ _) (En.rmul_tup k t a its.toArray n dd sl) ⟨ho, rfl, ⟨_, ho, rfl⟩, ?_⟩)
  have hfl : ∀ m : Nat, List.foldl (fun x1 x2 => x1 ++ x2) #[] (List.replicate m its.toArray) = (List.replicate m its).flatten.toArray := fun m => by
    have := foldl_rep its m []
    rw [List.nil_append] at this
    exact this
  by_cases h2 : (its.toArray.isEmpty || k == 1) = true
  · refine call_meets F.slot_tuple_mul ⟨_, ho, rfl⟩ F.entry_tuple_mul (F.args_tuple_mul_2 _ _) (En.mulT_same a its.toArray n dd sl k t b1 h2) ⟨ho, ⟨.ref a, H, I, rfl, q1 ?_⟩⟩
    rw [Bool.or_eq_true] at h2
    rcases h2 with h2 | h2
    · have : xs = [] := by
        have e : its = [] := by simpa using h2
        rw [e] at hl
        exact List.length_eq_zero_iff.mp hl
      rw [this]
      simp
    · have : k = 1 := eq_of_beq h2
      subst this
      simp
  · by_cases h3 : (decide (k ≤ 0) || its.toArray.isEmpty) = true
    · refine call_meets F.slot_tuple_mul ⟨_, ho, rfl⟩ F.entry_tuple_mul (F.args_tuple_mul_2 _ _) (En.mulT_none a its.toArray n dd sl k t b1 h2 h3) ⟨ho, ?_⟩
      have hk0 : k.toNat = 0 := by
        simp only [Bool.or_eq_true, decide_eq_true_eq] at h3 h2
        rcases h3 with h3 | h3
        · omega
        · exact absurd (.inl h3) h2
      have q3 := q2 s.heap.objs.size I.fresh
      rw [hk0] at q3
      exact ⟨.ref s.heap.objs.size, _, I.laid (t' := s.toks) (o := .tup []) (fun b ob q => Heap.get?_push_of_some _ q) (Nat.le_refl _) ⟨Nat.zero_le _, [], .nil, IsTup.new _ _⟩, rfl, q3⟩
    · have hm : its.length * k.toNat ≤ sizeLine := by rw [← hl]; exact hz
      have hkn : (k.toNat : Int) = k := by
        simp only [Bool.or_eq_true, decide_eq_true_eq, not_or] at h3
        omega
      have hmi : ((its.toArray.size : Nat) : Int) * k = ((its.length * k.toNat : Nat) : Int) := by rw [List.size_toArray, Int.natCast_mul, hkn]
      have hv := L2.Vals.rep r k.toNat
      have hlen2 : (List.replicate k.toNat xs).flatten.length ≤ sizeLine := by rw [len_rep, Nat.mul_comm]; exact hz
      have hs8 : (sizeLine : Nat) ≤ (2 ^ 63 - 1) / 8 := by decide
      have h4 : ¬ ((its.toArray.size : Nat) : Int) * k > (2 ^ 63 - 1) / 8 := by rw [hmi]; omega
      have h5 : ¬ Builtin.Tuple.tupleTooMany (((its.toArray.size : Nat) : Int) * k) = true := by
        unfold Builtin.Tuple.tupleTooMany
        rw [hmi]
        simp only [decide_eq_true_eq]
        omega
      refine call_meets F.slot_tuple_mul ⟨_, ho, rfl⟩ F.entry_tuple_mul (F.args_tuple_mul_2 _ _) (En.mulT_many a its.toArray n dd sl k t b1 h2 h3 h4 h5 (by rw [hfl, List.size_toArray, ← hv.length]; exact hlen2)) ⟨ho, ?_⟩
      rw [hfl]
      exact ⟨.ref s.heap.objs.size, _, I.laid (t' := s.toks) (o := .tup (List.replicate k.toNat xs).flatten) (fun b ob q => Heap.get?_push_of_some _ q) (Nat.le_refl _) ⟨hlen2, _, hv, IsTup.new _ _⟩, rfl, q2 _ I.fresh⟩
def gRepT : D → D → Option D
  | .tuple ds, .int k => if okR k = true ∧ ds.length * k.toNat ≤ sizeLine then some (.tuple (List.replicate k.toNat ds).flatten) else none
  | _, _ => none
theorem reps_rep {K : PySem.W.Frag} {HF : Hp} {ds : List D} {vs : List V} (r : Reps K HF ds vs) : ∀ k : Nat, Reps K HF (List.replicate k ds).flatten (List.replicate k vs).flatten
  | 0 => Reps.nil
  | k + 1 => by rw [List.replicate_succ, List.replicate_succ, List.flatten_cons, List.flatten_cons]; exact r.append (reps_rep r k)
theorem sem_repT {K : PySem.W.Frag} : Sem2 K (rRepT K) gRepT := by
  intro HF H x y v1 v2 d Q sm r1 r2 hg q
  cases x <;> cases y <;> simp only [gRepT] at hg <;> try cases hg
  split at hg
  · rename_i xs k hh
    cases hg
    simp only [Rep] at r1 r2
    obtain ⟨a, vs, rfl, ha, ra⟩ := r1
    have ok := hh.1
    unfold okR at ok
    rw [Bool.and_eq_true] at ok
    refine ⟨a, k, vs, rfl, r2, same_tup sm ha, of_decide_eq_true ok.1, of_decide_eq_true ok.2, by rw [ra.length]; exact hh.2, fun e => q _ H HF (.refl sm) ?_, fun p hp => q _ _ _ (.new sm hp) (rep_newtup (sm.free hp) (reps_rep ra _))⟩
    simp only [Rep]
    refine ⟨a, vs, rfl, ha, ?_⟩
    have := reps_rep ra k.toNat
    rw [e] at this
    exact this
  · cases hg
end
end Dl
set_option Elab.async false
set_option linter.all false
set_option maxRecDepth 100000
set_option maxHeartbeats 8000000
namespace En
open PySem PyProof.Rows
section
variable {prog : Program} {w : World} {A : Around} {E : Value → Shared → Prop} {s : Shared}
theorem call_setT {l : Addr} {its : Array Value} {ns : List Int} {Q : Value → Shared → Prop} (hh : A.handled = none) (hl : s.heap.IsTuple l its) (hi : IntsAre its.toList ns) (hb : its.size + 1 < scanBound)
    (h : ∀ (h' : Heap) (tk : Nat), h'.SetOf (intKind prog w) s.heap.objs.size (fun k' => (firstMet (fun i => ns.getD i 0) its.size).any (· == k')) (firstMet (fun i => ns.getD i 0) its.size).length → (∀ b o, b < s.heap.objs.size → s.heap.get? b = some o → h'.get? b = some o) → Q (.ref s.heap.objs.size) { s with heap := h', toks := tk }) :
    wpAny (model prog w) A (call (.type "set") [.ref l]) Q E s := by
  obtain ⟨c, tl, hmro⟩ := F.called_set.mro
  have hmade := F.called_set.made
  have hsub := F.called_set.sub
  refine wpAny_call (codeAny_of_tree ?_); show wpAny _ _ (callAny (.type "set") _) _ _ _
  refine wpAny_pure ⟨Code.quiet_builtin _ (by decide +kernel), codeAny_builtin F.entry_type_call ?_⟩
  rw [Around.under_plain (weight_type_call_type "set" [.ref l] []) rfl]
  have h1 := F.called_set.notType
  have h2 := F.called_set.canCreate
  have hct := F.typeCall_set_1 (.ref l)
  repeat (any_goals (first | assumption | wp_step))
  refine codeAny_mono (code_set_new_1 (.ref l) (E := E) (Q₁ := fun obj s1 => ∃ led : Bool, obj = .ref s.heap.objs.size ∧ s1 = { s with heap := s.heap.push { cls := .type "set", dict := none, data := .set #[] 0 (.fresh 0 0 led) } }) fun led => ⟨led, rfl, rfl⟩) fun r s1 hr => ?_
  cases r with
  | error e => exact hr
  | ok fl =>
    cases fl with
    | ret obj =>
      obtain ⟨led, rfl, rfl⟩ := hr
      have hS : (s.heap.push { cls := .type "set", dict := none, data := .set #[] 0 (.fresh 0 0 led) }).get? s.heap.objs.size = some { cls := .type "set", dict := none, data := .set #[] 0 (.fresh 0 0 led) } := by exact Heap.get?_push_size _ rfl
      have hT : Shared.TypeIs { s with heap := s.heap.push { cls := .type "set", dict := none, data := .set #[] 0 (.fresh 0 0 led) } } (.ref s.heap.objs.size) "set" := ⟨_, hS, rfl⟩
      have hli := F.called_set.init.lookup
      have hbi := F.called_set.init.bind (.ref s.heap.objs.size)
      repeat (any_goals (first | assumption | wp_step))
      refine codeAny_mono (codeAny_call_builtin (R := wants (fun r s2 => r = .none ∧ ∃ h' tk, s2 = { s with heap := h', toks := tk } ∧ h'.SetOf (intKind prog w) s.heap.objs.size (fun k' => (firstMet (fun i => ns.getD i 0) its.size).any (· == k')) (firstMet (fun i => ns.getD i 0) its.size).length ∧
          (∀ b o, b < s.heap.objs.size → s.heap.get? b = some o → h'.get? b = some o)) E) F.called_set.init.plain F.entry_set_init (check_set_init_1 hT ?_)) fun r2 s2 hr2 => ?_
      · obtain ⟨ol, hol, hcl, nl, hdl⟩ := hl
        obtain ⟨ocls, odict, odata, oslots⟩ := ol
        simp only at hcl hdl
        subst hcl hdl
        have hol' : (s.heap.push { cls := .type "set", dict := none, data := .set #[] 0 (.fresh 0 0 led) }).get? l = some { cls := .type "tuple", dict := odict, data := .seq its nl, slots := oslots } := Heap.get?_push_of_some _ hol
        have hsls := F.sub_tuple_set
        have hslf := F.sub_tuple_frozenset
        have hne : (Value.type "tuple" == Value.type "dict") = false := by decide
        have hl1 : (s.heap.push { cls := .type "set", dict := none, data := .set #[] 0 (.fresh 0 0 led) }).IsTuple l its := ⟨_, hol', rfl, nl, rfl⟩
        unfold Builtin.«set.__init__» noKeywords Builtin.Frozenset.updateFrom
        generalize hPI : pyIter = PI
        wp_walk
        subst hPI
        refine wpAny_pyIter_tuple hl1 (wpAny_bind (wpAny_runValue ?_))
        have hlS : l < s.heap.objs.size := Heap.lt_size hol
        have hh3 : A.in1.in1.in1.handled = none := by simp [hh]
        have hneI : l ≠ (s.heap.push { cls := .type "set", dict := none, data := .set #[] 0 (.fresh 0 0 led) }).objs.size := by rw [Heap.size_push]; exact Nat.ne_of_lt (Nat.lt_succ_of_lt hlS)
        have hSf : s.heap.objs.size ∉ [(s.heap.push { cls := .type "set", dict := none, data := .set #[] 0 (.fresh 0 0 led) }).objs.size, l] := by
          rw [Heap.size_push]; simp only [List.mem_cons, List.not_mem_nil, or_false, not_or]
          exact ⟨Nat.ne_of_lt (Nat.lt_succ_self _), Nat.ne_of_gt hlS⟩
        have hval : ∀ (i : Nat) (v : Value), its[i]? = some v → ∃ t, v = .int ((fun i => ns.getD i 0) i) t := fun i v hv => IntsAre.int_at hi i v (by rw [Array.getElem?_toList]; exact hv)
        refine codeAny_set_update_loopS ((Walks.tuple hh3 _ l hneI its).toS) s.heap.objs.size hSf (fun i => ns.getD i 0) hval hb (its.size - 0) 0 _ (by omega) (Nat.zero_le _) ⟨⟨_, Heap.get?_push_size _ rfl, rfl, rfl⟩, ?ht⟩ ?hS0 ?hR
        case ht => exact ⟨_, Heap.get?_push_of_some _ hol', rfl, nl, rfl⟩
        case hS0 =>
          have hget : ((s.heap.push { cls := .type "set", dict := none, data := .set #[] 0 (.fresh 0 0 led) }).push { cls := .type "tuple_iterator", data := .fields #[.ref l, .int 0 0] }).get? s.heap.objs.size = some { cls := .type "set", dict := none, data := .set #[] 0 (.fresh 0 0 led) } := by exact Heap.get?_push_of_some _ hS
          exact SetOf_congr ((setObjOf_fresh (knd := intKind prog w) led).setOf hget (by unfold scanBound; omega)) (fun _ => rfl) rfl
        case hR =>
          intro s' hm hS'
          obtain ⟨h', g', d', tk', os'⟩ := s'
          have eg : g' = s.gens := hm.gens
          have ed : d' = s.drawn := hm.drawn
          have eo : os' = s.os := hm.os
          subst eg ed eo
          show wpAny _ _ _ _ _ _
          refine wpAny_pure ?_
          show wpAny _ _ (ret Value.none) _ _ _
          refine wpAny_pure ⟨rfl, h', tk', rfl, hS', fun b o hb' e => ?_⟩
          refine hm.heap b o ?_ (Heap.get?_push_of_some _ (Heap.get?_push_of_some _ e))
          simp only [List.mem_cons, List.not_mem_nil, or_false, not_or]
          exact ⟨Nat.ne_of_lt hb', by rw [Heap.size_push]; exact Nat.ne_of_lt (Nat.lt_succ_of_lt hb')⟩
      · cases r2 with
        | error e => exact hr2
        | ok fl2 =>
          cases fl2 with
          | ret r =>
            obtain ⟨rfl, h', tk, rfl, hS', hk'⟩ := hr2
            repeat (any_goals (first | assumption | wp_step))
            exact h _ _ hS' hk'
          | _ => exact hr2.elim
    | _ => exact hr.elim
end
end En
set_option Elab.async false
set_option linter.all false
set_option maxRecDepth 100000
set_option maxHeartbeats 4000000
namespace Dl
open PySem L2 PySem.Spec PyProof.Rows
/-! len(set(t)), t a tuple of ints -/
def many (ns : List Int) : Nat := (firstMet (fun i => ns.getD i 0) ns.length).length
section
variable {X : Cx} {e : Expr} {f : Env → Option D} {pos p p' pos' : Pos}
theorem call_setR (hc : X.calm = true) : CallR X (.type "set") (fun xs H Q => ∃ (a : Addr) (ns : List Int), xs = [.ref a] ∧ SqT X.K H a (ns.map V.int) ∧ ns.length + 1 < scanBound ∧ ∀ q S, H q = none → Q (.ref q) (upd H q (.set S (many ns)))) := by
  intro pins s σ H xs us Q I r h
  obtain ⟨a, ns, rfl, hq, hb, q⟩ := h
  obtain ⟨u, rfl, rx⟩ := vals1 r
  cases rx
  obtain ⟨its, rv, pl, hz⟩ := I.tuple hq
  have hi : IntsAre its.toArray.toList ns := intsAre_of rv
  have hlen : its.toArray.size = ns.length := by have := rv.length; simpa using this.symm
  refine En.call_setT (I.ok.hd hc) (show s.heap.IsTuple a its.toArray from pl) hi (by rw [hlen]; exact hb) fun h' tk hS hk => ?_
  rw [hlen] at hS
  exact ⟨.ref s.heap.objs.size, _, I.laid (t' := tk) (fun b o e => hk b o (Heap.lt_size e) e) (Nat.le_refl _) (show ObjOk X.prog X.w _ h' _ (.set _ (many ns)) from hS), rfl, q _ _ I.fresh⟩
theorem call_lenR : CallR X (.builtin "len") (fun xs H Q => ∃ (a : Addr) (S : Int → Bool) (n : Nat), xs = [.ref a] ∧ H a = some (.set S n) ∧ Q (.int n) H) := by
  intro pins s σ H xs us Q I r h
  obtain ⟨a, S, n, rfl, hq, q⟩ := h
  obtain ⟨u, rfl, rx⟩ := vals1 r
  cases rx
  obtain ⟨o, es, ep, t, ho, hex, hd, hel, hmem, hlt, hf, hn⟩ := (show s.heap.SetOf (intKind X.prog X.w) a S n from I.hok a _ hq)
  have hfit : ((es.size : Nat) : Int) < 2 ^ 63 := by unfold scanBound at hlt; omega
  refine call_len_set ho hex hd hf hfit ⟨.int n, H, I.tok _, ⟨s.toks + 1, by rw [hn]⟩, q⟩
def gLenSet : D → Option D := fun d => (tupInts d).bind fun ns => if ns.length + 1 < scanBound then some (.int (many ns)) else none
theorem de_lenset (hc : X.calm = true) (B : Blt X "len" (.builtin "len")) (C : Blt X "set" (.type "set")) (h : DE X e f) (he : starEach [e] X.env = (false, eval e X.env) :: starEach [] X.env := by rfl) :
    DE X (.Call (.Name "len" p) [.Call (.Name "set" p') [e] [] pos'] [] pos) (f1 gLenSet f) :=
  pe_imp (pe_callB call_lenR B.gl B.mg B.bt (pa_cons (pe_callTy (call_setR hc) C.gl C.mg C.bt (pa_cons h pa_nil he) (by decide) (by decide) he rfl) pa_nil) (by decide) (by decide) rfl rfl) fun σ H Q ⟨HF, ρ, d, sm, eo, hf, q⟩ => by
    obtain ⟨x, hx, hf⟩ := bs hf
    obtain ⟨ns, h1, hf⟩ := bs hf
    split at hf
    · rename_i hb
      cases hf
      refine ⟨HF, ρ, x, sm, eo, hx, fun v1 H1 HF1 g1 r1 => ?_⟩
      rw [tupInts_some h1] at r1
      simp only [Rep] at r1
      obtain ⟨a, vs, rfl, hs, rr⟩ := r1
      have key : ∀ {ns : List Int} {ws : List V}, Reps X.K HF1 (ns.map PyData.int) ws → ws = ns.map V.int := fun {ns} => by
        induction ns with
        | nil => exact fun h => h.nil_inv
        | cons n ns ih =>
          intro ws h
          obtain ⟨v, r, rfl, a, b⟩ := h.cons_inv
          simp only [Rep] at a
          rw [a, ih b]
          rfl
      have := key rr
      subst this
      refine ⟨a, ns, rfl, same_tup g1.fh hs, hb, fun b S hb' => ⟨b, S, _, rfl, upd_same, q _ _ HF1 (g1.trans (.own g1.fh hb')) (by simp [Rep])⟩⟩
    · cases hf
end
/-- as many as there are: none twice -/
theorem firstMet_nodup (val : Nat → Int) : ∀ i, (firstMet val i).length = i ↔ ((List.range i).map val).Nodup
  | 0 => by simp [firstMet]
  | i + 1 => by
    have hle := firstMet_length_le val i
    rw [firstMet_succ, step_length, List.range_succ, List.map_append, List.nodup_append]
    have ha := firstMet_any val i (val i)
    have ih := firstMet_nodup val i
    constructor
    · intro h
      by_cases hin : (firstMet val i).any (· == val i) = true
      · rw [if_pos hin] at h; omega
      · rw [if_neg hin] at h
        refine ⟨ih.mp (by omega), by simp, fun a hm b hb z => ?_⟩
        have hb' : b = val i := by simpa using hb
        subst z hb'
        rw [ha] at hin
        exact hin (List.any_eq_true.mpr ⟨_, hm, by simp⟩)
    · rintro ⟨h1, _, h3⟩
      rw [if_neg ?_]
      · rw [ih.mpr h1]
      · rw [ha]
        intro hin
        obtain ⟨x, hx, he⟩ := List.any_eq_true.mp hin
        have he' : x = val i := by simpa using he
        exact h3 x hx (val i) (by simp) he'
theorem many_nodup (ns : List Int) : many ns = ns.length ↔ ns.Nodup := by
  unfold many
  rw [firstMet_nodup]
  have : (List.range ns.length).map (fun i => ns.getD i 0) = ns := map_getD_range ns 0
  rw [this]
end Dl
set_option Elab.async false
set_option linter.all false
set_option maxRecDepth 100000
set_option maxHeartbeats 4000000
namespace Dl
open PySem L2 PySem.Spec PyProof.Rows
/-! what the written program uses, in one form each -/
section
variable {X : Cx} {N : List Str} {sc : Scope} {k : Nat} {a b c e e2 : Expr} {es : List Expr} {fa fb fc f : Env → Option D} {fs : Env → Option (List D)} {pos p p' pos' p2 p3 p4 px apos cpos tp : Pos} {x y : Str} {HF₀ H₀ : Hp}
theorem sem_or {K : PySem.W.Frag} {r r' : R2} {g g' : D → D → Option D} (h : Sem2 K r g) (h' : Sem2 K r' g') : Sem2 K (fun x y H Q => r x y H Q ∨ r' x y H Q) (fun x y => (g x y).or (g' x y)) := by
  intro HF H x y v1 v2 d Q sm r1 r2 hg q
  cases e : g x y with
  | some d' =>
    have hg : (g x y).or (g' x y) = some d := hg
    rw [e] at hg
    cases hg
    exact .inl (h HF H x y v1 v2 d Q sm r1 r2 e q)
  | none =>
    have hg : (g x y).or (g' x y) = some d := hg
    rw [e] at hg
    exact .inr (h' HF H x y v1 v2 d Q sm r1 r2 hg q)
theorem sem_catLL {K : PySem.W.Frag} : Sem2 K (rCatLL K) (fun x y => (gCatL x y).map PyData.list) := by
  intro HF H x y v1 v2 d Q sm r1 r2 hg q
  obtain ⟨zs, hg', rfl⟩ := map_some hg
  clear hg
  cases x <;> cases y <;> simp only [gCatL] at hg' <;> try cases hg'
  obtain ⟨rfl, hz⟩ := small_some hg'
  simp only [Rep] at r1 r2
  obtain ⟨a, vs, rfl, ha, ra⟩ := r1
  obtain ⟨b, us, rfl, hb, rb⟩ := r2
  refine ⟨a, b, vs, us, rfl, rfl, sm.seq ha, sm.seq hb, by rw [ra.length, rb.length, ← List.length_append]; exact hz, fun p hp => q _ _ _ (.new sm hp) ?_⟩
  simp only [Rep]
  exact ⟨p, _, rfl, .inl (.inl upd_same), (ra.append rb).mono (same_upd (sm.free hp))⟩
def gAdd : D → D → Option D := fun x y => ((g2I (fun _ _ => True) fun i j => .int (i + j)) x y).or ((gCat x y).or ((gCatL x y).map PyData.list))
theorem Bk.add (C : Bk X N sc k) (ha : DE X a fa) (hb : DE X b fb) : DE X (.BinOp a .Add b pos) (f2 gAdd fa fb) := de_op (op_add.or (op_catAny.or op_catLL)) (sem_or sem_I0 (sem_or sem_cat sem_catLL)) ha hb
def gSub : D → D → Option D := g2I (fun _ _ => True) fun i j => .int (i - j)
theorem Bk.sub (C : Bk X N sc k) (ha : DE X a fa) (hb : DE X b fb) : DE X (.BinOp a .Sub b pos) (f2 gSub fa fb) := de_op op_sub sem_I0 ha hb
def gMul : D → D → Option D := fun x y => ((g2I CMul fun i j => .int (i * j)) x y).or (gRepT x y)
theorem Bk.mul (C : Bk X N sc k) (ha : DE X a fa) (hb : DE X b fb) : DE X (.BinOp a .Mult b pos) (f2 gMul fa fb) := de_op (op_mul.or op_repT) (sem_or sem_I sem_repT) ha hb
def gDiv : D → D → Option D := g2I CDiv fun i j => .int (i / j)
theorem Bk.div (C : Bk X N sc k) (ha : DE X a fa) (hb : DE X b fb) : DE X (.BinOp a .FloorDiv b pos) (f2 gDiv fa fb) := de_op op_fdiv sem_I ha hb
def gMod : D → D → Option D := g2I (fun _ j => 0 < j) fun i j => .int (i % j)
theorem Bk.mod (C : Bk X N sc k) (ha : DE X a fa) (hb : DE X b fb) : DE X (.BinOp a .Mod b pos) (f2 gMod fa fb) := de_op op_mod sem_I ha hb
/-! comparisons -/
def gLt : D → D → Option D := g2I (fun _ _ => True) fun i j => .bool (decide (i < j))
def gLe : D → D → Option D := g2I (fun _ _ => True) fun i j => .bool (decide (i ≤ j))
def gGt : D → D → Option D := g2I (fun _ _ => True) fun i j => .bool (decide (j < i))
def gGe : D → D → Option D := fun x y => ((g2I (fun _ _ => True) fun i j => .bool (decide (j ≤ i))) x y).or ((gGeT x y).map PyData.bool)
def gEqD : D → D → Option D := fun x y => (gEq x y).map PyData.bool
def gNeD : D → D → Option D := fun x y => (gNe x y).map PyData.bool
def gInD : D → D → Option D := fun x y => (gIn x y).map PyData.bool
theorem Bk.u64 (C : Bk X N sc k) : X.A.units + 64 < cLine := C.room.units
theorem Bk.u66 (C : Bk X N sc k) : X.A.units + 66 < cLine := by have := C.room.un; omega
theorem Bk.lt (C : Bk X N sc k) (ha : DE X a fa) (hb : DE X b fb) : DE X (.Compare a [.Lt] [b] pos) (f2 gLt fa fb) := de_cmp op_lt sem_B0 ha hb (nomark _)
theorem Bk.le (C : Bk X N sc k) (ha : DE X a fa) (hb : DE X b fb) : DE X (.Compare a [.LtE] [b] pos) (f2 gLe fa fb) := de_cmp op_le sem_B0 ha hb (nomark _)
theorem Bk.gt (C : Bk X N sc k) (ha : DE X a fa) (hb : DE X b fb) : DE X (.Compare a [.Gt] [b] pos) (f2 gGt fa fb) := de_cmp op_gt sem_B0 ha hb (nomark _)
theorem Bk.ge (C : Bk X N sc k) (ha : DE X a fa) (hb : DE X b fb) : DE X (.Compare a [.GtE] [b] pos) (f2 gGe fa fb) := de_cmp (op_ge.or (op_geT C.room.units0)) (sem_or sem_B0 sem_D2) ha hb (nomark _)
theorem Bk.eq (C : Bk X N sc k) (ha : DE X a fa) (hb : DE X b fb) : DE X (.Compare a [.Eq] [b] pos) (f2 gEqD fa fb) := de_cmp (op_eqD C.u64) sem_D2 ha hb (nomark _)
theorem Bk.ne (C : Bk X N sc k) (ha : DE X a fa) (hb : DE X b fb) : DE X (.Compare a [.NotEq] [b] pos) (f2 gNeD fa fb) := de_cmp (op_neD C.u64) sem_D2 ha hb (nomark _)
theorem Bk.isin (C : Bk X N sc k) (ha : DE X a fa) (hb : DE X b fb) (hm : behindInMarks .In b = false := by rfl) : DE X (.Compare a [.In] [b] pos) (f2 gInD fa fb) := de_cmp (op_inD C.u66) sem_D2 ha hb hm
theorem Bk.tlt (C : Bk X N sc k) (ha : DE X a fa) (hb : DE X b fb) : DT X (.Compare a [.Lt] [b] pos) (fB (f2 gLt fa fb)) := dt_cmp op_lt sem_B0 ha hb (nomark _)
theorem Bk.tgt (C : Bk X N sc k) (ha : DE X a fa) (hb : DE X b fb) : DT X (.Compare a [.Gt] [b] pos) (fB (f2 gGt fa fb)) := dt_cmp op_gt sem_B0 ha hb (nomark _)
theorem Bk.tge (C : Bk X N sc k) (ha : DE X a fa) (hb : DE X b fb) : DT X (.Compare a [.GtE] [b] pos) (fB (f2 gGe fa fb)) := dt_cmp (op_ge.or (op_geT C.room.units0)) (sem_or sem_B0 sem_D2) ha hb (nomark _)
theorem Bk.teq (C : Bk X N sc k) (ha : DE X a fa) (hb : DE X b fb) : DT X (.Compare a [.Eq] [b] pos) (fB (f2 gEqD fa fb)) := dt_cmp (op_eqD C.u64) sem_D2 ha hb (nomark _)
theorem Bk.tne (C : Bk X N sc k) (ha : DE X a fa) (hb : DE X b fb) : DT X (.Compare a [.NotEq] [b] pos) (fB (f2 gNeD fa fb)) := dt_cmp (op_neD C.u64) sem_D2 ha hb (nomark _)
theorem Bk.lele (C : Bk X N sc k) (ha : DE X a fa) (hb : DE X b fb) (hc : DE X c fc) (hm : lastMarks [.LtE, .LtE] [b, c] = false := by with_unfolding_all rfl) : DE X (.Compare a [.LtE, .LtE] [b, c] pos) (fChain gLe gLe fa fb fc) := de_chain op_le sem_B0 op_le sem_B0 ha hb hc hm
theorem Bk.tlele (C : Bk X N sc k) (ha : DE X a fa) (hb : DE X b fb) (hc : DE X c fc) (hm : lastMarks [.LtE, .LtE] [b, c] = false := by with_unfolding_all rfl) : DT X (.Compare a [.LtE, .LtE] [b, c] pos) (fB (fChain gLe gLe fa fb fc)) := dt_chain op_le sem_B0 op_le sem_B0 ha hb hc hm
/-! slices of tuples and lists -/
def gCutA : D → Option Int → Option Int → Option D | .tuple ds, lo, hi => some (.tuple (cut ds lo hi)) | .list ds, lo, hi => some (.list (cut ds lo hi)) | _, _, _ => none
theorem Bk.cut (C : Bk X N sc k) {lo hi : Option Expr} {fl fh : Env → Option (Option Int)} (ha : DE X a fa) (hl : DO X lo fl) (hh : DO X hi fh) : DE X (.Subscript a (.Slice lo hi none p2) pos) (fCut gCutA fa fl fh) := pe_imp (pe_slice (sl_any.or sl_list) ha hl hh) fun σ H Q ⟨HF, ρ, d, sm, eo, hf, q⟩ => by
  obtain ⟨x, hx, hf⟩ := bs hf
  obtain ⟨l, hl, hf⟩ := bs hf
  obtain ⟨u, hu, hf⟩ := bs hf
  refine ⟨HF, ρ, x, sm, eo, hx, fun v1 H1 HF1 g1 r1 => ⟨HF1, ρ, l, g1.fh, eo.mono g1.ff, hl, fun H2 HF2 g2 => ⟨HF2, ρ, u, g2.fh, eo.mono (g1.ff.trans g2.ff), hu, fun H3 HF3 g3 => ?_⟩⟩⟩
  have G := (g1.trans g2).trans g3
  have r3 := r1.mono (g2.ff.trans g3.ff)
  cases x <;> try cases hf
  · simp only [Rep] at r3
    obtain ⟨b, vs, rfl, hs, rr⟩ := r3
    refine .inr ⟨b, vs, rfl, G.fh.seq hs, fun p hp => q _ _ _ (G.trans (.new G.fh hp)) ?_⟩
    simp only [Rep]
    exact ⟨p, _, rfl, .inl (.inl upd_same), (reps_cut rr l u).mono (same_upd (G.fh.free hp))⟩
  · simp only [Rep] at r3
    obtain ⟨b, vs, rfl, hs, rr⟩ := r3
    refine .inl ⟨b, vs, rfl, same_tup G.fh hs, fun e => q _ H3 HF3 G ?_, fun p hp => q _ _ _ (G.trans (.new G.fh hp)) (rep_newtup (G.fh.free hp) (reps_cut rr l u))⟩
    simp only [Rep]
    refine ⟨b, vs, rfl, hs, ?_⟩
    have := reps_cut rr l u
    rw [e] at this
    exact this
/-! a negative constant -/
def gNeg : D → Option D | .int i => some (.int (-i)) | _ => none
theorem Bk.neg (C : Bk X N sc k) (ha : DE X a fa) : DE X (.UnaryOp .USub a pos) (f1 gNeg fa) := pe_imp (pe_un un_neg ha) fun σ H Q ⟨HF, ρ, d, sm, eo, hf, q⟩ => by
  obtain ⟨x, hx, hf⟩ := bs hf
  refine ⟨HF, ρ, x, sm, eo, hx, fun v1 H1 HF1 g1 r1 => ?_⟩
  cases x <;> try cases hf
  exact ⟨_, by simpa only [Rep] using r1, q _ H1 HF1 g1 (by simp [Rep])⟩
theorem bo_len : bootBuiltins "len" = some (.builtin "len") := by decide +kernel
theorem bo_isinstance : bootBuiltins "isinstance" = some (.builtin "isinstance") := by decide +kernel
theorem bo_int : bootBuiltins "int" = some (.type "int") := by decide +kernel
theorem bo_bool : bootBuiltins "bool" = some (.type "bool") := by decide +kernel
theorem bo_tuple : bootBuiltins "tuple" = some (.type "tuple") := by decide +kernel
theorem bo_list : bootBuiltins "list" = some (.type "list") := by decide +kernel
theorem bo_range : bootBuiltins "range" = some (.type "range") := by decide +kernel
theorem bo_all : bootBuiltins "all" = some (.builtin "all") := by decide +kernel
theorem bo_set : bootBuiltins "set" = some (.type "set") := by decide +kernel
theorem bo_sorted : bootBuiltins "sorted" = some (.builtin "sorted") := by decide +kernel
theorem bo_enumerate : bootBuiltins "enumerate" = some (.type "enumerate") := by decide +kernel
theorem bo_zip : bootBuiltins "zip" = some (.type "zip") := by decide +kernel
end
end Dl
set_option Elab.async false
set_option linter.all false
set_option maxRecDepth 100000
set_option maxHeartbeats 4000000
namespace Dl
open PySem L2 PySem.Spec PyProof.Rows
abbrev fLs (f : Env → Option (List D)) : Env → Option D := fun ρ => (f ρ).map PyData.list
abbrev gTuple : List D → Option D := fun ds => (gItems ds).map PyData.tuple
section
variable {X : Cx} {N : List Str} {sc : Scope} {k : Nat}
theorem Bk.locl (C : Bk X N sc k) {x : Str} (h : decide (sc.names.lookup x = some .local) = true) : X.env.scope.names.lookup x = some .local := by
  rcases C.tb x _ (of_decide_eq_true h) with q | ⟨q, _⟩
  · exact q
  · cases q
def isStar : Expr → Bool | .Starred .. => true | _ => false
theorem star_of {e : Expr} {es : List Expr} {env : PySem.Env} (h : isStar e = false) : starEach (e :: es) env = (false, eval e env) :: starEach es env := by
  cases e <;> first | rfl | cases h
theorem da_con {e : Expr} {es : List Expr} {f : Env → Option D} {g : Env → Option (List D)} (he : DE X e f) (hs : DA X es g) (h : isStar e = false := by rfl) : DA X (e :: es) (fCons f g) := da_cons he hs (star_of h)
/-- a def that calls itself, so often -/
def recD (F : (List D → Option D) → (List D → Option D)) : Nat → List D → Option D | 0 => fun _ => none | n + 1 => F (recD F n)
theorem swap_val {elt : Expr} {gens : List Comprehension} {scope : Scope} {pos py : Pos} {x : Str} {line : Nat} {env : PySem.Env} : swapsWith (.ListComp elt gens scope pos) (some (.Name x py)) line env = pure (env.blockKind == .function && env.kindOf x == some .local && py.line == pos.line
      && !(scope.names.any fun (n, k) => n == x && (k == .local || k == .cell))) := rfl
theorem bkind {env : PySem.Env} (h : env.scope.kind = .function) : env.blockKind = .function := by unfold PySem.Env.blockKind; rw [h]; rfl
theorem Bk.swap (C : Bk X N sc k) {elt : Expr} {gens : List Comprehension} {scope : Scope} {pos py : Pos} {x : Str} {line : Nat} (h : decide (sc.names.lookup x = some .local) = true) (h2 : (py.line == pos.line && !(scope.names.any fun (n, k) => n == x && (k == .local || k == .cell))) = true) :
    swapsWith (.ListComp elt gens scope pos) (some (.Name x py)) line X.env = pure true := by
  rw [swap_val, bkind C.kd, show X.env.kindOf x = some .local from C.locl h]
  rw [Bool.and_assoc, h2]
  rfl
end
end Dl
set_option Elab.async false
set_option linter.all false
set_option maxRecDepth 100000
set_option maxHeartbeats 4000000
namespace Dl
open PySem L2 PySem.Spec PyProof.Rows
theorem hY_of {X : Cx} {scope : Scope} {N : List Str} {k : Nat} {tg elt : Expr} {ifs : List Expr} {tgt : Env → D → Option Env} {tt : Env → Option Bool} {te : Env → Option D} (C : ∀ fp s H, Bk (cxComp X scope N fp s H) N scope k)
    (h : ∀ fp s H, Bk (cxComp X scope N fp s H) N scope k → DG (cxComp X scope N fp s H) tg tgt ∧ DTs (cxComp X scope N fp s H) ifs tt ∧ DE (cxComp X scope N fp s H) elt te) :
    ∀ fp s H, DG (cxComp X scope N fp s H) tg tgt ∧ DTs (cxComp X scope N fp s H) ifs tt ∧ DE (cxComp X scope N fp s H) elt te := fun fp s H => h fp s H (C fp s H)
end Dl
namespace Dl
open PySem L2 PySem.Spec PyProof.Rows
theorem da_c {X : Cx} {e : Expr} {es : List Expr} {f : Env → Option D} {g : Env → Option (List D)} (h : isStar e = false) (he : DE X e f) (hs : DA X es g) : DA X (e :: es) (fCons f g) := da_con he hs h
end Dl
set_option Elab.async false
set_option linter.all false
set_option maxRecDepth 100000
set_option maxHeartbeats 4000000
namespace Dl
open PySem L2 PySem.Spec PyProof.Rows
/-! what the top has written -/
section
variable {K : PySem.W.Frag}
structure DefIn (K : PySem.W.Frag) (x : Str) (st : Stmt) (ps : List Str) : Prop where
  ex : ∃ (f : Addr) (fd : FuncData), PySem.W.nsIn K mainGlobals x = some (some (.ref f)) ∧ Fun K x x st f fd ∧ Binds K fd ps []
structure DefM (K : PySem.W.Frag) (mg : Str → Option Value) (x : Str) (st : Stmt) (ps : List Str) : Prop where
  ex : ∃ (f : Addr) (fd : FuncData), mg x = some (.ref f) ∧ Fun K x x st f fd ∧ Binds K fd ps []
theorem DefIn.mg {h : Heap} {mg : Str → Option Value} {x : Str} {st : Stmt} {ps : List Str} (D : DefIn K x st ps) (X : K.In h) (G : h.Ns mainGlobals mg) : DefM K mg x st ps := by
  obtain ⟨f, fd, a, b, c⟩ := D.ex
  exact ⟨f, fd, PySem.W.mg_of X G a, b, c⟩
def bindsB (st : Stmt) (ps : List Str) : Prop := ∀ (x qual : Str) (kV doc pm : Value) (an : Option Addr) (cdv ct : Value) (us : List Value), us.length = ps.length → bindArgs (PySem.W.fnOf x qual (defArgs st) (defBody st) (defScope st) .none kV doc pm an cdv ct) ⟨us, []⟩ = pure (ps.zip us)
theorem defIn {x : Str} {st : Stmt} {ps : List Str} {f : Addr} {oc : Value} {od an : Option Addr} {osl : Array (Option Value)} {kV doc pm cdv ct : Value} (hb : bindsB st ps) (a : PySem.W.nsIn K mainGlobals x = some (some (.ref f))) (l : K.lookup f = some ⟨oc, od, .func (PySem.W.fnOf x x (defArgs st) (defBody st) (defScope st) .none kV doc pm an cdv ct), osl⟩)
    (c : PySem.W.codeIn K cdv x = true) (k : PySem.W.keepIn K (.ref f) = true) : DefIn K x st ps := ⟨f, _, a, fun_mk (st := st) l c k, (fun_mk (st := st) l c k).binds fun kV doc pm an cdv ct us h => hb _ _ kV doc pm an cdv ct us h⟩
theorem intIn {x : Str} {i : Int} {t : Tok} (h : PySem.W.nsIn K mainGlobals x = some (some (.int i t))) : ∃ t, PySem.W.nsIn K mainGlobals x = some (some (.int i t)) := ⟨t, h⟩
/-- a def of which nothing is asked -/
theorem dss_none {X : Cx} {HF₀ H₀ : Hp} {ss : List Stmt} : DSs X HF₀ H₀ ss (fun _ => none) := fun pins s σ H E I ⟨HF, ρ, o, S, hg, q⟩ => by cases hg
/-- the script, by the law's own def -/
theorem spD_script {K : PySem.W.Frag} {H : Hp} {a : Addr} {ns : List Int} {m : List D → Option D} (hS : SqL K H a (ns.map V.int)) (h : m [.list (ns.map PyData.int)] = some (.bool true)) {X : _} : spD K 1 m [.ref a] H (fun v _ => v = .bl true) X := by
  refine ⟨H, [.list (ns.map PyData.int)], .bool true, .refl _, Reps.cons ?_ Reps.nil, rfl, h, fun v H' HF' G r => by simpa only [Rep] using r⟩
  simp only [Rep]
  refine ⟨a, _, rfl, hS, ?_⟩
  clear h hS
  induction ns with
  | nil => exact Reps.nil
  | cons n ns ih => exact Reps.cons (by simp [Rep]) ih
end
end Dl
set_option Elab.async false
set_option linter.all false
set_option maxRecDepth 100000
set_option maxHeartbeats 4000000
namespace Dl
open PySem L2 PySem.Spec PyProof.Rows
/-! evaluating a function on data -/
/-- no dict, sequences no longer than b, no deeper than k -/
def leafD : D → Prop | .none => True | .bool _ => True | .int _ => True | .str x => PyData.canLay0 (.str x) = true | _ => False
def Fit (b : Nat) : Nat → D → Prop
  | 0, d => leafD d
  | k + 1, d => leafD d ∨ (∃ xs, (d = .list xs ∨ d = .tuple xs) ∧ xs.length ≤ b ∧ ∀ x ∈ xs, Fit b k x)
theorem Fit.leaf {b k : Nat} {d : D} (h : leafD d) : Fit b k d := by
  cases k with
  | zero => exact h
  | succ k => exact .inl h
theorem Fit.tup {b k : Nat} {xs : List D} (hb : xs.length ≤ b) (h : ∀ x ∈ xs, Fit b k x) : Fit b (k + 1) (.tuple xs) := .inr ⟨xs, .inr rfl, hb, h⟩
theorem Fit.lst {b k : Nat} {xs : List D} (hb : xs.length ≤ b) (h : ∀ x ∈ xs, Fit b k x) : Fit b (k + 1) (.list xs) := .inr ⟨xs, .inl rfl, hb, h⟩
theorem Fit.of_tup {b k : Nat} {xs : List D} (h : Fit b k (.tuple xs)) : ∃ j, k = j + 1 ∧ xs.length ≤ b ∧ ∀ x ∈ xs, Fit b j x := by
  cases k with
  | zero => cases h
  | succ k =>
    rcases h with h | ⟨ys, h | h, h1, h2⟩
    · cases h
    · cases h
    · cases h; exact ⟨k, rfl, h1, h2⟩
theorem Fit.mono {b b' : Nat} (hb : b ≤ b') : ∀ {k k' : Nat} {d : D}, k ≤ k' → Fit b k d → Fit b' k' d
  | 0, k', d, _, h => .leaf h
  | k + 1, 0, d, hk, h => by omega
  | k + 1, k' + 1, d, hk, h => by
    rcases h with h | ⟨xs, h, h1, h2⟩
    · exact .inl h
    · exact .inr ⟨xs, h, Nat.le_trans h1 hb, fun x hx => (h2 x hx).mono hb (by omega)⟩
theorem fit_all {b k : Nat} : ∀ {xs : List D}, (∀ x ∈ xs, PyData.canLay0 x = true ∧ x.depth ≤ k) → PyData.canLayAll0 xs = true ∧ PyData.depthAll xs ≤ k
  | [], _ => ⟨by simp [PyData.canLayAll0], by simp [PyData.depthAll]⟩
  | x :: xs, h => by
    obtain ⟨a, c⟩ := fit_all (b := b) (xs := xs) fun y hy => h y (List.mem_cons_of_mem _ hy)
    obtain ⟨a', c'⟩ := h x List.mem_cons_self
    exact ⟨by simp [PyData.canLayAll0, a, a'], by simp [PyData.depthAll]; omega⟩
theorem Fit.lay {b : Nat} : ∀ {k : Nat} {d : D}, Fit b k d → PyData.canLay0 d = true ∧ d.depth ≤ k := by
  have lf : ∀ {k : Nat} {d : D}, leafD d → PyData.canLay0 d = true ∧ d.depth ≤ k := fun {k d} h => by
    cases d <;> simp only [leafD] at h <;> first | exact ⟨h, by simp [PyData.depth]⟩ | exact ⟨by simp [PyData.canLay0], by simp [PyData.depth]⟩
  intro k
  induction k with
  | zero => exact fun h => lf h
  | succ k ih =>
    intro d h
    rcases h with h | ⟨xs, h, h1, h2⟩
    · exact lf h
    · obtain ⟨a, c⟩ := fit_all (b := b) (xs := xs) fun y hy => ih (h2 y hy)
      rcases h with rfl | rfl
      · exact ⟨by simp [PyData.canLay0, a], by simp [PyData.depth]; omega⟩
      · exact ⟨by simp [PyData.canLay0, a], by simp [PyData.depth]; omega⟩
theorem Fit.shaped {b k : Nat} {d : D} (h : Fit b k d) (hk : k ≤ 64) : SeqAt.shaped d = true := by
  obtain ⟨a, c⟩ := h.lay
  simp [SeqAt.shaped, a]; omega
theorem Fit.noDict {b k : Nat} {d : D} (h : Fit b k d) : ∀ kv, d ≠ .dict kv := by
  rintro kv rfl
  have := h.lay.1
  simp [PyData.canLay0] at this
/-! isinstance -/
def noDic : D → Bool | .dict _ => false | _ => true
theorem Fit.nd {b k : Nat} {d : D} (h : Fit b k d) : noDic d = true := by
  cases d <;> first | rfl | exact absurd rfl (h.noDict _)
def isI : D → Bool | .int _ => true | .bool _ => true | _ => false
def isB : D → Bool | .bool _ => true | _ => false
def isT : D → Bool | .tuple _ => true | _ => false
theorem kI {d : D} (h : noDic d = true) : kit0 (tyName d) "int" = some (isI d) := by cases d <;> first | cases h; done | exact kit_int _ (by simp [tyName])
theorem kB {d : D} (h : noDic d = true) : kit0 (tyName d) "bool" = some (isB d) := by cases d <;> first | cases h; done | exact kit_bool _ (by simp [tyName])
theorem kT {d : D} (h : noDic d = true) : kit0 (tyName d) "tuple" = some (isT d) := by cases d <;> first | cases h; done | exact kit_tuple _ (by simp [tyName])
/-- a whole number between -/
def whole (a b : Int) : D → Bool | .int i => decide (a ≤ i) && decide (i ≤ b) | _ => false
/-! comprehensions -/
theorem compL_map {tgt : Env → D → Option Env} {te : Env → Option D} {ρ : Env} {h : D → D} : ∀ {ds : List D}, (∀ d ∈ ds, ∃ ρ', tgt ρ d = some ρ' ∧ te ρ' = some (h d)) → compL tgt (fun _ => some true) te ρ ds = some (ds.map h)
  | [], _ => rfl
  | d :: ds, hh => by
    obtain ⟨ρ', h1, h2⟩ := hh d List.mem_cons_self
    have ih := compL_map (ds := ds) fun y hy => hh y (List.mem_cons_of_mem _ hy)
    unfold compL
    rw [h1]
    simp [h2, ih]
theorem compL_filter {tgt : Env → D → Option Env} {tt : Env → Option Bool} {te : Env → Option D} {ρ : Env} {p : D → Bool} {h : D → D} : ∀ {ds : List D}, (∀ d ∈ ds, ∃ ρ', tgt ρ d = some ρ' ∧ tt ρ' = some (p d) ∧ (p d = true → te ρ' = some (h d))) → compL tgt tt te ρ ds = some ((ds.filter p).map h)
  | [], _ => rfl
  | d :: ds, hh => by
    obtain ⟨ρ', h1, h2, h3⟩ := hh d List.mem_cons_self
    have ih := compL_filter (ds := ds) fun y hy => hh y (List.mem_cons_of_mem _ hy)
    unfold compL
    rw [h1]
    simp only [Option.bind_some, h2]
    cases hp : p d with
    | true => rw [if_pos rfl, h3 hp]; simp [ih, List.filter_cons, hp]
    | false => simp [ih, List.filter_cons, hp]
theorem boolsOf_map {p : D → Bool} : ∀ ds : List D, boolsOf (ds.map fun d => .bool (p d)) = some (ds.map p)
  | [] => rfl
  | d :: ds => by simp [boolsOf, boolsOf_map ds]
theorem gAll_map {p : D → Bool} (ds : List D) : gAll [.list (ds.map fun d => .bool (p d))] = some (.bool (ds.all p)) := by
  simp only [gAll, oneOf, Option.bind_some, boolsOf_map, Option.map_some, List.all_map]
  rfl
theorem small_of {ds : List D} (h : ds.length ≤ 4000) : small ds = some ds := if_pos (Nat.le_trans h (by decide))
theorem atI_nat' {ds : List D} {i : Nat} (h : i < ds.length) : atI ds (i : Nat) = some (ds.getD i .none) := by
  have := atI_nat (xs := ds) (j := i) (v := ds[i]) (List.getElem?_eq_some_iff.mpr ⟨h, rfl⟩)
  rw [this]
  simp [List.getD, h]
theorem atI_0 {ds : List D} (h : 0 < ds.length) : atI ds 0 = some (ds.getD 0 .none) := atI_nat' (i := 0) h
theorem atI_1 {ds : List D} (h : 1 < ds.length) : atI ds 1 = some (ds.getD 1 .none) := atI_nat' (i := 1) h
theorem atI_2 {ds : List D} (h : 2 < ds.length) : atI ds 2 = some (ds.getD 2 .none) := atI_nat' (i := 2) h
end Dl
set_option Elab.async false
set_option linter.all false
set_option maxRecDepth 100000
set_option maxHeartbeats 4000000
namespace K1
open PySem L2 Dl PySem.Spec PyProof.Rows
abbrev top (i : Nat) : Stmt := PySem.Challenge.pw_stillflow_k01_worlds.main.body.getD i (.Pass ⟨0, 0, 0, 0⟩)
abbrev N_is_whole : List Str := ["thing", "least", "most"]
abbrev s_is_whole : Stmt := top 3
def g_is_whole : SEnv → Option Out := (gSeq (gIf (fOrT (fNotT (fB (fIs "int" (fVar 0)))) (fB (fIs "bool" (fVar 0)))) (gRet (fC (.bool false))) gNx) (gRet (fChain gLe gLe (fVar 1) (fVar 0) (fVar 2))))
def m_is_whole : List D → Option D := runB g_is_whole 3
abbrev N_is_number : List Str := ["thing", "many"]
abbrev s_is_number : Stmt := top 4
def g_is_number : SEnv → Option Out := (gRet (fCall 3 m_is_whole (fCons (fVar 0) (fCons (fC (.int 0)) (fCons (f2 gSub (fVar 1) (fC (.int 1))) fNil)))))
def m_is_number : List D → Option D := runB g_is_number 2
abbrev N_is_long : List Str := ["thing", "least", "most"]
abbrev s_is_long : Stmt := top 5
def g_is_long : SEnv → Option Out := (gRet (fAnd (fIs "tuple" (fVar 0)) (fChain gLe gLe (fVar 1) (fCB gLen (fCons (fVar 0) fNil)) (fVar 2))))
def m_is_long : List D → Option D := runB g_is_long 3
abbrev N_are_likes : List Str := ["thing", "many"]
abbrev s_are_likes : Stmt := top 6
def g_are_likes : SEnv → Option Out := (gSeq (gIf (fNotT (fB (fIs "tuple" (fVar 0)))) (gRet (fC (.bool false))) gNx) (gSeq (gIf (fNotT (fB (fCB gAll (fCons (fLs (fComp 1 [1] (fSeq (fVar 0)) (fG 0) (fun _ => some true) (fCall 2 m_is_number (fCons (fVar 0) (fCons (fVar 1) fNil))))) fNil)))) (gRet (fC (.bool false))) gNx) (gRet (f2 gEqD (f1 gLenSet (fVar 0)) (fCB gLen (fCons (fVar 0) fNil))))))
def m_are_likes : List D → Option D := runB g_are_likes 2
abbrev N_is_end : List Str := ["thing", "many"]
abbrev s_is_end : Stmt := top 7
def g_is_end : SEnv → Option Out := (gRet (fAnd (fCall 3 m_is_long (fCons (fVar 0) (fCons (fC (.int 2)) (fCons (fC (.int 2)) fNil)))) (fAnd (fCall 3 m_is_whole (fCons (f2 gIx (fVar 0) (fC (.int 0))) (fCons (fC (.int 0)) (fCons (fC (.int 9)) fNil)))) (fCall 2 m_are_likes (fCons (f2 gIx (fVar 0) (fC (.int 1))) (fCons (fVar 1) fNil))))))
def m_is_end : List D → Option D := runB g_is_end 2
abbrev N_is_way : List Str := ["thing", "givers", "takers"]
abbrev s_is_way : Stmt := top 8
def g_is_way : SEnv → Option Out := (gSeq (gIf (fNotT (fB (fCall 3 m_is_long (fCons (fVar 0) (fCons (fC (.int 3)) (fCons (fC (.int 3)) fNil)))))) (gRet (fC (.bool false))) gNx) (gRet (fAnd (fCall 2 m_is_number (fCons (f2 gIx (fVar 0) (fC (.int 0))) (fCons (fVar 1) fNil))) (fAnd (fCall 2 m_is_number (fCons (f2 gIx (fVar 0) (fC (.int 1))) (fCons (fVar 2) fNil))) (fCall 3 m_is_whole (fCons (f2 gIx (fVar 0) (fC (.int 2))) (fCons (fC (.int 1)) (fCons (fC (.int 9)) fNil))))))))
def m_is_way : List D → Option D := runB g_is_way 3
abbrev N_are_parts : List Str := ["givers", "takers", "ways"]
abbrev s_are_parts : Stmt := top 9
def g_are_parts : SEnv → Option Out := (gSeq (gIf (fOrT (fNotT (fB (fCall 3 m_is_long (fCons (fVar 0) (fCons (fC (.int 1)) (fCons (fC (.int 4)) fNil)))))) (fNotT (fB (fCall 3 m_is_long (fCons (fVar 1) (fCons (fC (.int 1)) (fCons (fC (.int 4)) fNil))))))) (gRet (fC (.bool false))) gNx) (gSeq (gIf (fNotT (fB (fCB gAll (fCons (fLs (fComp 1 [1] (fSeq (fVar 0)) (fG 0) (fun _ => some true) (fCall 2 m_is_end (fCons (fVar 0) (fCons (fCB gLen (fCons (fVar 1) fNil)) fNil))))) fNil)))) (gRet (fC (.bool false))) gNx) (gSeq (gIf (fNotT (fB (fCB gAll (fCons (fLs (fComp 1 [0] (fSeq (fVar 1)) (fG 0) (fun _ => some true) (fCall 2 m_is_end (fCons (fVar 0) (fCons (fCB gLen (fCons (fVar 1) fNil)) fNil))))) fNil)))) (gRet (fC (.bool false))) gNx) (gRet (fAnd (fIs "tuple" (fVar 2)) (fCB gAll (fCons (fLs (fComp 1 [0, 1] (fSeq (fVar 2)) (fG 0) (fun _ => some true) (fCall 3 m_is_way (fCons (fVar 0) (fCons (fCB gLen (fCons (fVar 1) fNil)) (fCons (fCB gLen (fCons (fVar 2) fNil)) fNil)))))) fNil)))))))
def m_are_parts : List D → Option D := runB g_are_parts 3
abbrev N_liked_pairs : List Str := ["places", "pairs", "number", "place"]
abbrev s_liked_pairs : Stmt := top 10
def g_liked_pairs : SEnv → Option Out := (gSeq (gSetF 1 [] (fLst fNil)) (gSeq (gFor [0] (fEnum (fCons (fVar 0) fNil)) (fSG2 2 3) (gExt 1 [3, 2] (fComp 1 [2] (fSeq (f2 gIx (fVar 3) (fC (.int 1)))) (fG 0) (fun _ => some true) (fTup (fCons (fVar 1) (fCons (fVar 0) fNil)))))) (gRet (fVar 1))))
def m_liked_pairs : List D → Option D := runB g_liked_pairs 4
abbrev N_is_world : List Str := ["thing", "joined", "by_givers", "by_takers"]
abbrev s_is_world : Stmt := top 11
def g_is_world : SEnv → Option Out := (gSeq (gIf (fOrT (fNotT (fB (fCall 3 m_is_long (fCons (fVar 0) (fCons (fC (.int 3)) (fCons (fC (.int 3)) fNil)))))) (fNotT (fB (fCall 3 m_are_parts (fCons (f2 gIx (fVar 0) (fC (.int 0))) (fCons (f2 gIx (fVar 0) (fC (.int 1))) (fCons (f2 gIx (fVar 0) (fC (.int 2))) fNil))))))) (gRet (fC (.bool false))) gNx) (gSeq (gSetF 1 [0] (fComp 1 [] (fSeq (f2 gIx (fVar 0) (fC (.int 2)))) (fG 0) (fun _ => some true) (fTup (fCons (f2 gIx (fVar 0) (fC (.int 0))) (fCons (f2 gIx (fVar 0) (fC (.int 1))) fNil))))) (gSeq (gSet 2 [0] (fLs (fCBF gSorted (fCons (fCall 1 m_liked_pairs (fCons (f2 gIx (fVar 0) (fC (.int 0))) fNil)) fNil)))) (gSeq (gSet 3 [0] (fLs (fCBF gSorted (fCons (fLs (fComp 2 [] (fSeq (fCall 1 m_liked_pairs (fCons (f2 gIx (fVar 0) (fC (.int 1))) fNil))) (fG2 0 1) (fun _ => some true) (fTup (fCons (fVar 1) (fCons (fVar 0) fNil))))) fNil)))) (gRet (fAnd (f2 gEqD (fVar 1) (fVar 2)) (f2 gEqD (fVar 1) (fVar 3))))))))
def m_is_world : List D → Option D := runB g_is_world 4
abbrev N__law_cell : List Str := ["_law_script", "_law_k"]
abbrev s__law_cell : Stmt := top 13
def g__law_cell : SEnv → Option Out := (gSeq (gIf (fB (f2 gEqD (fVar 0) (fLs (fLst fNil)))) (gRet (f2 gMul (fC (.int 7)) (fVar 1))) gNx) (gRet (f2 gAdd (f2 gIx (fVar 0) (f2 gMod (fVar 1) (fCB gLen (fCons (fVar 0) fNil)))) (f2 gMul (fC (.int 6553)) (f2 gDiv (fVar 1) (fCB gLen (fCons (fVar 0) fNil)))))))
def m__law_cell : List D → Option D := runB g__law_cell 2
abbrev N__law_drawn : List Str := ["_law_script", "_law_k", "_law_many", "_law_cell_here"]
abbrev s__law_drawn : Stmt := top 14
def g__law_drawn : SEnv → Option Out := (gSeq (gSet 3 [0, 1] (f2 gMod (f2 gAdd (f2 gMul (f2 gMod (fCall 2 m__law_cell (fCons (fVar 0) (fCons (fVar 1) fNil))) (fC (.int 2147483563))) (fC (.int 69069))) (f2 gMul (fC (.int 104723)) (f2 gAdd (fVar 1) (fC (.int 1))))) (fC (.int 2147483563)))) (gSeq (gSet 3 [3] (f2 gMod (f2 gAdd (f2 gMul (fVar 3) (fVar 3)) (f2 gDiv (fVar 3) (fC (.int 3)))) (fC (.int 2147483399)))) (gRet (f2 gMod (f2 gDiv (f2 gMod (f2 gAdd (f2 gMul (fVar 3) (fVar 3)) (f2 gDiv (fVar 3) (fC (.int 7)))) (fC (.int 2147483647))) (fC (.int 11))) (fVar 2)))))
def m__law_drawn : List D → Option D := runB g__law_drawn 4
abbrev N__law_orders : List Str := ["_law_script", "_law_at", "_law_rows", "_law_found", "_law_k", "_law_row", "_law_order", "_law_j", "_law_one"]
abbrev s__law_orders : Stmt := top 15
def g__law_orders : SEnv → Option Out := (gSeq (gSetF 3 [] (fLst fNil)) (gSeq (gFor [2] (fEnum (fCons (fVar 2) fNil)) (fSG2 4 5) (gSeq (gSetF 6 [] (fLst fNil)) (gSeq (gFor [5] (fEnum (fCons (fVar 5) fNil)) (fSG2 7 8) (gIns 6 [8] (fCall 3 m__law_drawn (fCons (fVar 0) (fCons (f2 gAdd (f2 gAdd (fVar 1) (f2 gMul (fC (.int 4)) (fVar 4))) (fVar 7)) (fCons (f2 gAdd (fCB gLen (fCons (fVar 6) fNil)) (fC (.int 1))) fNil)))) (fVar 8))) (gApp 3 [6] (fCB gTuple (fCons (fVar 6) fNil)))))) (gRet (fVar 3))))
def m__law_orders : List D → Option D := runB g__law_orders 9
abbrev N__law_world : List Str := ["_law_script", "_law_at", "_law_most", "_law_each_here", "_law_takers", "_law_many", "_law_size", "_law_ways", "_law_k", "_law_mine", "_law_yours", "_law_givers"]
abbrev s__law_world : Stmt := top 16
def g__law_world : SEnv → Option Out := (gSeq (gIf (fAndT (fB (f2 gGt (fVar 2) (fC (.int 3)))) (fB (f2 gEqD (fCall 3 m__law_drawn (fCons (fVar 0) (fCons (f2 gAdd (fVar 1) (fC (.int 64))) (fCons (fC (.int 4)) fNil)))) (fC (.int 0))))) (gSeq (gSet 3 [0, 1] (f2 gAdd (fC (.int 1)) (fCall 3 m__law_drawn (fCons (fVar 0) (fCons (f2 gAdd (fVar 1) (fC (.int 65))) (fCons (fC (.int 2)) fNil)))))) (gSeq (gSet 4 [3] (fTup (fCons (fTup (fCons (fVar 3) (fCons (fTup (fCons (fC (.int 1)) (fCons (fC (.int 0)) fNil))) fNil))) (fCons (fTup (fCons (fVar 3) (fCons (fTup (fCons (fC (.int 0)) (fCons (fC (.int 1)) fNil))) fNil))) fNil)))) (gRet (fTup (fCons (fTup (fCons (fTup (fCons (fVar 3) (fCons (fTup (fCons (fC (.int 0)) (fCons (fC (.int 1)) fNil))) fNil))) (fCons (fTup (fCons (fVar 3) (fCons (fTup (fCons (fC (.int 1)) (fCons (fC (.int 0)) fNil))) fNil))) fNil))) (fCons (fVar 4) (fCons (fTup (fCons (fTup (fCons (fC (.int 0)) (fCons (fC (.int 0)) (fCons (fC (.int 2)) fNil)))) (fCons (fTup (fCons (fC (.int 0)) (fCons (fC (.int 1)) (fCons (fC (.int 2)) fNil)))) (fCons (fTup (fCons (fC (.int 1)) (fCons (fC (.int 0)) (fCons (fC (.int 2)) fNil)))) (fCons (fTup (fCons (fC (.int 1)) (fCons (fC (.int 1)) (fCons (fC (.int 2)) fNil)))) fNil))))) fNil))))))) gNx) (gSeq (gSet 5 [0, 1] (f2 gAdd (fC (.int 1)) (fCall 3 m__law_drawn (fCons (fVar 0) (fCons (fVar 1) (fCons (fC (.int 3)) fNil)))))) (gSeq (gSet 6 [0, 1] (f2 gAdd (fC (.int 1)) (fCall 3 m__law_drawn (fCons (fVar 0) (fCons (f2 gAdd (fVar 1) (fC (.int 1))) (fCons (fC (.int 3)) fNil)))))) (gSeq (gSetF 7 [] (fLst fNil)) (gSeq (gFor [5, 6] (fRange (fCons (f2 gMul (fVar 5) (fVar 6)) fNil)) (fSG 8) (gIf (fAndT (fB (f2 gLt (fCB gLen (fCons (fVar 7) fNil)) (fVar 2))) (fB (f2 gGt (fCall 3 m__law_drawn (fCons (fVar 0) (fCons (f2 gAdd (f2 gAdd (fVar 1) (fC (.int 2))) (fVar 8)) (fCons (fC (.int 4)) fNil)))) (fC (.int 0))))) (gApp 7 [8, 6, 0, 1] (fTup (fCons (f2 gDiv (fVar 8) (fVar 6)) (fCons (f2 gMod (fVar 8) (fVar 6)) (fCons (f2 gAdd (fC (.int 1)) (fCall 3 m__law_drawn (fCons (fVar 0) (fCons (f2 gAdd (f2 gAdd (fVar 1) (fC (.int 12))) (fVar 8)) (fCons (fC (.int 2)) fNil))))) fNil))))) gNx)) (gSeq (gSet 9 [0, 1, 5, 7] (fCall 3 m__law_orders (fCons (fVar 0) (fCons (f2 gAdd (fVar 1) (fC (.int 24))) (fCons (fLs (fComp 1 [7] (fRange (fCons (fVar 5) fNil)) (fG 0) (fun _ => some true) (fLs (fComp 1 [0] (fSeq (fVar 1)) (fG 0) (fB (f2 gEqD (f2 gIx (fVar 0) (fC (.int 0))) (fVar 1))) (f2 gIx (fVar 0) (fC (.int 1))))))) fNil))))) (gSeq (gSet 10 [0, 1, 6, 7] (fCall 3 m__law_orders (fCons (fVar 0) (fCons (f2 gAdd (fVar 1) (fC (.int 40))) (fCons (fLs (fComp 1 [7] (fRange (fCons (fVar 6) fNil)) (fG 0) (fun _ => some true) (fLs (fComp 1 [0] (fSeq (fVar 1)) (fG 0) (fB (f2 gEqD (f2 gIx (fVar 0) (fC (.int 1))) (fVar 1))) (f2 gIx (fVar 0) (fC (.int 0))))))) fNil))))) (gSeq (gSet 11 [9, 0, 1] (fCB gTuple (fCons (fLs (fComp 2 [0, 1] (fEnum (fCons (fVar 9) fNil)) (fG2 0 1) (fun _ => some true) (fTup (fCons (fCall 3 m__law_drawn (fCons (fVar 2) (fCons (f2 gAdd (f2 gAdd (fVar 3) (fC (.int 56))) (fVar 0)) (fCons (fC (.int 4)) fNil)))) (fCons (fVar 1) fNil))))) fNil))) (gSeq (gSet 4 [10, 0, 1] (fCB gTuple (fCons (fLs (fComp 2 [0, 1] (fEnum (fCons (fVar 10) fNil)) (fG2 0 1) (fun _ => some true) (fTup (fCons (fCall 3 m__law_drawn (fCons (fVar 2) (fCons (f2 gAdd (f2 gAdd (fVar 3) (fC (.int 60))) (fVar 0)) (fCons (fC (.int 4)) fNil)))) (fCons (fVar 1) fNil))))) fNil))) (gRet (fTup (fCons (fVar 11) (fCons (fVar 4) (fCons (fCB gTuple (fCons (fVar 7) fNil)) fNil))))))))))))))
def m__law_world : List D → Option D := runB g__law_world 12
abbrev N__law_number : List Str := ["_law_thing", "_law_low", "_law_high"]
abbrev s__law_number : Stmt := top 17
def g__law_number : SEnv → Option Out := (gRet (fAnd (fIs "int" (fVar 0)) (fAnd (fNot (fIs "bool" (fVar 0))) (fChain gLe gLe (fVar 1) (fVar 0) (fVar 2)))))
def m__law_number : List D → Option D := runB g__law_number 3
abbrev N__law_is_place : List Str := ["_law_thing", "_law_many"]
abbrev s__law_is_place : Stmt := top 18
def g__law_is_place : SEnv → Option Out := (gSeq (gIf (fOrT (fNotT (fB (fIs "tuple" (fVar 0)))) (fOrT (fB (f2 gNeD (fCB gLen (fCons (fVar 0) fNil)) (fC (.int 2)))) (fNotT (fB (fCall 3 m__law_number (fCons (f2 gIx (fVar 0) (fC (.int 0))) (fCons (fC (.int 0)) (fCons (fC (.int 9)) fNil)))))))) (gRet (fC (.bool false))) gNx) (gSeq (gIf (fOrT (fNotT (fB (fIs "tuple" (f2 gIx (fVar 0) (fC (.int 1)))))) (fB (f2 gNeD (fLs (fComp 1 [1] (fSeq (f2 gIx (fVar 0) (fC (.int 1)))) (fG 0) (fNotT (fB (fCall 3 m__law_number (fCons (fVar 0) (fCons (fC (.int 0)) (fCons (f2 gSub (fVar 1) (fC (.int 1))) fNil)))))) (fVar 0))) (fLs (fLst fNil))))) (gRet (fC (.bool false))) gNx) (gRet (f2 gEqD (f1 gLenSet (f2 gIx (fVar 0) (fC (.int 1)))) (fCB gLen (fCons (f2 gIx (fVar 0) (fC (.int 1))) fNil))))))
def m__law_is_place : List D → Option D := runB g__law_is_place 2
abbrev N__law_are_ways : List Str := ["_law_thing", "_law_many", "_law_size", "_law_way", "_law_pairs"]
abbrev s__law_are_ways : Stmt := top 19
def g__law_are_ways : SEnv → Option Out := (gSeq (gIf (fNotT (fB (fIs "tuple" (fVar 0)))) (gRet (fC (.bool false))) gNx) (gSeq (gFor [0] (fSeq (fVar 0)) (fSG 3) (gSeq (gIf (fOrT (fNotT (fB (fIs "tuple" (fVar 3)))) (fOrT (fB (f2 gNeD (fCB gLen (fCons (fVar 3) fNil)) (fC (.int 3)))) (fNotT (fB (fCall 3 m__law_number (fCons (f2 gIx (fVar 3) (fC (.int 2))) (fCons (fC (.int 1)) (fCons (fC (.int 9)) fNil)))))))) (gRet (fC (.bool false))) gNx) (gIf (fOrT (fNotT (fB (fCall 3 m__law_number (fCons (f2 gIx (fVar 3) (fC (.int 0))) (fCons (fC (.int 0)) (fCons (f2 gSub (fVar 1) (fC (.int 1))) fNil)))))) (fNotT (fB (fCall 3 m__law_number (fCons (f2 gIx (fVar 3) (fC (.int 1))) (fCons (fC (.int 0)) (fCons (f2 gSub (fVar 2) (fC (.int 1))) fNil))))))) (gRet (fC (.bool false))) gNx))) (gSeq (gSetF 4 [0] (fComp 1 [] (fSeq (fVar 0)) (fG 0) (fun _ => some true) (fCut gCutA (fVar 0) fNoB (fBd (fC (.int 2)))))) (gRet (f2 gEqD (fLs (fComp 2 [] (fZip (fCons (fVar 4) (fCons (fCut gCutA (fVar 4) (fBd (fC (.int 1))) fNoB) fNil))) (fG2 0 1) (fB (f2 gGe (fVar 0) (fVar 1))) (fVar 0))) (fLs (fLst fNil)))))))
def m__law_are_ways : List D → Option D := runB g__law_are_ways 5
abbrev N__law_is_world : List Str := ["_law_thing", "_law_side", "_law_pairs", "_law_giver", "_law_place", "_law_taker", "_law_other"]
abbrev s__law_is_world : Stmt := top 20
def g__law_is_world : SEnv → Option Out := (gSeq (gIf (fOrT (fNotT (fB (fIs "tuple" (fVar 0)))) (fB (f2 gNeD (fCB gLen (fCons (fVar 0) fNil)) (fC (.int 3))))) (gRet (fC (.bool false))) gNx) (gSeq (gFor [] (fRange (fCons (fC (.int 2)) fNil)) (fSG 1) (gIf (fOrT (fNotT (fB (fIs "tuple" (f2 gIx (fVar 0) (fVar 1))))) (fNotT (fB (fChain gLe gLe (fC (.int 1)) (fCB gLen (fCons (f2 gIx (fVar 0) (fVar 1)) fNil)) (fC (.int 4)))))) (gRet (fC (.bool false))) gNx)) (gSeq (gFor [] (fRange (fCons (fC (.int 2)) fNil)) (fSG 1) (gIf (fB (f2 gNeD (fLs (fComp 1 [0, 1] (fSeq (f2 gIx (fVar 0) (fVar 1))) (fG 0) (fNotT (fB (fCall 2 m__law_is_place (fCons (fVar 0) (fCons (fCB gLen (fCons (f2 gIx (fVar 1) (f2 gSub (fC (.int 1)) (fVar 2))) fNil)) fNil))))) (fVar 0))) (fLs (fLst fNil)))) (gRet (fC (.bool false))) gNx)) (gSeq (gIf (fNotT (fB (fCall 3 m__law_are_ways (fCons (f2 gIx (fVar 0) (fC (.int 2))) (fCons (fCB gLen (fCons (f2 gIx (fVar 0) (fC (.int 0))) fNil)) (fCons (fCB gLen (fCons (f2 gIx (fVar 0) (fC (.int 1))) fNil)) fNil)))))) (gRet (fC (.bool false))) gNx) (gSeq (gSetF 2 [0] (fComp 1 [] (fSeq (f2 gIx (fVar 0) (fC (.int 2)))) (fG 0) (fun _ => some true) (fCut gCutA (fVar 0) fNoB (fBd (fC (.int 2)))))) (gSeq (gFor [0] (fEnum (fCons (f2 gIx (fVar 0) (fC (.int 0))) fNil)) (fSG2 3 4) (gFor [0] (fEnum (fCons (f2 gIx (fVar 0) (fC (.int 1))) fNil)) (fSG2 5 6) (gIf (fB (f2 gNeD (fTup (fCons (f2 gInD (fTup (fCons (fVar 3) (fCons (fVar 5) fNil))) (fVar 2)) (fCons (f2 gInD (fTup (fCons (fVar 3) (fCons (fVar 5) fNil))) (fVar 2)) fNil))) (fTup (fCons (f2 gInD (fVar 5) (f2 gIx (fVar 4) (fC (.int 1)))) (fCons (f2 gInD (fVar 3) (f2 gIx (fVar 6) (fC (.int 1)))) fNil))))) (gRet (fC (.bool false))) gNx))) (gRet (fC (.bool true)))))))))
def m__law_is_world : List D → Option D := runB g__law_is_world 7
abbrev N__law_spoilt : List Str := ["_law_script", "_law_at", "_law_thing", "_law_deep", "_law_place", "_law_part", "_law_some"]
abbrev s__law_spoilt : Stmt := top 21
def g__law_spoilt (m__law_spoilt : List D → Option D) : SEnv → Option Out := (gSeq (gIf (fAndT (fB (f2 gGt (fVar 3) (fC (.int 0)))) (fAndT (fB (fIs "tuple" (fVar 2))) (fAndT (fB (f2 gNeD (fVar 2) (fTup fNil))) (fB (f2 gGt (fCall 3 m__law_drawn (fCons (fVar 0) (fCons (fVar 1) (fCons (fC (.int 5)) fNil)))) (fC (.int 0))))))) (gSeq (gSet 4 [0, 1, 2] (fCall 3 m__law_drawn (fCons (fVar 0) (fCons (f2 gAdd (fVar 1) (fC (.int 1))) (fCons (fCB gLen (fCons (fVar 2) fNil)) fNil))))) (gSeq (gSet 5 [0, 1, 2, 4, 3] (fCall 4 m__law_spoilt (fCons (fVar 0) (fCons (f2 gAdd (fVar 1) (fC (.int 3))) (fCons (f2 gIx (fVar 2) (fVar 4)) (fCons (f2 gSub (fVar 3) (fC (.int 1))) fNil)))))) (gRet (f2 gAdd (f2 gAdd (fCut gCutA (fVar 2) fNoB (fBd (fVar 4))) (fTup (fCons (fVar 5) fNil))) (fCut gCutA (fVar 2) (fBd (f2 gAdd (fVar 4) (fC (.int 1)))) fNoB))))) gNx) (gSeq (gSetF 6 [] (fLst (fCons (fC .none) (fCons (fC (.bool true)) (fCons (fC (.bool false)) (fCons (f1 gNeg (fC (.int 1))) (fCons (fC (.int 0)) (fCons (fC (.int 1)) (fCons (fC (.int 2)) (fCons (fC (.int 3)) (fCons (fC (.int 4)) (fCons (fC (.int 9)) (fCons (fC (.int 10)) (fCons (fC (.str "1")) (fCons (fTup fNil) (fCons (fLs (fLst fNil)) (fCons (fTup (fCons (fC (.int 0)) fNil)) (fCons (fTup (fCons (fC (.int 1)) (fCons (fC (.int 0)) fNil))) (fCons (fTup (fCons (fC (.int 0)) (fCons (fC (.int 0)) (fCons (fC (.int 1)) fNil)))) (fCons (fTup (fCons (fC (.int 9)) (fCons (fTup fNil) fNil))) (fCons (fTup (fCons (fTup (fCons (fC (.int 0)) (fCons (fC (.int 0)) (fCons (fC (.int 1)) fNil)))) fNil)) fNil))))))))))))))))))))) (gSeq (gIf (fB (fIs "tuple" (fVar 2))) (gSet 6 [6, 2] (f2 gAdd (fVar 6) (fLs (fLst (fCons (fLs (fCBF gItems (fCons (fVar 2) fNil))) (fCons (f1 gRev (fVar 2)) (fCons (f2 gAdd (fVar 2) (fVar 2)) (fCons (fCut gCutA (fVar 2) (fBd (fC (.int 1))) fNoB) (fCons (f2 gAdd (fVar 2) (fCut gCutA (fVar 2) fNoB (fBd (fC (.int 1))))) (fCons (f2 gAdd (fVar 2) (fTup (fCons (fTup (fCons (fC (.int 2)) (fCons (fC (.int 2)) (fCons (fC (.int 1)) fNil)))) fNil))) fNil)))))))))) gNx) (gRet (f2 gIx (fVar 6) (fCall 3 m__law_drawn (fCons (fVar 0) (fCons (f2 gAdd (fVar 1) (fC (.int 2))) (fCons (fCB gLen (fCons (fVar 6) fNil)) fNil)))))))))
def m__law_spoilt : List D → Option D := recD (fun m => runB (g__law_spoilt m) 7) 6
abbrev N__law_each : List Str := ["_law_thing", "_law_found", "_law_place"]
abbrev s__law_each : Stmt := top 22
def g__law_each (m__law_each : List D → Option D) : SEnv → Option Out := (gSeq (gIf (fB (fIs "int" (fVar 0))) (gRet (fLs (fLst (fCons (fC .none) (fCons (fC (.bool true)) (fCons (f2 gSub (fVar 0) (fC (.int 1))) (fCons (f2 gAdd (fVar 0) (fC (.int 1))) (fCons (fC (.int 1000)) fNil)))))))) gNx) (gSeq (gIf (fNotT (fB (fIs "tuple" (fVar 0)))) (gRet (fLs (fLst (fCons (fC .none) (fCons (fC (.str "")) (fCons (fC (.str "A")) fNil)))))) gNx) (gSeq (gSetF 1 [0] (fLst (fCons (fC .none) (fCons (fLs (fCBF gItems (fCons (fVar 0) fNil))) (fCons (f2 gAdd (fVar 0) (fCut gCutA (fVar 0) (fBd (f1 gNeg (fC (.int 1)))) fNoB)) (fCons (fCut gCutA (fVar 0) (fBd (fC (.int 1))) fNoB) fNil)))))) (gSeq (gFor [0] (fRange (fCons (fCB gLen (fCons (fVar 0) fNil)) fNil)) (fSG 2) (gSet 1 [1, 0, 2] (f2 gAdd (fVar 1) (fLs (fComp 1 [0, 2] (fSeq (fCall 1 m__law_each (fCons (f2 gIx (fVar 0) (fVar 2)) fNil))) (fG 0) (fun _ => some true) (f2 gAdd (f2 gAdd (fCut gCutA (fVar 1) fNoB (fBd (fVar 2))) (fTup (fCons (fVar 0) fNil))) (fCut gCutA (fVar 1) (fBd (f2 gAdd (fVar 2) (fC (.int 1)))) fNoB))))))) (gRet (fVar 1))))))
def m__law_each : List D → Option D := recD (fun m => runB (g__law_each m) 3) 6
abbrev N_law : List Str := ["_law_script", "_law_world_here", "_law_givers", "_law_k", "_law_spoilt_here", "_law_told", "_law_base", "_law_some"]
abbrev s_law : Stmt := top 23
def g_law : SEnv → Option Out := (gSeq (gSet 1 [0] (fCall 3 m__law_world (fCons (fVar 0) (fCons (fC (.int 0)) (fCons (fC (.int 9)) fNil))))) (gSeq (gIf (fB (f2 gEqD (fCall 3 m__law_drawn (fCons (fVar 0) (fCons (fC (.int 70)) (fCons (fC (.int 4)) fNil)))) (fC (.int 0)))) (gSeq (gSet 2 [1] (f2 gAdd (f2 gIx (fVar 1) (fC (.int 0))) (f2 gMul (fTup (fCons (fTup (fCons (fC (.int 9)) (fCons (fTup fNil) fNil))) fNil)) (f2 gSub (fC (.int 4)) (fCB gLen (fCons (f2 gIx (fVar 1) (fC (.int 0))) fNil)))))) (gSet 1 [2, 1] (fTup (fCons (fVar 2) (fCons (f2 gIx (fVar 1) (fC (.int 1))) (fCons (fCB gTuple (fCons (fLs (fComp 1 [] (fSeq (f2 gIx (fVar 1) (fC (.int 2)))) (fG 0) (fun _ => some true) (f2 gAdd (fCut gCutA (fVar 0) fNoB (fBd (fC (.int 2)))) (fTup (fCons (fC (.int 9)) fNil))))) fNil)) fNil)))))) gNx) (gSeq (gIf (fOrT (fNotT (fB (fCall 1 m_is_world (fCons (fVar 1) fNil)))) (fNotT (fB (fCall 1 m__law_is_world (fCons (fVar 1) fNil))))) (gRet (fC (.bool false))) gNx) (gSeq (gFor [] (fRange (fCons (fC (.int 5)) fNil)) (fSG 3) (gSeq (gSet 4 [0, 3, 1] (fCall 4 m__law_spoilt (fCons (fVar 0) (fCons (f2 gAdd (fC (.int 80)) (f2 gMul (fC (.int 20)) (fVar 3))) (fCons (fVar 1) (fCons (f2 gAdd (fC (.int 1)) (f2 gMod (fVar 3) (fC (.int 4)))) fNil)))))) (gSeq (gSet 5 [4] (fCall 1 m_is_world (fCons (fVar 4) fNil))) (gIf (fOrT (fNotT (fB (fIs "bool" (fVar 5)))) (fB (f2 gNeD (fVar 5) (fCall 1 m__law_is_world (fCons (fVar 4) fNil))))) (gRet (fC (.bool false))) gNx)))) (gSeq (gSet 6 [] (fTup (fCons (fTup (fCons (fTup (fCons (fC (.int 2)) (fCons (fTup (fCons (fC (.int 1)) fNil)) fNil))) fNil)) (fCons (fTup (fCons (fTup (fCons (fC (.int 1)) (fCons (fTup fNil) fNil))) (fCons (fTup (fCons (fC (.int 3)) (fCons (fTup (fCons (fC (.int 0)) fNil)) fNil))) fNil))) (fCons (fTup (fCons (fTup (fCons (fC (.int 0)) (fCons (fC (.int 1)) (fCons (fC (.int 2)) fNil)))) fNil)) fNil))))) (gSeq (gSet 7 [6] (f2 gAdd (f2 gAdd (fLs (fLst (fCons (fVar 6) fNil))) (fCall 1 m__law_each (fCons (fVar 6) fNil))) (fLs (fLst (fCons (f2 gAdd (fCut gCutA (fVar 6) fNoB (fBd (fC (.int 2)))) (fTup (fCons (fTup (fCons (fTup (fCons (fC (.int 0)) (fCons (fC (.int 1)) (fCons (fC (.int 0)) fNil)))) fNil)) fNil))) (fCons (fTup (fCons (f2 gIx (fVar 6) (fC (.int 0))) (fCons (fTup (fCons (fTup (fCons (fC (.int 1)) (fCons (fTup (fCons (fC (.int 0)) fNil)) fNil))) (fCons (fTup (fCons (fC (.int 3)) (fCons (fTup fNil) fNil))) fNil))) (fCons (f2 gIx (fVar 6) (fC (.int 2))) fNil)))) fNil)))))) (gSeq (gIf (fB (f2 gNeD (fLs (fComp 1 [] (fSeq (fVar 7)) (fG 0) (fB (f2 gNeD (fCall 1 m_is_world (fCons (fVar 0) fNil)) (fCall 1 m__law_is_world (fCons (fVar 0) fNil)))) (fVar 0))) (fLs (fLst fNil)))) (gRet (fC (.bool false))) gNx) (gRet (fAnd (fCall 1 m_is_world (fCons (fTup (fCons (fTup (fCons (fTup (fCons (fC (.int 0)) (fCons (fTup fNil) fNil))) fNil)) (fCons (fTup (fCons (fTup (fCons (fC (.int 9)) (fCons (fTup fNil) fNil))) fNil)) (fCons (fTup fNil) fNil)))) fNil)) (fNot (fCall 1 m_is_world (fCons (fTup (fCons (f2 gMul (fTup (fCons (fTup (fCons (fC (.int 0)) (fCons (fTup fNil) fNil))) fNil)) (fC (.int 5))) (fCons (fTup (fCons (fTup (fCons (fC (.int 9)) (fCons (fTup fNil) fNil))) fNil)) (fCons (fTup fNil) fNil)))) fNil))))))))))))
def m_law : List D → Option D := runB g_law 8
end K1
set_option Elab.async false
set_option linter.all false
set_option maxRecDepth 100000
set_option maxHeartbeats 4000000
namespace K1
open PySem L2 Dl PySem.Spec PyProof.Rows
theorem b_is_whole {X : Cx} {HF₀ H₀ : Hp} (C : Bk X N_is_whole (defScope s_is_whole) 0) (B : Bn X) :
    DSs X HF₀ H₀ (defBody s_is_whole) (g_is_whole) :=
  (dss_cons (ds_if (DW.dt (dw_or (dt_not (dt_val (de_is (T := "int") (C.blt B (by decide +kernel) (by decide +kernel) bo_isinstance) (C.blt B (by decide +kernel) (by decide +kernel) bo_int) (C.v 0 (by decide +kernel))))) (dw_or1 (dt_val (de_is (T := "bool") (C.blt B (by decide +kernel) (by decide +kernel) bo_isinstance) (C.blt B (by decide +kernel) (by decide +kernel) bo_bool) (C.v 0 (by decide +kernel))))))) (dss_one (ds_ret de_bl)) dss_nil) (dss_one (ds_ret (C.lele (C.v 1 (by decide +kernel)) (C.v 0 (by decide +kernel)) (C.v 2 (by decide +kernel))))))
theorem fs_is_whole : FnScope N_is_whole ["thing", "least", "most"] (defScope s_is_whole) := ⟨rfl, rfl, rfl, by decide +kernel, rfl, by decide +kernel, by decide +kernel⟩
end K1
set_option Elab.async false
set_option linter.all false
set_option maxRecDepth 100000
set_option maxHeartbeats 4000000
namespace K1
open PySem L2 Dl PySem.Spec PyProof.Rows
theorem b_is_number {X : Cx} {HF₀ H₀ : Hp} (C : Bk X N_is_number (defScope s_is_number) 1) (B : Bn X) (F_is_whole : FnD X.prog X.w X.K X.mg X.base 1 "is_whole" 3 m_is_whole) :
    DSs X HF₀ H₀ (defBody s_is_number) (g_is_number) :=
  (dss_one (ds_ret (de_call F_is_whole (C.room.mono (by decide)) (C.gl (by decide +kernel)) (da_con (C.v 0 (by decide +kernel)) (da_con de_int (da_con (C.sub (C.v 1 (by decide +kernel)) de_int) da_nil))) (by decide))))
theorem fs_is_number : FnScope N_is_number ["thing", "many"] (defScope s_is_number) := ⟨rfl, rfl, rfl, by decide +kernel, rfl, by decide +kernel, by decide +kernel⟩
end K1
set_option Elab.async false
set_option linter.all false
set_option maxRecDepth 100000
set_option maxHeartbeats 4000000
namespace K1
open PySem L2 Dl PySem.Spec PyProof.Rows
theorem b_is_long {X : Cx} {HF₀ H₀ : Hp} (C : Bk X N_is_long (defScope s_is_long) 0) (B : Bn X) :
    DSs X HF₀ H₀ (defBody s_is_long) (g_is_long) :=
  (dss_one (ds_ret (de_and (de_is (T := "tuple") (C.blt B (by decide +kernel) (by decide +kernel) bo_isinstance) (C.blt B (by decide +kernel) (by decide +kernel) bo_tuple) (C.v 0 (by decide +kernel))) (de_one (C.lele (C.v 1 (by decide +kernel)) (de_len (C.blt B (by decide +kernel) (by decide +kernel) bo_len) (da_con (C.v 0 (by decide +kernel)) da_nil)) (C.v 2 (by decide +kernel)))))))
theorem fs_is_long : FnScope N_is_long ["thing", "least", "most"] (defScope s_is_long) := ⟨rfl, rfl, rfl, by decide +kernel, rfl, by decide +kernel, by decide +kernel⟩
end K1
set_option Elab.async false
set_option linter.all false
set_option maxRecDepth 100000
set_option maxHeartbeats 4000000
namespace K1
open PySem L2 Dl PySem.Spec PyProof.Rows
theorem b_are_likes {X : Cx} {HF₀ H₀ : Hp} (C : Bk X N_are_likes (defScope s_are_likes) 2) (B : Bn X) (F_is_number : FnD X.prog X.w X.K X.mg X.base 2 "is_number" 2 m_is_number) :
    DSs X HF₀ H₀ (defBody s_are_likes) (g_are_likes) :=
  (dss_cons (ds_if (dt_not (dt_val (de_is (T := "tuple") (C.blt B (by decide +kernel) (by decide +kernel) bo_isinstance) (C.blt B (by decide +kernel) (by decide +kernel) bo_tuple) (C.v 0 (by decide +kernel))))) (dss_one (ds_ret de_bl)) dss_nil) (dss_cons (ds_if (dt_not (dt_val (de_all C.calm (C.blt B (by decide +kernel) (by decide +kernel) bo_all) (da_con (DF.de (df_comp C.calm (C.comp (N' := ["other", "many"]) (t := 1) (cs := [1]) (by decide +kernel)).1 (di_seq (C.v 0 (by decide +kernel))) (fun fp s H => have C1 := (C.comp (N' := ["other", "many"]) (t := 1) (cs := [1]) (by decide +kernel)).2 fp s H; ⟨(let z := C1.loc (i := 0) (by decide +kernel); dg_name 0 z.1 z.2.1 z.2.2.1 z.2.2.2), dts_nil, (de_call F_is_number (C1.room.mono (by decide)) (C1.gl (by decide +kernel)) (da_con (C1.v 0 (by decide +kernel)) (da_con (C1.v 1 (by decide +kernel)) da_nil)) (by decide))⟩))) da_nil)))) (dss_one (ds_ret de_bl)) dss_nil) (dss_one (ds_ret (C.eq (de_lenset C.calm (C.blt B (by decide +kernel) (by decide +kernel) bo_len) (C.blt B (by decide +kernel) (by decide +kernel) bo_set) (C.v 0 (by decide +kernel))) (de_len (C.blt B (by decide +kernel) (by decide +kernel) bo_len) (da_con (C.v 0 (by decide +kernel)) da_nil)))))))
theorem fs_are_likes : FnScope N_are_likes ["thing", "many"] (defScope s_are_likes) := ⟨rfl, rfl, rfl, by decide +kernel, rfl, by decide +kernel, by decide +kernel⟩
end K1
set_option Elab.async false
set_option linter.all false
set_option maxRecDepth 100000
set_option maxHeartbeats 4000000
namespace K1
open PySem L2 Dl PySem.Spec PyProof.Rows
theorem b_is_end {X : Cx} {HF₀ H₀ : Hp} (C : Bk X N_is_end (defScope s_is_end) 3) (B : Bn X) (F_is_long : FnD X.prog X.w X.K X.mg X.base 1 "is_long" 3 m_is_long) (F_is_whole : FnD X.prog X.w X.K X.mg X.base 1 "is_whole" 3 m_is_whole) (F_are_likes : FnD X.prog X.w X.K X.mg X.base 3 "are_likes" 2 m_are_likes) {t_MOST : Tok} (G_MOST : X.mg "MOST" = some (.int 9 t_MOST)) :
    DSs X HF₀ H₀ (defBody s_is_end) (g_is_end) :=
  (dss_one (ds_ret (de_and (de_call F_is_long (C.room.mono (by decide)) (C.gl (by decide +kernel)) (da_con (C.v 0 (by decide +kernel)) (da_con de_int (da_con de_int da_nil))) (by decide)) (de_and (de_call F_is_whole (C.room.mono (by decide)) (C.gl (by decide +kernel)) (da_con (de_ix (C.v 0 (by decide +kernel)) de_int) (da_con de_int (da_con (de_gint (C.gl (by decide +kernel)) G_MOST (by decide)) da_nil))) (by decide)) (de_one (de_call F_are_likes (C.room.mono (by decide)) (C.gl (by decide +kernel)) (da_con (de_ix (C.v 0 (by decide +kernel)) de_int) (da_con (C.v 1 (by decide +kernel)) da_nil)) (by decide)))))))
theorem fs_is_end : FnScope N_is_end ["thing", "many"] (defScope s_is_end) := ⟨rfl, rfl, rfl, by decide +kernel, rfl, by decide +kernel, by decide +kernel⟩
end K1
set_option Elab.async false
set_option linter.all false
set_option maxRecDepth 100000
set_option maxHeartbeats 4000000
namespace K1
open PySem L2 Dl PySem.Spec PyProof.Rows
theorem b_is_way {X : Cx} {HF₀ H₀ : Hp} (C : Bk X N_is_way (defScope s_is_way) 2) (B : Bn X) (F_is_long : FnD X.prog X.w X.K X.mg X.base 1 "is_long" 3 m_is_long) (F_is_number : FnD X.prog X.w X.K X.mg X.base 2 "is_number" 2 m_is_number) (F_is_whole : FnD X.prog X.w X.K X.mg X.base 1 "is_whole" 3 m_is_whole) {t_MOST : Tok} (G_MOST : X.mg "MOST" = some (.int 9 t_MOST)) :
    DSs X HF₀ H₀ (defBody s_is_way) (g_is_way) :=
  (dss_cons (ds_if (dt_not (dt_val (de_call F_is_long (C.room.mono (by decide)) (C.gl (by decide +kernel)) (da_con (C.v 0 (by decide +kernel)) (da_con de_int (da_con de_int da_nil))) (by decide)))) (dss_one (ds_ret de_bl)) dss_nil) (dss_one (ds_ret (de_and (de_call F_is_number (C.room.mono (by decide)) (C.gl (by decide +kernel)) (da_con (de_ix (C.v 0 (by decide +kernel)) de_int) (da_con (C.v 1 (by decide +kernel)) da_nil)) (by decide)) (de_and (de_call F_is_number (C.room.mono (by decide)) (C.gl (by decide +kernel)) (da_con (de_ix (C.v 0 (by decide +kernel)) de_int) (da_con (C.v 2 (by decide +kernel)) da_nil)) (by decide)) (de_one (de_call F_is_whole (C.room.mono (by decide)) (C.gl (by decide +kernel)) (da_con (de_ix (C.v 0 (by decide +kernel)) de_int) (da_con de_int (da_con (de_gint (C.gl (by decide +kernel)) G_MOST (by decide)) da_nil))) (by decide))))))))
theorem fs_is_way : FnScope N_is_way ["thing", "givers", "takers"] (defScope s_is_way) := ⟨rfl, rfl, rfl, by decide +kernel, rfl, by decide +kernel, by decide +kernel⟩
end K1
set_option Elab.async false
set_option linter.all false
set_option maxRecDepth 100000
set_option maxHeartbeats 4000000
namespace K1
open PySem L2 Dl PySem.Spec PyProof.Rows
theorem b_are_parts {X : Cx} {HF₀ H₀ : Hp} (C : Bk X N_are_parts (defScope s_are_parts) 4) (B : Bn X) (F_is_long : FnD X.prog X.w X.K X.mg X.base 1 "is_long" 3 m_is_long) (F_is_end : FnD X.prog X.w X.K X.mg X.base 4 "is_end" 2 m_is_end) (F_is_way : FnD X.prog X.w X.K X.mg X.base 3 "is_way" 3 m_is_way) {t_MOST_PLACES : Tok} (G_MOST_PLACES : X.mg "MOST_PLACES" = some (.int 4 t_MOST_PLACES)) :
    DSs X HF₀ H₀ (defBody s_are_parts) (g_are_parts) :=
  (dss_cons (ds_if (DW.dt (dw_or (dt_not (dt_val (de_call F_is_long (C.room.mono (by decide)) (C.gl (by decide +kernel)) (da_con (C.v 0 (by decide +kernel)) (da_con de_int (da_con (de_gint (C.gl (by decide +kernel)) G_MOST_PLACES (by decide)) da_nil))) (by decide)))) (dw_or1 (dt_not (dt_val (de_call F_is_long (C.room.mono (by decide)) (C.gl (by decide +kernel)) (da_con (C.v 1 (by decide +kernel)) (da_con de_int (da_con (de_gint (C.gl (by decide +kernel)) G_MOST_PLACES (by decide)) da_nil))) (by decide))))))) (dss_one (ds_ret de_bl)) dss_nil) (dss_cons (ds_if (dt_not (dt_val (de_all C.calm (C.blt B (by decide +kernel) (by decide +kernel) bo_all) (da_con (DF.de (df_comp C.calm (C.comp (N' := ["giver", "takers"]) (t := 1) (cs := [1]) (by decide +kernel)).1 (di_seq (C.v 0 (by decide +kernel))) (fun fp s H => have C1 := (C.comp (N' := ["giver", "takers"]) (t := 1) (cs := [1]) (by decide +kernel)).2 fp s H; ⟨(let z := C1.loc (i := 0) (by decide +kernel); dg_name 0 z.1 z.2.1 z.2.2.1 z.2.2.2), dts_nil, (de_call F_is_end (C1.room.mono (by decide)) (C1.gl (by decide +kernel)) (da_con (C1.v 0 (by decide +kernel)) (da_con (de_len (C1.blt B (by decide +kernel) (by decide +kernel) bo_len) (da_con (C1.v 1 (by decide +kernel)) da_nil)) da_nil)) (by decide))⟩))) da_nil)))) (dss_one (ds_ret de_bl)) dss_nil) (dss_cons (ds_if (dt_not (dt_val (de_all C.calm (C.blt B (by decide +kernel) (by decide +kernel) bo_all) (da_con (DF.de (df_comp C.calm (C.comp (N' := ["taker", "givers"]) (t := 1) (cs := [0]) (by decide +kernel)).1 (di_seq (C.v 1 (by decide +kernel))) (fun fp s H => have C1 := (C.comp (N' := ["taker", "givers"]) (t := 1) (cs := [0]) (by decide +kernel)).2 fp s H; ⟨(let z := C1.loc (i := 0) (by decide +kernel); dg_name 0 z.1 z.2.1 z.2.2.1 z.2.2.2), dts_nil, (de_call F_is_end (C1.room.mono (by decide)) (C1.gl (by decide +kernel)) (da_con (C1.v 0 (by decide +kernel)) (da_con (de_len (C1.blt B (by decide +kernel) (by decide +kernel) bo_len) (da_con (C1.v 1 (by decide +kernel)) da_nil)) da_nil)) (by decide))⟩))) da_nil)))) (dss_one (ds_ret de_bl)) dss_nil) (dss_one (ds_ret (de_and (de_is (T := "tuple") (C.blt B (by decide +kernel) (by decide +kernel) bo_isinstance) (C.blt B (by decide +kernel) (by decide +kernel) bo_tuple) (C.v 2 (by decide +kernel))) (de_one (de_all C.calm (C.blt B (by decide +kernel) (by decide +kernel) bo_all) (da_con (DF.de (df_comp C.calm (C.comp (N' := ["way", "givers", "takers"]) (t := 1) (cs := [0, 1]) (by decide +kernel)).1 (di_seq (C.v 2 (by decide +kernel))) (fun fp s H => have C1 := (C.comp (N' := ["way", "givers", "takers"]) (t := 1) (cs := [0, 1]) (by decide +kernel)).2 fp s H; ⟨(let z := C1.loc (i := 0) (by decide +kernel); dg_name 0 z.1 z.2.1 z.2.2.1 z.2.2.2), dts_nil, (de_call F_is_way (C1.room.mono (by decide)) (C1.gl (by decide +kernel)) (da_con (C1.v 0 (by decide +kernel)) (da_con (de_len (C1.blt B (by decide +kernel) (by decide +kernel) bo_len) (da_con (C1.v 1 (by decide +kernel)) da_nil)) (da_con (de_len (C1.blt B (by decide +kernel) (by decide +kernel) bo_len) (da_con (C1.v 2 (by decide +kernel)) da_nil)) da_nil))) (by decide))⟩))) da_nil)))))))))
theorem fs_are_parts : FnScope N_are_parts ["givers", "takers", "ways"] (defScope s_are_parts) := ⟨rfl, rfl, rfl, by decide +kernel, rfl, by decide +kernel, by decide +kernel⟩
end K1
set_option Elab.async false
set_option linter.all false
set_option maxRecDepth 100000
set_option maxHeartbeats 4000000
namespace K1
open PySem L2 Dl PySem.Spec PyProof.Rows
theorem b_liked_pairs {X : Cx} {HF₀ H₀ : Hp} (C : Bk X N_liked_pairs (defScope s_liked_pairs) 0) (B : Bn X) :
    DSs X HF₀ H₀ (defBody s_liked_pairs) (g_liked_pairs) :=
  (dss_cons (let z := C.loc (i := 1) (by decide +kernel); ds_setF 1 [] z.1 z.2.1 z.2.2.1 (df_lst da_nil) rfl z.2.2.2) (dss_cons (ds_for [0] C.pass C.calm (di_enum (C.blt B (by decide +kernel) (by decide +kernel) bo_enumerate) (da_con (C.v 0 (by decide +kernel)) da_nil)) (let z := C.loc (i := 2) (by decide +kernel); let w := C.loc (i := 3) (by decide +kernel); dsg_two 2 3 C.calm z.1 z.2.1 z.2.2.1 w.2.1 w.2.2.1 z.2.2.2 w.2.2.2) (dss_one (let z := C.vis (i := 1) (by decide +kernel); ds_extend 1 [3, 2] z.1 z.2.1 (df_comp C.calm (C.comp (N' := ["other", "number"]) (t := 1) (cs := [2]) (by decide +kernel)).1 (di_seq (de_ix (C.v 3 (by decide +kernel)) de_int)) (fun fp s H => have C1 := (C.comp (N' := ["other", "number"]) (t := 1) (cs := [2]) (by decide +kernel)).2 fp s H; ⟨(let z := C1.loc (i := 0) (by decide +kernel); dg_name 0 z.1 z.2.1 z.2.2.1 z.2.2.2), dts_nil, (de_tup (da_con (C1.v 1 (by decide +kernel)) (da_con (C1.v 0 (by decide +kernel)) da_nil)))⟩)) z.2.2.1 z.2.2.2))) (dss_one (ds_ret (C.v 1 (by decide +kernel))))))
theorem fs_liked_pairs : FnScope N_liked_pairs ["places"] (defScope s_liked_pairs) := ⟨rfl, rfl, rfl, by decide +kernel, rfl, by decide +kernel, by decide +kernel⟩
end K1
set_option Elab.async false
set_option linter.all false
set_option maxRecDepth 100000
set_option maxHeartbeats 4000000
namespace K1
open PySem L2 Dl PySem.Spec PyProof.Rows
theorem b_is_world {X : Cx} {HF₀ H₀ : Hp} (C : Bk X N_is_world (defScope s_is_world) 5) (B : Bn X) (F_liked_pairs : FnD X.prog X.w X.K X.mg X.base 1 "liked_pairs" 1 m_liked_pairs) (F_is_long : FnD X.prog X.w X.K X.mg X.base 1 "is_long" 3 m_is_long) (F_are_parts : FnD X.prog X.w X.K X.mg X.base 5 "are_parts" 3 m_are_parts) :
    DSs X HF₀ H₀ (defBody s_is_world) (g_is_world) :=
  (dss_cons (ds_if (DW.dt (dw_or (dt_not (dt_val (de_call F_is_long (C.room.mono (by decide)) (C.gl (by decide +kernel)) (da_con (C.v 0 (by decide +kernel)) (da_con de_int (da_con de_int da_nil))) (by decide)))) (dw_or1 (dt_not (dt_val (de_call F_are_parts (C.room.mono (by decide)) (C.gl (by decide +kernel)) (da_con (de_ix (C.v 0 (by decide +kernel)) de_int) (da_con (de_ix (C.v 0 (by decide +kernel)) de_int) (da_con (de_ix (C.v 0 (by decide +kernel)) de_int) da_nil))) (by decide))))))) (dss_one (ds_ret de_bl)) dss_nil) (dss_cons (let z := C.loc (i := 1) (by decide +kernel); ds_setC 1 [0] C.calm (C.comp (N' := ["way"]) (t := 1) (cs := []) (by decide +kernel)).1 (di_seq (de_ix (C.v 0 (by decide +kernel)) de_int)) (fun fp s H => have C1 := (C.comp (N' := ["way"]) (t := 1) (cs := []) (by decide +kernel)).2 fp s H; ⟨(let z := C1.loc (i := 0) (by decide +kernel); dg_name 0 z.1 z.2.1 z.2.2.1 z.2.2.2), dts_nil, (de_tup (da_con (de_ix (C1.v 0 (by decide +kernel)) de_int) (da_con (de_ix (C1.v 0 (by decide +kernel)) de_int) da_nil)))⟩) z.1 z.2.1 (C.locl (by decide +kernel)) (C.swap (by decide +kernel) (by decide +kernel))) (dss_cons (let z := C.loc (i := 2) (by decide +kernel); ds_set 2 [0] z.1 z.2.1 z.2.2.1 (DF.de (df_sorted (C.blt B (by decide +kernel) (by decide +kernel) bo_sorted) (da_con (de_call F_liked_pairs (C.room.mono (by decide)) (C.gl (by decide +kernel)) (da_con (de_ix (C.v 0 (by decide +kernel)) de_int) da_nil) (by decide)) da_nil))) rfl z.2.2.2) (dss_cons (let z := C.loc (i := 3) (by decide +kernel); ds_set 3 [0] z.1 z.2.1 z.2.2.1 (DF.de (df_sorted (C.blt B (by decide +kernel) (by decide +kernel) bo_sorted) (da_con (DF.de (df_comp C.calm (C.comp (N' := ["taker", "giver"]) (t := 2) (cs := []) (by decide +kernel)).1 (di_seq (de_call F_liked_pairs (C.room.mono (by decide)) (C.gl (by decide +kernel)) (da_con (de_ix (C.v 0 (by decide +kernel)) de_int) da_nil) (by decide))) (fun fp s H => have C1 := (C.comp (N' := ["taker", "giver"]) (t := 2) (cs := []) (by decide +kernel)).2 fp s H; ⟨(let z := C1.loc (i := 0) (by decide +kernel); let w := C1.loc (i := 1) (by decide +kernel); dg_two 0 1 C1.calm z.1 z.2.1 z.2.2.1 w.2.1 w.2.2.1 z.2.2.2 w.2.2.2), dts_nil, (de_tup (da_con (C1.v 1 (by decide +kernel)) (da_con (C1.v 0 (by decide +kernel)) da_nil)))⟩))) da_nil))) rfl z.2.2.2) (dss_one (ds_ret (de_and (C.eq (C.v 1 (by decide +kernel)) (C.v 2 (by decide +kernel))) (de_one (C.eq (C.v 1 (by decide +kernel)) (C.v 3 (by decide +kernel)))))))))))
theorem fs_is_world : FnScope N_is_world ["thing"] (defScope s_is_world) := ⟨rfl, rfl, rfl, by decide +kernel, rfl, by decide +kernel, by decide +kernel⟩
end K1
set_option Elab.async false
set_option linter.all false
set_option maxRecDepth 100000
set_option maxHeartbeats 4000000
namespace K1
open PySem L2 Dl PySem.Spec PyProof.Rows
theorem b__law_cell {X : Cx} {HF₀ H₀ : Hp} (C : Bk X N__law_cell (defScope s__law_cell) 0) (B : Bn X) :
    DSs X HF₀ H₀ (defBody s__law_cell) (g__law_cell) :=
  (dss_cons (ds_if (C.teq (C.v 0 (by decide +kernel)) (DF.de (df_lst da_nil))) (dss_one (ds_ret (C.mul de_int (C.v 1 (by decide +kernel))))) dss_nil) (dss_one (ds_ret (C.add (de_ix (C.v 0 (by decide +kernel)) (C.mod (C.v 1 (by decide +kernel)) (de_len (C.blt B (by decide +kernel) (by decide +kernel) bo_len) (da_con (C.v 0 (by decide +kernel)) da_nil)))) (C.mul de_int (C.div (C.v 1 (by decide +kernel)) (de_len (C.blt B (by decide +kernel) (by decide +kernel) bo_len) (da_con (C.v 0 (by decide +kernel)) da_nil))))))))
theorem fs__law_cell : FnScope N__law_cell ["_law_script", "_law_k"] (defScope s__law_cell) := ⟨rfl, rfl, rfl, by decide +kernel, rfl, by decide +kernel, by decide +kernel⟩
end K1
set_option Elab.async false
set_option linter.all false
set_option maxRecDepth 100000
set_option maxHeartbeats 4000000
namespace K1
open PySem L2 Dl PySem.Spec PyProof.Rows
theorem b__law_drawn {X : Cx} {HF₀ H₀ : Hp} (C : Bk X N__law_drawn (defScope s__law_drawn) 1) (B : Bn X) (F__law_cell : FnD X.prog X.w X.K X.mg X.base 1 "_law_cell" 2 m__law_cell) :
    DSs X HF₀ H₀ (defBody s__law_drawn) (g__law_drawn) :=
  (dss_cons (let z := C.loc (i := 3) (by decide +kernel); ds_set 3 [0, 1] z.1 z.2.1 z.2.2.1 (C.mod (C.add (C.mul (C.mod (de_call F__law_cell (C.room.mono (by decide)) (C.gl (by decide +kernel)) (da_con (C.v 0 (by decide +kernel)) (da_con (C.v 1 (by decide +kernel)) da_nil)) (by decide)) de_int) de_int) (C.mul de_int (C.add (C.v 1 (by decide +kernel)) de_int))) de_int) rfl z.2.2.2) (dss_cons (let z := C.loc (i := 3) (by decide +kernel); ds_set 3 [3] z.1 z.2.1 z.2.2.1 (C.mod (C.add (C.mul (C.v 3 (by decide +kernel)) (C.v 3 (by decide +kernel))) (C.div (C.v 3 (by decide +kernel)) de_int)) de_int) rfl z.2.2.2) (dss_one (ds_ret (C.mod (C.div (C.mod (C.add (C.mul (C.v 3 (by decide +kernel)) (C.v 3 (by decide +kernel))) (C.div (C.v 3 (by decide +kernel)) de_int)) de_int) de_int) (C.v 2 (by decide +kernel)))))))
theorem fs__law_drawn : FnScope N__law_drawn ["_law_script", "_law_k", "_law_many"] (defScope s__law_drawn) := ⟨rfl, rfl, rfl, by decide +kernel, rfl, by decide +kernel, by decide +kernel⟩
end K1
set_option Elab.async false
set_option linter.all false
set_option maxRecDepth 100000
set_option maxHeartbeats 4000000
namespace K1
open PySem L2 Dl PySem.Spec PyProof.Rows
theorem b__law_orders {X : Cx} {HF₀ H₀ : Hp} (C : Bk X N__law_orders (defScope s__law_orders) 2) (B : Bn X) (F__law_drawn : FnD X.prog X.w X.K X.mg X.base 2 "_law_drawn" 3 m__law_drawn) :
    DSs X HF₀ H₀ (defBody s__law_orders) (g__law_orders) :=
  (dss_cons (let z := C.loc (i := 3) (by decide +kernel); ds_setF 3 [] z.1 z.2.1 z.2.2.1 (df_lst da_nil) rfl z.2.2.2) (dss_cons (ds_for [2] C.pass C.calm (di_enum (C.blt B (by decide +kernel) (by decide +kernel) bo_enumerate) (da_con (C.v 2 (by decide +kernel)) da_nil)) (let z := C.loc (i := 4) (by decide +kernel); let w := C.loc (i := 5) (by decide +kernel); dsg_two 4 5 C.calm z.1 z.2.1 z.2.2.1 w.2.1 w.2.2.1 z.2.2.2 w.2.2.2) (dss_cons (let z := C.loc (i := 6) (by decide +kernel); ds_setF 6 [] z.1 z.2.1 z.2.2.1 (df_lst da_nil) rfl z.2.2.2) (dss_cons (ds_for [5] C.pass C.calm (di_enum (C.blt B (by decide +kernel) (by decide +kernel) bo_enumerate) (da_con (C.v 5 (by decide +kernel)) da_nil)) (let z := C.loc (i := 7) (by decide +kernel); let w := C.loc (i := 8) (by decide +kernel); dsg_two 7 8 C.calm z.1 z.2.1 z.2.2.1 w.2.1 w.2.2.1 z.2.2.2 w.2.2.2) (dss_one (let z := C.vis (i := 6) (by decide +kernel); ds_insert 6 [8] z.1 z.2.1 (de_call F__law_drawn (C.room.mono (by decide)) (C.gl (by decide +kernel)) (da_con (C.v 0 (by decide +kernel)) (da_con (C.add (C.add (C.v 1 (by decide +kernel)) (C.mul de_int (C.v 4 (by decide +kernel)))) (C.v 7 (by decide +kernel))) (da_con (C.add (de_len (C.blt B (by decide +kernel) (by decide +kernel) bo_len) (da_con (C.v 6 (by decide +kernel)) da_nil)) de_int) da_nil))) (by decide)) (C.v 8 (by decide +kernel)) z.2.2.1 z.2.2.2))) (dss_one (let z := C.vis (i := 3) (by decide +kernel); ds_append 3 [6] z.1 z.2.1 (de_tuple (C.blt B (by decide +kernel) (by decide +kernel) bo_tuple) (da_con (C.v 6 (by decide +kernel)) da_nil)) z.2.2.1 z.2.2.2))))) (dss_one (ds_ret (C.v 3 (by decide +kernel))))))
theorem fs__law_orders : FnScope N__law_orders ["_law_script", "_law_at", "_law_rows"] (defScope s__law_orders) := ⟨rfl, rfl, rfl, by decide +kernel, rfl, by decide +kernel, by decide +kernel⟩
end K1
set_option Elab.async false
set_option linter.all false
set_option maxRecDepth 100000
set_option maxHeartbeats 4000000
namespace K1
open PySem L2 Dl PySem.Spec PyProof.Rows
theorem b__law_world {X : Cx} {HF₀ H₀ : Hp} (C : Bk X N__law_world (defScope s__law_world) 3) (B : Bn X) (F__law_orders : FnD X.prog X.w X.K X.mg X.base 3 "_law_orders" 3 m__law_orders) (F__law_drawn : FnD X.prog X.w X.K X.mg X.base 2 "_law_drawn" 3 m__law_drawn) :
    DSs X HF₀ H₀ (defBody s__law_world) (g__law_world) := by
  refine dss_cons ?_ ?_
  · refine ds_if ?_ ?_ ?_
    · refine DW.dt ?_
      · refine dw_and ?_ ?_
        · refine C.tgt ?_ ?_
          · exact (C.v 2 (by decide +kernel))
          · exact de_int
        · refine dw_and1 ?_
          · refine C.teq ?_ ?_
            · refine de_call F__law_drawn (C.room.mono (by decide)) (C.gl (by decide +kernel)) ?_ (by decide)
              · refine da_c ?_ ?_ ?_
                · rfl
                · exact (C.v 0 (by decide +kernel))
                · refine da_c ?_ ?_ ?_
                  · rfl
                  · refine C.add ?_ ?_
                    · exact (C.v 1 (by decide +kernel))
                    · exact de_int
                  · refine da_c ?_ ?_ ?_
                    · rfl
                    · exact de_int
                    · exact da_nil
            · exact de_int
    · refine dss_cons ?_ ?_
      · have z := C.loc (i := 3) (x := "_law_each_here") (by decide +kernel)
        refine @ds_set X HF₀ H₀ _ _ 3 [0, 1] _ _ _ z.1 z.2.1 z.2.2.1 ?_ ?_ z.2.2.2
        · refine C.add ?_ ?_
          · exact de_int
          · refine de_call F__law_drawn (C.room.mono (by decide)) (C.gl (by decide +kernel)) ?_ (by decide)
            · refine da_c ?_ ?_ ?_
              · rfl
              · exact (C.v 0 (by decide +kernel))
              · refine da_c ?_ ?_ ?_
                · rfl
                · refine C.add ?_ ?_
                  · exact (C.v 1 (by decide +kernel))
                  · exact de_int
                · refine da_c ?_ ?_ ?_
                  · rfl
                  · exact de_int
                  · exact da_nil
        · rfl
      · refine dss_cons ?_ ?_
        · have z := C.loc (i := 4) (x := "_law_takers") (by decide +kernel)
          refine @ds_set X HF₀ H₀ _ _ 4 [3] _ _ _ z.1 z.2.1 z.2.2.1 ?_ ?_ z.2.2.2
          · refine de_tup ?_
            · refine da_c ?_ ?_ ?_
              · rfl
              · refine de_tup ?_
                · refine da_c ?_ ?_ ?_
                  · rfl
                  · exact (C.v 3 (by decide +kernel))
                  · refine da_c ?_ ?_ ?_
                    · rfl
                    · refine de_tup ?_
                      · refine da_c ?_ ?_ ?_
                        · rfl
                        · exact de_int
                        · refine da_c ?_ ?_ ?_
                          · rfl
                          · exact de_int
                          · exact da_nil
                    · exact da_nil
              · refine da_c ?_ ?_ ?_
                · rfl
                · refine de_tup ?_
                  · refine da_c ?_ ?_ ?_
                    · rfl
                    · exact (C.v 3 (by decide +kernel))
                    · refine da_c ?_ ?_ ?_
                      · rfl
                      · refine de_tup ?_
                        · refine da_c ?_ ?_ ?_
                          · rfl
                          · exact de_int
                          · refine da_c ?_ ?_ ?_
                            · rfl
                            · exact de_int
                            · exact da_nil
                      · exact da_nil
                · exact da_nil
          · rfl
        · refine dss_one ?_
          · refine ds_ret ?_
            · refine de_tup ?_
              · refine da_c ?_ ?_ ?_
                · rfl
                · refine de_tup ?_
                  · refine da_c ?_ ?_ ?_
                    · rfl
                    · refine de_tup ?_
                      · refine da_c ?_ ?_ ?_
                        · rfl
                        · exact (C.v 3 (by decide +kernel))
                        · refine da_c ?_ ?_ ?_
                          · rfl
                          · refine de_tup ?_
                            · refine da_c ?_ ?_ ?_
                              · rfl
                              · exact de_int
                              · refine da_c ?_ ?_ ?_
                                · rfl
                                · exact de_int
                                · exact da_nil
                          · exact da_nil
                    · refine da_c ?_ ?_ ?_
                      · rfl
                      · refine de_tup ?_
                        · refine da_c ?_ ?_ ?_
                          · rfl
                          · exact (C.v 3 (by decide +kernel))
                          · refine da_c ?_ ?_ ?_
                            · rfl
                            · refine de_tup ?_
                              · refine da_c ?_ ?_ ?_
                                · rfl
                                · exact de_int
                                · refine da_c ?_ ?_ ?_
                                  · rfl
                                  · exact de_int
                                  · exact da_nil
                            · exact da_nil
                      · exact da_nil
                · refine da_c ?_ ?_ ?_
                  · rfl
                  · exact (C.v 4 (by decide +kernel))
                  · refine da_c ?_ ?_ ?_
                    · rfl
                    · refine de_tup ?_
                      · refine da_c ?_ ?_ ?_
                        · rfl
                        · refine de_tup ?_
                          · refine da_c ?_ ?_ ?_
                            · rfl
                            · exact de_int
                            · refine da_c ?_ ?_ ?_
                              · rfl
                              · exact de_int
                              · refine da_c ?_ ?_ ?_
                                · rfl
                                · exact de_int
                                · exact da_nil
                        · refine da_c ?_ ?_ ?_
                          · rfl
                          · refine de_tup ?_
                            · refine da_c ?_ ?_ ?_
                              · rfl
                              · exact de_int
                              · refine da_c ?_ ?_ ?_
                                · rfl
                                · exact de_int
                                · refine da_c ?_ ?_ ?_
                                  · rfl
                                  · exact de_int
                                  · exact da_nil
                          · refine da_c ?_ ?_ ?_
                            · rfl
                            · refine de_tup ?_
                              · refine da_c ?_ ?_ ?_
                                · rfl
                                · exact de_int
                                · refine da_c ?_ ?_ ?_
                                  · rfl
                                  · exact de_int
                                  · refine da_c ?_ ?_ ?_
                                    · rfl
                                    · exact de_int
                                    · exact da_nil
                            · refine da_c ?_ ?_ ?_
                              · rfl
                              · refine de_tup ?_
                                · refine da_c ?_ ?_ ?_
                                  · rfl
                                  · exact de_int
                                  · refine da_c ?_ ?_ ?_
                                    · rfl
                                    · exact de_int
                                    · refine da_c ?_ ?_ ?_
                                      · rfl
                                      · exact de_int
                                      · exact da_nil
                              · exact da_nil
                    · exact da_nil
    · exact dss_nil
  · refine dss_cons ?_ ?_
    · have z := C.loc (i := 5) (x := "_law_many") (by decide +kernel)
      refine @ds_set X HF₀ H₀ _ _ 5 [0, 1] _ _ _ z.1 z.2.1 z.2.2.1 ?_ ?_ z.2.2.2
      · refine C.add ?_ ?_
        · exact de_int
        · refine de_call F__law_drawn (C.room.mono (by decide)) (C.gl (by decide +kernel)) ?_ (by decide)
          · refine da_c ?_ ?_ ?_
            · rfl
            · exact (C.v 0 (by decide +kernel))
            · refine da_c ?_ ?_ ?_
              · rfl
              · exact (C.v 1 (by decide +kernel))
              · refine da_c ?_ ?_ ?_
                · rfl
                · exact de_int
                · exact da_nil
      · rfl
    · refine dss_cons ?_ ?_
      · have z := C.loc (i := 6) (x := "_law_size") (by decide +kernel)
        refine @ds_set X HF₀ H₀ _ _ 6 [0, 1] _ _ _ z.1 z.2.1 z.2.2.1 ?_ ?_ z.2.2.2
        · refine C.add ?_ ?_
          · exact de_int
          · refine de_call F__law_drawn (C.room.mono (by decide)) (C.gl (by decide +kernel)) ?_ (by decide)
            · refine da_c ?_ ?_ ?_
              · rfl
              · exact (C.v 0 (by decide +kernel))
              · refine da_c ?_ ?_ ?_
                · rfl
                · refine C.add ?_ ?_
                  · exact (C.v 1 (by decide +kernel))
                  · exact de_int
                · refine da_c ?_ ?_ ?_
                  · rfl
                  · exact de_int
                  · exact da_nil
        · rfl
      · refine dss_cons ?_ ?_
        · have z := C.loc (i := 7) (x := "_law_ways") (by decide +kernel)
          refine ds_setF 7 [] z.1 z.2.1 z.2.2.1 ?_ ?_ z.2.2.2
          · refine df_lst ?_
            · exact da_nil
          · rfl
        · refine dss_cons ?_ ?_
          · refine ds_for [5, 6] C.pass C.calm ?_ ?_ ?_
            · refine di_range (C.blt B (by decide +kernel) (by decide +kernel) bo_range) ?_
              · refine da_c ?_ ?_ ?_
                · rfl
                · refine C.mul ?_ ?_
                  · exact (C.v 5 (by decide +kernel))
                  · exact (C.v 6 (by decide +kernel))
                · exact da_nil
            · exact (let z := C.loc (i := 8) (by decide +kernel); dsg_name 8 z.1 z.2.1 z.2.2.1 z.2.2.2)
            · refine dss_one ?_
              · refine ds_if ?_ ?_ ?_
                · refine DW.dt ?_
                  · refine dw_and ?_ ?_
                    · refine C.tlt ?_ ?_
                      · refine de_len (C.blt B (by decide +kernel) (by decide +kernel) bo_len) ?_
                        · refine da_c ?_ ?_ ?_
                          · rfl
                          · exact (C.v 7 (by decide +kernel))
                          · exact da_nil
                      · exact (C.v 2 (by decide +kernel))
                    · refine dw_and1 ?_
                      · refine C.tgt ?_ ?_
                        · refine de_call F__law_drawn (C.room.mono (by decide)) (C.gl (by decide +kernel)) ?_ (by decide)
                          · refine da_c ?_ ?_ ?_
                            · rfl
                            · exact (C.v 0 (by decide +kernel))
                            · refine da_c ?_ ?_ ?_
                              · rfl
                              · refine C.add ?_ ?_
                                · refine C.add ?_ ?_
                                  · exact (C.v 1 (by decide +kernel))
                                  · exact de_int
                                · exact (C.v 8 (by decide +kernel))
                              · refine da_c ?_ ?_ ?_
                                · rfl
                                · exact de_int
                                · exact da_nil
                        · exact de_int
                · refine dss_one ?_
                  · exact (let z := C.vis (i := 7) (by decide +kernel); ds_append 7 [8, 6, 0, 1] z.1 z.2.1 (de_tup (da_c rfl (C.div (C.v 8 (by decide +kernel)) (C.v 6 (by decide +kernel))) (da_c rfl (C.mod (C.v 8 (by decide +kernel)) (C.v 6 (by decide +kernel))) (da_c rfl (C.add de_int (de_call F__law_drawn (C.room.mono (by decide)) (C.gl (by decide +kernel)) (da_c rfl (C.v 0 (by decide +kernel)) (da_c rfl (C.add (C.add (C.v 1 (by decide +kernel)) de_int) (C.v 8 (by decide +kernel))) (da_c rfl de_int da_nil))) (by decide))) da_nil)))) z.2.2.1 z.2.2.2)
                · exact dss_nil
          · refine dss_cons ?_ ?_
            · have z := C.loc (i := 9) (x := "_law_mine") (by decide +kernel)
              refine @ds_set X HF₀ H₀ _ _ 9 [0, 1, 5, 7] _ _ _ z.1 z.2.1 z.2.2.1 ?_ ?_ z.2.2.2
              · refine de_call F__law_orders (C.room.mono (by decide)) (C.gl (by decide +kernel)) ?_ (by decide)
                · refine da_c ?_ ?_ ?_
                  · rfl
                  · exact (C.v 0 (by decide +kernel))
                  · refine da_c ?_ ?_ ?_
                    · rfl
                    · refine C.add ?_ ?_
                      · exact (C.v 1 (by decide +kernel))
                      · exact de_int
                    · refine da_c ?_ ?_ ?_
                      · rfl
                      · refine DF.de ?_
                        · refine df_comp C.calm (C.comp (N' := ["_law_giver", "_law_ways"]) (t := 1) (cs := [7]) (by decide +kernel)).1 ?_ ?_
                          · refine di_range (C.blt B (by decide +kernel) (by decide +kernel) bo_range) ?_
                            · refine da_c ?_ ?_ ?_
                              · rfl
                              · exact (C.v 5 (by decide +kernel))
                              · exact da_nil
                          · refine hY_of (C.comp (N' := ["_law_giver", "_law_ways"]) (t := 1) (cs := [7]) (by decide +kernel)).2 ?_
                            intro fp s H C1
                            refine ⟨?_, ?_, ?_⟩
                            · exact (let z := C1.loc (i := 0) (by decide +kernel); dg_name 0 z.1 z.2.1 z.2.2.1 z.2.2.2)
                            · exact dts_nil
                            · refine DF.de ?_
                              · refine df_comp C1.calm (C1.comp (N' := ["_law_way", "_law_giver"]) (t := 1) (cs := [0]) (by decide +kernel)).1 ?_ ?_
                                · refine di_seq ?_
                                  · exact (C1.v 1 (by decide +kernel))
                                · refine hY_of (C1.comp (N' := ["_law_way", "_law_giver"]) (t := 1) (cs := [0]) (by decide +kernel)).2 ?_
                                  intro fp s H C11
                                  refine ⟨?_, ?_, ?_⟩
                                  · exact (let z := C11.loc (i := 0) (by decide +kernel); dg_name 0 z.1 z.2.1 z.2.2.1 z.2.2.2)
                                  · refine dts_one ?_
                                    · refine C11.teq ?_ ?_
                                      · refine de_ix ?_ ?_
                                        · exact (C11.v 0 (by decide +kernel))
                                        · exact de_int
                                      · exact (C11.v 1 (by decide +kernel))
                                  · refine de_ix ?_ ?_
                                    · exact (C11.v 0 (by decide +kernel))
                                    · exact de_int
                      · exact da_nil
              · rfl
            · refine dss_cons ?_ ?_
              · have z := C.loc (i := 10) (x := "_law_yours") (by decide +kernel)
                refine @ds_set X HF₀ H₀ _ _ 10 [0, 1, 6, 7] _ _ _ z.1 z.2.1 z.2.2.1 ?_ ?_ z.2.2.2
                · refine de_call F__law_orders (C.room.mono (by decide)) (C.gl (by decide +kernel)) ?_ (by decide)
                  · refine da_c ?_ ?_ ?_
                    · rfl
                    · exact (C.v 0 (by decide +kernel))
                    · refine da_c ?_ ?_ ?_
                      · rfl
                      · refine C.add ?_ ?_
                        · exact (C.v 1 (by decide +kernel))
                        · exact de_int
                      · refine da_c ?_ ?_ ?_
                        · rfl
                        · refine DF.de ?_
                          · refine df_comp C.calm (C.comp (N' := ["_law_taker", "_law_ways"]) (t := 1) (cs := [7]) (by decide +kernel)).1 ?_ ?_
                            · refine di_range (C.blt B (by decide +kernel) (by decide +kernel) bo_range) ?_
                              · refine da_c ?_ ?_ ?_
                                · rfl
                                · exact (C.v 6 (by decide +kernel))
                                · exact da_nil
                            · refine hY_of (C.comp (N' := ["_law_taker", "_law_ways"]) (t := 1) (cs := [7]) (by decide +kernel)).2 ?_
                              intro fp s H C1
                              refine ⟨?_, ?_, ?_⟩
                              · exact (let z := C1.loc (i := 0) (by decide +kernel); dg_name 0 z.1 z.2.1 z.2.2.1 z.2.2.2)
                              · exact dts_nil
                              · refine DF.de ?_
                                · refine df_comp C1.calm (C1.comp (N' := ["_law_way", "_law_taker"]) (t := 1) (cs := [0]) (by decide +kernel)).1 ?_ ?_
                                  · refine di_seq ?_
                                    · exact (C1.v 1 (by decide +kernel))
                                  · refine hY_of (C1.comp (N' := ["_law_way", "_law_taker"]) (t := 1) (cs := [0]) (by decide +kernel)).2 ?_
                                    intro fp s H C11
                                    refine ⟨?_, ?_, ?_⟩
                                    · exact (let z := C11.loc (i := 0) (by decide +kernel); dg_name 0 z.1 z.2.1 z.2.2.1 z.2.2.2)
                                    · refine dts_one ?_
                                      · refine C11.teq ?_ ?_
                                        · refine de_ix ?_ ?_
                                          · exact (C11.v 0 (by decide +kernel))
                                          · exact de_int
                                        · exact (C11.v 1 (by decide +kernel))
                                    · refine de_ix ?_ ?_
                                      · exact (C11.v 0 (by decide +kernel))
                                      · exact de_int
                        · exact da_nil
                · rfl
              · refine dss_cons ?_ ?_
                · have z := C.loc (i := 11) (x := "_law_givers") (by decide +kernel)
                  refine @ds_set X HF₀ H₀ _ _ 11 [9, 0, 1] _ _ _ z.1 z.2.1 z.2.2.1 ?_ ?_ z.2.2.2
                  · refine de_tuple (C.blt B (by decide +kernel) (by decide +kernel) bo_tuple) ?_
                    · refine da_c ?_ ?_ ?_
                      · rfl
                      · refine DF.de ?_
                        · refine df_comp C.calm (C.comp (N' := ["_law_k", "_law_row", "_law_script", "_law_at"]) (t := 2) (cs := [0, 1]) (by decide +kernel)).1 ?_ ?_
                          · refine di_enum (C.blt B (by decide +kernel) (by decide +kernel) bo_enumerate) ?_
                            · refine da_c ?_ ?_ ?_
                              · rfl
                              · exact (C.v 9 (by decide +kernel))
                              · exact da_nil
                          · refine hY_of (C.comp (N' := ["_law_k", "_law_row", "_law_script", "_law_at"]) (t := 2) (cs := [0, 1]) (by decide +kernel)).2 ?_
                            intro fp s H C1
                            refine ⟨?_, ?_, ?_⟩
                            · exact (let z := C1.loc (i := 0) (by decide +kernel); let w := C1.loc (i := 1) (by decide +kernel); dg_two 0 1 C1.calm z.1 z.2.1 z.2.2.1 w.2.1 w.2.2.1 z.2.2.2 w.2.2.2)
                            · exact dts_nil
                            · refine de_tup ?_
                              · refine da_c ?_ ?_ ?_
                                · rfl
                                · refine de_call F__law_drawn (C1.room.mono (by decide)) (C1.gl (by decide +kernel)) ?_ (by decide)
                                  · refine da_c ?_ ?_ ?_
                                    · rfl
                                    · exact (C1.v 2 (by decide +kernel))
                                    · refine da_c ?_ ?_ ?_
                                      · rfl
                                      · refine C1.add ?_ ?_
                                        · refine C1.add ?_ ?_
                                          · exact (C1.v 3 (by decide +kernel))
                                          · exact de_int
                                        · exact (C1.v 0 (by decide +kernel))
                                      · refine da_c ?_ ?_ ?_
                                        · rfl
                                        · exact de_int
                                        · exact da_nil
                                · refine da_c ?_ ?_ ?_
                                  · rfl
                                  · exact (C1.v 1 (by decide +kernel))
                                  · exact da_nil
                      · exact da_nil
                  · rfl
                · refine dss_cons ?_ ?_
                  · have z := C.loc (i := 4) (x := "_law_takers") (by decide +kernel)
                    refine @ds_set X HF₀ H₀ _ _ 4 [10, 0, 1] _ _ _ z.1 z.2.1 z.2.2.1 ?_ ?_ z.2.2.2
                    · refine de_tuple (C.blt B (by decide +kernel) (by decide +kernel) bo_tuple) ?_
                      · refine da_c ?_ ?_ ?_
                        · rfl
                        · refine DF.de ?_
                          · refine df_comp C.calm (C.comp (N' := ["_law_k", "_law_row", "_law_script", "_law_at"]) (t := 2) (cs := [0, 1]) (by decide +kernel)).1 ?_ ?_
                            · refine di_enum (C.blt B (by decide +kernel) (by decide +kernel) bo_enumerate) ?_
                              · refine da_c ?_ ?_ ?_
                                · rfl
                                · exact (C.v 10 (by decide +kernel))
                                · exact da_nil
                            · refine hY_of (C.comp (N' := ["_law_k", "_law_row", "_law_script", "_law_at"]) (t := 2) (cs := [0, 1]) (by decide +kernel)).2 ?_
                              intro fp s H C1
                              refine ⟨?_, ?_, ?_⟩
                              · exact (let z := C1.loc (i := 0) (by decide +kernel); let w := C1.loc (i := 1) (by decide +kernel); dg_two 0 1 C1.calm z.1 z.2.1 z.2.2.1 w.2.1 w.2.2.1 z.2.2.2 w.2.2.2)
                              · exact dts_nil
                              · refine de_tup ?_
                                · refine da_c ?_ ?_ ?_
                                  · rfl
                                  · refine de_call F__law_drawn (C1.room.mono (by decide)) (C1.gl (by decide +kernel)) ?_ (by decide)
                                    · refine da_c ?_ ?_ ?_
                                      · rfl
                                      · exact (C1.v 2 (by decide +kernel))
                                      · refine da_c ?_ ?_ ?_
                                        · rfl
                                        · refine C1.add ?_ ?_
                                          · refine C1.add ?_ ?_
                                            · exact (C1.v 3 (by decide +kernel))
                                            · exact de_int
                                          · exact (C1.v 0 (by decide +kernel))
                                        · refine da_c ?_ ?_ ?_
                                          · rfl
                                          · exact de_int
                                          · exact da_nil
                                  · refine da_c ?_ ?_ ?_
                                    · rfl
                                    · exact (C1.v 1 (by decide +kernel))
                                    · exact da_nil
                        · exact da_nil
                    · rfl
                  · refine dss_one ?_
                    · refine ds_ret ?_
                      · refine de_tup ?_
                        · refine da_c ?_ ?_ ?_
                          · rfl
                          · exact (C.v 11 (by decide +kernel))
                          · refine da_c ?_ ?_ ?_
                            · rfl
                            · exact (C.v 4 (by decide +kernel))
                            · refine da_c ?_ ?_ ?_
                              · rfl
                              · refine de_tuple (C.blt B (by decide +kernel) (by decide +kernel) bo_tuple) ?_
                                · refine da_c ?_ ?_ ?_
                                  · rfl
                                  · exact (C.v 7 (by decide +kernel))
                                  · exact da_nil
                              · exact da_nil
theorem fs__law_world : FnScope N__law_world ["_law_script", "_law_at", "_law_most"] (defScope s__law_world) := ⟨rfl, rfl, rfl, by decide +kernel, rfl, by decide +kernel, by decide +kernel⟩
end K1
set_option Elab.async false
set_option linter.all false
set_option maxRecDepth 100000
set_option maxHeartbeats 4000000
namespace K1
open PySem L2 Dl PySem.Spec PyProof.Rows
theorem b__law_number {X : Cx} {HF₀ H₀ : Hp} (C : Bk X N__law_number (defScope s__law_number) 0) (B : Bn X) :
    DSs X HF₀ H₀ (defBody s__law_number) (g__law_number) :=
  (dss_one (ds_ret (de_and (de_is (T := "int") (C.blt B (by decide +kernel) (by decide +kernel) bo_isinstance) (C.blt B (by decide +kernel) (by decide +kernel) bo_int) (C.v 0 (by decide +kernel))) (de_and (de_not (de_is (T := "bool") (C.blt B (by decide +kernel) (by decide +kernel) bo_isinstance) (C.blt B (by decide +kernel) (by decide +kernel) bo_bool) (C.v 0 (by decide +kernel)))) (de_one (C.lele (C.v 1 (by decide +kernel)) (C.v 0 (by decide +kernel)) (C.v 2 (by decide +kernel))))))))
theorem fs__law_number : FnScope N__law_number ["_law_thing", "_law_low", "_law_high"] (defScope s__law_number) := ⟨rfl, rfl, rfl, by decide +kernel, rfl, by decide +kernel, by decide +kernel⟩
end K1
set_option Elab.async false
set_option linter.all false
set_option maxRecDepth 100000
set_option maxHeartbeats 4000000
namespace K1
open PySem L2 Dl PySem.Spec PyProof.Rows
theorem b__law_is_place {X : Cx} {HF₀ H₀ : Hp} (C : Bk X N__law_is_place (defScope s__law_is_place) 1) (B : Bn X) (F__law_number : FnD X.prog X.w X.K X.mg X.base 1 "_law_number" 3 m__law_number) :
    DSs X HF₀ H₀ (defBody s__law_is_place) (g__law_is_place) :=
  (dss_cons (ds_if (DW.dt (dw_or (dt_not (dt_val (de_is (T := "tuple") (C.blt B (by decide +kernel) (by decide +kernel) bo_isinstance) (C.blt B (by decide +kernel) (by decide +kernel) bo_tuple) (C.v 0 (by decide +kernel))))) (dw_or (C.tne (de_len (C.blt B (by decide +kernel) (by decide +kernel) bo_len) (da_con (C.v 0 (by decide +kernel)) da_nil)) de_int) (dw_or1 (dt_not (dt_val (de_call F__law_number (C.room.mono (by decide)) (C.gl (by decide +kernel)) (da_con (de_ix (C.v 0 (by decide +kernel)) de_int) (da_con de_int (da_con de_int da_nil))) (by decide)))))))) (dss_one (ds_ret de_bl)) dss_nil) (dss_cons (ds_if (DW.dt (dw_or (dt_not (dt_val (de_is (T := "tuple") (C.blt B (by decide +kernel) (by decide +kernel) bo_isinstance) (C.blt B (by decide +kernel) (by decide +kernel) bo_tuple) (de_ix (C.v 0 (by decide +kernel)) de_int)))) (dw_or1 (C.tne (DF.de (df_comp C.calm (C.comp (N' := ["_law_one", "_law_many"]) (t := 1) (cs := [1]) (by decide +kernel)).1 (di_seq (de_ix (C.v 0 (by decide +kernel)) de_int)) (fun fp s H => have C1 := (C.comp (N' := ["_law_one", "_law_many"]) (t := 1) (cs := [1]) (by decide +kernel)).2 fp s H; ⟨(let z := C1.loc (i := 0) (by decide +kernel); dg_name 0 z.1 z.2.1 z.2.2.1 z.2.2.2), (dts_one (dt_not (dt_val (de_call F__law_number (C1.room.mono (by decide)) (C1.gl (by decide +kernel)) (da_con (C1.v 0 (by decide +kernel)) (da_con de_int (da_con (C1.sub (C1.v 1 (by decide +kernel)) de_int) da_nil))) (by decide))))), (C1.v 0 (by decide +kernel))⟩))) (DF.de (df_lst da_nil)))))) (dss_one (ds_ret de_bl)) dss_nil) (dss_one (ds_ret (C.eq (de_lenset C.calm (C.blt B (by decide +kernel) (by decide +kernel) bo_len) (C.blt B (by decide +kernel) (by decide +kernel) bo_set) (de_ix (C.v 0 (by decide +kernel)) de_int)) (de_len (C.blt B (by decide +kernel) (by decide +kernel) bo_len) (da_con (de_ix (C.v 0 (by decide +kernel)) de_int) da_nil)))))))
theorem fs__law_is_place : FnScope N__law_is_place ["_law_thing", "_law_many"] (defScope s__law_is_place) := ⟨rfl, rfl, rfl, by decide +kernel, rfl, by decide +kernel, by decide +kernel⟩
end K1
set_option Elab.async false
set_option linter.all false
set_option maxRecDepth 100000
set_option maxHeartbeats 4000000
namespace K1
open PySem L2 Dl PySem.Spec PyProof.Rows
theorem b__law_are_ways {X : Cx} {HF₀ H₀ : Hp} (C : Bk X N__law_are_ways (defScope s__law_are_ways) 1) (B : Bn X) (F__law_number : FnD X.prog X.w X.K X.mg X.base 1 "_law_number" 3 m__law_number) :
    DSs X HF₀ H₀ (defBody s__law_are_ways) (g__law_are_ways) :=
  (dss_cons (ds_if (dt_not (dt_val (de_is (T := "tuple") (C.blt B (by decide +kernel) (by decide +kernel) bo_isinstance) (C.blt B (by decide +kernel) (by decide +kernel) bo_tuple) (C.v 0 (by decide +kernel))))) (dss_one (ds_ret de_bl)) dss_nil) (dss_cons (ds_for [0] C.pass C.calm (di_seq (C.v 0 (by decide +kernel))) (let z := C.loc (i := 3) (by decide +kernel); dsg_name 3 z.1 z.2.1 z.2.2.1 z.2.2.2) (dss_cons (ds_if (DW.dt (dw_or (dt_not (dt_val (de_is (T := "tuple") (C.blt B (by decide +kernel) (by decide +kernel) bo_isinstance) (C.blt B (by decide +kernel) (by decide +kernel) bo_tuple) (C.v 3 (by decide +kernel))))) (dw_or (C.tne (de_len (C.blt B (by decide +kernel) (by decide +kernel) bo_len) (da_con (C.v 3 (by decide +kernel)) da_nil)) de_int) (dw_or1 (dt_not (dt_val (de_call F__law_number (C.room.mono (by decide)) (C.gl (by decide +kernel)) (da_con (de_ix (C.v 3 (by decide +kernel)) de_int) (da_con de_int (da_con de_int da_nil))) (by decide)))))))) (dss_one (ds_ret de_bl)) dss_nil) (dss_one (ds_if (DW.dt (dw_or (dt_not (dt_val (de_call F__law_number (C.room.mono (by decide)) (C.gl (by decide +kernel)) (da_con (de_ix (C.v 3 (by decide +kernel)) de_int) (da_con de_int (da_con (C.sub (C.v 1 (by decide +kernel)) de_int) da_nil))) (by decide)))) (dw_or1 (dt_not (dt_val (de_call F__law_number (C.room.mono (by decide)) (C.gl (by decide +kernel)) (da_con (de_ix (C.v 3 (by decide +kernel)) de_int) (da_con de_int (da_con (C.sub (C.v 2 (by decide +kernel)) de_int) da_nil))) (by decide))))))) (dss_one (ds_ret de_bl)) dss_nil)))) (dss_cons (let z := C.loc (i := 4) (by decide +kernel); ds_setC 4 [0] C.calm (C.comp (N' := ["_law_way"]) (t := 1) (cs := []) (by decide +kernel)).1 (di_seq (C.v 0 (by decide +kernel))) (fun fp s H => have C1 := (C.comp (N' := ["_law_way"]) (t := 1) (cs := []) (by decide +kernel)).2 fp s H; ⟨(let z := C1.loc (i := 0) (by decide +kernel); dg_name 0 z.1 z.2.1 z.2.2.1 z.2.2.2), dts_nil, (C1.cut (C1.v 0 (by decide +kernel)) do_none (do_some de_int))⟩) z.1 z.2.1 (C.locl (by decide +kernel)) (C.swap (by decide +kernel) (by decide +kernel))) (dss_one (ds_ret (C.eq (DF.de (df_comp C.calm (C.comp (N' := ["_law_one", "_law_other"]) (t := 2) (cs := []) (by decide +kernel)).1 (di_zip (C.blt B (by decide +kernel) (by decide +kernel) bo_zip) (da_con (C.v 4 (by decide +kernel)) (da_con (C.cut (C.v 4 (by decide +kernel)) (do_some de_int) do_none) da_nil))) (fun fp s H => have C1 := (C.comp (N' := ["_law_one", "_law_other"]) (t := 2) (cs := []) (by decide +kernel)).2 fp s H; ⟨(let z := C1.loc (i := 0) (by decide +kernel); let w := C1.loc (i := 1) (by decide +kernel); dg_two 0 1 C1.calm z.1 z.2.1 z.2.2.1 w.2.1 w.2.2.1 z.2.2.2 w.2.2.2), (dts_one (C1.tge (C1.v 0 (by decide +kernel)) (C1.v 1 (by decide +kernel)))), (C1.v 0 (by decide +kernel))⟩))) (DF.de (df_lst da_nil))))))))
theorem fs__law_are_ways : FnScope N__law_are_ways ["_law_thing", "_law_many", "_law_size"] (defScope s__law_are_ways) := ⟨rfl, rfl, rfl, by decide +kernel, rfl, by decide +kernel, by decide +kernel⟩
end K1
set_option Elab.async false
set_option linter.all false
set_option maxRecDepth 100000
set_option maxHeartbeats 4000000
namespace K1
open PySem L2 Dl PySem.Spec PyProof.Rows
theorem b__law_is_world {X : Cx} {HF₀ H₀ : Hp} (C : Bk X N__law_is_world (defScope s__law_is_world) 2) (B : Bn X) (F__law_are_ways : FnD X.prog X.w X.K X.mg X.base 2 "_law_are_ways" 3 m__law_are_ways) (F__law_is_place : FnD X.prog X.w X.K X.mg X.base 2 "_law_is_place" 2 m__law_is_place) :
    DSs X HF₀ H₀ (defBody s__law_is_world) (g__law_is_world) :=
  (dss_cons (ds_if (DW.dt (dw_or (dt_not (dt_val (de_is (T := "tuple") (C.blt B (by decide +kernel) (by decide +kernel) bo_isinstance) (C.blt B (by decide +kernel) (by decide +kernel) bo_tuple) (C.v 0 (by decide +kernel))))) (dw_or1 (C.tne (de_len (C.blt B (by decide +kernel) (by decide +kernel) bo_len) (da_con (C.v 0 (by decide +kernel)) da_nil)) de_int)))) (dss_one (ds_ret de_bl)) dss_nil) (dss_cons (ds_for [] C.pass C.calm (di_range (C.blt B (by decide +kernel) (by decide +kernel) bo_range) (da_con de_int da_nil)) (let z := C.loc (i := 1) (by decide +kernel); dsg_name 1 z.1 z.2.1 z.2.2.1 z.2.2.2) (dss_one (ds_if (DW.dt (dw_or (dt_not (dt_val (de_is (T := "tuple") (C.blt B (by decide +kernel) (by decide +kernel) bo_isinstance) (C.blt B (by decide +kernel) (by decide +kernel) bo_tuple) (de_ix (C.v 0 (by decide +kernel)) (C.v 1 (by decide +kernel)))))) (dw_or1 (dt_not (C.tlele de_int (de_len (C.blt B (by decide +kernel) (by decide +kernel) bo_len) (da_con (de_ix (C.v 0 (by decide +kernel)) (C.v 1 (by decide +kernel))) da_nil)) de_int))))) (dss_one (ds_ret de_bl)) dss_nil))) (dss_cons (ds_for [] C.pass C.calm (di_range (C.blt B (by decide +kernel) (by decide +kernel) bo_range) (da_con de_int da_nil)) (let z := C.loc (i := 1) (by decide +kernel); dsg_name 1 z.1 z.2.1 z.2.2.1 z.2.2.2) (dss_one (ds_if (C.tne (DF.de (df_comp C.calm (C.comp (N' := ["_law_one", "_law_thing", "_law_side"]) (t := 1) (cs := [0, 1]) (by decide +kernel)).1 (di_seq (de_ix (C.v 0 (by decide +kernel)) (C.v 1 (by decide +kernel)))) (fun fp s H => have C1 := (C.comp (N' := ["_law_one", "_law_thing", "_law_side"]) (t := 1) (cs := [0, 1]) (by decide +kernel)).2 fp s H; ⟨(let z := C1.loc (i := 0) (by decide +kernel); dg_name 0 z.1 z.2.1 z.2.2.1 z.2.2.2), (dts_one (dt_not (dt_val (de_call F__law_is_place (C1.room.mono (by decide)) (C1.gl (by decide +kernel)) (da_con (C1.v 0 (by decide +kernel)) (da_con (de_len (C1.blt B (by decide +kernel) (by decide +kernel) bo_len) (da_con (de_ix (C1.v 1 (by decide +kernel)) (C1.sub de_int (C1.v 2 (by decide +kernel)))) da_nil)) da_nil)) (by decide))))), (C1.v 0 (by decide +kernel))⟩))) (DF.de (df_lst da_nil))) (dss_one (ds_ret de_bl)) dss_nil))) (dss_cons (ds_if (dt_not (dt_val (de_call F__law_are_ways (C.room.mono (by decide)) (C.gl (by decide +kernel)) (da_con (de_ix (C.v 0 (by decide +kernel)) de_int) (da_con (de_len (C.blt B (by decide +kernel) (by decide +kernel) bo_len) (da_con (de_ix (C.v 0 (by decide +kernel)) de_int) da_nil)) (da_con (de_len (C.blt B (by decide +kernel) (by decide +kernel) bo_len) (da_con (de_ix (C.v 0 (by decide +kernel)) de_int) da_nil)) da_nil))) (by decide)))) (dss_one (ds_ret de_bl)) dss_nil) (dss_cons (let z := C.loc (i := 2) (by decide +kernel); ds_setC 2 [0] C.calm (C.comp (N' := ["_law_way"]) (t := 1) (cs := []) (by decide +kernel)).1 (di_seq (de_ix (C.v 0 (by decide +kernel)) de_int)) (fun fp s H => have C1 := (C.comp (N' := ["_law_way"]) (t := 1) (cs := []) (by decide +kernel)).2 fp s H; ⟨(let z := C1.loc (i := 0) (by decide +kernel); dg_name 0 z.1 z.2.1 z.2.2.1 z.2.2.2), dts_nil, (C1.cut (C1.v 0 (by decide +kernel)) do_none (do_some de_int))⟩) z.1 z.2.1 (C.locl (by decide +kernel)) (C.swap (by decide +kernel) (by decide +kernel))) (dss_cons (ds_for [0] C.pass C.calm (di_enum (C.blt B (by decide +kernel) (by decide +kernel) bo_enumerate) (da_con (de_ix (C.v 0 (by decide +kernel)) de_int) da_nil)) (let z := C.loc (i := 3) (by decide +kernel); let w := C.loc (i := 4) (by decide +kernel); dsg_two 3 4 C.calm z.1 z.2.1 z.2.2.1 w.2.1 w.2.2.1 z.2.2.2 w.2.2.2) (dss_one (ds_for [0] C.pass C.calm (di_enum (C.blt B (by decide +kernel) (by decide +kernel) bo_enumerate) (da_con (de_ix (C.v 0 (by decide +kernel)) de_int) da_nil)) (let z := C.loc (i := 5) (by decide +kernel); let w := C.loc (i := 6) (by decide +kernel); dsg_two 5 6 C.calm z.1 z.2.1 z.2.2.1 w.2.1 w.2.2.1 z.2.2.2 w.2.2.2) (dss_one (ds_if (C.tne (de_tup (da_con (C.isin (de_tup (da_con (C.v 3 (by decide +kernel)) (da_con (C.v 5 (by decide +kernel)) da_nil))) (C.v 2 (by decide +kernel))) (da_con (C.isin (de_tup (da_con (C.v 3 (by decide +kernel)) (da_con (C.v 5 (by decide +kernel)) da_nil))) (C.v 2 (by decide +kernel))) da_nil))) (de_tup (da_con (C.isin (C.v 5 (by decide +kernel)) (de_ix (C.v 4 (by decide +kernel)) de_int)) (da_con (C.isin (C.v 3 (by decide +kernel)) (de_ix (C.v 6 (by decide +kernel)) de_int)) da_nil)))) (dss_one (ds_ret de_bl)) dss_nil))))) (dss_one (ds_ret de_bl))))))))
theorem fs__law_is_world : FnScope N__law_is_world ["_law_thing"] (defScope s__law_is_world) := ⟨rfl, rfl, rfl, by decide +kernel, rfl, by decide +kernel, by decide +kernel⟩
end K1
set_option Elab.async false
set_option linter.all false
set_option maxRecDepth 100000
set_option maxHeartbeats 4000000
namespace K1
open PySem L2 Dl PySem.Spec PyProof.Rows
theorem b__law_spoilt {X : Cx} {HF₀ H₀ : Hp} {k : Nat} (hk : 2 ≤ k) (C : Bk X N__law_spoilt (defScope s__law_spoilt) k) (B : Bn X) (F__law_drawn : FnD X.prog X.w X.K X.mg X.base 2 "_law_drawn" 3 m__law_drawn) {m__law_spoilt : List D → Option D} {kr : Nat} (F__law_spoilt : FnD X.prog X.w X.K X.mg X.base kr "_law_spoilt" 4 m__law_spoilt) (hkr : kr ≤ k) :
    DSs X HF₀ H₀ (defBody s__law_spoilt) (g__law_spoilt m__law_spoilt) := by
  refine dss_cons ?_ ?_
  · refine ds_if ?_ ?_ ?_
    · refine DW.dt ?_
      · refine dw_and ?_ ?_
        · refine C.tgt ?_ ?_
          · exact (C.v 3 (by decide +kernel))
          · exact de_int
        · refine dw_and ?_ ?_
          · refine dt_val ?_
            · refine de_is (T := "tuple") (C.blt B (by decide +kernel) (by decide +kernel) bo_isinstance) (C.blt B (by decide +kernel) (by decide +kernel) bo_tuple) ?_
              · exact (C.v 2 (by decide +kernel))
          · refine dw_and ?_ ?_
            · refine C.tne ?_ ?_
              · exact (C.v 2 (by decide +kernel))
              · refine de_tup ?_
                · exact da_nil
            · refine dw_and1 ?_
              · refine C.tgt ?_ ?_
                · refine de_call F__law_drawn (C.room.mono (Nat.le_trans (by decide) hk)) (C.gl (by decide +kernel)) ?_ (by decide)
                  · refine da_c ?_ ?_ ?_
                    · rfl
                    · exact (C.v 0 (by decide +kernel))
                    · refine da_c ?_ ?_ ?_
                      · rfl
                      · exact (C.v 1 (by decide +kernel))
                      · refine da_c ?_ ?_ ?_
                        · rfl
                        · exact de_int
                        · exact da_nil
                · exact de_int
    · refine dss_cons ?_ ?_
      · have z := C.loc (i := 4) (x := "_law_place") (by decide +kernel)
        refine @ds_set X HF₀ H₀ _ _ 4 [0, 1, 2] _ _ _ z.1 z.2.1 z.2.2.1 ?_ ?_ z.2.2.2
        · refine de_call F__law_drawn (C.room.mono (Nat.le_trans (by decide) hk)) (C.gl (by decide +kernel)) ?_ (by decide)
          · refine da_c ?_ ?_ ?_
            · rfl
            · exact (C.v 0 (by decide +kernel))
            · refine da_c ?_ ?_ ?_
              · rfl
              · refine C.add ?_ ?_
                · exact (C.v 1 (by decide +kernel))
                · exact de_int
              · refine da_c ?_ ?_ ?_
                · rfl
                · refine de_len (C.blt B (by decide +kernel) (by decide +kernel) bo_len) ?_
                  · refine da_c ?_ ?_ ?_
                    · rfl
                    · exact (C.v 2 (by decide +kernel))
                    · exact da_nil
                · exact da_nil
        · rfl
      · refine dss_cons ?_ ?_
        · have z := C.loc (i := 5) (x := "_law_part") (by decide +kernel)
          refine @ds_set X HF₀ H₀ _ _ 5 [0, 1, 2, 4, 3] _ _ _ z.1 z.2.1 z.2.2.1 ?_ ?_ z.2.2.2
          · refine de_call F__law_spoilt (C.room.mono hkr) (C.gl (by decide +kernel)) ?_ (by decide)
            · refine da_c ?_ ?_ ?_
              · rfl
              · exact (C.v 0 (by decide +kernel))
              · refine da_c ?_ ?_ ?_
                · rfl
                · refine C.add ?_ ?_
                  · exact (C.v 1 (by decide +kernel))
                  · exact de_int
                · refine da_c ?_ ?_ ?_
                  · rfl
                  · refine de_ix ?_ ?_
                    · exact (C.v 2 (by decide +kernel))
                    · exact (C.v 4 (by decide +kernel))
                  · refine da_c ?_ ?_ ?_
                    · rfl
                    · refine C.sub ?_ ?_
                      · exact (C.v 3 (by decide +kernel))
                      · exact de_int
                    · exact da_nil
          · rfl
        · refine dss_one ?_
          · refine ds_ret ?_
            · refine C.add ?_ ?_
              · refine C.add ?_ ?_
                · refine C.cut ?_ ?_ ?_
                  · exact (C.v 2 (by decide +kernel))
                  · exact do_none
                  · refine do_some ?_
                    · exact (C.v 4 (by decide +kernel))
                · refine de_tup ?_
                  · refine da_c ?_ ?_ ?_
                    · rfl
                    · exact (C.v 5 (by decide +kernel))
                    · exact da_nil
              · refine C.cut ?_ ?_ ?_
                · exact (C.v 2 (by decide +kernel))
                · refine do_some ?_
                  · refine C.add ?_ ?_
                    · exact (C.v 4 (by decide +kernel))
                    · exact de_int
                · exact do_none
    · exact dss_nil
  · refine dss_cons ?_ ?_
    · have z := C.loc (i := 6) (x := "_law_some") (by decide +kernel)
      refine ds_setF 6 [] z.1 z.2.1 z.2.2.1 ?_ ?_ z.2.2.2
      · refine df_lst ?_
        · refine da_c ?_ ?_ ?_
          · rfl
          · exact de_non
          · refine da_c ?_ ?_ ?_
            · rfl
            · exact de_bl
            · refine da_c ?_ ?_ ?_
              · rfl
              · exact de_bl
              · refine da_c ?_ ?_ ?_
                · rfl
                · refine C.neg ?_
                  · exact de_int
                · refine da_c ?_ ?_ ?_
                  · rfl
                  · exact de_int
                  · refine da_c ?_ ?_ ?_
                    · rfl
                    · exact de_int
                    · refine da_c ?_ ?_ ?_
                      · rfl
                      · exact de_int
                      · refine da_c ?_ ?_ ?_
                        · rfl
                        · exact de_int
                        · refine da_c ?_ ?_ ?_
                          · rfl
                          · exact de_int
                          · refine da_c ?_ ?_ ?_
                            · rfl
                            · exact de_int
                            · refine da_c ?_ ?_ ?_
                              · rfl
                              · exact de_int
                              · refine da_c ?_ ?_ ?_
                                · rfl
                                · exact de_str
                                · refine da_c ?_ ?_ ?_
                                  · rfl
                                  · refine de_tup ?_
                                    · exact da_nil
                                  · refine da_c ?_ ?_ ?_
                                    · rfl
                                    · refine DF.de ?_
                                      · refine df_lst ?_
                                        · exact da_nil
                                    · refine da_c ?_ ?_ ?_
                                      · rfl
                                      · refine de_tup ?_
                                        · refine da_c ?_ ?_ ?_
                                          · rfl
                                          · exact de_int
                                          · exact da_nil
                                      · refine da_c ?_ ?_ ?_
                                        · rfl
                                        · refine de_tup ?_
                                          · refine da_c ?_ ?_ ?_
                                            · rfl
                                            · exact de_int
                                            · refine da_c ?_ ?_ ?_
                                              · rfl
                                              · exact de_int
                                              · exact da_nil
                                        · refine da_c ?_ ?_ ?_
                                          · rfl
                                          · refine de_tup ?_
                                            · refine da_c ?_ ?_ ?_
                                              · rfl
                                              · exact de_int
                                              · refine da_c ?_ ?_ ?_
                                                · rfl
                                                · exact de_int
                                                · refine da_c ?_ ?_ ?_
                                                  · rfl
                                                  · exact de_int
                                                  · exact da_nil
                                          · refine da_c ?_ ?_ ?_
                                            · rfl
                                            · refine de_tup ?_
                                              · refine da_c ?_ ?_ ?_
                                                · rfl
                                                · exact de_int
                                                · refine da_c ?_ ?_ ?_
                                                  · rfl
                                                  · refine de_tup ?_
                                                    · exact da_nil
                                                  · exact da_nil
                                            · refine da_c ?_ ?_ ?_
                                              · rfl
                                              · refine de_tup ?_
                                                · refine da_c ?_ ?_ ?_
                                                  · rfl
                                                  · refine de_tup ?_
                                                    · refine da_c ?_ ?_ ?_
                                                      · rfl
                                                      · exact de_int
                                                      · refine da_c ?_ ?_ ?_
                                                        · rfl
                                                        · exact de_int
                                                        · refine da_c ?_ ?_ ?_
                                                          · rfl
                                                          · exact de_int
                                                          · exact da_nil
                                                  · exact da_nil
                                              · exact da_nil
      · rfl
    · refine dss_cons ?_ ?_
      · refine ds_if ?_ ?_ ?_
        · refine dt_val ?_
          · refine de_is (T := "tuple") (C.blt B (by decide +kernel) (by decide +kernel) bo_isinstance) (C.blt B (by decide +kernel) (by decide +kernel) bo_tuple) ?_
            · exact (C.v 2 (by decide +kernel))
        · refine dss_one ?_
          · have z := C.loc (i := 6) (x := "_law_some") (by decide +kernel)
            refine @ds_set X HF₀ H₀ _ _ 6 [6, 2] _ _ _ z.1 z.2.1 z.2.2.1 ?_ ?_ z.2.2.2
            · refine C.add ?_ ?_
              · exact (C.v 6 (by decide +kernel))
              · refine DF.de ?_
                · refine df_lst ?_
                  · refine da_c ?_ ?_ ?_
                    · rfl
                    · refine DF.de ?_
                      · refine df_list (C.blt B (by decide +kernel) (by decide +kernel) bo_list) ?_
                        · refine da_c ?_ ?_ ?_
                          · rfl
                          · exact (C.v 2 (by decide +kernel))
                          · exact da_nil
                    · refine da_c ?_ ?_ ?_
                      · rfl
                      · refine de_rev ?_
                        · exact (C.v 2 (by decide +kernel))
                      · refine da_c ?_ ?_ ?_
                        · rfl
                        · refine C.add ?_ ?_
                          · exact (C.v 2 (by decide +kernel))
                          · exact (C.v 2 (by decide +kernel))
                        · refine da_c ?_ ?_ ?_
                          · rfl
                          · refine C.cut ?_ ?_ ?_
                            · exact (C.v 2 (by decide +kernel))
                            · refine do_some ?_
                              · exact de_int
                            · exact do_none
                          · refine da_c ?_ ?_ ?_
                            · rfl
                            · refine C.add ?_ ?_
                              · exact (C.v 2 (by decide +kernel))
                              · refine C.cut ?_ ?_ ?_
                                · exact (C.v 2 (by decide +kernel))
                                · exact do_none
                                · refine do_some ?_
                                  · exact de_int
                            · refine da_c ?_ ?_ ?_
                              · rfl
                              · refine C.add ?_ ?_
                                · exact (C.v 2 (by decide +kernel))
                                · refine de_tup ?_
                                  · refine da_c ?_ ?_ ?_
                                    · rfl
                                    · refine de_tup ?_
                                      · refine da_c ?_ ?_ ?_
                                        · rfl
                                        · exact de_int
                                        · refine da_c ?_ ?_ ?_
                                          · rfl
                                          · exact de_int
                                          · refine da_c ?_ ?_ ?_
                                            · rfl
                                            · exact de_int
                                            · exact da_nil
                                    · exact da_nil
                              · exact da_nil
            · rfl
        · exact dss_nil
      · refine dss_one ?_
        · refine ds_ret ?_
          · refine de_ix ?_ ?_
            · exact (C.v 6 (by decide +kernel))
            · refine de_call F__law_drawn (C.room.mono (Nat.le_trans (by decide) hk)) (C.gl (by decide +kernel)) ?_ (by decide)
              · refine da_c ?_ ?_ ?_
                · rfl
                · exact (C.v 0 (by decide +kernel))
                · refine da_c ?_ ?_ ?_
                  · rfl
                  · refine C.add ?_ ?_
                    · exact (C.v 1 (by decide +kernel))
                    · exact de_int
                  · refine da_c ?_ ?_ ?_
                    · rfl
                    · refine de_len (C.blt B (by decide +kernel) (by decide +kernel) bo_len) ?_
                      · refine da_c ?_ ?_ ?_
                        · rfl
                        · exact (C.v 6 (by decide +kernel))
                        · exact da_nil
                    · exact da_nil
theorem fs__law_spoilt : FnScope N__law_spoilt ["_law_script", "_law_at", "_law_thing", "_law_deep"] (defScope s__law_spoilt) := ⟨rfl, rfl, rfl, by decide +kernel, rfl, by decide +kernel, by decide +kernel⟩
end K1
set_option Elab.async false
set_option linter.all false
set_option maxRecDepth 100000
set_option maxHeartbeats 4000000
namespace K1
open PySem L2 Dl PySem.Spec PyProof.Rows
theorem b__law_each {X : Cx} {HF₀ H₀ : Hp} {k : Nat} (hk : 0 ≤ k) (C : Bk X N__law_each (defScope s__law_each) k) (B : Bn X) {m__law_each : List D → Option D} {kr : Nat} (F__law_each : FnD X.prog X.w X.K X.mg X.base kr "_law_each" 1 m__law_each) (hkr : kr ≤ k) :
    DSs X HF₀ H₀ (defBody s__law_each) (g__law_each m__law_each) :=
  (dss_cons (ds_if (dt_val (de_is (T := "int") (C.blt B (by decide +kernel) (by decide +kernel) bo_isinstance) (C.blt B (by decide +kernel) (by decide +kernel) bo_int) (C.v 0 (by decide +kernel)))) (dss_one (ds_ret (DF.de (df_lst (da_con de_non (da_con de_bl (da_con (C.sub (C.v 0 (by decide +kernel)) de_int) (da_con (C.add (C.v 0 (by decide +kernel)) de_int) (da_con de_int da_nil))))))))) dss_nil) (dss_cons (ds_if (dt_not (dt_val (de_is (T := "tuple") (C.blt B (by decide +kernel) (by decide +kernel) bo_isinstance) (C.blt B (by decide +kernel) (by decide +kernel) bo_tuple) (C.v 0 (by decide +kernel))))) (dss_one (ds_ret (DF.de (df_lst (da_con de_non (da_con de_str (da_con de_str da_nil))))))) dss_nil) (dss_cons (let z := C.loc (i := 1) (by decide +kernel); ds_setF 1 [0] z.1 z.2.1 z.2.2.1 (df_lst (da_con de_non (da_con (DF.de (df_list (C.blt B (by decide +kernel) (by decide +kernel) bo_list) (da_con (C.v 0 (by decide +kernel)) da_nil))) (da_con (C.add (C.v 0 (by decide +kernel)) (C.cut (C.v 0 (by decide +kernel)) (do_some (C.neg de_int)) do_none)) (da_con (C.cut (C.v 0 (by decide +kernel)) (do_some de_int) do_none) da_nil))))) rfl z.2.2.2) (dss_cons (ds_for [0] C.pass C.calm (di_range (C.blt B (by decide +kernel) (by decide +kernel) bo_range) (da_con (de_len (C.blt B (by decide +kernel) (by decide +kernel) bo_len) (da_con (C.v 0 (by decide +kernel)) da_nil)) da_nil)) (let z := C.loc (i := 2) (by decide +kernel); dsg_name 2 z.1 z.2.1 z.2.2.1 z.2.2.2) (dss_one (let z := C.loc (i := 1) (by decide +kernel); ds_set 1 [1, 0, 2] z.1 z.2.1 z.2.2.1 (C.add (C.v 1 (by decide +kernel)) (DF.de (df_comp C.calm (C.comp (N' := ["_law_part", "_law_thing", "_law_place"]) (t := 1) (cs := [0, 2]) (by decide +kernel)).1 (di_seq (de_call F__law_each (C.room.mono hkr) (C.gl (by decide +kernel)) (da_con (de_ix (C.v 0 (by decide +kernel)) (C.v 2 (by decide +kernel))) da_nil) (by decide))) (fun fp s H => have C1 := (C.comp (N' := ["_law_part", "_law_thing", "_law_place"]) (t := 1) (cs := [0, 2]) (by decide +kernel)).2 fp s H; ⟨(let z := C1.loc (i := 0) (by decide +kernel); dg_name 0 z.1 z.2.1 z.2.2.1 z.2.2.2), dts_nil, (C1.add (C1.add (C1.cut (C1.v 1 (by decide +kernel)) do_none (do_some (C1.v 2 (by decide +kernel)))) (de_tup (da_con (C1.v 0 (by decide +kernel)) da_nil))) (C1.cut (C1.v 1 (by decide +kernel)) (do_some (C1.add (C1.v 2 (by decide +kernel)) de_int)) do_none))⟩)))) rfl z.2.2.2))) (dss_one (ds_ret (C.v 1 (by decide +kernel))))))))
theorem fs__law_each : FnScope N__law_each ["_law_thing"] (defScope s__law_each) := ⟨rfl, rfl, rfl, by decide +kernel, rfl, by decide +kernel, by decide +kernel⟩
end K1
set_option Elab.async false
set_option linter.all false
set_option maxRecDepth 100000
set_option maxHeartbeats 4000000
namespace K1
open PySem L2 Dl PySem.Spec PyProof.Rows
theorem b_law {X : Cx} {HF₀ H₀ : Hp} (C : Bk X N_law (defScope s_law) 9) (B : Bn X) (F__law_world : FnD X.prog X.w X.K X.mg X.base 4 "_law_world" 3 m__law_world) (F__law_drawn : FnD X.prog X.w X.K X.mg X.base 2 "_law_drawn" 3 m__law_drawn) (F__law_spoilt : FnD X.prog X.w X.K X.mg X.base 9 "_law_spoilt" 4 m__law_spoilt) (F_is_world : FnD X.prog X.w X.K X.mg X.base 6 "is_world" 1 m_is_world) (F__law_is_world : FnD X.prog X.w X.K X.mg X.base 3 "_law_is_world" 1 m__law_is_world) (F__law_each : FnD X.prog X.w X.K X.mg X.base 7 "_law_each" 1 m__law_each) :
    DSs X HF₀ H₀ (defBody s_law) (g_law) := by
  refine dss_cons ?_ ?_
  · have z := C.loc (i := 1) (x := "_law_world_here") (by decide +kernel)
    refine @ds_set X HF₀ H₀ _ _ 1 [0] _ _ _ z.1 z.2.1 z.2.2.1 ?_ ?_ z.2.2.2
    · refine de_call F__law_world (C.room.mono (by decide)) (C.gl (by decide +kernel)) ?_ (by decide)
      · refine da_c ?_ ?_ ?_
        · rfl
        · exact (C.v 0 (by decide +kernel))
        · refine da_c ?_ ?_ ?_
          · rfl
          · exact de_int
          · refine da_c ?_ ?_ ?_
            · rfl
            · exact de_int
            · exact da_nil
    · rfl
  · refine dss_cons ?_ ?_
    · refine ds_if ?_ ?_ ?_
      · refine C.teq ?_ ?_
        · refine de_call F__law_drawn (C.room.mono (by decide)) (C.gl (by decide +kernel)) ?_ (by decide)
          · refine da_c ?_ ?_ ?_
            · rfl
            · exact (C.v 0 (by decide +kernel))
            · refine da_c ?_ ?_ ?_
              · rfl
              · exact de_int
              · refine da_c ?_ ?_ ?_
                · rfl
                · exact de_int
                · exact da_nil
        · exact de_int
      · refine dss_cons ?_ ?_
        · have z := C.loc (i := 2) (x := "_law_givers") (by decide +kernel)
          refine @ds_set X HF₀ H₀ _ _ 2 [1] _ _ _ z.1 z.2.1 z.2.2.1 ?_ ?_ z.2.2.2
          · refine C.add ?_ ?_
            · refine de_ix ?_ ?_
              · exact (C.v 1 (by decide +kernel))
              · exact de_int
            · refine C.mul ?_ ?_
              · refine de_tup ?_
                · refine da_c ?_ ?_ ?_
                  · rfl
                  · refine de_tup ?_
                    · refine da_c ?_ ?_ ?_
                      · rfl
                      · exact de_int
                      · refine da_c ?_ ?_ ?_
                        · rfl
                        · refine de_tup ?_
                          · exact da_nil
                        · exact da_nil
                  · exact da_nil
              · refine C.sub ?_ ?_
                · exact de_int
                · refine de_len (C.blt B (by decide +kernel) (by decide +kernel) bo_len) ?_
                  · refine da_c ?_ ?_ ?_
                    · rfl
                    · refine de_ix ?_ ?_
                      · exact (C.v 1 (by decide +kernel))
                      · exact de_int
                    · exact da_nil
          · rfl
        · refine dss_one ?_
          · have z := C.loc (i := 1) (x := "_law_world_here") (by decide +kernel)
            refine @ds_set X HF₀ H₀ _ _ 1 [2, 1] _ _ _ z.1 z.2.1 z.2.2.1 ?_ ?_ z.2.2.2
            · refine de_tup ?_
              · refine da_c ?_ ?_ ?_
                · rfl
                · exact (C.v 2 (by decide +kernel))
                · refine da_c ?_ ?_ ?_
                  · rfl
                  · refine de_ix ?_ ?_
                    · exact (C.v 1 (by decide +kernel))
                    · exact de_int
                  · refine da_c ?_ ?_ ?_
                    · rfl
                    · refine de_tuple (C.blt B (by decide +kernel) (by decide +kernel) bo_tuple) ?_
                      · refine da_c ?_ ?_ ?_
                        · rfl
                        · refine DF.de ?_
                          · refine df_comp C.calm (C.comp (N' := ["_law_way"]) (t := 1) (cs := []) (by decide +kernel)).1 ?_ ?_
                            · refine di_seq ?_
                              · refine de_ix ?_ ?_
                                · exact (C.v 1 (by decide +kernel))
                                · exact de_int
                            · refine hY_of (C.comp (N' := ["_law_way"]) (t := 1) (cs := []) (by decide +kernel)).2 ?_
                              intro fp s H C1
                              refine ⟨?_, ?_, ?_⟩
                              · exact (let z := C1.loc (i := 0) (by decide +kernel); dg_name 0 z.1 z.2.1 z.2.2.1 z.2.2.2)
                              · exact dts_nil
                              · refine C1.add ?_ ?_
                                · refine C1.cut ?_ ?_ ?_
                                  · exact (C1.v 0 (by decide +kernel))
                                  · exact do_none
                                  · refine do_some ?_
                                    · exact de_int
                                · refine de_tup ?_
                                  · refine da_c ?_ ?_ ?_
                                    · rfl
                                    · exact de_int
                                    · exact da_nil
                        · exact da_nil
                    · exact da_nil
            · rfl
      · exact dss_nil
    · refine dss_cons ?_ ?_
      · refine ds_if ?_ ?_ ?_
        · refine DW.dt ?_
          · refine dw_or ?_ ?_
            · refine dt_not ?_
              · refine dt_val ?_
                · refine de_call F_is_world (C.room.mono (by decide)) (C.gl (by decide +kernel)) ?_ (by decide)
                  · refine da_c ?_ ?_ ?_
                    · rfl
                    · exact (C.v 1 (by decide +kernel))
                    · exact da_nil
            · refine dw_or1 ?_
              · refine dt_not ?_
                · refine dt_val ?_
                  · refine de_call F__law_is_world (C.room.mono (by decide)) (C.gl (by decide +kernel)) ?_ (by decide)
                    · refine da_c ?_ ?_ ?_
                      · rfl
                      · exact (C.v 1 (by decide +kernel))
                      · exact da_nil
        · refine dss_one ?_
          · refine ds_ret ?_
            · exact de_bl
        · exact dss_nil
      · refine dss_cons ?_ ?_
        · refine ds_for [] C.pass C.calm ?_ ?_ ?_
          · refine di_range (C.blt B (by decide +kernel) (by decide +kernel) bo_range) ?_
            · refine da_c ?_ ?_ ?_
              · rfl
              · exact de_int
              · exact da_nil
          · exact (let z := C.loc (i := 3) (by decide +kernel); dsg_name 3 z.1 z.2.1 z.2.2.1 z.2.2.2)
          · refine dss_cons ?_ ?_
            · have z := C.loc (i := 4) (x := "_law_spoilt_here") (by decide +kernel)
              refine @ds_set X HF₀ H₀ _ _ 4 [0, 3, 1] _ _ _ z.1 z.2.1 z.2.2.1 ?_ ?_ z.2.2.2
              · refine de_call F__law_spoilt (C.room.mono (by decide)) (C.gl (by decide +kernel)) ?_ (by decide)
                · refine da_c ?_ ?_ ?_
                  · rfl
                  · exact (C.v 0 (by decide +kernel))
                  · refine da_c ?_ ?_ ?_
                    · rfl
                    · refine C.add ?_ ?_
                      · exact de_int
                      · refine C.mul ?_ ?_
                        · exact de_int
                        · exact (C.v 3 (by decide +kernel))
                    · refine da_c ?_ ?_ ?_
                      · rfl
                      · exact (C.v 1 (by decide +kernel))
                      · refine da_c ?_ ?_ ?_
                        · rfl
                        · refine C.add ?_ ?_
                          · exact de_int
                          · refine C.mod ?_ ?_
                            · exact (C.v 3 (by decide +kernel))
                            · exact de_int
                        · exact da_nil
              · rfl
            · refine dss_cons ?_ ?_
              · have z := C.loc (i := 5) (x := "_law_told") (by decide +kernel)
                refine @ds_set X HF₀ H₀ _ _ 5 [4] _ _ _ z.1 z.2.1 z.2.2.1 ?_ ?_ z.2.2.2
                · refine de_call F_is_world (C.room.mono (by decide)) (C.gl (by decide +kernel)) ?_ (by decide)
                  · refine da_c ?_ ?_ ?_
                    · rfl
                    · exact (C.v 4 (by decide +kernel))
                    · exact da_nil
                · rfl
              · refine dss_one ?_
                · refine ds_if ?_ ?_ ?_
                  · refine DW.dt ?_
                    · refine dw_or ?_ ?_
                      · refine dt_not ?_
                        · refine dt_val ?_
                          · refine de_is (T := "bool") (C.blt B (by decide +kernel) (by decide +kernel) bo_isinstance) (C.blt B (by decide +kernel) (by decide +kernel) bo_bool) ?_
                            · exact (C.v 5 (by decide +kernel))
                      · refine dw_or1 ?_
                        · refine C.tne ?_ ?_
                          · exact (C.v 5 (by decide +kernel))
                          · refine de_call F__law_is_world (C.room.mono (by decide)) (C.gl (by decide +kernel)) ?_ (by decide)
                            · refine da_c ?_ ?_ ?_
                              · rfl
                              · exact (C.v 4 (by decide +kernel))
                              · exact da_nil
                  · refine dss_one ?_
                    · refine ds_ret ?_
                      · exact de_bl
                  · exact dss_nil
        · refine dss_cons ?_ ?_
          · have z := C.loc (i := 6) (x := "_law_base") (by decide +kernel)
            refine @ds_set X HF₀ H₀ _ _ 6 [] _ _ _ z.1 z.2.1 z.2.2.1 ?_ ?_ z.2.2.2
            · refine de_tup ?_
              · refine da_c ?_ ?_ ?_
                · rfl
                · refine de_tup ?_
                  · refine da_c ?_ ?_ ?_
                    · rfl
                    · refine de_tup ?_
                      · refine da_c ?_ ?_ ?_
                        · rfl
                        · exact de_int
                        · refine da_c ?_ ?_ ?_
                          · rfl
                          · refine de_tup ?_
                            · refine da_c ?_ ?_ ?_
                              · rfl
                              · exact de_int
                              · exact da_nil
                          · exact da_nil
                    · exact da_nil
                · refine da_c ?_ ?_ ?_
                  · rfl
                  · refine de_tup ?_
                    · refine da_c ?_ ?_ ?_
                      · rfl
                      · refine de_tup ?_
                        · refine da_c ?_ ?_ ?_
                          · rfl
                          · exact de_int
                          · refine da_c ?_ ?_ ?_
                            · rfl
                            · refine de_tup ?_
                              · exact da_nil
                            · exact da_nil
                      · refine da_c ?_ ?_ ?_
                        · rfl
                        · refine de_tup ?_
                          · refine da_c ?_ ?_ ?_
                            · rfl
                            · exact de_int
                            · refine da_c ?_ ?_ ?_
                              · rfl
                              · refine de_tup ?_
                                · refine da_c ?_ ?_ ?_
                                  · rfl
                                  · exact de_int
                                  · exact da_nil
                              · exact da_nil
                        · exact da_nil
                  · refine da_c ?_ ?_ ?_
                    · rfl
                    · refine de_tup ?_
                      · refine da_c ?_ ?_ ?_
                        · rfl
                        · refine de_tup ?_
                          · refine da_c ?_ ?_ ?_
                            · rfl
                            · exact de_int
                            · refine da_c ?_ ?_ ?_
                              · rfl
                              · exact de_int
                              · refine da_c ?_ ?_ ?_
                                · rfl
                                · exact de_int
                                · exact da_nil
                        · exact da_nil
                    · exact da_nil
            · rfl
          · refine dss_cons ?_ ?_
            · have z := C.loc (i := 7) (x := "_law_some") (by decide +kernel)
              refine @ds_set X HF₀ H₀ _ _ 7 [6] _ _ _ z.1 z.2.1 z.2.2.1 ?_ ?_ z.2.2.2
              · refine C.add ?_ ?_
                · refine C.add ?_ ?_
                  · refine DF.de ?_
                    · refine df_lst ?_
                      · refine da_c ?_ ?_ ?_
                        · rfl
                        · exact (C.v 6 (by decide +kernel))
                        · exact da_nil
                  · refine de_call F__law_each (C.room.mono (by decide)) (C.gl (by decide +kernel)) ?_ (by decide)
                    · refine da_c ?_ ?_ ?_
                      · rfl
                      · exact (C.v 6 (by decide +kernel))
                      · exact da_nil
                · refine DF.de ?_
                  · refine df_lst ?_
                    · refine da_c ?_ ?_ ?_
                      · rfl
                      · refine C.add ?_ ?_
                        · refine C.cut ?_ ?_ ?_
                          · exact (C.v 6 (by decide +kernel))
                          · exact do_none
                          · refine do_some ?_
                            · exact de_int
                        · refine de_tup ?_
                          · refine da_c ?_ ?_ ?_
                            · rfl
                            · refine de_tup ?_
                              · refine da_c ?_ ?_ ?_
                                · rfl
                                · refine de_tup ?_
                                  · refine da_c ?_ ?_ ?_
                                    · rfl
                                    · exact de_int
                                    · refine da_c ?_ ?_ ?_
                                      · rfl
                                      · exact de_int
                                      · refine da_c ?_ ?_ ?_
                                        · rfl
                                        · exact de_int
                                        · exact da_nil
                                · exact da_nil
                            · exact da_nil
                      · refine da_c ?_ ?_ ?_
                        · rfl
                        · refine de_tup ?_
                          · refine da_c ?_ ?_ ?_
                            · rfl
                            · refine de_ix ?_ ?_
                              · exact (C.v 6 (by decide +kernel))
                              · exact de_int
                            · refine da_c ?_ ?_ ?_
                              · rfl
                              · refine de_tup ?_
                                · refine da_c ?_ ?_ ?_
                                  · rfl
                                  · refine de_tup ?_
                                    · refine da_c ?_ ?_ ?_
                                      · rfl
                                      · exact de_int
                                      · refine da_c ?_ ?_ ?_
                                        · rfl
                                        · refine de_tup ?_
                                          · refine da_c ?_ ?_ ?_
                                            · rfl
                                            · exact de_int
                                            · exact da_nil
                                        · exact da_nil
                                  · refine da_c ?_ ?_ ?_
                                    · rfl
                                    · refine de_tup ?_
                                      · refine da_c ?_ ?_ ?_
                                        · rfl
                                        · exact de_int
                                        · refine da_c ?_ ?_ ?_
                                          · rfl
                                          · refine de_tup ?_
                                            · exact da_nil
                                          · exact da_nil
                                    · exact da_nil
                              · refine da_c ?_ ?_ ?_
                                · rfl
                                · refine de_ix ?_ ?_
                                  · exact (C.v 6 (by decide +kernel))
                                  · exact de_int
                                · exact da_nil
                        · exact da_nil
              · rfl
            · refine dss_cons ?_ ?_
              · refine ds_if ?_ ?_ ?_
                · refine C.tne ?_ ?_
                  · refine DF.de ?_
                    · refine df_comp C.calm (C.comp (N' := ["_law_one"]) (t := 1) (cs := []) (by decide +kernel)).1 ?_ ?_
                      · refine di_seq ?_
                        · exact (C.v 7 (by decide +kernel))
                      · refine hY_of (C.comp (N' := ["_law_one"]) (t := 1) (cs := []) (by decide +kernel)).2 ?_
                        intro fp s H C1
                        refine ⟨?_, ?_, ?_⟩
                        · exact (let z := C1.loc (i := 0) (by decide +kernel); dg_name 0 z.1 z.2.1 z.2.2.1 z.2.2.2)
                        · refine dts_one ?_
                          · refine C1.tne ?_ ?_
                            · refine de_call F_is_world (C1.room.mono (by decide)) (C1.gl (by decide +kernel)) ?_ (by decide)
                              · refine da_c ?_ ?_ ?_
                                · rfl
                                · exact (C1.v 0 (by decide +kernel))
                                · exact da_nil
                            · refine de_call F__law_is_world (C1.room.mono (by decide)) (C1.gl (by decide +kernel)) ?_ (by decide)
                              · refine da_c ?_ ?_ ?_
                                · rfl
                                · exact (C1.v 0 (by decide +kernel))
                                · exact da_nil
                        · exact (C1.v 0 (by decide +kernel))
                  · refine DF.de ?_
                    · refine df_lst ?_
                      · exact da_nil
                · refine dss_one ?_
                  · refine ds_ret ?_
                    · exact de_bl
                · exact dss_nil
              · refine dss_one ?_
                · refine ds_ret ?_
                  · refine de_and ?_ ?_
                    · refine de_call F_is_world (C.room.mono (by decide)) (C.gl (by decide +kernel)) ?_ (by decide)
                      · refine da_c ?_ ?_ ?_
                        · rfl
                        · refine de_tup ?_
                          · refine da_c ?_ ?_ ?_
                            · rfl
                            · refine de_tup ?_
                              · refine da_c ?_ ?_ ?_
                                · rfl
                                · refine de_tup ?_
                                  · refine da_c ?_ ?_ ?_
                                    · rfl
                                    · exact de_int
                                    · refine da_c ?_ ?_ ?_
                                      · rfl
                                      · refine de_tup ?_
                                        · exact da_nil
                                      · exact da_nil
                                · exact da_nil
                            · refine da_c ?_ ?_ ?_
                              · rfl
                              · refine de_tup ?_
                                · refine da_c ?_ ?_ ?_
                                  · rfl
                                  · refine de_tup ?_
                                    · refine da_c ?_ ?_ ?_
                                      · rfl
                                      · exact de_int
                                      · refine da_c ?_ ?_ ?_
                                        · rfl
                                        · refine de_tup ?_
                                          · exact da_nil
                                        · exact da_nil
                                  · exact da_nil
                              · refine da_c ?_ ?_ ?_
                                · rfl
                                · refine de_tup ?_
                                  · exact da_nil
                                · exact da_nil
                        · exact da_nil
                    · refine de_one ?_
                      · refine de_not ?_
                        · refine de_call F_is_world (C.room.mono (by decide)) (C.gl (by decide +kernel)) ?_ (by decide)
                          · refine da_c ?_ ?_ ?_
                            · rfl
                            · refine de_tup ?_
                              · refine da_c ?_ ?_ ?_
                                · rfl
                                · refine C.mul ?_ ?_
                                  · refine de_tup ?_
                                    · refine da_c ?_ ?_ ?_
                                      · rfl
                                      · refine de_tup ?_
                                        · refine da_c ?_ ?_ ?_
                                          · rfl
                                          · exact de_int
                                          · refine da_c ?_ ?_ ?_
                                            · rfl
                                            · refine de_tup ?_
                                              · exact da_nil
                                            · exact da_nil
                                      · exact da_nil
                                  · exact de_int
                                · refine da_c ?_ ?_ ?_
                                  · rfl
                                  · refine de_tup ?_
                                    · refine da_c ?_ ?_ ?_
                                      · rfl
                                      · refine de_tup ?_
                                        · refine da_c ?_ ?_ ?_
                                          · rfl
                                          · exact de_int
                                          · refine da_c ?_ ?_ ?_
                                            · rfl
                                            · refine de_tup ?_
                                              · exact da_nil
                                            · exact da_nil
                                      · exact da_nil
                                  · refine da_c ?_ ?_ ?_
                                    · rfl
                                    · refine de_tup ?_
                                      · exact da_nil
                                    · exact da_nil
                            · exact da_nil
theorem fs_law : FnScope N_law ["_law_script"] (defScope s_law) := ⟨rfl, rfl, rfl, by decide +kernel, rfl, by decide +kernel, by decide +kernel⟩
end K1
set_option Elab.async false
set_option linter.all false
set_option maxRecDepth 100000
set_option maxHeartbeats 4000000
namespace K1
open PySem L2 Dl PySem.Spec PyProof.Rows
structure Ins (K : PySem.W.Frag) : Prop where
  c_is_whole : DefIn K "is_whole" s_is_whole ["thing", "least", "most"]
  c_is_number : DefIn K "is_number" s_is_number ["thing", "many"]
  c_is_long : DefIn K "is_long" s_is_long ["thing", "least", "most"]
  c_are_likes : DefIn K "are_likes" s_are_likes ["thing", "many"]
  c_is_end : DefIn K "is_end" s_is_end ["thing", "many"]
  c_is_way : DefIn K "is_way" s_is_way ["thing", "givers", "takers"]
  c_are_parts : DefIn K "are_parts" s_are_parts ["givers", "takers", "ways"]
  c_liked_pairs : DefIn K "liked_pairs" s_liked_pairs ["places"]
  c_is_world : DefIn K "is_world" s_is_world ["thing"]
  c__law_cell : DefIn K "_law_cell" s__law_cell ["_law_script", "_law_k"]
  c__law_drawn : DefIn K "_law_drawn" s__law_drawn ["_law_script", "_law_k", "_law_many"]
  c__law_orders : DefIn K "_law_orders" s__law_orders ["_law_script", "_law_at", "_law_rows"]
  c__law_world : DefIn K "_law_world" s__law_world ["_law_script", "_law_at", "_law_most"]
  c__law_number : DefIn K "_law_number" s__law_number ["_law_thing", "_law_low", "_law_high"]
  c__law_is_place : DefIn K "_law_is_place" s__law_is_place ["_law_thing", "_law_many"]
  c__law_are_ways : DefIn K "_law_are_ways" s__law_are_ways ["_law_thing", "_law_many", "_law_size"]
  c__law_is_world : DefIn K "_law_is_world" s__law_is_world ["_law_thing"]
  c__law_spoilt : DefIn K "_law_spoilt" s__law_spoilt ["_law_script", "_law_at", "_law_thing", "_law_deep"]
  c__law_each : DefIn K "_law_each" s__law_each ["_law_thing"]
  c_law : DefIn K "law" s_law ["_law_script"]
  i_MOST_PLACES : ∃ t, PySem.W.nsIn K mainGlobals "MOST_PLACES" = some (some (.int 4 t))
  i_MOST : ∃ t, PySem.W.nsIn K mainGlobals "MOST" = some (some (.int 9 t))
  b : ∀ x ∈ bltNames, PySem.W.nsIn K mainGlobals x = some none
structure Defs (K : PySem.W.Frag) (mg : Str → Option Value) : Prop where
  c_is_whole : DefM K mg "is_whole" s_is_whole ["thing", "least", "most"]
  c_is_number : DefM K mg "is_number" s_is_number ["thing", "many"]
  c_is_long : DefM K mg "is_long" s_is_long ["thing", "least", "most"]
  c_are_likes : DefM K mg "are_likes" s_are_likes ["thing", "many"]
  c_is_end : DefM K mg "is_end" s_is_end ["thing", "many"]
  c_is_way : DefM K mg "is_way" s_is_way ["thing", "givers", "takers"]
  c_are_parts : DefM K mg "are_parts" s_are_parts ["givers", "takers", "ways"]
  c_liked_pairs : DefM K mg "liked_pairs" s_liked_pairs ["places"]
  c_is_world : DefM K mg "is_world" s_is_world ["thing"]
  c__law_cell : DefM K mg "_law_cell" s__law_cell ["_law_script", "_law_k"]
  c__law_drawn : DefM K mg "_law_drawn" s__law_drawn ["_law_script", "_law_k", "_law_many"]
  c__law_orders : DefM K mg "_law_orders" s__law_orders ["_law_script", "_law_at", "_law_rows"]
  c__law_world : DefM K mg "_law_world" s__law_world ["_law_script", "_law_at", "_law_most"]
  c__law_number : DefM K mg "_law_number" s__law_number ["_law_thing", "_law_low", "_law_high"]
  c__law_is_place : DefM K mg "_law_is_place" s__law_is_place ["_law_thing", "_law_many"]
  c__law_are_ways : DefM K mg "_law_are_ways" s__law_are_ways ["_law_thing", "_law_many", "_law_size"]
  c__law_is_world : DefM K mg "_law_is_world" s__law_is_world ["_law_thing"]
  c__law_spoilt : DefM K mg "_law_spoilt" s__law_spoilt ["_law_script", "_law_at", "_law_thing", "_law_deep"]
  c__law_each : DefM K mg "_law_each" s__law_each ["_law_thing"]
  c_law : DefM K mg "law" s_law ["_law_script"]
  i_MOST_PLACES : ∃ t, mg "MOST_PLACES" = some (.int 4 t)
  i_MOST : ∃ t, mg "MOST" = some (.int 9 t)
  b : ∀ x ∈ bltNames, mg x = none
theorem Ins.defs {K : PySem.W.Frag} {h : Heap} {mg : Str → Option Value} (I : Ins K) (X : K.In h) (G : h.Ns mainGlobals mg) : Defs K mg :=
  ⟨I.c_is_whole.mg X G, I.c_is_number.mg X G, I.c_is_long.mg X G, I.c_are_likes.mg X G, I.c_is_end.mg X G, I.c_is_way.mg X G, I.c_are_parts.mg X G, I.c_liked_pairs.mg X G, I.c_is_world.mg X G, I.c__law_cell.mg X G, I.c__law_drawn.mg X G, I.c__law_orders.mg X G, I.c__law_world.mg X G, I.c__law_number.mg X G, I.c__law_is_place.mg X G, I.c__law_are_ways.mg X G, I.c__law_is_world.mg X G, I.c__law_spoilt.mg X G, I.c__law_each.mg X G, I.c_law.mg X G, (let ⟨t, h⟩ := I.i_MOST_PLACES; ⟨t, PySem.W.mg_of X G h⟩), (let ⟨t, h⟩ := I.i_MOST; ⟨t, PySem.W.mg_of X G h⟩), fun x hx => PySem.W.mg_none_of X G (I.b x hx)⟩
section
variable {P : Program} {w : World} {K : PySem.W.Frag} {mg : Str → Option Value} {base : Heap}
theorem F_is_whole (D : Defs K mg) : FnD P w K mg base 1 "is_whole" 3 m_is_whole := by
  obtain ⟨f, fd, hm, F, hb⟩ := D.c_is_whole.ex
  exact fnD F fs_is_whole hb hm fun X hP hw hK hm' hb' C HF H => by subst hP; subst hw; subst hK; subst hm'; subst hb'; exact b_is_whole C D.b
theorem F_is_number (D : Defs K mg) : FnD P w K mg base 2 "is_number" 2 m_is_number := by
  obtain ⟨f, fd, hm, F, hb⟩ := D.c_is_number.ex
  exact fnD F fs_is_number hb hm fun X hP hw hK hm' hb' C HF H => by subst hP; subst hw; subst hK; subst hm'; subst hb'; exact b_is_number C D.b (F_is_whole D)
theorem F_is_long (D : Defs K mg) : FnD P w K mg base 1 "is_long" 3 m_is_long := by
  obtain ⟨f, fd, hm, F, hb⟩ := D.c_is_long.ex
  exact fnD F fs_is_long hb hm fun X hP hw hK hm' hb' C HF H => by subst hP; subst hw; subst hK; subst hm'; subst hb'; exact b_is_long C D.b
theorem F_are_likes (D : Defs K mg) : FnD P w K mg base 3 "are_likes" 2 m_are_likes := by
  obtain ⟨f, fd, hm, F, hb⟩ := D.c_are_likes.ex
  exact fnD F fs_are_likes hb hm fun X hP hw hK hm' hb' C HF H => by subst hP; subst hw; subst hK; subst hm'; subst hb'; exact b_are_likes C D.b (F_is_number D)
theorem F_is_end (D : Defs K mg) : FnD P w K mg base 4 "is_end" 2 m_is_end := by
  obtain ⟨f, fd, hm, F, hb⟩ := D.c_is_end.ex
  obtain ⟨t_MOST, h_MOST⟩ := D.i_MOST
  exact fnD F fs_is_end hb hm fun X hP hw hK hm' hb' C HF H => by subst hP; subst hw; subst hK; subst hm'; subst hb'; exact b_is_end C D.b (F_is_long D) (F_is_whole D) (F_are_likes D) h_MOST
theorem F_is_way (D : Defs K mg) : FnD P w K mg base 3 "is_way" 3 m_is_way := by
  obtain ⟨f, fd, hm, F, hb⟩ := D.c_is_way.ex
  obtain ⟨t_MOST, h_MOST⟩ := D.i_MOST
  exact fnD F fs_is_way hb hm fun X hP hw hK hm' hb' C HF H => by subst hP; subst hw; subst hK; subst hm'; subst hb'; exact b_is_way C D.b (F_is_long D) (F_is_number D) (F_is_whole D) h_MOST
theorem F_are_parts (D : Defs K mg) : FnD P w K mg base 5 "are_parts" 3 m_are_parts := by
  obtain ⟨f, fd, hm, F, hb⟩ := D.c_are_parts.ex
  obtain ⟨t_MOST_PLACES, h_MOST_PLACES⟩ := D.i_MOST_PLACES
  exact fnD F fs_are_parts hb hm fun X hP hw hK hm' hb' C HF H => by subst hP; subst hw; subst hK; subst hm'; subst hb'; exact b_are_parts C D.b (F_is_long D) (F_is_end D) (F_is_way D) h_MOST_PLACES
theorem F_liked_pairs (D : Defs K mg) : FnD P w K mg base 1 "liked_pairs" 1 m_liked_pairs := by
  obtain ⟨f, fd, hm, F, hb⟩ := D.c_liked_pairs.ex
  exact fnD F fs_liked_pairs hb hm fun X hP hw hK hm' hb' C HF H => by subst hP; subst hw; subst hK; subst hm'; subst hb'; exact b_liked_pairs C D.b
theorem F_is_world (D : Defs K mg) : FnD P w K mg base 6 "is_world" 1 m_is_world := by
  obtain ⟨f, fd, hm, F, hb⟩ := D.c_is_world.ex
  exact fnD F fs_is_world hb hm fun X hP hw hK hm' hb' C HF H => by subst hP; subst hw; subst hK; subst hm'; subst hb'; exact b_is_world C D.b (F_liked_pairs D) (F_is_long D) (F_are_parts D)
theorem F__law_cell (D : Defs K mg) : FnD P w K mg base 1 "_law_cell" 2 m__law_cell := by
  obtain ⟨f, fd, hm, F, hb⟩ := D.c__law_cell.ex
  exact fnD F fs__law_cell hb hm fun X hP hw hK hm' hb' C HF H => by subst hP; subst hw; subst hK; subst hm'; subst hb'; exact b__law_cell C D.b
theorem F__law_drawn (D : Defs K mg) : FnD P w K mg base 2 "_law_drawn" 3 m__law_drawn := by
  obtain ⟨f, fd, hm, F, hb⟩ := D.c__law_drawn.ex
  exact fnD F fs__law_drawn hb hm fun X hP hw hK hm' hb' C HF H => by subst hP; subst hw; subst hK; subst hm'; subst hb'; exact b__law_drawn C D.b (F__law_cell D)
theorem F__law_orders (D : Defs K mg) : FnD P w K mg base 3 "_law_orders" 3 m__law_orders := by
  obtain ⟨f, fd, hm, F, hb⟩ := D.c__law_orders.ex
  exact fnD F fs__law_orders hb hm fun X hP hw hK hm' hb' C HF H => by subst hP; subst hw; subst hK; subst hm'; subst hb'; exact b__law_orders C D.b (F__law_drawn D)
theorem F__law_world (D : Defs K mg) : FnD P w K mg base 4 "_law_world" 3 m__law_world := by
  obtain ⟨f, fd, hm, F, hb⟩ := D.c__law_world.ex
  exact fnD F fs__law_world hb hm fun X hP hw hK hm' hb' C HF H => by subst hP; subst hw; subst hK; subst hm'; subst hb'; exact b__law_world C D.b (F__law_orders D) (F__law_drawn D)
theorem F__law_number (D : Defs K mg) : FnD P w K mg base 1 "_law_number" 3 m__law_number := by
  obtain ⟨f, fd, hm, F, hb⟩ := D.c__law_number.ex
  exact fnD F fs__law_number hb hm fun X hP hw hK hm' hb' C HF H => by subst hP; subst hw; subst hK; subst hm'; subst hb'; exact b__law_number C D.b
theorem F__law_is_place (D : Defs K mg) : FnD P w K mg base 2 "_law_is_place" 2 m__law_is_place := by
  obtain ⟨f, fd, hm, F, hb⟩ := D.c__law_is_place.ex
  exact fnD F fs__law_is_place hb hm fun X hP hw hK hm' hb' C HF H => by subst hP; subst hw; subst hK; subst hm'; subst hb'; exact b__law_is_place C D.b (F__law_number D)
theorem F__law_are_ways (D : Defs K mg) : FnD P w K mg base 2 "_law_are_ways" 3 m__law_are_ways := by
  obtain ⟨f, fd, hm, F, hb⟩ := D.c__law_are_ways.ex
  exact fnD F fs__law_are_ways hb hm fun X hP hw hK hm' hb' C HF H => by subst hP; subst hw; subst hK; subst hm'; subst hb'; exact b__law_are_ways C D.b (F__law_number D)
theorem F__law_is_world (D : Defs K mg) : FnD P w K mg base 3 "_law_is_world" 1 m__law_is_world := by
  obtain ⟨f, fd, hm, F, hb⟩ := D.c__law_is_world.ex
  exact fnD F fs__law_is_world hb hm fun X hP hw hK hm' hb' C HF H => by subst hP; subst hw; subst hK; subst hm'; subst hb'; exact b__law_is_world C D.b (F__law_are_ways D) (F__law_is_place D)
theorem R__law_spoilt (D : Defs K mg) : ∀ i, FnD P w K mg base (3 + i) "_law_spoilt" 4 (recD (fun m => runB (g__law_spoilt m) 7) i)
  | 0 => by
    obtain ⟨f, fd, hm, F, hb⟩ := D.c__law_spoilt.ex
    exact (fnD (k := 2) F fs__law_spoilt hb hm fun X hP hw hK hm' hb' C HF H => dss_none).imp fun ds d _ h => by cases h
  | i + 1 => by
    obtain ⟨f, fd, hm, F, hb⟩ := D.c__law_spoilt.ex
    have ih : FnD P w K mg base (3 + i) _ _ _ := R__law_spoilt D i
    exact fnD (k := 3 + i) F fs__law_spoilt hb hm fun X hP hw hK hm' hb' C HF H => by subst hP; subst hw; subst hK; subst hm'; subst hb'; exact b__law_spoilt (Nat.le_trans (by decide) (Nat.le_add_right _ _)) C D.b (F__law_drawn D) (ih) (Nat.le_refl _)
theorem F__law_spoilt (D : Defs K mg) : FnD P w K mg base 9 "_law_spoilt" 4 m__law_spoilt := R__law_spoilt D 6
theorem R__law_each (D : Defs K mg) : ∀ i, FnD P w K mg base (1 + i) "_law_each" 1 (recD (fun m => runB (g__law_each m) 3) i)
  | 0 => by
    obtain ⟨f, fd, hm, F, hb⟩ := D.c__law_each.ex
    exact (fnD (k := 0) F fs__law_each hb hm fun X hP hw hK hm' hb' C HF H => dss_none).imp fun ds d _ h => by cases h
  | i + 1 => by
    obtain ⟨f, fd, hm, F, hb⟩ := D.c__law_each.ex
    have ih : FnD P w K mg base (1 + i) _ _ _ := R__law_each D i
    exact fnD (k := 1 + i) F fs__law_each hb hm fun X hP hw hK hm' hb' C HF H => by subst hP; subst hw; subst hK; subst hm'; subst hb'; exact b__law_each (Nat.le_trans (by decide) (Nat.le_add_right _ _)) C D.b (ih) (Nat.le_refl _)
theorem F__law_each (D : Defs K mg) : FnD P w K mg base 7 "_law_each" 1 m__law_each := R__law_each D 6
end
theorem law_ok {P : Program} {w : World} {K : PySem.W.Frag} {h : Heap} {mg : Str → Option Value} {fa : Addr} (X : K.In h) (G : h.Ns mainGlobals mg) (hfa : mg "law" = some (.ref fa)) (I : Ins K) : ∃ fd : FuncData, (∀ (s : Shared) (v : Value), BindsTo s fd ⟨[v], []⟩ [("_law_script", v)]) ∧ ∀ base : Heap, K.In base → base.Ns mainGlobals mg → FnOk P w K mg base CX0 10 fa fd ["_law_script"] (spD K 1 m_law) := by
  have D := I.defs X G
  obtain ⟨f, fd, hm, F, hb⟩ := D.c_law.ex
  rw [hfa] at hm; cases hm
  refine ⟨fd, fun s v => ?_, fun base _ _ => fnOkD F fs_law fun X hP hw hK hm' hb' C HF H => by subst hP; subst hw; subst hK; subst hm'; subst hb'; exact b_law C D.b (F__law_world D) (F__law_drawn D) (F__law_spoilt D) (F_is_world D) (F__law_is_world D) (F__law_each D)⟩
  obtain ⟨oc, od, kV, doc, pm, an, cdv, ct, osl, rfl, lk, hcd⟩ := F.ex
  exact .of_eq rfl
theorem walk {l : PySem.W.OpenLaw} {q : Program} {loose : List Str} {XP : (Str → Option Value) → Heap → Prop} {YP : World → Heap → Prop} {d : DefRec} {K : Params → PySem.W.Frag} (hn : l.most = some 63) (hdf : d.params.defaults = []) (hname : d.name = "law")
    (hY : ∀ (w : World) (h : Heap), YP w h → (K w.params).In h) (hI : ∀ w : World, Ins (K w.params)) (main : ∀ ns : List Int, ns.length ≤ 63 → m_law [.list (ns.map PyData.int)] = some (.bool true)) :
    PySem.W.WalkO q loose XP YP l.row.toRowW d [] (fun f vs => PySem.call f vs) :=
  L2.walk_of (n := 63) (k := 10) (x := "_law_script") (CX := fun _ => CX0) (sp := fun w => spD (K w.params) 1 m_law) hn (by decide) hdf ⟨rfl, by decide, by decide⟩ hY (fun w mg fa h KX G hmg => law_ok KX G (by rw [← hname]; exact hmg) (hI w)) (fun _ _ a ns hl _ hS => spD_script hS (main ns hl)) fun _ _ _ _ _ z => z
end K1
set_option Elab.async false
set_option linter.all false
set_option maxRecDepth 100000
set_option maxHeartbeats 4000000
namespace K1
open PySem L2 Dl PySem.Spec PyProof.Rows
theorem chain_le {fa fb fc : Dl.Env → Option D} {ρ : Dl.Env} {a i b : Int} (ha : fa ρ = some (.int a)) (hb : fb ρ = some (.int i)) (hc : fc ρ = some (.int b)) : fChain gLe gLe fa fb fc ρ = some (.bool (decide (a ≤ i) && decide (i ≤ b))) := by
  simp only [fChain, ha, hb, hc, Option.bind_some, gLe, g2I, if_true]
  by_cases h : a ≤ i <;> simp [h]
theorem gSub_int (i j : Int) : Dl.gSub (.int i) (.int j) = some (.int (i - j)) := rfl
theorem gAdd_int (i j : Int) : Dl.gAdd (.int i) (.int j) = some (.int (i + j)) := rfl
theorem all_val (d : D) : Slot.all (.val d) = some d := rfl
theorem all_own (ds : List D) : Slot.all (.own ds) = some (.list ds) := rfl
theorem all_non : Slot.all .non = none := rfl
theorem frz_val (d : D) : Slot.frz (.val d) = some d := rfl
theorem frz_own (ds : List D) : Slot.frz (.own ds) = none := rfl
theorem frz_non : Slot.frz .non = none := rfl
local macro_rules | `(tactic| simp! [$ts,*]) => `(tactic| simp only [runB, gSeq, gIf, gRet, gNx, fOrT, fAndT, fNotT, fB, gB, fIs, fVar, fC, fAnd, fOr, fNot, gNot, f1, f2, gSub_int, gAdd_int, fCons, fNil, fCall, fCB, fCBF, gLen, gItems, oneOf, seqOf, vAll, all_val, all_own, all_non, frz_val, frz_own, frz_non, fSeq, fLs, gTuple, fTup, fLst, gIx,   List.map_cons, List.map_nil, List.cons_append, List.nil_append, List.length_cons, List.length_nil, List.replicate, List.getElem?_cons_zero, List.getElem?_cons_succ, Option.getD_some, Option.getD_none, Option.bind_some, Option.bind_none, Option.map_some, Option.map_none, Nat.reduceAdd, Nat.reduceSub, Nat.zero_add, Nat.sub_self, if_true, reduceIte, $ts,*])
theorem e_is_whole {d : D} (h : noDic d = true) (a b : Int) : m_is_whole [d, .int a, .int b] = some (.bool (whole a b d)) := by
  simp! [m_is_whole, g_is_whole, kI h, kB h]
  cases d <;> simp [isI, isB, whole]
  rw [chain_le rfl rfl rfl]
theorem e_is_number {d : D} (h : noDic d = true) (n : Int) : m_is_number [d, .int n] = some (.bool (whole 0 (n - 1) d)) := by
  simp! [m_is_number, g_is_number, e_is_whole h]
theorem e_law_number {d : D} (h : noDic d = true) (a b : Int) : m__law_number [d, .int a, .int b] = some (.bool (whole a b d)) := by
  simp! [m__law_number, g__law_number, kI h, kB h]
  cases d <;> simp [isI, isB, whole]
  rw [chain_le rfl rfl rfl]
def long (a b : Int) : D → Bool | .tuple ds => decide (a ≤ (ds.length : Int)) && decide ((ds.length : Int) ≤ b) | _ => false
theorem e_is_long {d : D} (h : noDic d = true) (a b : Int) : m_is_long [d, .int a, .int b] = some (.bool (long a b d)) := by
  simp! [m_is_long, g_is_long, kT h]
  cases d <;> simp [isT, long]
  rw [chain_le rfl (i := _) rfl rfl]
def toI : D → Int | .int i => i | _ => 0
theorem whole_int {a b : Int} {d : D} (h : whole a b d = true) : d = .int (toI d) ∧ a ≤ toI d ∧ toI d ≤ b := by
  cases d <;> simp [whole] at h
  exact ⟨rfl, h⟩
theorem whole_ints {a b : Int} : ∀ {ls : List D}, ls.all (whole a b) = true → ls = (ls.map toI).map PyData.int
  | [], _ => rfl
  | d :: ls, h => by
    rw [List.all_cons, Bool.and_eq_true] at h
    rw [List.map_cons, List.map_cons, ← (whole_int h.1).1, ← whole_ints h.2]
def likesOk (n : Int) : D → Bool | .tuple ls => ls.all (whole 0 (n - 1)) && decide ((ls.map toI).Nodup) | _ => false
theorem gEqD_int (i j : Int) : gEqD (.int i) (.int j) = some (.bool (decide (i = j))) := by
  simp [gEqD, gEq, SeqAt.shaped, PyData.canLay0, PyData.depth, PyData.eqv]
  rfl
theorem gNeD_int (i j : Int) : gNeD (.int i) (.int j) = some (.bool (!decide (i = j))) := by
  simp [gNeD, gNe, SeqAt.shaped, PyData.canLay0, PyData.depth, PyData.eqv]
  rfl
theorem lenset_eq {ls : List D} {a b : Int} (h : ls.all (whole a b) = true) (hl : ls.length ≤ 100) : f2 gEqD (f1 gLenSet (fun _ => some (.tuple ls))) (fCB gLen (fCons (fun _ => some (.tuple ls)) fNil)) [] = some (.bool (decide ((ls.map toI).Nodup))) := by
  have e := whole_ints h
  have e1 : gLenSet (.tuple ls) = some (.int (many (ls.map toI))) := by
    simp only [gLenSet, tupInts]
    conv => lhs; rw [e]
    rw [intsOf_map, Option.bind_some, if_pos]
    rw [List.length_map]
    exact Nat.lt_of_le_of_lt (Nat.add_le_add_right hl 1) (by decide)
  simp! [e1, gEqD_int]
  have := many_nodup (ls.map toI)
  rw [List.length_map] at this
  simp only [← this, Int.ofNat_inj, Option.some.injEq, PyData.bool.injEq]
theorem fG_0 (r : Dl.Env) (d : D) : fG 0 (none :: r) d = some (some d :: r) := by simp [fG, isFree]
theorem fComp_map {cs : List Nat} {fi : Dl.Env → Option (List D)} {ds : List D} {te : Dl.Env → Option D} {h : D → D} {ρ : Dl.Env} (hfi : fi ρ = some ds) (hl : ds.length ≤ 4000) (hh : ∀ d ∈ ds, te (some d :: cs.map fun j => (ρ[j]?).getD none) = some (h d)) : fComp 1 cs fi (fG 0) (fun _ => some true) te ρ = some (ds.map h) := by
  simp only [fComp, hfi, Option.bind_some, capsD, List.replicate, List.cons_append, List.nil_append]
  rw [compL_map (h := h) fun d hd => ⟨_, fG_0 _ d, hh d hd⟩, Option.bind_some, small_of (by rw [List.length_map]; exact hl)]
theorem fComp_filter {cs : List Nat} {fi : Dl.Env → Option (List D)} {ds : List D} {tt : Dl.Env → Option Bool} {te : Dl.Env → Option D} {p : D → Bool} {h : D → D} {ρ : Dl.Env} (hfi : fi ρ = some ds) (hl : ds.length ≤ 4000)
    (hp : ∀ d ∈ ds, tt (some d :: cs.map fun j => (ρ[j]?).getD none) = some (p d)) (hh : ∀ d ∈ ds, p d = true → te (some d :: cs.map fun j => (ρ[j]?).getD none) = some (h d)) : fComp 1 cs fi (fG 0) tt te ρ = some ((ds.filter p).map h) := by
  simp only [fComp, hfi, Option.bind_some, capsD, List.replicate, List.cons_append, List.nil_append]
  rw [compL_filter (p := p) (h := h) fun d hd => ⟨_, fG_0 _ d, hp d hd, hh d hd⟩, Option.bind_some, small_of (by rw [List.length_map]; exact Nat.le_trans (List.length_filter_le _ _) hl)]
theorem e_are_likes {b k : Nat} {d : D} (h : Fit b k d) (hb : b ≤ 100) (n : Int) : m_are_likes [d, .int n] = some (.bool (likesOk n d)) := by
  simp! [m_are_likes, g_are_likes, kT h.nd]
  cases d <;> try (simp [isT, likesOk]; done)
  rename_i ls
  obtain ⟨j, rfl, hl, hf⟩ := h.of_tup
  have c := fComp_map (cs := [1]) (fi := fSeq (fVar 0)) (te := (fCall 2 m_is_number (fCons (fVar 0) (fCons (fVar 1) fNil)))) (h := fun x => .bool (whole 0 (n - 1) x)) (ρ := [some (.tuple ls), some (.int n)]) rfl (by omega) fun x hx => by simp! [e_is_number (hf x hx).nd]
  simp! [isT, Bool.not_true, Bool.false_eq_true, c, gAll_map]
  cases e : ls.all (whole 0 (n - 1)) with
  | false => simp [likesOk, e]
  | true =>
    have := lenset_eq e (Nat.le_trans hl hb)
    simp only [f2, f1, fCB, fCons, fNil, Option.bind_some, Option.map_some] at this
    simp! [likesOk, e, Bool.not_true, Bool.false_eq_true, Bool.true_and]
    simp only [gLen, gItems, oneOf, Option.bind_some, seqOf, Option.map_some] at this
    simp! [this]
def placeOk (n : Int) : D → Bool | .tuple ds => decide (ds.length = 2) && (whole 0 9 (ds.getD 0 .none) && likesOk n (ds.getD 1 .none)) | _ => false
def wayOk (g t : Int) : D → Bool | .tuple ds => decide (ds.length = 3) && (whole 0 (g - 1) (ds.getD 0 .none) && (whole 0 (t - 1) (ds.getD 1 .none) && whole 1 9 (ds.getD 2 .none))) | _ => false
theorem long_n (n : Nat) (ds : List D) : long (n : Int) (n : Int) (.tuple ds) = decide (ds.length = n) := by
  simp only [long]
  by_cases h : ds.length = n
  · simp [h]
  · rw [decide_eq_false h, Bool.and_eq_false_iff, decide_eq_false_iff_not, decide_eq_false_iff_not]; omega
theorem getD_mem {ds : List D} {i : Nat} (h : i < ds.length) : ds.getD i .none ∈ ds := by simp [List.getD, h]
theorem e_is_end {b k : Nat} {d : D} (h : Fit b k d) (hb : b ≤ 100) (n : Int) : m_is_end [d, .int n] = some (.bool (placeOk n d)) := by
  simp! [m_is_end, g_is_end, e_is_long h.nd]
  cases d <;> try (simp [long, placeOk]; done)
  rename_i ds
  obtain ⟨j, rfl, hl, hf⟩ := h.of_tup
  rw [show long 2 2 (.tuple ds) = decide (ds.length = 2) from long_n 2 ds]
  by_cases e : ds.length = 2
  · have f0 := hf _ (getD_mem (i := 0) (by omega))
    have f1 := hf _ (getD_mem (i := 1) (by omega))
    simp! [e, decide_true, atI_0 (show 0 < ds.length by omega), atI_1 (show 1 < ds.length by omega), e_is_whole f0.nd, e_are_likes f1 hb, placeOk]
    cases whole 0 9 (ds.getD 0 .none) <;> simp
  · simp [e, placeOk]
theorem e_is_way {b k : Nat} {d : D} (h : Fit b k d) (hb : b ≤ 100) (g t : Int) : m_is_way [d, .int g, .int t] = some (.bool (wayOk g t d)) := by
  simp! [m_is_way, g_is_way, e_is_long h.nd]
  cases d <;> try (simp [long, wayOk]; done)
  rename_i ds
  obtain ⟨j, rfl, hl, hf⟩ := h.of_tup
  rw [show long 3 3 (.tuple ds) = decide (ds.length = 3) from long_n 3 ds]
  by_cases e : ds.length = 3
  · have f0 := hf _ (getD_mem (i := 0) (by omega))
    have f1 := hf _ (getD_mem (i := 1) (by omega))
    have f2' := hf _ (getD_mem (i := 2) (by omega))
    simp! [e, decide_true, Bool.not_true, Bool.false_eq_true, atI_0 (show 0 < ds.length by omega), atI_1 (show 1 < ds.length by omega), atI_2 (show 2 < ds.length by omega), e_is_whole f2'.nd, e_is_number f0.nd, e_is_number f1.nd, wayOk]
    cases whole 0 (g - 1) (ds.getD 0 .none) <;> cases whole 0 (t - 1) (ds.getD 1 .none) <;> simp
  · simp [e, wayOk]
def seqD : D → List D | .tuple ds => ds | _ => []
def sideOk (d : D) : Bool := long 1 4 d
def partsOk (g t w : D) : Bool := sideOk g && (sideOk t && ((seqD g).all (placeOk (seqD t).length) && ((seqD t).all (placeOk (seqD g).length) && (isT w && (seqD w).all (wayOk (seqD g).length (seqD t).length)))))
theorem long_tup {a b : Int} {d : D} (h : long a b d = true) : d = .tuple (seqD d) := by cases d <;> first | rfl | cases h
theorem e_are_parts {b k : Nat} {g t w : D} (hg : Fit b k g) (ht : Fit b k t) (hw : Fit b k w) (hb : b ≤ 100) : m_are_parts [g, t, w] = some (.bool (partsOk g t w)) := by
  simp! [m_are_parts, g_are_parts, e_is_long hg.nd, e_is_long ht.nd, kT hw.nd]
  unfold partsOk sideOk
  cases e1 : long 1 4 g with
  | false => simp
  | true =>
    cases e2 : long 1 4 t with
    | false => simp
    | true =>
      obtain ⟨gs, rfl⟩ : ∃ gs, g = .tuple gs := ⟨_, long_tup e1⟩
      obtain ⟨ts, rfl⟩ : ∃ ts, t = .tuple ts := ⟨_, long_tup e2⟩
      obtain ⟨j, rfl, hgl, hgf⟩ := hg.of_tup
      obtain ⟨j', hj, htl, htf⟩ := ht.of_tup
      have c1 := fComp_map (cs := [1]) (fi := fSeq (fVar 0)) (te := (fCall 2 m_is_end (fCons (fVar 0) (fCons (fCB gLen (fCons (fVar 1) fNil)) fNil)))) (h := fun x => .bool (placeOk ts.length x)) (ρ := [some (.tuple gs), some (.tuple ts), some w]) rfl (by omega) fun x hx => by simp! [e_is_end (hgf x hx) hb]
      have c2 := fComp_map (cs := [0]) (fi := fSeq (fVar 1)) (te := (fCall 2 m_is_end (fCons (fVar 0) (fCons (fCB gLen (fCons (fVar 1) fNil)) fNil)))) (h := fun x => .bool (placeOk gs.length x)) (ρ := [some (.tuple gs), some (.tuple ts), some w]) rfl (by omega) fun x hx => by simp! [e_is_end (htf x hx) hb]
      simp! [Bool.not_true, Bool.false_eq_true, c1, gAll_map, seqD, Bool.true_and]
      cases e3 : gs.all (placeOk ts.length) with
      | false => simp
      | true =>
        simp! [Bool.not_true, Bool.false_eq_true, c2, gAll_map, Bool.true_and]
        cases e4 : ts.all (placeOk gs.length) with
        | false => simp
        | true =>
          cases hT : isT w with
          | false => simp! [Bool.not_true, Bool.false_eq_true, kT hw.nd, hT, Bool.false_and, Bool.and_false]
          | true =>
          obtain ⟨ws, rfl⟩ : ∃ ws, w = .tuple ws := by cases w <;> first | exact ⟨_, rfl⟩ | cases hT
          obtain ⟨j2, hj2, hwl, hwf⟩ := hw.of_tup
          have c3 := fComp_map (cs := [0, 1]) (fi := fSeq (fVar 2)) (te := (fCall 3 m_is_way (fCons (fVar 0) (fCons (fCB gLen (fCons (fVar 1) fNil)) (fCons (fCB gLen (fCons (fVar 2) fNil)) fNil))))) (h := fun x => .bool (wayOk gs.length ts.length x)) (ρ := [some (.tuple gs), some (.tuple ts), some (.tuple ws)]) rfl (by omega) fun x hx => by simp! [e_is_way (hwf x hx) hb]
          simp! [Bool.not_true, Bool.false_eq_true, c3, gAll_map, Bool.true_and, kT hw.nd, isT]
/-! rows of ints as data -/
theorem eqv_ints : ∀ (a b : List Int), PyData.eqvAll (a.map PyData.int) (b.map PyData.int) = decide (a = b)
  | [], [] => by simp [PyData.eqvAll]
  | [], _ :: _ => by simp [PyData.eqvAll]
  | _ :: _, [] => by simp [PyData.eqvAll]
  | i :: a, j :: b => by
    rw [List.map_cons, List.map_cons, PyData.eqvAll, eqv_ints a b]
    by_cases h : i = j
    · subst h; simp [PyData.eqv]
    · simp [PyData.eqv, h]
theorem eqv_rows : ∀ (a b : List (List Int)), PyData.eqvAll (a.map rowD) (b.map rowD) = decide (a = b)
  | [], [] => by simp [PyData.eqvAll]
  | [], _ :: _ => by simp [PyData.eqvAll]
  | _ :: _, [] => by simp [PyData.eqvAll]
  | x :: a, y :: b => by
    rw [List.map_cons, List.map_cons, PyData.eqvAll, eqv_rows a b, rowD, rowD, PyData.eqv, eqv_ints]
    by_cases h : x = y
    · subst h; simp
    · simp [h]
theorem fit_int {b k : Nat} (i : Int) : Fit b k (.int i) := .leaf trivial
theorem fit_row {b k : Nat} {r : List Int} (h : r.length ≤ b) : Fit b (k + 1) (rowD r) := .tup (by rw [List.length_map]; exact h) fun x hx => by
  obtain ⟨i, _, rfl⟩ := List.mem_map.mp hx
  exact fit_int i
theorem fit_rows {b k : Nat} {a : List (List Int)} (h : a.length ≤ b) (hr : ∀ r ∈ a, r.length ≤ b) : Fit b (k + 2) (.list (a.map rowD)) := .lst (by rw [List.length_map]; exact h) fun x hx => by
  obtain ⟨r, hr', rfl⟩ := List.mem_map.mp hx
  exact fit_row (hr r hr')
theorem exists_bd (a : List (List Int)) : ∃ b, a.length ≤ b ∧ ∀ r ∈ a, r.length ≤ b := by
  induction a with
  | nil => exact ⟨0, Nat.le_refl _, fun r h => by cases h⟩
  | cons x a ih =>
    obtain ⟨b, h1, h2⟩ := ih
    refine ⟨b + 1 + x.length, by rw [List.length_cons]; omega, fun r hr => ?_⟩
    rcases List.mem_cons.mp hr with rfl | hr
    · omega
    · have := h2 r hr; omega
theorem shaped_rows (a : List (List Int)) : SeqAt.shaped (.list (a.map rowD)) = true := by
  obtain ⟨b, h1, h2⟩ := exists_bd a
  exact (fit_rows (b := b) (k := 0) h1 h2).shaped (by decide)
theorem gEqD_rows (a b : List (List Int)) : gEqD (.list (a.map rowD)) (.list (b.map rowD)) = some (.bool (decide (a = b))) := by
  simp only [gEqD, gEq, shaped_rows, and_self, if_true, PyData.eqv, eqv_rows, Option.map_some]
/-! what the places like -/
def likeD (d : D) : List Int := (seqD ((seqD d).getD 1 .none)).map toI
theorem placeOk_like {n : Int} {d : D} (h : placeOk n d = true) : ∃ a ds, d = .tuple ds ∧ ds.length = 2 ∧ ds.getD 0 .none = .int a ∧ 0 ≤ a ∧ a ≤ 9 ∧ ds.getD 1 .none = .tuple ((likeD d).map PyData.int) ∧ (likeD d).Nodup ∧ ∀ j ∈ likeD d, 0 ≤ j ∧ j ≤ n - 1 := by
  cases d <;> simp only [placeOk] at h <;> try cases h
  rename_i ds
  simp only [Bool.and_eq_true, decide_eq_true_eq] at h
  obtain ⟨h1, h2, h3⟩ := h
  have e : likeD (.tuple ds) = (seqD (ds.getD 1 .none)).map toI := rfl
  rw [e]
  generalize hl : ds.getD 1 .none = l at h3
  cases l <;> simp only [likesOk] at h3 <;> try cases h3
  rename_i ls
  simp only [Bool.and_eq_true, decide_eq_true_eq] at h3
  obtain ⟨w1, w2, w3⟩ := whole_int h2
  refine ⟨_, ds, rfl, h1, w1, w2, w3, ?_, h3.2, fun j hj => ?_⟩
  · rw [show seqD (.tuple ls) = ls from rfl, ← whole_ints h3.1]; exact hl
  · obtain ⟨x, hx, rfl⟩ := List.mem_map.mp hj
    exact (whole_int (List.all_eq_true.mp h3.1 x hx)).2
def prs (k : Nat) : List D → List (List Int) | [] => [] | p :: ps => (likeD p).map (fun j => [((k : Nat) : Int), j]) ++ prs (k + 1) ps
/-- how many -/
theorem nodup_bd : ∀ (n : Nat) {l : List Int}, l.Nodup → (∀ j ∈ l, 0 ≤ j ∧ j ≤ (n : Int) - 1) → l.length ≤ n := by
  intro n l hn h
  have hs : l.map Int.toNat ⊆ List.range n := fun x hx => by
    obtain ⟨j, hj, rfl⟩ := List.mem_map.mp hx
    have := h j hj
    exact List.mem_range.mpr (by omega)
  have hnd : (l.map Int.toNat).Nodup := by
    refine List.pairwise_map.mpr (hn.imp_of_mem fun {x y} hx hy hne e => hne ?_)
    have := h x hx; have := h y hy; omega
  have := List.Nodup.length_le_of_subset hnd hs
  simpa using this
/-! the liked pairs -/
theorem prs_len {n : Nat} : ∀ {ps : List D} {k : Nat}, (∀ p ∈ ps, placeOk n p = true) → (prs k ps).length ≤ ps.length * n
  | [], k, _ => Nat.zero_le _
  | p :: ps, k, h => by
    obtain ⟨_, _, _, _, _, _, _, _, hn, hr⟩ := placeOk_like (h p List.mem_cons_self)
    have h1 := nodup_bd n hn hr
    have h2 := prs_len (ps := ps) (k := k + 1) fun q hq => h q (List.mem_cons_of_mem _ hq)
    rw [prs, List.length_append, List.length_map, List.length_cons, Nat.succ_mul]
    omega
def pB : SEnv → Option Out := gExt 1 [3, 2] (fComp 1 [2] (fSeq (f2 gIx (fVar 3) (fC (.int 1)))) (fG 0) (fun _ => some true) (fTup (fCons (fVar 1) (fCons (fVar 0) fNil))))
theorem pB_run {n : Nat} {p x : D} {acc : List D} {k : Nat} (hp : placeOk n p = true) (hn : n ≤ 100) (ha : acc.length ≤ 1000) : pB [.val x, .own acc, .val (.int (k : Nat)), .val p] = some (.nx [.val x, .own (acc ++ ((likeD p).map fun j => rowD [((k : Nat) : Int), j])), .val (.int (k : Nat)), .val p]) := by
  obtain ⟨a, ds, rfl, hl, _, _, _, h1, hnd, hr⟩ := placeOk_like hp
  have hb := nodup_bd n hnd hr
  generalize likeD (.tuple ds) = ls at *
  have c := fComp_map (cs := [2]) (fi := fSeq (f2 gIx (fVar 3) (fC (.int 1)))) (te := fTup (fCons (fVar 1) (fCons (fVar 0) fNil))) (h := fun y => .tuple [.int (k : Nat), y]) (ρ := [some x, none, some (.int (k : Nat)), some (.tuple ds)]) (ds := ls.map PyData.int)
    (by simp! [atI_1 (show 1 < ds.length by omega), h1]) (by rw [List.length_map]; omega) fun y hy => by
      simp! [small_of (show [PyData.int (k : Nat), y].length ≤ 4000 by simp)]
  have hh : hand [3, 2] 0 [Slot.val x, .own acc, .val (.int (k : Nat)), .val (.tuple ds)] = [Slot.val x, .own acc, .val (.int (k : Nat)), .val (.tuple ds)] := rfl
  simp only [pB, gExt, hh, vFrz, List.map_cons, List.map_nil, Slot.frz, c, Option.bind_some, gMut, List.getElem?_cons_succ, List.getElem?_cons_zero]
  rw [if_pos]
  · simp only [Option.map_some, List.set_cons_succ, List.set_cons_zero, List.map_map]
    rfl
  · simp only [List.length_map]
    exact Nat.le_trans (show acc.length + ls.length ≤ 1100 by omega) (by decide)
theorem for_pairs {n : Nat} {x : D} (hn : n ≤ 100) : ∀ {ps : List D} {k : Nat} {acc : List D} {s2 s3 : Slot}, (∀ p ∈ ps, placeOk n p = true) → acc.length + ps.length * n ≤ 1000 →
    ∃ t2 t3, forD (fSG2 2 3) pB (enumD k ps) [.val x, .own acc, s2, s3] = some (.nx [.val x, .own (acc ++ (prs k ps).map rowD), t2, t3])
  | [], k, acc, s2, s3, _, _ => ⟨s2, s3, by simp [enumD, forD, prs]⟩
  | p :: ps, k, acc, s2, s3, h, hl => by
    have hp := h p List.mem_cons_self
    obtain ⟨_, _, _, _, _, _, _, _, hnd, hr⟩ := placeOk_like hp
    have hb := nodup_bd n hnd hr
    rw [List.length_cons, Nat.succ_mul] at hl
    obtain ⟨t2, t3, e⟩ := for_pairs hn (x := x) (ps := ps) (k := k + 1) (acc := acc ++ ((likeD p).map fun j => rowD [((k : Nat) : Int), j])) (s2 := .val (.int (k : Nat))) (s3 := .val p) (fun q hq => h q (List.mem_cons_of_mem _ hq)) (by rw [List.length_append, List.length_map]; omega)
    refine ⟨t2, t3, ?_⟩
    have hs : fSG2 2 3 [.val x, .own acc, s2, s3] (.tuple [.int (k : Nat), p]) = some [.val x, .own acc, .val (.int (k : Nat)), .val p] := rfl
    simp only [enumD, forD, hs, Option.bind_some, pB_run hp hn (show acc.length ≤ 1000 by omega)]
    rw [e]
    simp [prs, List.map_map, Function.comp_def]
theorem e_liked {n : Nat} {ps : List D} (h : ∀ p ∈ ps, placeOk n p = true) (hn : n ≤ 100) (hl : ps.length * n ≤ 1000) : m_liked_pairs [.tuple ps] = some (.list ((prs 0 ps).map rowD)) := by
  obtain ⟨t2, t3, e⟩ := for_pairs hn (x := .tuple ps) (k := 0) (acc := []) (s2 := .non) (s3 := .non) h (by simpa using hl)
  have hs : gSetF 1 [] (fLst fNil) [Slot.val (.tuple ps), .non, .non, .non] = some (.nx [.val (.tuple ps), .own [], .non, .non]) := rfl
  have hh : hand [0] 0 [Slot.val (.tuple ps), .own [], .non, .non] = [Slot.val (.tuple ps), .own [], .non, .non] := rfl
  have hf : fEnum (fCons (fVar 0) fNil) (vFrz [Slot.val (.tuple ps), .own [], .non, .non]) = some (enumD 0 ps) := rfl
  simp! [m_liked_pairs, g_liked_pairs, hs, gFor, hh, hf]
  rw [show gExt 1 [3, 2] (fComp 1 [2] (fSeq (f2 gIx (fVar 3) (fC (.int 1)))) (fG 0) (fun _ => some true) (fTup (fCons (fVar 1) (fCons (fVar 0) fNil)))) = pB from rfl, e]
  simp! []
def wpair (d : D) : List Int := [toI ((seqD d).getD 0 .none), toI ((seqD d).getD 1 .none)]
theorem wayOk_pair {g t : Int} {d : D} (h : wayOk g t d = true) : ∃ ds c, d = .tuple ds ∧ ds.length = 3 ∧ ds.getD 0 .none = .int (toI (ds.getD 0 .none)) ∧ ds.getD 1 .none = .int (toI (ds.getD 1 .none)) ∧ ds.getD 2 .none = .int c ∧ 1 ≤ c ∧ c ≤ 9 ∧
    0 ≤ toI (ds.getD 0 .none) ∧ toI (ds.getD 0 .none) ≤ g - 1 ∧ 0 ≤ toI (ds.getD 1 .none) ∧ toI (ds.getD 1 .none) ≤ t - 1 := by
  cases d <;> simp only [wayOk] at h <;> try cases h
  rename_i ds
  simp only [Bool.and_eq_true, decide_eq_true_eq] at h
  obtain ⟨h1, h2, h3, h4⟩ := h
  have a := whole_int h2
  have b := whole_int h3
  have c := whole_int h4
  exact ⟨ds, _, rfl, h1, a.1, b.1, c.1, c.2.1, c.2.2, a.2.1, a.2.2, b.2.1, b.2.2⟩
def rowsOk (g t w : D) : Bool := decide ((seqD w).map wpair = srt (prs 0 (seqD g))) && decide ((seqD w).map wpair = srt ((prs 0 (seqD t)).map List.reverse))
def wOk (d : D) : Bool := long 3 3 d && (partsOk ((seqD d).getD 0 .none) ((seqD d).getD 1 .none) ((seqD d).getD 2 .none) && rowsOk ((seqD d).getD 0 .none) ((seqD d).getD 1 .none) ((seqD d).getD 2 .none))
theorem prs_two : ∀ {ps : List D} {k : Nat}, ∀ r ∈ prs k ps, ∃ i j, r = [i, j]
  | [], k, r, h => by cases h
  | p :: ps, k, r, h => by
    rcases List.mem_append.mp h with h | h
    · obtain ⟨j, _, rfl⟩ := List.mem_map.mp h; exact ⟨_, _, rfl⟩
    · exact prs_two r h
theorem gSorted_rows {a : List (List Int)} (h : ∀ r ∈ a, ∃ i j, r = [i, j]) (hl : a.length < 64) : gSorted [.list (a.map rowD)] = some ((srt a).map rowD) := by
  have : ∀ ns ∈ a, ns ≠ [] := fun ns hn => by obtain ⟨i, j, rfl⟩ := h ns hn; exact List.cons_ne_nil _ _
  simp only [gSorted, oneOf, Option.bind_some, rowsOf_map this, if_pos hl]
theorem flip_rows : ∀ {a : List (List Int)}, (∀ r ∈ a, ∃ i j, r = [i, j]) → compL (fG2 0 1) (fun _ => some true) (fTup (fCons (fVar 1) (fCons (fVar 0) fNil))) [none, none] (a.map rowD) = some ((a.map List.reverse).map rowD)
  | [], _ => rfl
  | r :: a, h => by
    obtain ⟨i, j, rfl⟩ := h r List.mem_cons_self
    have ih := flip_rows (a := a) fun q hq => h q (List.mem_cons_of_mem _ hq)
    have e : fG2 0 1 [none, none] (rowD [i, j]) = some [some (.int i), some (.int j)] := rfl
    rw [List.map_cons, compL, e, Option.bind_some, Option.bind_some, if_pos rfl, ih]
    simp! [small_of (show [PyData.int j, .int i].length ≤ 4000 by simp)]
    rfl
theorem flip_comp {a : List (List Int)} {fi : Dl.Env → Option (List D)} {ρ : Dl.Env} (hfi : fi ρ = some (a.map rowD)) (hl : a.length ≤ 4000) (h : ∀ r ∈ a, ∃ i j, r = [i, j]) : fComp 2 [] fi (fG2 0 1) (fun _ => some true) (fTup (fCons (fVar 1) (fCons (fVar 0) fNil))) ρ = some ((a.map List.reverse).map rowD) := by
  simp only [fComp, hfi, Option.bind_some, capsD, List.replicate, List.cons_append, List.nil_append, List.map_nil]
  rw [flip_rows h, Option.bind_some, small_of (by rw [List.length_map, List.length_map]; exact hl)]
theorem partsOk_out {g t w : D} (h : partsOk g t w = true) : ∃ gs ts ws, g = .tuple gs ∧ t = .tuple ts ∧ w = .tuple ws ∧ 1 ≤ gs.length ∧ gs.length ≤ 4 ∧ 1 ≤ ts.length ∧ ts.length ≤ 4 ∧ (∀ p ∈ gs, placeOk ts.length p = true) ∧ (∀ p ∈ ts, placeOk gs.length p = true) ∧ ∀ x ∈ ws, wayOk gs.length ts.length x = true := by
  simp only [partsOk, sideOk, Bool.and_eq_true] at h
  obtain ⟨h1, h2, h3, h4, h5, h6⟩ := h
  cases w <;> try cases h5
  rename_i ws
  have e1 := long_tup h1
  have e2 := long_tup h2
  generalize seqD g = gs at *
  generalize seqD t = ts at *
  subst e1 e2
  simp only [long, Bool.and_eq_true, decide_eq_true_eq] at h1 h2
  exact ⟨gs, ts, ws, rfl, rfl, rfl, by omega, by omega, by omega, by omega, List.all_eq_true.mp h3, List.all_eq_true.mp h4, List.all_eq_true.mp h6⟩
theorem e_is_world {b k : Nat} {d : D} (h : Fit b k d) (hb : b ≤ 100) : m_is_world [d] = some (.bool (wOk d)) := by
  unfold wOk
  cases e1 : long 3 3 d with
  | false => simp! [m_is_world, g_is_world, e_is_long h.nd, e1, Bool.not_false, Bool.false_and]
  | true =>
    obtain ⟨ds, rfl⟩ : ∃ ds, d = .tuple ds := ⟨_, long_tup e1⟩
    obtain ⟨j, rfl, hl, hf⟩ := h.of_tup
    rw [show long 3 3 (.tuple ds) = decide (ds.length = 3) from long_n 3 ds, decide_eq_true_eq] at e1
    have f0 := hf _ (getD_mem (i := 0) (by omega))
    have f1 := hf _ (getD_mem (i := 1) (by omega))
    have f2' := hf _ (getD_mem (i := 2) (by omega))
    have i0 := atI_0 (show 0 < ds.length by omega)
    have i1 := atI_1 (show 1 < ds.length by omega)
    have i2 := atI_2 (show 2 < ds.length by omega)
    have el : m_is_long [.tuple ds, .int 3, .int 3] = some (.bool true) := by rw [e_is_long rfl, show long 3 3 (.tuple ds) = decide (ds.length = 3) from long_n 3 ds, decide_eq_true e1]
    rw [show seqD (.tuple ds) = ds from rfl, Bool.true_and]
    generalize hg : ds.getD 0 .none = g at *
    generalize ht : ds.getD 1 .none = t at *
    generalize hw : ds.getD 2 .none = w at *
    cases e2 : partsOk g t w with
    | false => simp! [m_is_world, g_is_world, el, i0, i1, i2, e_are_parts f0 f1 f2' hb, e2, Bool.not_false, Bool.not_true, Bool.false_and]
    | true =>
      obtain ⟨gs, ts, ws, rfl, rfl, rfl, g1, g4, t1, t4, hG, hT, hW⟩ := partsOk_out e2
      have hfw := f2'.of_tup
      obtain ⟨j2, _, hwl, _⟩ := hfw
      have q1 := prs_len (k := 0) hG
      have q2 := prs_len (k := 0) hT
      have m1 : gs.length * ts.length ≤ 16 := Nat.mul_le_mul g4 t4
      have m2 : ts.length * gs.length ≤ 16 := Nat.mul_le_mul t4 g4
      have l1 := e_liked hG (by omega) (by omega)
      have l2 := e_liked hT (by omega) (by omega)
      have s1 := gSorted_rows (a := prs 0 gs) prs_two (by omega)
      have s2 := gSorted_rows (a := (prs 0 ts).map List.reverse) (fun r hr => by
        obtain ⟨q, hq, rfl⟩ := List.mem_map.mp hr
        obtain ⟨i, j, rfl⟩ := prs_two q hq
        exact ⟨j, i, rfl⟩) (by rw [List.length_map]; omega)
      have c1 : fComp 1 [] (fSeq (f2 gIx (fVar 0) (fC (.int 2)))) (fG 0) (fun _ => some true) (fTup (fCons (f2 gIx (fVar 0) (fC (.int 0))) (fCons (f2 gIx (fVar 0) (fC (.int 1))) fNil))) [some (.tuple ds), none, none, none] = some ((ws.map wpair).map rowD) := by
        rw [fComp_map (ds := ws) (h := fun x => rowD (wpair x)) (by simp! [i2]) (by omega) fun x hx => ?_, List.map_map]
        · rfl
        · obtain ⟨vs, c, rfl, v3, v0, v1, _⟩ := wayOk_pair (hW x hx)
          simp! [atI_0 (show 0 < vs.length by omega), atI_1 (show 1 < vs.length by omega), small_of (show [vs.getD 0 PyData.none, vs.getD 1 .none].length ≤ 4000 by simp), rowD, wpair, seqD]
          rw [← v0, ← v1]
      have c2 : ∀ x y z, fComp 2 [] (fSeq (fCall 1 m_liked_pairs (fCons (f2 gIx (fVar 0) (fC (.int 1))) fNil))) (fG2 0 1) (fun _ => some true) (fTup (fCons (fVar 1) (fCons (fVar 0) fNil))) [some (.tuple ds), x, y, z] = some (((prs 0 ts).map List.reverse).map rowD) := fun x y z =>
        flip_comp (by simp! [i1, l2]) (by omega) prs_two
      have st1 : gSetF 1 [0] (fComp 1 [] (fSeq (f2 gIx (fVar 0) (fC (.int 2)))) (fG 0) (fun _ => some true) (fTup (fCons (f2 gIx (fVar 0) (fC (.int 0))) (fCons (f2 gIx (fVar 0) (fC (.int 1))) fNil)))) [Slot.val (.tuple ds), .non, .non, .non] = some (.nx [.val (.tuple ds), .own ((ws.map wpair).map rowD), .non, .non]) := by
        have hh : hand [0] 0 [Slot.val (.tuple ds), .non, .non, .non] = [Slot.val (.tuple ds), .non, .non, .non] := rfl
        simp only [gSetF, hh, vFrz, List.map_cons, List.map_nil, Slot.frz, c1, Option.map_some, List.set_cons_succ, List.set_cons_zero]
      have st2 : gSet 2 [0] (fLs (fCBF gSorted (fCons (fCall 1 m_liked_pairs (fCons (f2 gIx (fVar 0) (fC (.int 0))) fNil)) fNil))) [Slot.val (.tuple ds), .own ((ws.map wpair).map rowD), .non, .non] = some (.nx [.val (.tuple ds), .own ((ws.map wpair).map rowD), .val (.list ((srt (prs 0 gs)).map rowD)), .non]) := by
        have hh : hand [0] 0 [Slot.val (.tuple ds), .own ((ws.map wpair).map rowD), .non, .non] = [Slot.val (.tuple ds), .own ((ws.map wpair).map rowD), .non, .non] := rfl
        simp only [gSet, hh, vFrz, Slot.frz]
        simp! [i0, l1, s1, Dl.scal, Slot.frz, Bool.false_eq_true, List.set_cons_succ, List.set_cons_zero]
      have st3 : gSet 3 [0] (fLs (fCBF gSorted (fCons (fLs (fComp 2 [] (fSeq (fCall 1 m_liked_pairs (fCons (f2 gIx (fVar 0) (fC (.int 1))) fNil))) (fG2 0 1) (fun _ => some true) (fTup (fCons (fVar 1) (fCons (fVar 0) fNil))))) fNil))) [Slot.val (.tuple ds), .own ((ws.map wpair).map rowD), .val (.list ((srt (prs 0 gs)).map rowD)), .non]
          = some (.nx [.val (.tuple ds), .own ((ws.map wpair).map rowD), .val (.list ((srt (prs 0 gs)).map rowD)), .val (.list ((srt ((prs 0 ts).map List.reverse)).map rowD))]) := by
        have hh : hand [0] 0 [Slot.val (.tuple ds), .own ((ws.map wpair).map rowD), .val (.list ((srt (prs 0 gs)).map rowD)), .non] = [Slot.val (.tuple ds), .own ((ws.map wpair).map rowD), .val (.list ((srt (prs 0 gs)).map rowD)), .non] := rfl
        simp only [gSet, hh, vFrz, Slot.frz]
        simp! [c2, s2, Dl.scal, Slot.frz, Bool.false_eq_true, List.set_cons_succ, List.set_cons_zero]
      simp! [m_is_world, g_is_world, el, i0, i1, i2, e_are_parts f0 f1 f2' hb, e2, Bool.not_true, Bool.false_eq_true, st1, st2, st3, gEqD_rows, rowsOk, seqD, Bool.true_and]
      by_cases hq : List.map wpair ws = srt (prs 0 gs) <;> simp [hq]
theorem eqvAll_nil (xs : List D) : PyData.eqvAll xs [] = xs.isEmpty := by cases xs <;> simp [PyData.eqvAll]
theorem shaped_nil : SeqAt.shaped (.list []) = true := by simp [SeqAt.shaped, PyData.canLay0, PyData.canLayAll0, PyData.depth, PyData.depthAll]
theorem gNeD_nil {b k : Nat} {xs : List D} (h : ∀ x ∈ xs, Fit b k x) (hk : k ≤ 60) : gNeD (.list xs) (.list []) = some (.bool (!xs.isEmpty)) := by
  have hs : SeqAt.shaped (.list xs) = true := (Fit.lst (b := max b xs.length) (k := k) (Nat.le_max_right _ _) fun x hx => (h x hx).mono (Nat.le_max_left _ _) (Nat.le_refl _)).shaped (by omega)
  simp only [gNeD, gNe, hs, shaped_nil, and_self, if_true, PyData.eqv, eqvAll_nil, Option.map_some]
theorem gEqD_nil {b k : Nat} {xs : List D} (h : ∀ x ∈ xs, Fit b k x) (hk : k ≤ 60) : gEqD (.list xs) (.list []) = some (.bool xs.isEmpty) := by
  have hs : SeqAt.shaped (.list xs) = true := (Fit.lst (b := max b xs.length) (k := k) (Nat.le_max_right _ _) fun x hx => (h x hx).mono (Nat.le_max_left _ _) (Nat.le_refl _)).shaped (by omega)
  simp only [gEqD, gEq, hs, shaped_nil, and_self, if_true, PyData.eqv, eqvAll_nil, Option.map_some]
theorem filter_empty {α : Type} (p : α → Bool) (xs : List α) : (xs.filter fun x => !p x).isEmpty = xs.all p := by
  induction xs with
  | nil => rfl
  | cons x xs ih => cases h : p x <;> simp [List.filter_cons, h]
                    simpa using ih
theorem small_nil : small [] = some [] := rfl
theorem e_law_is_place {b k : Nat} {d : D} (h : Fit b k d) (hb : b ≤ 100) (hk : k ≤ 50) (n : Int) : m__law_is_place [d, .int n] = some (.bool (placeOk n d)) := by
  cases hT : isT d with
  | false =>
    simp! [m__law_is_place, g__law_is_place, kT h.nd, hT, Bool.not_false]
    cases d <;> first | rfl | cases hT
  | true =>
    obtain ⟨ds, rfl⟩ : ∃ ds, d = .tuple ds := by cases d <;> first | exact ⟨_, rfl⟩ | cases hT
    obtain ⟨j, rfl, hl, hf⟩ := h.of_tup
    by_cases e : ds.length = 2
    · have f0 := hf _ (getD_mem (i := 0) (by omega))
      have f1 := hf _ (getD_mem (i := 1) (by omega))
      have i0 := atI_0 (show 0 < ds.length by omega)
      have i1 := atI_1 (show 1 < ds.length by omega)
      have en : (ds.length : Int) = 2 := by omega
      simp only [placeOk, e, decide_true, Bool.true_and]
      generalize ds.getD 0 .none = x at *
      generalize hy : ds.getD 1 .none = y at *
      cases hx : whole 0 9 x with
      | false => simp! [m__law_is_place, g__law_is_place, kT h.nd, hT, Bool.not_true, gNeD_int, en, decide_true, i0, e_law_number f0.nd, hx, Bool.not_false, Bool.false_and]
      | true =>
        cases hyT : isT y with
        | false =>
          simp! [m__law_is_place, g__law_is_place, kT h.nd, hT, Bool.not_true, Bool.not_false, gNeD_int, en, decide_true, i0, e_law_number f0.nd, hx, Bool.true_and, Bool.false_eq_true, i1, kT f1.nd, hyT]
          cases y <;> first | rfl | cases hyT
        | true =>
          obtain ⟨ls, rfl⟩ : ∃ ls, y = .tuple ls := by cases y <;> first | exact ⟨_, rfl⟩ | cases hyT
          obtain ⟨j2, rfl, hl2, hf2⟩ := f1.of_tup
          have c := fComp_filter (cs := [1]) (fi := fSeq (f2 gIx (fVar 0) (fC (.int 1)))) (tt := fNotT (fB (fCall 3 m__law_number (fCons (fVar 0) (fCons (fC (.int 0)) (fCons (f2 Dl.gSub (fVar 1) (fC (.int 1))) fNil)))))) (te := fVar 0) (p := fun x => !whole 0 (n - 1) x) (h := id) (ρ := [some (.tuple ds), some (.int n)]) (ds := ls)
            (by simp! [i1]) (by omega) (fun x hx => by simp! [e_law_number (hf2 x hx).nd]) (fun x hx _ => by simp! [id])
          rw [List.map_id] at c
          have hne := gNeD_nil (b := b) (k := j2) (xs := ls.filter fun x => !whole 0 (n - 1) x) (fun x hx => hf2 x (List.mem_filter.mp hx).1) (by omega)
          rw [filter_empty] at hne
          cases ha : ls.all (whole 0 (n - 1)) with
          | false => simp! [m__law_is_place, g__law_is_place, kT h.nd, hT, Bool.not_true, Bool.not_false, gNeD_int, en, decide_true, i0, e_law_number f0.nd, hx, Bool.true_and, Bool.false_eq_true, i1, kT f1.nd, hyT, c, small_nil, hne, ha, likesOk, Bool.false_and]
          | true =>
            have := lenset_eq ha (Nat.le_trans hl2 hb)
            simp only [Dl.f2, Dl.f1, fCB, fCons, fNil, Option.bind_some, Option.map_some, gLen, gItems, oneOf, seqOf] at this
            simp! [m__law_is_place, g__law_is_place, kT h.nd, hT, Bool.not_true, Bool.not_false, gNeD_int, en, decide_true, i0, e_law_number f0.nd, hx, Bool.true_and, Bool.false_eq_true, i1, kT f1.nd, hyT, c, small_nil, hne, ha, likesOk, this]
    · have en : ¬ (ds.length : Int) = 2 := by omega
      simp! [m__law_is_place, g__law_is_place, kT h.nd, hT, Bool.not_true, gNeD_int, en, decide_false, Bool.not_false, placeOk, e, Bool.false_and]
theorem cut_take {α : Type} (xs : List α) (k : Nat) : cut xs none (some (k : Int)) = xs.take k := by
  simp only [cut, HT.sIx_none, HT.sIx_nat, List.drop_zero, Nat.sub_zero]
  rw [List.take_eq_take_iff]; omega
theorem cut_drop {α : Type} (xs : List α) (k : Nat) : cut xs (some (k : Int)) none = xs.drop k := by
  simp only [cut, HT.sIx_none, HT.sIx_nat]
  rw [List.take_of_length_le (by rw [List.length_drop]; omega)]
  by_cases h : k ≤ xs.length
  · rw [Nat.min_eq_left h]
  · rw [Nat.min_eq_right (by omega), List.drop_of_length_le (Nat.le_refl _), List.drop_of_length_le (by omega)]
def adj : List (List Int) → Bool | a :: b :: r => lexLt a b && adj (b :: r) | _ => true
theorem gGe_rows (a b : List Int) : gGe (rowD a) (rowD b) = some (.bool (!lexLt a b)) := by
  simp [gGe, g2I, gGeT, rowD, tupInts, intsOf_map]
theorem gB_bool (b : Bool) : gB (.bool b) = some b := rfl
theorem adj_comp : ∀ (P : List (List Int)), ∃ Z : List (List Int), compL (fG2 0 1) (fB (f2 gGe (fVar 0) (fVar 1))) (fVar 0) [none, none] (zipD (P.map rowD) ((P.drop 1).map rowD)) = some (Z.map rowD) ∧ Z.length ≤ P.length ∧ (Z.isEmpty = adj P) ∧ ∀ r ∈ Z, r ∈ P
  | [] => ⟨[], by simp [zipD, compL], Nat.le_refl _, rfl, fun _ h => h⟩
  | [a] => ⟨[], by simp [zipD, compL], Nat.zero_le _, rfl, fun _ h => by cases h⟩
  | a :: b :: r => by
    obtain ⟨Z, h1, h2, h3, h4⟩ := adj_comp (b :: r)
    have e : fG2 0 1 [none, none] (.tuple [rowD a, rowD b]) = some [some (rowD a), some (rowD b)] := rfl
    have h1' : compL (fG2 0 1) (fB (f2 gGe (fVar 0) (fVar 1))) (fVar 0) [none, none] (zipD (rowD b :: r.map rowD) (r.map rowD)) = some (Z.map rowD) := h1
    cases hl : lexLt a b with
    | true =>
      refine ⟨Z, ?_, Nat.le_succ_of_le h2, ?_, fun q hq => List.mem_cons_of_mem _ (h4 q hq)⟩
      · simp only [List.map_cons, List.drop_succ_cons, List.drop_zero, zipD, compL, e, Option.bind_some, fB, f2, fVar, List.getElem?_cons_zero, List.getElem?_cons_succ, Option.getD_some, gGe_rows, hl, gB_bool, Bool.not_true, Bool.false_eq_true, if_false, h1']
      · rw [adj, hl, Bool.true_and]; exact h3
    | false =>
      refine ⟨a :: Z, ?_, Nat.succ_le_succ h2, ?_, fun q hq => ?_⟩
      · simp only [List.map_cons, List.drop_succ_cons, List.drop_zero, zipD, compL, e, Option.bind_some, fB, f2, fVar, List.getElem?_cons_zero, List.getElem?_cons_succ, Option.getD_some, gGe_rows, hl, gB_bool, Bool.not_false, if_true, h1', Option.map_some]
      · rw [adj, hl]; rfl
      · rcases List.mem_cons.mp hq with rfl | hq
        · exact List.mem_cons_self
        · exact List.mem_cons_of_mem _ (h4 q hq)
/-- the loop over the ways -/
def wB : SEnv → Option Out := (gSeq (gIf (fOrT (fNotT (fB (fIs "tuple" (fVar 3)))) (fOrT (fB (f2 gNeD (fCB gLen (fCons (fVar 3) fNil)) (fC (.int 3)))) (fNotT (fB (fCall 3 m__law_number (fCons (f2 gIx (fVar 3) (fC (.int 2))) (fCons (fC (.int 1)) (fCons (fC (.int 9)) fNil)))))))) (gRet (fC (.bool false))) gNx) (gIf (fOrT (fNotT (fB (fCall 3 m__law_number (fCons (f2 gIx (fVar 3) (fC (.int 0))) (fCons (fC (.int 0)) (fCons (f2 Dl.gSub (fVar 1) (fC (.int 1))) fNil)))))) (fNotT (fB (fCall 3 m__law_number (fCons (f2 gIx (fVar 3) (fC (.int 1))) (fCons (fC (.int 0)) (fCons (f2 Dl.gSub (fVar 2) (fC (.int 1))) fNil))))))) (gRet (fC (.bool false))) gNx))
theorem wB_run {b k : Nat} {d x : D} {g t : Int} {s4 : Slot} (h : Fit b k d) : wB [.val x, .val (.int g), .val (.int t), .val d, s4] = some (if wayOk g t d = true then .nx [.val x, .val (.int g), .val (.int t), .val d, s4] else .rt (.bool false)) := by
  cases hT : isT d with
  | false =>
    simp! [wB, kT h.nd, hT, Bool.not_false]
    cases d <;> first | simp [wayOk]; done | cases hT
  | true =>
    obtain ⟨ds, rfl⟩ : ∃ ds, d = .tuple ds := by cases d <;> first | exact ⟨_, rfl⟩ | cases hT
    obtain ⟨j, rfl, hl, hf⟩ := h.of_tup
    by_cases e : ds.length = 3
    · have f0 := hf _ (getD_mem (i := 0) (by omega))
      have f1 := hf _ (getD_mem (i := 1) (by omega))
      have f2' := hf _ (getD_mem (i := 2) (by omega))
      have i0 := atI_0 (show 0 < ds.length by omega)
      have i1 := atI_1 (show 1 < ds.length by omega)
      have i2 := atI_2 (show 2 < ds.length by omega)
      have en : (ds.length : Int) = 3 := by omega
      simp only [wayOk, e, decide_true, Bool.true_and]
      cases h2 : whole 1 9 (ds.getD 2 .none) with
      | false => simp! [wB, kT h.nd, hT, Bool.not_true, gNeD_int, en, decide_true, i2, e_law_number f2'.nd, h2, Bool.not_false, Bool.and_false, Bool.false_eq_true]
      | true =>
        cases h0 : whole 0 (g - 1) (ds.getD 0 .none) with
        | false => simp! [wB, kT h.nd, hT, Bool.not_true, gNeD_int, en, decide_true, i2, i0, e_law_number f2'.nd, e_law_number f0.nd, h2, h0, Bool.not_false, Bool.false_and, Bool.false_eq_true]
        | true =>
          cases h1 : whole 0 (t - 1) (ds.getD 1 .none) with
          | false => simp! [wB, kT h.nd, hT, Bool.not_true, gNeD_int, en, decide_true, i2, i0, i1, e_law_number f2'.nd, e_law_number f0.nd, e_law_number f1.nd, h2, h0, h1, Bool.not_false, Bool.false_and, Bool.and_false, Bool.false_eq_true]
          | true => simp! [wB, kT h.nd, hT, Bool.not_true, gNeD_int, en, decide_true, i2, i0, i1, e_law_number f2'.nd, e_law_number f0.nd, e_law_number f1.nd, h2, h0, h1, Bool.not_false, Bool.true_and, Bool.and_true, Bool.false_eq_true]
    · have en : ¬ (ds.length : Int) = 3 := by omega
      simp! [wB, kT h.nd, hT, Bool.not_true, gNeD_int, en, decide_false, Bool.not_false, wayOk, e, Bool.false_and, Bool.false_eq_true]
theorem for_ways {b k : Nat} {x : D} {g t : Int} {s4 : Slot} : ∀ {ws : List D} {s3 : Slot}, (∀ d ∈ ws, Fit b k d) → ∃ t3, forD (fSG 3) wB ws [.val x, .val (.int g), .val (.int t), s3, s4] = some (if ws.all (wayOk g t) = true then .nx [.val x, .val (.int g), .val (.int t), t3, s4] else .rt (.bool false))
  | [], s3, _ => ⟨s3, by simp [forD]⟩
  | d :: ws, s3, h => by
    obtain ⟨t3, e⟩ := for_ways (x := x) (g := g) (t := t) (s4 := s4) (ws := ws) (s3 := .val d) fun y hy => h y (List.mem_cons_of_mem _ hy)
    refine ⟨t3, ?_⟩
    have hs : fSG 3 [.val x, .val (.int g), .val (.int t), s3, s4] d = some [.val x, .val (.int g), .val (.int t), .val d, s4] := rfl
    simp only [forD, hs, Option.bind_some, wB_run (h d List.mem_cons_self)]
    cases hw : wayOk g t d with
    | true => simp only [if_true, e, List.all_cons, hw, Bool.true_and]
    | false => simp [List.all_cons, hw]
def waysOk (g t : Int) (w : D) : Bool := isT w && ((seqD w).all (wayOk g t) && adj ((seqD w).map wpair))
theorem e_are_ways {b k : Nat} {w : D} (h : Fit b k w) (hb : b ≤ 100) (hk : k ≤ 50) (g t : Int) : m__law_are_ways [w, .int g, .int t] = some (.bool (waysOk g t w)) := by
  cases hT : isT w with
  | false => simp! [m__law_are_ways, g__law_are_ways, kT h.nd, hT, Bool.not_false, waysOk, Bool.false_and]
  | true =>
    obtain ⟨ws, rfl⟩ : ∃ ds, w = .tuple ds := by cases w <;> first | exact ⟨_, rfl⟩ | cases hT
    obtain ⟨j, rfl, hl, hf⟩ := h.of_tup
    obtain ⟨t3, e⟩ := for_ways (x := .tuple ws) (g := g) (t := t) (s4 := .non) (s3 := .non) hf
    have hh : hand [0] 0 [Slot.val (.tuple ws), .val (.int g), .val (.int t), .non, .non] = [Slot.val (.tuple ws), .val (.int g), .val (.int t), .non, .non] := rfl
    have hf' : fSeq (fVar 0) (vFrz [Slot.val (.tuple ws), .val (.int g), .val (.int t), .non, .non]) = some ws := rfl
    have hfor : gFor [0] (fSeq (fVar 0)) (fSG 3) wB [Slot.val (.tuple ws), .val (.int g), .val (.int t), .non, .non] = some (if ws.all (wayOk g t) = true then .nx [.val (.tuple ws), .val (.int g), .val (.int t), t3, .non] else .rt (.bool false)) := by
      simp only [gFor, hh, hf', Option.bind_some, e]
    unfold wB at hfor
    cases ha : ws.all (wayOk g t) with
    | false =>
      rw [ha] at hfor
      simp! [m__law_are_ways, g__law_are_ways, kT h.nd, hT, Bool.not_true, Bool.false_eq_true, hfor, waysOk, seqD, ha, Bool.true_and, Bool.false_and, if_false]
    | true =>
      rw [ha] at hfor
      have hc : fComp 1 [] (fSeq (fVar 0)) (fG 0) (fun _ => some true) (fCut gCutA (fVar 0) fNoB (fBd (fC (.int 2)))) [some (.tuple ws), some (.int g), some (.int t), t3.frz, none] = some ((ws.map wpair).map rowD) := by
        rw [fComp_map (ds := ws) (h := fun x => rowD (wpair x)) rfl (by omega) fun x hx => ?_, List.map_map]
        · rfl
        · obtain ⟨vs, c, rfl, v3, v0, v1, _⟩ := wayOk_pair (List.all_eq_true.mp ha x hx)
          simp! [fCut, fNoB, fBd, gI, gCutA]
          rw [show ((2 : Int)) = ((2 : Nat) : Int) from rfl, cut_take]
          match vs, v3, v0, v1 with
          | [x0, x1, x2], _, v0, v1 =>
            simp only [List.getD_cons_zero, List.getD_cons_succ] at v0 v1
            simp only [List.take_succ_cons, List.take_zero, rowD, wpair, seqD, List.getD_cons_zero, List.getD_cons_succ, List.map_cons, List.map_nil]
            rw [← v0, ← v1]
      have hset : gSetF 4 [0] (fComp 1 [] (fSeq (fVar 0)) (fG 0) (fun _ => some true) (fCut gCutA (fVar 0) fNoB (fBd (fC (.int 2))))) [.val (.tuple ws), .val (.int g), .val (.int t), t3, .non] = some (.nx [.val (.tuple ws), .val (.int g), .val (.int t), t3, .own ((ws.map wpair).map rowD)]) := by
        have hh : hand [0] 0 [Slot.val (.tuple ws), .val (.int g), .val (.int t), t3, .non] = [Slot.val (.tuple ws), .val (.int g), .val (.int t), t3, .non] := rfl
        simp only [gSetF, hh, vFrz, List.map_cons, List.map_nil, frz_val, frz_own, frz_non, hc, Option.map_some, List.set_cons_succ, List.set_cons_zero]
      obtain ⟨Z, z1, z2, z3, z4⟩ := adj_comp (ws.map wpair)
      rw [List.length_map] at z2
      have hz : fComp 2 [] (fZip (fCons (fVar 4) (fCons (fCut gCutA (fVar 4) (fBd (fC (.int 1))) fNoB) fNil))) (fG2 0 1) (fB (f2 gGe (fVar 0) (fVar 1))) (fVar 0) [some (.tuple ws), some (.int g), some (.int t), t3.all, some (.list ((ws.map wpair).map rowD))] = some (Z.map rowD) := by
        have : fZip (fCons (fVar 4) (fCons (fCut gCutA (fVar 4) (fBd (fC (.int 1))) fNoB) fNil)) [some (.tuple ws), some (.int g), some (.int t), t3.all, some (.list ((ws.map wpair).map rowD))] = some (zipD ((ws.map wpair).map rowD) (((ws.map wpair).drop 1).map rowD)) := by
          simp! [fZip, fCut, fNoB, fBd, gI, gCutA]
          rw [show ((1 : Int)) = ((1 : Nat) : Int) from rfl, cut_drop]
          simp only [gZipL, List.map_drop]
        simp only [fComp, this, Option.bind_some, capsD, List.replicate, List.cons_append, List.nil_append, List.map_nil]
        rw [z1, Option.bind_some, small_of (by rw [List.length_map]; omega)]
      have heq := gEqD_rows Z []
      rw [List.map_nil] at heq
      have hzz : decide (Z = []) = adj (ws.map wpair) := by rw [← z3]; cases Z <;> rfl
      simp! [m__law_are_ways, g__law_are_ways, kT h.nd, hT, Bool.not_true, Bool.false_eq_true, hfor, hset, hz, small_nil, heq, waysOk, seqD, ha, Bool.true_and, hzz]
theorem eqv_row (a b : List Int) : PyData.eqv (rowD a) (rowD b) = decide (a = b) := by rw [rowD, rowD, PyData.eqv, eqv_ints]
theorem any_row (P : List (List Int)) (a : List Int) : ((P.map rowD).any fun z => PyData.eqv z (rowD a)) = decide (a ∈ P) := by
  rw [List.any_map]
  induction P with
  | nil => simp
  | cons r P ih =>
    rw [List.any_cons, ih, Function.comp_apply, eqv_row]
    by_cases h : r = a
    · subst h; simp
    · simp [h, Ne.symm h]
theorem gInD_row (P : List (List Int)) (a : List Int) : gInD (rowD a) (.list (P.map rowD)) = some (.bool (decide (a ∈ P))) := by
  have hs : SeqAt.shaped (rowD a) = true := (fit_row (b := a.length) (k := 0) (Nat.le_refl _)).shaped (by decide)
  simp only [gInD, gIn, hs, shaped_rows, and_self, if_true, any_row, Option.map_some]
theorem any_int (l : List Int) (a : Int) : ((l.map PyData.int).any fun z => PyData.eqv z (.int a)) = decide (a ∈ l) := by
  rw [List.any_map]
  induction l with
  | nil => simp
  | cons r l ih =>
    rw [List.any_cons, ih, Function.comp_apply]
    by_cases h : r = a
    · subst h; simp [PyData.eqv]
    · simp [PyData.eqv, h, Ne.symm h]
theorem gInD_int (l : List Int) (a : Int) : gInD (.int a) (.tuple (l.map PyData.int)) = some (.bool (decide (a ∈ l))) := by
  have hs : SeqAt.shaped (.int a) = true := (fit_int (b := 0) (k := 0) a).shaped (by decide)
  have h2 : SeqAt.shaped (.tuple (l.map PyData.int)) = true := (fit_row (b := l.length) (k := 0) (Nat.le_refl _)).shaped (by decide)
  simp only [gInD, gIn, hs, h2, and_self, if_true, any_int, Option.map_some]
theorem gNeD_bb (a b c d : Bool) : gNeD (.tuple [.bool a, .bool b]) (.tuple [.bool c, .bool d]) = some (.bool (!(a == c && b == d))) := by
  simp [gNeD, gNe, SeqAt.shaped, PyData.canLay0, PyData.canLayAll0, PyData.depth, PyData.depthAll, PyData.eqv, PyData.eqvAll]
/-- two places -/
def okp (P : List (List Int)) (i j : Int) (lp lq : List Int) : Bool := decide ([i, j] ∈ P) == decide (j ∈ lp) && decide ([i, j] ∈ P) == decide (i ∈ lq)
def okq (P : List (List Int)) (i : Int) (lp : List Int) : Nat → List D → Bool | _, [] => true | k, q :: qs => okp P i k lp (likeD q) && okq P i lp (k + 1) qs
def okg (P : List (List Int)) (ts : List D) : Nat → List D → Bool | _, [] => true | k, p :: ps => okq P k (likeD p) 0 ts && okg P ts (k + 1) ps
def inB : SEnv → Option Out := (gIf (fB (f2 gNeD (fTup (fCons (f2 gInD (fTup (fCons (fVar 3) (fCons (fVar 5) fNil))) (fVar 2)) (fCons (f2 gInD (fTup (fCons (fVar 3) (fCons (fVar 5) fNil))) (fVar 2)) fNil))) (fTup (fCons (f2 gInD (fVar 5) (f2 gIx (fVar 4) (fC (.int 1)))) (fCons (f2 gInD (fVar 3) (f2 gIx (fVar 6) (fC (.int 1)))) fNil))))) (gRet (fC (.bool false))) gNx)
theorem place_at {n : Int} {p : D} (h : placeOk n p = true) : gIx p (.int 1) = some (.tuple ((likeD p).map PyData.int)) := by
  obtain ⟨a, ds, rfl, hl, _, _, _, h1, hnd, hr⟩ := placeOk_like h
  simp only [gIx, atI_1 (show 1 < ds.length by omega), h1]
theorem small2 (a b : D) : small [a, b] = some [a, b] := rfl
theorem inB_run {n n' : Int} {P : List (List Int)} {x p q : D} {i j : Int} {s1 : Slot} (hp : placeOk n p = true) (hq : placeOk n' q = true) : inB [.val x, s1, .own (P.map rowD), .val (.int i), .val p, .val (.int j), .val q] = some (if okp P i j (likeD p) (likeD q) = true then .nx [.val x, s1, .own (P.map rowD), .val (.int i), .val p, .val (.int j), .val q] else .rt (.bool false)) := by
  have e1 := gInD_row P [i, j]
  rw [rowD, List.map_cons, List.map_cons, List.map_nil] at e1
  have e2 := gInD_int (likeD p) j
  have e3 := gInD_int (likeD q) i
  have h1 := place_at hp
  have h2 := place_at hq
  simp only [inB, gIf, vAll, List.map_cons, List.map_nil, all_val, all_own, fB, f2, fTup, fCons, fNil, fVar, fC, List.getElem?_cons_zero, List.getElem?_cons_succ, Option.getD_some, Option.bind_some, Option.map_some, small2, e1, h1, h2, e2, e3, gNeD_bb, gB_bool, gRet, gNx]
  cases hk : okp P i j (likeD p) (likeD q) with
  | true => unfold okp at hk; rw [hk]; rfl
  | false => unfold okp at hk; rw [hk]; rfl
theorem for_in {n n' : Int} {P : List (List Int)} {x p : D} {i : Int} {s1 : Slot} (hp : placeOk n p = true) : ∀ {qs : List D} {k : Nat} {s5 s6 : Slot}, (∀ q ∈ qs, placeOk n' q = true) →
    ∃ t5 t6, forD (fSG2 5 6) inB (enumD k qs) [.val x, s1, .own (P.map rowD), .val (.int i), .val p, s5, s6] = some (if okq P i (likeD p) k qs = true then .nx [.val x, s1, .own (P.map rowD), .val (.int i), .val p, t5, t6] else .rt (.bool false))
  | [], k, s5, s6, _ => ⟨s5, s6, by simp [enumD, forD, okq]⟩
  | q :: qs, k, s5, s6, h => by
    obtain ⟨t5, t6, e⟩ := for_in (n' := n') (P := P) (x := x) (i := i) (s1 := s1) hp (qs := qs) (k := k + 1) (s5 := .val (.int (k : Nat))) (s6 := .val q) fun y hy => h y (List.mem_cons_of_mem _ hy)
    refine ⟨t5, t6, ?_⟩
    have hs : fSG2 5 6 [.val x, s1, .own (P.map rowD), .val (.int i), .val p, s5, s6] (.tuple [.int (k : Nat), q]) = some [.val x, s1, .own (P.map rowD), .val (.int i), .val p, .val (.int (k : Nat)), .val q] := rfl
    simp only [enumD, forD, hs, Option.bind_some, inB_run hp (h q List.mem_cons_self), okq]
    by_cases hw : okp P i (k : Nat) (likeD p) (likeD q) = true
    · simp only [hw, if_true, e, Bool.true_and]
    · rw [Bool.not_eq_true] at hw
      simp [hw]
def outB : SEnv → Option Out := gFor [0] (fEnum (fCons (f2 gIx (fVar 0) (fC (.int 1))) fNil)) (fSG2 5 6) inB
theorem outB_run {n n' : Int} {P : List (List Int)} {ds ts : List D} {p : D} {i : Int} {s1 s5 s6 : Slot} (hp : placeOk n p = true) (ht : atI ds 1 = some (.tuple ts)) (hT : ∀ q ∈ ts, placeOk n' q = true) :
    ∃ t5 t6, outB [.val (.tuple ds), s1, .own (P.map rowD), .val (.int i), .val p, s5, s6] = some (if okq P i (likeD p) 0 ts = true then .nx [.val (.tuple ds), s1, .own (P.map rowD), .val (.int i), .val p, t5, t6] else .rt (.bool false)) := by
  obtain ⟨t5, t6, e⟩ := for_in (n' := n') (P := P) (x := .tuple ds) (i := i) (s1 := s1) hp (qs := ts) (k := 0) (s5 := s5) (s6 := s6) hT
  refine ⟨t5, t6, ?_⟩
  have hh : hand [0] 0 [Slot.val (.tuple ds), s1, .own (P.map rowD), .val (.int i), .val p, s5, s6] = [Slot.val (.tuple ds), s1, .own (P.map rowD), .val (.int i), .val p, s5, s6] := rfl
  have hf : fEnum (fCons (f2 gIx (fVar 0) (fC (.int 1))) fNil) (vFrz [Slot.val (.tuple ds), s1, .own (P.map rowD), .val (.int i), .val p, s5, s6]) = some (enumD 0 ts) := by
    simp only [vFrz, List.map_cons, List.map_nil]
    simp! [fEnum, ht]
  simp only [outB, gFor, hh, hf, Option.bind_some, e]
theorem for_out {n n' : Int} {P : List (List Int)} {ds ts : List D} {s1 : Slot} (ht : atI ds 1 = some (.tuple ts)) (hT : ∀ q ∈ ts, placeOk n' q = true) : ∀ {ps : List D} {k : Nat} {s3 s4 s5 s6 : Slot}, (∀ p ∈ ps, placeOk n p = true) →
    ∃ t3 t4 t5 t6, forD (fSG2 3 4) outB (enumD k ps) [.val (.tuple ds), s1, .own (P.map rowD), s3, s4, s5, s6] = some (if okg P ts k ps = true then .nx [.val (.tuple ds), s1, .own (P.map rowD), t3, t4, t5, t6] else .rt (.bool false))
  | [], k, s3, s4, s5, s6, _ => ⟨s3, s4, s5, s6, by simp [enumD, forD, okg]⟩
  | p :: ps, k, s3, s4, s5, s6, h => by
    obtain ⟨u5, u6, e1⟩ := outB_run (P := P) (ds := ds) (ts := ts) (i := ((k : Nat) : Int)) (s1 := s1) (s5 := s5) (s6 := s6) (h p List.mem_cons_self) ht hT
    obtain ⟨t3, t4, t5, t6, e⟩ := for_out (P := P) (s1 := s1) ht hT (ps := ps) (k := k + 1) (s3 := .val (.int (k : Nat))) (s4 := .val p) (s5 := u5) (s6 := u6) fun y hy => h y (List.mem_cons_of_mem _ hy)
    refine ⟨t3, t4, t5, t6, ?_⟩
    have hs : fSG2 3 4 [.val (.tuple ds), s1, .own (P.map rowD), s3, s4, s5, s6] (.tuple [.int (k : Nat), p]) = some [.val (.tuple ds), s1, .own (P.map rowD), .val (.int (k : Nat)), .val p, s5, s6] := rfl
    simp only [enumD, forD, hs, Option.bind_some, e1, okg]
    by_cases hw : okq P (k : Nat) (likeD p) 0 ts = true
    · simp only [hw, if_true, e, Bool.true_and]
    · rw [Bool.not_eq_true] at hw
      simp [hw]
theorem ite_flip (x : Bool) (a b : Out) : (if (!x) = true then some b else some a) = some (if x = true then a else b) := by cases x <;> rfl
def sB : SEnv → Option Out := (gIf (fOrT (fNotT (fB (fIs "tuple" (f2 gIx (fVar 0) (fVar 1))))) (fNotT (fB (fChain gLe gLe (fC (.int 1)) (fCB gLen (fCons (f2 gIx (fVar 0) (fVar 1)) fNil)) (fC (.int 4)))))) (gRet (fC (.bool false))) gNx)
theorem sB_run {b k : Nat} {ds : List D} {x : D} {i : Int} {r : List Slot} (hi : atI ds i = some x) (hx : Fit b k x) : sB (.val (.tuple ds) :: .val (.int i) :: r) = some (if sideOk x = true then .nx (.val (.tuple ds) :: .val (.int i) :: r) else .rt (.bool false)) := by
  cases hT : isT x with
  | false =>
    simp! [sB, hi, kT hx.nd, hT, Bool.not_false]
    cases x <;> first | simp [sideOk, long]; done | cases hT
  | true =>
    obtain ⟨xs, rfl⟩ : ∃ ds, x = .tuple ds := by cases x <;> first | exact ⟨_, rfl⟩ | cases hT
    simp! [sB, hi, kT hx.nd, hT, Bool.not_true]
    rw [chain_le (a := 1) (i := (xs.length : Int)) (b := 4) rfl (by simp! [hi]) rfl]
    simp only [Option.bind_some, gB_bool, Option.map_some, sideOk, long]
    exact ite_flip _ _ _
def qB : SEnv → Option Out := (gIf (fB (f2 gNeD (fLs (fComp 1 [0, 1] (fSeq (f2 gIx (fVar 0) (fVar 1))) (fG 0) (fNotT (fB (fCall 2 m__law_is_place (fCons (fVar 0) (fCons (fCB gLen (fCons (f2 gIx (fVar 1) (f2 Dl.gSub (fC (.int 1)) (fVar 2))) fNil)) fNil))))) (fVar 0))) (fLs (fLst fNil)))) (gRet (fC (.bool false))) gNx)
theorem qB_run {b k : Nat} {ds xs ys : List D} {i : Int} {r : List Slot} (hi : atI ds i = some (.tuple xs)) (hj : atI ds (1 - i) = some (.tuple ys)) (hx : ∀ x ∈ xs, Fit b k x) (hb : b ≤ 100) (hk : k ≤ 50) (hl : xs.length ≤ 100) :
    qB (.val (.tuple ds) :: .val (.int i) :: r) = some (if xs.all (placeOk ys.length) = true then .nx (.val (.tuple ds) :: .val (.int i) :: r) else .rt (.bool false)) := by
  have c := fComp_filter (cs := [0, 1]) (fi := fSeq (f2 gIx (fVar 0) (fVar 1))) (tt := (fNotT (fB (fCall 2 m__law_is_place (fCons (fVar 0) (fCons (fCB gLen (fCons (f2 gIx (fVar 1) (f2 Dl.gSub (fC (.int 1)) (fVar 2))) fNil)) fNil)))))) (te := fVar 0) (p := fun x => !placeOk ys.length x) (h := id) (ρ := some (.tuple ds) :: some (.int i) :: r.map Slot.all) (ds := xs)
    (by simp! [hi]) (by omega) (fun x hx' => by simp! [hj, e_law_is_place (hx x hx') hb hk]) (fun x hx _ => by simp! [id])
  rw [List.map_id] at c
  have hne := gNeD_nil (b := b) (k := k) (xs := xs.filter fun x => !placeOk ys.length x) (fun x hx' => hx x (List.mem_filter.mp hx').1) (by omega)
  rw [filter_empty] at hne
  simp! [qB, c, small_nil, hne]
  cases xs.all (placeOk ys.length) <;> rfl
def lOk (d : D) : Bool := long 3 3 d && (partsOk ((seqD d).getD 0 .none) ((seqD d).getD 1 .none) ((seqD d).getD 2 .none) && (adj ((seqD ((seqD d).getD 2 .none)).map wpair) && okg ((seqD ((seqD d).getD 2 .none)).map wpair) (seqD ((seqD d).getD 1 .none)) 0 (seqD ((seqD d).getD 0 .none))))
theorem range2 (ρ : Dl.Env) : fRange (fCons (fC (.int 2)) fNil) ρ = some [.int 0, .int 1] := by
  have : okR 2 = true := by decide
  simp! [fRange, gRange, this]
  rfl
theorem hand_nil : ∀ (ρ : SEnv) (k : Nat), hand [] k ρ = ρ
  | [], k => rfl
  | s :: r, k => by simp [hand, hand_nil r]
theorem for2 {gb : SEnv → Option Out} {x s1 : Slot} {r : List Slot} {p0 p1 : Bool} (h0 : gb (x :: .val (.int 0) :: r) = some (if p0 = true then .nx (x :: .val (.int 0) :: r) else .rt (.bool false))) (h1 : p0 = true → gb (x :: .val (.int 1) :: r) = some (if p1 = true then .nx (x :: .val (.int 1) :: r) else .rt (.bool false))) :
    gFor [] (fRange (fCons (fC (.int 2)) fNil)) (fSG 1) gb (x :: s1 :: r) = some (if (p0 && p1) = true then .nx (x :: .val (.int 1) :: r) else .rt (.bool false)) := by
  have e0 : ∀ s d, fSG 1 (x :: s :: r) d = some (x :: .val d :: r) := fun s d => rfl
  simp only [gFor, hand_nil, range2, Option.bind_some, forD, e0, h0]
  cases p0 with
  | false => rfl
  | true =>
    simp only [if_true, e0, Option.bind_some, h1 rfl, Bool.true_and]
    cases p1 <;> rfl
theorem e_law_is_world {b k : Nat} {d : D} (h : Fit b k d) (hb : b ≤ 100) (hk : k ≤ 50) : m__law_is_world [d] = some (.bool (lOk d)) := by
  unfold lOk
  cases hT : isT d with
  | false =>
    simp! [m__law_is_world, g__law_is_world, kT h.nd, hT, Bool.not_false]
    cases d <;> first | simp [long]; done | cases hT
  | true =>
    obtain ⟨ds, rfl⟩ : ∃ ds, d = .tuple ds := by cases d <;> first | exact ⟨_, rfl⟩ | cases hT
    obtain ⟨j, rfl, hl, hf⟩ := h.of_tup
    rw [show long 3 3 (.tuple ds) = decide (ds.length = 3) from long_n 3 ds]
    by_cases e1 : ds.length = 3
    · have f0 := hf _ (getD_mem (i := 0) (by omega))
      have f1 := hf _ (getD_mem (i := 1) (by omega))
      have f2' := hf _ (getD_mem (i := 2) (by omega))
      have i0 := atI_0 (show 0 < ds.length by omega)
      have i1 := atI_1 (show 1 < ds.length by omega)
      have i2 := atI_2 (show 2 < ds.length by omega)
      have en : (ds.length : Int) = 3 := by omega
      rw [show seqD (.tuple ds) = ds from rfl, decide_eq_true e1, Bool.true_and]
      generalize hg : ds.getD 0 .none = g at *
      generalize ht : ds.getD 1 .none = t at *
      generalize hw : ds.getD 2 .none = w at *
      have r1 := for2 (gb := sB) (x := .val (.tuple ds)) (s1 := .non) (r := [.non, .non, .non, .non, .non]) (p0 := sideOk g) (p1 := sideOk t) (sB_run i0 f0) (fun _ => sB_run i1 f1)
      cases hs : (sideOk g && sideOk t) with
      | false =>
        rw [hs] at r1
        unfold sB at r1
        simp! [m__law_is_world, g__law_is_world, kT h.nd, hT, Bool.not_true, gNeD_int, en, decide_true, Bool.not_false, Bool.false_eq_true, r1, if_false]
        have : partsOk g t w = false := by
          unfold partsOk
          rw [← Bool.and_assoc, hs, Bool.false_and]
        simp [this]
      | true =>
        have hs' := Bool.and_eq_true_iff.mp hs
        rw [hs] at r1
        obtain ⟨gs, rfl⟩ : ∃ gs, g = .tuple gs := ⟨_, long_tup hs'.1⟩
        obtain ⟨ts, rfl⟩ : ∃ ts, t = .tuple ts := ⟨_, long_tup hs'.2⟩
        obtain ⟨j1, rfl, hgl, hgf⟩ := f0.of_tup
        obtain ⟨j1', hj1, htl, htf⟩ := f1.of_tup
        have r2 := for2 (gb := qB) (x := .val (.tuple ds)) (s1 := .val (.int 1)) (r := [.non, .non, .non, .non, .non]) (p0 := gs.all (placeOk ts.length)) (p1 := ts.all (placeOk gs.length)) (qB_run i0 i1 hgf hb (by omega) (by omega)) (fun _ => qB_run i1 i0 htf hb (by omega) (by omega))
        unfold sB at r1
        cases hp : (gs.all (placeOk ts.length) && ts.all (placeOk gs.length)) with
        | false =>
          rw [hp] at r2
          unfold qB at r2
          simp! [m__law_is_world, g__law_is_world, kT h.nd, hT, Bool.not_true, gNeD_int, en, decide_true, Bool.not_false, Bool.false_eq_true, r1, r2, if_false]
          have : partsOk (.tuple gs) (.tuple ts) w = false := by
            simp only [partsOk, seqD]
            rw [← Bool.and_assoc, hs, Bool.true_and, ← Bool.and_assoc, hp, Bool.false_and]
          simp [this]
        | true =>
          rw [hp] at r2
          unfold qB at r2
          have hpt : partsOk (.tuple gs) (.tuple ts) w = (isT w && (seqD w).all (wayOk gs.length ts.length)) := by
            simp only [partsOk, seqD]
            rw [← Bool.and_assoc, hs, Bool.true_and, ← Bool.and_assoc, hp, Bool.true_and]
          have ew := e_are_ways f2' hb (by omega) gs.length ts.length
          cases hw2 : waysOk gs.length ts.length w with
          | false =>
            simp! [m__law_is_world, g__law_is_world, kT h.nd, hT, Bool.not_true, gNeD_int, en, decide_true, Bool.not_false, Bool.false_eq_true, r1, r2, if_false, i0, i1, i2, ew, hw2]
            unfold waysOk at hw2
            rw [hpt, ← Bool.and_assoc, Bool.and_assoc (isT w), hw2, Bool.false_and]
          | true =>
            have hw3 := hw2
            unfold waysOk at hw3
            simp only [Bool.and_eq_true] at hw3
            obtain ⟨w1, w2, w3⟩ := hw3
            obtain ⟨ws, rfl⟩ : ∃ ds, w = .tuple ds := by cases w <;> first | exact ⟨_, rfl⟩ | cases w1
            rw [show seqD (.tuple ws) = ws from rfl] at w2 w3
            obtain ⟨j2, _, hwl, _⟩ := f2'.of_tup
            have hc : fComp 1 [] (fSeq (f2 gIx (fVar 0) (fC (.int 2)))) (fG 0) (fun _ => some true) (fCut gCutA (fVar 0) fNoB (fBd (fC (.int 2)))) [some (.tuple ds), some (.int 1), none, none, none, none, none] = some ((ws.map wpair).map rowD) := by
              rw [fComp_map (ds := ws) (h := fun x => rowD (wpair x)) (by simp! [i2]) (by omega) fun x hx => ?_, List.map_map]
              · rfl
              · obtain ⟨vs, c, rfl, v3, v0, v1, _⟩ := wayOk_pair (List.all_eq_true.mp w2 x hx)
                simp! [fCut, fNoB, fBd, gI, gCutA]
                rw [show ((2 : Int)) = ((2 : Nat) : Int) from rfl, cut_take]
                match vs, v3, v0, v1 with
                | [x0, x1, x2], _, v0, v1 =>
                  simp only [List.getD_cons_zero, List.getD_cons_succ] at v0 v1
                  simp only [List.take_succ_cons, List.take_zero, rowD, wpair, seqD, List.getD_cons_zero, List.getD_cons_succ, List.map_cons, List.map_nil]
                  rw [← v0, ← v1]
            have hset : gSetF 2 [0] (fComp 1 [] (fSeq (f2 gIx (fVar 0) (fC (.int 2)))) (fG 0) (fun _ => some true) (fCut gCutA (fVar 0) fNoB (fBd (fC (.int 2))))) [.val (.tuple ds), .val (.int 1), .non, .non, .non, .non, .non] = some (.nx [.val (.tuple ds), .val (.int 1), .own ((ws.map wpair).map rowD), .non, .non, .non, .non]) := by
              have hh : hand [0] 0 [Slot.val (.tuple ds), .val (.int 1), .non, .non, .non, .non, .non] = [Slot.val (.tuple ds), .val (.int 1), .non, .non, .non, .non, .non] := rfl
              simp only [gSetF, hh, vFrz, List.map_cons, List.map_nil, frz_val, frz_own, frz_non, hc, Option.map_some, List.set_cons_succ, List.set_cons_zero]
            have hp' := Bool.and_eq_true_iff.mp hp
            obtain ⟨t3, t4, t5, t6, ef⟩ := for_out (P := ws.map wpair) (ds := ds) (ts := ts) (s1 := .val (.int 1)) i1 (List.all_eq_true.mp hp'.2) (ps := gs) (k := 0) (s3 := .non) (s4 := .non) (s5 := .non) (s6 := .non) (List.all_eq_true.mp hp'.1)
            have hlast : gFor [0] (fEnum (fCons (f2 gIx (fVar 0) (fC (.int 0))) fNil)) (fSG2 3 4) outB [.val (.tuple ds), .val (.int 1), .own ((ws.map wpair).map rowD), .non, .non, .non, .non] = some (if okg (ws.map wpair) ts 0 gs = true then .nx [.val (.tuple ds), .val (.int 1), .own ((ws.map wpair).map rowD), t3, t4, t5, t6] else .rt (.bool false)) := by
              have hh : hand [0] 0 [Slot.val (.tuple ds), .val (.int 1), .own ((ws.map wpair).map rowD), .non, .non, .non, .non] = [Slot.val (.tuple ds), .val (.int 1), .own ((ws.map wpair).map rowD), .non, .non, .non, .non] := rfl
              have hf : fEnum (fCons (f2 gIx (fVar 0) (fC (.int 0))) fNil) (vFrz [Slot.val (.tuple ds), .val (.int 1), .own ((ws.map wpair).map rowD), .non, .non, .non, .non]) = some (enumD 0 gs) := by
                simp only [vFrz, List.map_cons, List.map_nil]
                simp! [fEnum, i0]
              simp only [gFor, hh, hf, Option.bind_some, ef]
            unfold outB inB at hlast
            simp! [m__law_is_world, g__law_is_world, kT h.nd, hT, Bool.not_true, gNeD_int, en, decide_true, Bool.not_false, Bool.false_eq_true, r1, r2, i0, i1, i2, ew, hw2, hset, hlast]
            rw [hpt]
            simp only [seqD, w1, w2, w3, Bool.true_and]
            cases okg (ws.map wpair) ts 0 gs <;> rfl
    · have en : ¬ (ds.length : Int) = 3 := by omega
      simp! [m__law_is_world, g__law_is_world, kT h.nd, hT, Bool.not_true, gNeD_int, en, decide_false, Bool.not_false, e1, Bool.false_and, Bool.false_eq_true]
theorem mem_prs : ∀ {ps : List D} {k : Nat} {i j : Int}, [i, j] ∈ prs k ps ↔ ∃ m p, ps[m]? = some p ∧ i = ((k + m : Nat) : Int) ∧ j ∈ likeD p
  | [], k, i, j => by simp [prs]
  | p :: ps, k, i, j => by
    rw [prs, List.mem_append, mem_prs (ps := ps)]
    constructor
    · rintro (h | ⟨m, q, h1, h2, h3⟩)
      · obtain ⟨y, hy, e⟩ := List.mem_map.mp h
        injection e with e1 e2
        injection e2 with e2 _
        exact ⟨0, p, rfl, by simpa using e1.symm, e2 ▸ hy⟩
      · exact ⟨m + 1, q, by simpa using h1, by rw [h2]; congr 1; omega, h3⟩
    · rintro ⟨m, q, h1, h2, h3⟩
      cases m with
      | zero =>
        simp at h1
        subst h1
        exact .inl (List.mem_map.mpr ⟨j, h3, by rw [h2]; rfl⟩)
      | succ m => exact .inr ⟨m, q, by simpa using h1, by rw [h2]; congr 1; omega, h3⟩
theorem prs_nodup : ∀ {ps : List D} {k : Nat}, (∀ p ∈ ps, (likeD p).Nodup) → (prs k ps).Nodup
  | [], k, _ => List.nodup_nil
  | p :: ps, k, h => by
    rw [prs, List.nodup_append]
    refine ⟨List.pairwise_map.mpr ((h p List.mem_cons_self).imp fun hne e => hne ?_), prs_nodup fun q hq => h q (List.mem_cons_of_mem _ hq), ?_⟩
    rotate_left
    · injection e with _ e2
      injection e2
    · rintro a ha b hb rfl
      obtain ⟨y, hy, rfl⟩ := List.mem_map.mp ha
      obtain ⟨m, q, h1, h2, h3⟩ := mem_prs.mp hb
      omega
theorem adj_pair : ∀ {P : List (List Int)}, adj P = true → P.Pairwise fun a b => Dl.lexLt a b = true
  | [], _ => List.Pairwise.nil
  | [a], _ => List.pairwise_singleton _ _
  | a :: b :: r, h => by
    rw [adj, Bool.and_eq_true] at h
    have ih := adj_pair h.2
    refine List.Pairwise.cons (fun c hc => ?_) ih
    rcases List.mem_cons.mp hc with rfl | hc
    · exact h.1
    · exact lex_trans h.1 ((List.pairwise_cons.mp ih).1 c hc)
theorem pair_adj : ∀ {P : List (List Int)}, (P.Pairwise fun a b => Dl.lexLt a b = true) → adj P = true
  | [], _ => rfl
  | [a], _ => rfl
  | a :: b :: r, h => by
    rw [List.pairwise_cons] at h
    rw [adj, Bool.and_eq_true]
    exact ⟨h.1 b List.mem_cons_self, pair_adj h.2⟩
theorem okq_iff {P : List (List Int)} {i : Int} {lp : List Int} : ∀ {qs : List D} {k : Nat}, okq P i lp k qs = true ↔ ∀ (l : Nat) (q : D), qs[l]? = some q → okp P i ((k + l : Nat) : Int) lp (likeD q) = true
  | [], k => by simp [okq]
  | q :: qs, k => by
    rw [okq, Bool.and_eq_true, okq_iff (qs := qs)]
    constructor
    · rintro ⟨h1, h2⟩ l q' hl
      cases l with
      | zero => simp at hl; subst hl; exact h1
      | succ l => have := h2 l q' (by simpa using hl); rw [show k + (l + 1) = k + 1 + l by omega]; exact this
    · intro h
      refine ⟨by have := h 0 q rfl; exact this, fun l q' hl => ?_⟩
      have := h (l + 1) q' (by simpa using hl)
      rw [show k + 1 + l = k + (l + 1) by omega]; exact this
theorem okg_iff {P : List (List Int)} {ts : List D} : ∀ {ps : List D} {k : Nat}, okg P ts k ps = true ↔ ∀ (m : Nat) (p : D), ps[m]? = some p → ∀ (l : Nat) (q : D), ts[l]? = some q → okp P ((k + m : Nat) : Int) (l : Int) (likeD p) (likeD q) = true
  | [], k => by simp [okg]
  | p :: ps, k => by
    rw [okg, Bool.and_eq_true, okg_iff (ps := ps), okq_iff]
    constructor
    · rintro ⟨h1, h2⟩ m p' hm l q hl
      cases m with
      | zero => simp at hm; subst hm; have := h1 l q hl; rw [Nat.zero_add] at this; exact this
      | succ m => have := h2 m p' (by simpa using hm) l q hl; rw [show k + (m + 1) = k + 1 + m by omega]; exact this
    · intro h
      refine ⟨fun l q hl => by have := h 0 p rfl l q hl; rw [Nat.zero_add]; exact this, fun m p' hm l q hl => ?_⟩
      have := h (m + 1) p' (by simpa using hm) l q hl
      rw [show k + 1 + m = k + (m + 1) by omega]; exact this
theorem okp_iff {P : List (List Int)} {i j : Int} {lp lq : List Int} : okp P i j lp lq = true ↔ ([i, j] ∈ P ↔ j ∈ lp) ∧ ([i, j] ∈ P ↔ i ∈ lq) := by
  simp only [okp, Bool.and_eq_true, beq_iff_eq, decide_eq_decide]
theorem lt_le {a b : List Int} (h : Dl.lexLt a b = true) : lexLe a b = true := by
  unfold lexLe
  cases e : Dl.lexLt b a with
  | false => rfl
  | true => have := lex_trans h e; rw [lex_irrefl] at this; cases this
theorem get_of {ts : List D} {n : Nat} {j : Int} (h : ts.length = n) (h0 : 0 ≤ j) (h1 : j ≤ (n : Int) - 1) : ∃ (l : Nat) (q : D), ts[l]? = some q ∧ j = (l : Int) := by
  have hl : j.toNat < ts.length := by omega
  exact ⟨j.toNat, ts[j.toNat], List.getElem?_eq_some_iff.mpr ⟨hl, rfl⟩, by omega⟩
theorem rows_same {g t w : D} (h : partsOk g t w = true) : rowsOk g t w = (adj ((seqD w).map wpair) && okg ((seqD w).map wpair) (seqD t) 0 (seqD g)) := by
  obtain ⟨gs, ts, ws, rfl, rfl, rfl, g1, g4, t1, t4, hG, hT, hW⟩ := partsOk_out h
  have e0 : (rowsOk (.tuple gs) (.tuple ts) (.tuple ws) = true) ↔ (ws.map wpair = srt (prs 0 gs) ∧ ws.map wpair = srt ((prs 0 ts).map List.reverse)) := by
    unfold rowsOk
    rw [Bool.and_eq_true, decide_eq_true_eq, decide_eq_true_eq]
    exact Iff.rfl
  rw [Bool.eq_iff_iff, e0, Bool.and_eq_true, okg_iff]
  simp only [seqD]
  generalize hP : ws.map wpair = P
  have pin : ∀ r ∈ P, ∃ i j, r = [i, j] ∧ 0 ≤ i ∧ i ≤ (gs.length : Int) - 1 ∧ 0 ≤ j ∧ j ≤ (ts.length : Int) - 1 := fun r hr => by
    rw [← hP] at hr
    obtain ⟨x, hx, rfl⟩ := List.mem_map.mp hr
    obtain ⟨vs, c, rfl, v3, v0, v1, v2, _, _, a1, a2, a3, a4⟩ := wayOk_pair (hW x hx)
    exact ⟨_, _, rfl, a1, a2, a3, a4⟩
  have nG : (prs 0 gs).Nodup := prs_nodup fun p hp => by
    obtain ⟨_, _, _, _, _, _, _, _, hnd, _⟩ := placeOk_like (hG p hp); exact hnd
  have nT0 : (prs 0 ts).Nodup := prs_nodup fun p hp => by
    obtain ⟨_, _, _, _, _, _, _, _, hnd, _⟩ := placeOk_like (hT p hp); exact hnd
  have nT : ((prs 0 ts).map List.reverse).Nodup := List.pairwise_map.mpr (nT0.imp fun hne e => hne (List.reverse_inj.mp e))
  have mG : ∀ r ∈ prs 0 gs, ∃ i j, r = [i, j] ∧ 0 ≤ i ∧ i ≤ (gs.length : Int) - 1 ∧ 0 ≤ j ∧ j ≤ (ts.length : Int) - 1 := fun r hr => by
    obtain ⟨i, j, rfl⟩ := prs_two r hr
    obtain ⟨m, p, h1, h2, h3⟩ := mem_prs.mp hr
    obtain ⟨_, _, _, _, _, _, _, _, _, hr'⟩ := placeOk_like (hG p (List.mem_of_getElem? h1))
    have := hr' j h3
    have hm := (List.getElem?_eq_some_iff.mp h1).1
    exact ⟨i, j, rfl, by omega, by omega, this.1, this.2⟩
  have mT : ∀ r ∈ (prs 0 ts).map List.reverse, ∃ i j, r = [i, j] ∧ [j, i] ∈ prs 0 ts ∧ 0 ≤ i ∧ i ≤ (gs.length : Int) - 1 ∧ 0 ≤ j ∧ j ≤ (ts.length : Int) - 1 := fun r hr => by
    obtain ⟨s, hs, rfl⟩ := List.mem_map.mp hr
    obtain ⟨j, i, rfl⟩ := prs_two s hs
    obtain ⟨m, p, h1, h2, h3⟩ := mem_prs.mp hs
    obtain ⟨_, _, _, _, _, _, _, _, _, hr'⟩ := placeOk_like (hT p (List.mem_of_getElem? h1))
    have := hr' i h3
    have hm := (List.getElem?_eq_some_iff.mp h1).1
    exact ⟨i, j, rfl, hs, this.1, this.2, by omega, by omega⟩
  have inG : ∀ {m : Nat} {p : D} {j : Int}, gs[m]? = some p → ([(m : Int), j] ∈ prs 0 gs ↔ j ∈ likeD p) := fun {m p j} hm => by
    rw [mem_prs]
    constructor
    · rintro ⟨m', p', h1, h2, h3⟩
      have : m = m' := by omega
      subst this
      rw [hm] at h1
      cases h1
      exact h3
    · exact fun hj => ⟨m, p, hm, by omega, hj⟩
  have inT : ∀ {l : Nat} {q : D} {i : Int}, ts[l]? = some q → ([i, (l : Int)] ∈ (prs 0 ts).map List.reverse ↔ i ∈ likeD q) := fun {l q i} hl => by
    have : [i, (l : Int)] ∈ (prs 0 ts).map List.reverse ↔ [(l : Int), i] ∈ prs 0 ts := by
      constructor
      · intro hh
        obtain ⟨s, hs, e⟩ := List.mem_map.mp hh
        have : s = [(l : Int), i] := by rw [← List.reverse_reverse s, e]; rfl
        exact this ▸ hs
      · exact fun hh => List.mem_map.mpr ⟨_, hh, rfl⟩
    rw [this, mem_prs]
    constructor
    · rintro ⟨m', p', h1, h2, h3⟩
      have : l = m' := by omega
      subst this
      rw [hl] at h1
      cases h1
      exact h3
    · exact fun hj => ⟨l, q, hl, by omega, hj⟩
  constructor
  · rintro ⟨e1, e2⟩
    have p1 : P.Perm (prs 0 gs) := e1 ▸ srt_perm _
    have p2 : P.Perm ((prs 0 ts).map List.reverse) := e2 ▸ srt_perm _
    refine ⟨pair_adj ?_, fun m p hm l q hl => okp_iff.mpr ⟨?_, ?_⟩⟩
    · have up : P.Pairwise fun a b => lexLe a b = true := e1 ▸ srt_up _
      have nd : P.Nodup := p1.symm.nodup nG
      refine (up.and nd).imp fun {a b} hab => ?_
      cases e : Dl.lexLt a b with
      | true => rfl
      | false =>
        have h2 : Dl.lexLt b a = false := by have := hab.1; unfold lexLe at this; simpa using this
        exact absurd (lex_total e h2) hab.2
    · rw [Nat.zero_add, p1.mem_iff]; exact inG hm
    · rw [Nat.zero_add, p2.mem_iff]; exact inT hl
  · rintro ⟨ha, hk⟩
    have lt := adj_pair ha
    have up : P.Pairwise fun a b => lexLe a b = true := lt.imp fun h => lt_le h
    have nd : P.Nodup := lt.imp fun {a b} h e => by subst e; rw [lex_irrefl] at h; cases h
    have key : ∀ {i j : Int}, 0 ≤ i → i ≤ (gs.length : Int) - 1 → 0 ≤ j → j ≤ (ts.length : Int) - 1 → ([i, j] ∈ P ↔ [i, j] ∈ prs 0 gs) ∧ ([i, j] ∈ P ↔ [i, j] ∈ (prs 0 ts).map List.reverse) := fun {i j} a1 a2 a3 a4 => by
      obtain ⟨m, p, hm, rfl⟩ := get_of rfl a1 a2
      obtain ⟨l, q, hl, rfl⟩ := get_of rfl a3 a4
      have := okp_iff.mp (hk m p hm l q hl)
      rw [Nat.zero_add] at this
      exact ⟨this.1.trans (inG hm).symm, this.2.trans (inT hl).symm⟩
    refine ⟨srt_of ((List.perm_ext_iff_of_nodup nd nG).mpr fun r => ⟨fun hr => ?_, fun hr => ?_⟩) up, srt_of ((List.perm_ext_iff_of_nodup nd nT).mpr fun r => ⟨fun hr => ?_, fun hr => ?_⟩) up⟩
    · obtain ⟨i, j, rfl, a1, a2, a3, a4⟩ := pin r hr; exact (key a1 a2 a3 a4).1.mp hr
    · obtain ⟨i, j, rfl, a1, a2, a3, a4⟩ := mG r hr; exact (key a1 a2 a3 a4).1.mpr hr
    · obtain ⟨i, j, rfl, a1, a2, a3, a4⟩ := pin r hr; exact (key a1 a2 a3 a4).2.mp hr
    · obtain ⟨i, j, rfl, _, a1, a2, a3, a4⟩ := mT r hr; exact (key a1 a2 a3 a4).2.mpr hr
theorem w_is_l (d : D) : wOk d = lOk d := by
  unfold wOk lOk
  cases h : partsOk ((seqD d).getD 0 .none) ((seqD d).getD 1 .none) ((seqD d).getD 2 .none) with
  | false => rw [Bool.false_and, Bool.false_and]
  | true => rw [rows_same h]
theorem gMul_int {i j : Int} (h : CMul i j) : Dl.gMul (.int i) (.int j) = some (.int (i * j)) := by
  simp only [Dl.gMul, g2I, if_pos h, Option.some_or]
theorem gMod_int {i j : Int} (h : 0 < j) : Dl.gMod (.int i) (.int j) = some (.int (i % j)) := if_pos h
theorem gDiv_int {i j : Int} (h : 0 < j ∧ j < 1073741824) : Dl.gDiv (.int i) (.int j) = some (.int (i / j)) := if_pos h
theorem gGt_int (i j : Int) : Dl.gGt (.int i) (.int j) = some (.bool (decide (j < i))) := rfl
theorem gLt_int (i j : Int) : Dl.gLt (.int i) (.int j) = some (.bool (decide (i < j))) := rfl
theorem cmul_l {i j : Int} (h : -(2 ^ 64) < i ∧ i < 2 ^ 64) : CMul i j := .inl h
theorem cmul_r {i j : Int} (h : -(2 ^ 64) < j ∧ j < 2 ^ 64) : CMul i j := .inr h
theorem scal_int (i : Int) : Dl.scal (.int i) = true := rfl
theorem scal_bool (i : Bool) : Dl.scal (.bool i) = true := rfl
theorem scal_tup (i : List D) : Dl.scal (.tuple i) = false := rfl
theorem scal_lst (i : List D) : Dl.scal (.list i) = false := rfl
def scr (ns : List Int) : D := .list (ns.map PyData.int)
theorem e_cell {ns : List Int} (k : Int) (hl : ns.length ≤ 63) : ∃ c, m__law_cell [scr ns, .int k] = some (.int c) := by
  have heq : gEqD (.list (ns.map PyData.int)) (.list []) = some (.bool ns.isEmpty) := by
    have := gEqD_nil (b := 0) (k := 0) (xs := ns.map PyData.int) (fun x hx => by obtain ⟨i, _, rfl⟩ := List.mem_map.mp hx; exact fit_int i) (by decide)
    rw [this]; cases ns <;> rfl
  by_cases hn : ns = []
  · subst hn
    refine ⟨7 * k, ?_⟩
    rw [List.map_nil, List.isEmpty_nil] at heq
    simp! [m__law_cell, g__law_cell, scr, small_nil, heq, List.isEmpty_nil, gMul_int (cmul_l (i := 7) (j := k) (by decide))]
  · have hpos : (0 : Int) < (ns.length : Int) := by have := List.length_pos_iff.mpr hn; omega
    have he : ns.isEmpty = false := by cases ns <;> first | rfl | exact absurd rfl hn
    obtain ⟨j, hj⟩ := Int.eq_ofNat_of_zero_le (Int.emod_nonneg k (show (ns.length : Int) ≠ 0 by omega))
    have hlt := Int.emod_lt_of_pos k hpos
    have hx : atI (ns.map PyData.int) (k % (ns.length : Int)) = some (.int (ns.getD j 0)) := by
      rw [hj]
      have : j < (ns.map PyData.int).length := by rw [List.length_map]; omega
      rw [atI_nat' this, List.getD_eq_getElem?_getD, List.getElem?_map, List.getD_eq_getElem?_getD]
      rw [List.getElem?_eq_getElem (by omega)]
      rfl
    refine ⟨ns.getD j 0 + 6553 * (k / (ns.length : Int)), ?_⟩
    simp! [m__law_cell, g__law_cell, scr, small_nil, heq, he, Bool.false_eq_true, List.length_map, gMod_int hpos, hx, gDiv_int (i := k) (j := (ns.length : Int)) ⟨hpos, by omega⟩, gMul_int (cmul_l (i := 6553) (j := k / (ns.length : Int)) (by decide))]
theorem e_drawn {ns : List Int} (k many : Int) (hl : ns.length ≤ 63) (hm : 0 < many) : ∃ r, m__law_drawn [scr ns, .int k, .int many] = some (.int r) ∧ 0 ≤ r ∧ r < many := by
  obtain ⟨c, hc⟩ := e_cell k hl
  have m1 : ∀ i : Int, Dl.gMod (.int i) (.int 2147483563) = some (.int (i % 2147483563)) := fun i => gMod_int (by decide)
  have m2 : ∀ i : Int, Dl.gMod (.int i) (.int 2147483399) = some (.int (i % 2147483399)) := fun i => gMod_int (by decide)
  have m3 : ∀ i : Int, Dl.gMod (.int i) (.int 2147483647) = some (.int (i % 2147483647)) := fun i => gMod_int (by decide)
  have d1 : ∀ i : Int, Dl.gDiv (.int i) (.int 3) = some (.int (i / 3)) := fun i => gDiv_int (by decide)
  have d2 : ∀ i : Int, Dl.gDiv (.int i) (.int 7) = some (.int (i / 7)) := fun i => gDiv_int (by decide)
  have d3 : ∀ i : Int, Dl.gDiv (.int i) (.int 11) = some (.int (i / 11)) := fun i => gDiv_int (by decide)
  have u1 : ∀ i : Int, Dl.gMul (.int i) (.int 69069) = some (.int (i * 69069)) := fun i => gMul_int (cmul_r (by decide))
  have u2 : ∀ i : Int, Dl.gMul (.int 104723) (.int i) = some (.int (104723 * i)) := fun i => gMul_int (cmul_l (by decide))
  have b1 : ∀ x : Int, Dl.gMul (.int (x % 2147483563)) (.int (x % 2147483563)) = some (.int (x % 2147483563 * (x % 2147483563))) := fun x => gMul_int (cmul_l (by
    have := Int.emod_nonneg x (show (2147483563 : Int) ≠ 0 by decide)
    have := Int.emod_lt_of_pos x (show (0 : Int) < 2147483563 by decide)
    omega))
  have b2 : ∀ x : Int, Dl.gMul (.int (x % 2147483399)) (.int (x % 2147483399)) = some (.int (x % 2147483399 * (x % 2147483399))) := fun x => gMul_int (cmul_l (by
    have := Int.emod_nonneg x (show (2147483399 : Int) ≠ 0 by decide)
    have := Int.emod_lt_of_pos x (show (0 : Int) < 2147483399 by decide)
    omega))
  suffices h : ∃ x, m__law_drawn [scr ns, .int k, .int many] = some (.int (x % many)) by
    obtain ⟨x, hx⟩ := h
    exact ⟨_, hx, Int.emod_nonneg x (show many ≠ 0 by omega), Int.emod_lt_of_pos x hm⟩
  · refine ⟨(((((c % 2147483563 * 69069 + 104723 * (k + 1)) % 2147483563) * ((c % 2147483563 * 69069 + 104723 * (k + 1)) % 2147483563) + ((c % 2147483563 * 69069 + 104723 * (k + 1)) % 2147483563) / 3) % 2147483399) * ((((c % 2147483563 * 69069 + 104723 * (k + 1)) % 2147483563) * ((c % 2147483563 * 69069 + 104723 * (k + 1)) % 2147483563) + ((c % 2147483563 * 69069 + 104723 * (k + 1)) % 2147483563) / 3) % 2147483399) + ((((c % 2147483563 * 69069 + 104723 * (k + 1)) % 2147483563) * ((c % 2147483563 * 69069 + 104723 * (k + 1)) % 2147483563) + ((c % 2147483563 * 69069 + 104723 * (k + 1)) % 2147483563) / 3) % 2147483399) / 7) % 2147483647 / 11, ?_⟩
    simp! [m__law_drawn, g__law_drawn, hc, m1, u1, u2, Dl.gSet, scal_int, List.set_cons_succ, List.set_cons_zero, b1, d1, m2, b2, d2, m3, d3, gMod_int (j := many) hm]
def dr (ns : List Int) (k many : Int) : Int := toI ((m__law_drawn [scr ns, .int k, .int many]).getD .none)
theorem dr_all {ns : List Int} (k many : Int) (hl : ns.length ≤ 63) (hm : 0 < many) : m__law_drawn [scr ns, .int k, .int many] = some (.int (dr ns k many)) ∧ 0 ≤ dr ns k many ∧ dr ns k many < many := by
  obtain ⟨r, h1, h2⟩ := e_drawn k many hl hm
  have : dr ns k many = r := by simp only [dr, h1, Option.getD_some, toI]
  rw [this]; exact ⟨h1, h2⟩
theorem dr_eq {ns : List Int} (k many : Int) (hl : ns.length ≤ 63) (hm : 0 < many) : m__law_drawn [scr ns, .int k, .int many] = some (.int (dr ns k many)) := (dr_all k many hl hm).1
theorem dr_ge {ns : List Int} (k many : Int) (hl : ns.length ≤ 63) (hm : 0 < many) : 0 ≤ dr ns k many := (dr_all k many hl hm).2.1
theorem dr_lt {ns : List Int} (k many : Int) (hl : ns.length ≤ 63) (hm : 0 < many) : dr ns k many < many := (dr_all k many hl hm).2.2
def lstD (r : List Int) : D := .list (r.map PyData.int)
def insI (ds : List Int) (k : Int) (d : Int) : List Int := let j := if k < 0 then (k + (ds.length : Int)).toNat else min k.toNat ds.length; ds.take j ++ d :: ds.drop j
theorem insAt_map (ds : List Int) (k d : Int) : insAt (ds.map PyData.int) k (.int d) = (insI ds k d).map PyData.int := by
  simp only [insAt, insI, List.length_map, List.map_append, List.map_cons, List.map_take, List.map_drop]
theorem insI_perm (ds : List Int) (k d : Int) : (insI ds k d).Perm (d :: ds) := by
  simp only [insI]
  refine List.perm_middle.trans ?_
  rw [List.take_append_drop]
def oB : SEnv → Option Out := (gIns 6 [8] (fCall 3 m__law_drawn (fCons (fVar 0) (fCons (f2 gAdd (f2 gAdd (fVar 1) (f2 gMul (fC (.int 4)) (fVar 4))) (fVar 7)) (fCons (f2 gAdd (fCB gLen (fCons (fVar 6) fNil)) (fC (.int 1))) fNil)))) (fVar 8))
theorem oB_run {ns order : List Int} {a k j x : Int} {s2 s3 s5 : Slot} (hl : ns.length ≤ 63) (ho : order.length ≤ 1000) :
    oB [.val (scr ns), .val (.int a), s2, s3, .val (.int k), s5, .own (order.map PyData.int), .val (.int j), .val (.int x)] =
      some (.nx [.val (scr ns), .val (.int a), s2, s3, .val (.int k), s5, .own ((insI order (dr ns (a + 4 * k + j) ((order.length : Int) + 1)) x).map PyData.int), .val (.int j), .val (.int x)]) := by
  have h4 : Dl.gMul (.int 4) (.int k) = some (.int (4 * k)) := gMul_int (cmul_l (by decide))
  have hd := dr_all (ns := ns) (a + 4 * k + j) ((order.length : Int) + 1) hl (by omega)
  have hr : okR (dr ns (a + 4 * k + j) ((order.length : Int) + 1)) = true := by
    simp only [okR, Bool.and_eq_true, decide_eq_true_eq]
    omega
  have hz : (order.map PyData.int).length < sizeLine := by rw [List.length_map]; exact Nat.lt_of_le_of_lt ho (by decide)
  simp! [oB, gIns, itemD, scal_int, gMut, List.length_map, h4, hd.1]
  rw [List.length_map] at hz
  simp only [hr, hz, and_self, if_true, Option.map_some, insAt_map, List.set_cons_succ, List.set_cons_zero]
theorem oB_for {ns : List Int} {a k : Int} {s2 s3 s5 : Slot} (hl : ns.length ≤ 63) : ∀ {row order : List Int} {j : Nat} {s7 s8 : Slot}, order.length + row.length ≤ 1000 →
    ∃ (o : List Int) (t7 t8 : Slot), forD (fSG2 7 8) oB (enumD j (row.map PyData.int)) [.val (scr ns), .val (.int a), s2, s3, .val (.int k), s5, .own (order.map PyData.int), s7, s8] =
      some (.nx [.val (scr ns), .val (.int a), s2, s3, .val (.int k), s5, .own (o.map PyData.int), t7, t8]) ∧ o.Perm (row ++ order)
  | [], order, j, s7, s8, _ => ⟨order, s7, s8, by simp [enumD, forD], by simp⟩
  | x :: row, order, j, s7, s8, h => by
    rw [List.length_cons] at h
    have hp := insI_perm order (dr ns (a + 4 * k + ((j : Nat) : Int)) ((order.length : Int) + 1)) x
    have hlen := hp.length_eq
    rw [List.length_cons] at hlen
    obtain ⟨o, t7, t8, e, p⟩ := oB_for (s2 := s2) (s3 := s3) (s5 := s5) (a := a) (k := k) hl (row := row) (order := insI order (dr ns (a + 4 * k + ((j : Nat) : Int)) ((order.length : Int) + 1)) x) (j := j + 1) (s7 := .val (.int (j : Nat))) (s8 := .val (.int x)) (by omega)
    refine ⟨o, t7, t8, ?_, p.trans ?_⟩
    · have hs : fSG2 7 8 [.val (scr ns), .val (.int a), s2, s3, .val (.int k), s5, .own (order.map PyData.int), s7, s8] (.tuple [.int (j : Nat), .int x]) = some [.val (scr ns), .val (.int a), s2, s3, .val (.int k), s5, .own (order.map PyData.int), .val (.int (j : Nat)), .val (.int x)] := rfl
      simp only [List.map_cons, enumD, forD, hs, Option.bind_some, oB_run hl (show order.length ≤ 1000 by omega), e]
    · refine (hp.append_left row).trans ?_
      rw [List.cons_append]
      exact List.perm_middle
def PermL : List (List Int) → List (List Int) → Prop | [], [] => True | a :: l, b :: m => a.Perm b ∧ PermL l m | _, _ => False
def rB : SEnv → Option Out := (gSeq (gSetF 6 [] (fLst fNil)) (gSeq (gFor [5] (fEnum (fCons (fVar 5) fNil)) (fSG2 7 8) oB) (gApp 3 [6] (fCB gTuple (fCons (fVar 6) fNil)))))
theorem rB_run {ns row : List Int} {a k : Int} {rows : D} {found : List D} {s6 s7 s8 : Slot} (hl : ns.length ≤ 63) (hr : row.length ≤ 1000) (hf : found.length ≤ 1000) :
    ∃ (o : List Int) (t7 t8 : Slot), rB [.val (scr ns), .val (.int a), .val rows, .own found, .val (.int k), .val (lstD row), s6, s7, s8] = some (.nx [.val (scr ns), .val (.int a), .val rows, .own (found ++ [rowD o]), .val (.int k), .val (lstD row), .val (lstD o), t7, t8]) ∧ o.Perm row := by
  obtain ⟨o, t7, t8, e, p⟩ := oB_for (s2 := .val rows) (s3 := .own found) (s5 := .val (lstD row)) (a := a) (k := k) hl (row := row) (order := []) (j := 0) (s7 := s7) (s8 := s8) (by simpa using hr)
  rw [List.append_nil] at p
  refine ⟨o, t7, t8, ?_, p⟩
  have h1 : gSetF 6 [] (fLst fNil) [.val (scr ns), .val (.int a), .val rows, .own found, .val (.int k), .val (lstD row), s6, s7, s8] = some (.nx [.val (scr ns), .val (.int a), .val rows, .own found, .val (.int k), .val (lstD row), .own [], s7, s8]) := by
    simp only [gSetF, hand_nil, fLst, fNil, Option.bind_some, small_nil, Option.map_some, List.set_cons_succ, List.set_cons_zero]
  have h2 : gFor [5] (fEnum (fCons (fVar 5) fNil)) (fSG2 7 8) oB [.val (scr ns), .val (.int a), .val rows, .own found, .val (.int k), .val (lstD row), .own [], s7, s8] = some (.nx [.val (scr ns), .val (.int a), .val rows, .own found, .val (.int k), .val (lstD row), .own (o.map PyData.int), t7, t8]) := by
    have hh : hand [5] 0 [Slot.val (scr ns), .val (.int a), .val rows, .own found, .val (.int k), .val (lstD row), .own [], s7, s8] = [Slot.val (scr ns), .val (.int a), .val rows, .own found, .val (.int k), .val (lstD row), .own [], s7, s8] := rfl
    have hq : fEnum (fCons (fVar 5) fNil) (vFrz [Slot.val (scr ns), .val (.int a), .val rows, .own found, .val (.int k), .val (lstD row), .own [], s7, s8]) = some (enumD 0 (row.map PyData.int)) := by
      simp only [vFrz, List.map_cons, List.map_nil]
      simp! [fEnum, lstD]
    simp only [gFor, hh, hq, Option.bind_some]
    exact e
  have h3 : gApp 3 [6] (fCB gTuple (fCons (fVar 6) fNil)) [.val (scr ns), .val (.int a), .val rows, .own found, .val (.int k), .val (lstD row), .own (o.map PyData.int), t7, t8] = some (.nx [.val (scr ns), .val (.int a), .val rows, .own (found ++ [rowD o]), .val (.int k), .val (lstD row), .val (lstD o), t7, t8]) := by
    have hz : found.length < sizeLine := Nat.lt_of_le_of_lt hf (by decide)
    have hh : hand [6] 0 [Slot.val (scr ns), .val (.int a), .val rows, .own found, .val (.int k), .val (lstD row), .own (o.map PyData.int), t7, t8] = [Slot.val (scr ns), .val (.int a), .val rows, .own found, .val (.int k), .val (lstD row), .val (lstD o), t7, t8] := rfl
    simp only [gApp, itemD, hh, vFrz, List.map_cons, List.map_nil]
    simp! [scal_tup, Bool.false_eq_true, gMut, hz, List.set_cons_succ, List.set_cons_zero, lstD, rowD]
  simp only [rB, gSeq, h1, h2, h3, Option.bind_some]
theorem rB_for {ns : List Int} {a : Int} {rws : D} (hl : ns.length ≤ 63) : ∀ {rows : List (List Int)} {found : List D} {k : Nat} {s4 s5 s6 s7 s8 : Slot}, (∀ r ∈ rows, r.length ≤ 1000) → found.length + rows.length ≤ 1000 →
    ∃ (os : List (List Int)) (t4 t5 t6 t7 t8 : Slot), forD (fSG2 4 5) rB (enumD k (rows.map lstD)) [.val (scr ns), .val (.int a), .val rws, .own found, s4, s5, s6, s7, s8] = some (.nx [.val (scr ns), .val (.int a), .val rws, .own (found ++ os.map rowD), t4, t5, t6, t7, t8]) ∧ PermL os rows
  | [], found, k, s4, s5, s6, s7, s8, _, _ => ⟨[], s4, s5, s6, s7, s8, by simp [enumD, forD], trivial⟩
  | r :: rows, found, k, s4, s5, s6, s7, s8, h, hf => by
    rw [List.length_cons] at hf
    obtain ⟨o, u7, u8, e1, p1⟩ := rB_run (rows := rws) (a := a) (k := ((k : Nat) : Int)) (s6 := s6) (s7 := s7) (s8 := s8) hl (h r List.mem_cons_self) (show found.length ≤ 1000 by omega)
    obtain ⟨os, t4, t5, t6, t7, t8, e, p⟩ := rB_for hl (rws := rws) (a := a) (rows := rows) (found := found ++ [rowD o]) (k := k + 1) (s4 := .val (.int (k : Nat))) (s5 := .val (lstD r)) (s6 := .val (lstD o)) (s7 := u7) (s8 := u8) (fun r' hr' => h r' (List.mem_cons_of_mem _ hr')) (by rw [List.length_append, List.length_singleton]; omega)
    refine ⟨o :: os, t4, t5, t6, t7, t8, ?_, p1, p⟩
    have hs : fSG2 4 5 [.val (scr ns), .val (.int a), .val rws, .own found, s4, s5, s6, s7, s8] (.tuple [.int (k : Nat), lstD r]) = some [.val (scr ns), .val (.int a), .val rws, .own found, .val (.int (k : Nat)), .val (lstD r), s6, s7, s8] := rfl
    simp only [List.map_cons, enumD, forD, hs, Option.bind_some, e1]
    rw [e, List.append_assoc]
    rfl
theorem e_orders {ns : List Int} {a : Int} {rows : List (List Int)} (hl : ns.length ≤ 63) (hr : ∀ r ∈ rows, r.length ≤ 1000) (hn : rows.length ≤ 1000) : ∃ os : List (List Int), m__law_orders [scr ns, .int a, .list (rows.map lstD)] = some (.list (os.map rowD)) ∧ PermL os rows := by
  obtain ⟨os, t4, t5, t6, t7, t8, e, p⟩ := rB_for hl (rws := .list (rows.map lstD)) (a := a) (rows := rows) (found := []) (k := 0) (s4 := .non) (s5 := .non) (s6 := .non) (s7 := .non) (s8 := .non) hr (by simpa using hn)
  refine ⟨os, ?_, p⟩
  rw [List.nil_append] at e
  have h1 : gSetF 3 [] (fLst fNil) [.val (scr ns), .val (.int a), .val (.list (rows.map lstD)), .non, .non, .non, .non, .non, .non] = some (.nx [.val (scr ns), .val (.int a), .val (.list (rows.map lstD)), .own [], .non, .non, .non, .non, .non]) := by
    simp only [gSetF, hand_nil, fLst, fNil, Option.bind_some, small_nil, Option.map_some, List.set_cons_succ, List.set_cons_zero]
  have h2 : gFor [2] (fEnum (fCons (fVar 2) fNil)) (fSG2 4 5) rB [.val (scr ns), .val (.int a), .val (.list (rows.map lstD)), .own [], .non, .non, .non, .non, .non] = some (.nx [.val (scr ns), .val (.int a), .val (.list (rows.map lstD)), .own (os.map rowD), t4, t5, t6, t7, t8]) := by
    have hh : hand [2] 0 [Slot.val (scr ns), .val (.int a), .val (.list (rows.map lstD)), .own [], .non, .non, .non, .non, .non] = [Slot.val (scr ns), .val (.int a), .val (.list (rows.map lstD)), .own [], .non, .non, .non, .non, .non] := rfl
    have hq : fEnum (fCons (fVar 2) fNil) (vFrz [Slot.val (scr ns), .val (.int a), .val (.list (rows.map lstD)), .own [], .non, .non, .non, .non, .non]) = some (enumD 0 (rows.map lstD)) := by
      simp only [vFrz, List.map_cons, List.map_nil]
      simp! [fEnum]
    simp only [gFor, hh, hq, Option.bind_some]
    exact e
  unfold rB oB at h2
  simp! [m__law_orders, g__law_orders, h1, h2]
abbrev Pl := Int × List Int
abbrev Wy := Int × Int × Int
def plcD (p : Pl) : D := .tuple [.int p.1, rowD p.2]
def wayD (w : Wy) : D := .tuple [.int w.1, .int w.2.1, .int w.2.2]
def wdD (G T : List Pl) (W : List Wy) : D := .tuple [.tuple (G.map plcD), .tuple (T.map plcD), .tuple (W.map wayD)]
def ofG (W : List Wy) (i : Int) : List Int := (W.filter fun w => decide (w.1 = i)).map fun w => w.2.1
def ofT (W : List Wy) (j : Int) : List Int := (W.filter fun w => decide (w.2.1 = j)).map fun w => w.1
abbrev Ris (W : List Wy) : Prop := W.Pairwise fun a b => a.1 < b.1 ∨ (a.1 = b.1 ∧ a.2.1 < b.2.1)
structure Wd (G T : List Pl) (W : List Wy) : Prop where
  g1 : 1 ≤ G.length
  g4 : G.length ≤ 4
  t1 : 1 ≤ T.length
  t4 : T.length ≤ 4
  ga : ∀ p ∈ G, 0 ≤ p.1 ∧ p.1 ≤ 9
  ta : ∀ p ∈ T, 0 ≤ p.1 ∧ p.1 ≤ 9
  gl : ∀ (i : Nat) (p : Pl), G[i]? = some p → p.2.Perm (ofG W i)
  tl : ∀ (j : Nat) (p : Pl), T[j]? = some p → p.2.Perm (ofT W j)
  wr : ∀ w ∈ W, (0 ≤ w.1 ∧ w.1 < G.length) ∧ (0 ≤ w.2.1 ∧ w.2.1 < T.length) ∧ 1 ≤ w.2.2 ∧ w.2.2 ≤ 9
  wp : Ris W
  wl : W.length ≤ 16
theorem mem_ofG {W : List Wy} {i j : Int} : j ∈ ofG W i ↔ [i, j] ∈ W.map fun w => [w.1, w.2.1] := by
  simp only [ofG, List.mem_map, List.mem_filter, decide_eq_true_eq, List.cons.injEq, and_true]
  constructor
  · rintro ⟨w, ⟨h1, h2⟩, h3⟩; exact ⟨w, h1, h2, h3⟩
  · rintro ⟨w, h1, h2, h3⟩; exact ⟨w, ⟨h1, h2⟩, h3⟩
theorem mem_ofT {W : List Wy} {i j : Int} : i ∈ ofT W j ↔ [i, j] ∈ W.map fun w => [w.1, w.2.1] := by
  simp only [ofT, List.mem_map, List.mem_filter, decide_eq_true_eq, List.cons.injEq, and_true]
  constructor
  · rintro ⟨w, ⟨h1, h2⟩, h3⟩; exact ⟨w, h1, h3, h2⟩
  · rintro ⟨w, h1, h2, h3⟩; exact ⟨w, ⟨h1, h3⟩, h2⟩
theorem ofG_nodup {W : List Wy} (h : Ris W) (i : Int) : (ofG W i).Nodup := by
  unfold ofG List.Nodup
  rw [List.pairwise_map, List.pairwise_filter]
  refine h.imp fun hab ha hb => ?_
  rw [decide_eq_true_eq] at ha hb
  omega
theorem ofT_nodup {W : List Wy} (h : Ris W) (i : Int) : (ofT W i).Nodup := by
  unfold ofT List.Nodup
  rw [List.pairwise_map, List.pairwise_filter]
  refine h.imp fun hab ha hb => ?_
  rw [decide_eq_true_eq] at ha hb
  omega
theorem likeD_plc (p : Pl) : likeD (plcD p) = p.2 := by
  show ((p.2.map PyData.int).map toI) = p.2
  rw [List.map_map]
  exact List.map_id _
theorem placeOk_plc {n : Int} {p : Pl} (ha : 0 ≤ p.1 ∧ p.1 ≤ 9) (hn : p.2.Nodup) (hr : ∀ j ∈ p.2, 0 ≤ j ∧ j < n) : placeOk n (plcD p) = true := by
  have e : (p.2.map PyData.int).map toI = p.2 := likeD_plc p
  have e2 : (p.2.map PyData.int).all (whole 0 (n - 1)) = true := by
    rw [List.all_eq_true]
    intro x hx
    obtain ⟨j, hj, rfl⟩ := List.mem_map.mp hx
    have := hr j hj
    simp only [whole, Bool.and_eq_true, decide_eq_true_eq]
    omega
  simp only [placeOk, plcD, rowD, List.length_cons, List.length_nil, List.getD_cons_zero, List.getD_cons_succ, likesOk, whole, e, e2, ha.1, ha.2, hn, decide_true, Bool.and_self]
theorem wayOk_way {g t : Int} {w : Wy} (h : (0 ≤ w.1 ∧ w.1 < g) ∧ (0 ≤ w.2.1 ∧ w.2.1 < t) ∧ 1 ≤ w.2.2 ∧ w.2.2 ≤ 9) : wayOk g t (wayD w) = true := by
  obtain ⟨⟨a, b⟩, ⟨c, d⟩, e, f⟩ := h
  have b' : w.1 ≤ g - 1 := by omega
  have d' : w.2.1 ≤ t - 1 := by omega
  simp only [wayOk, wayD, List.length_cons, List.length_nil, List.getD_cons_zero, List.getD_cons_succ, whole, a, b', c, d', e, f, decide_true, Bool.and_self]
theorem lex2 {a b c d : Int} (h : a < c ∨ (a = c ∧ b < d)) : Dl.lexLt [a, b] [c, d] = true := by
  show HT.lexLt [a, b] [c, d] = true
  rw [HT.lexLt_cons]
  by_cases e : a = c
  · rw [if_pos e, HT.lexLt_cons, if_neg (by omega)]
    simp only [decide_eq_true_eq]; omega
  · rw [if_neg e]; simp only [decide_eq_true_eq]; omega
theorem Wd.glike {G T : List Pl} {W : List Wy} (h : Wd G T W) {p : Pl} (hp : p ∈ G) : ∃ i : Nat, i < G.length ∧ p.2.Perm (ofG W i) := by
  obtain ⟨i, hi, e⟩ := List.getElem_of_mem hp
  exact ⟨i, hi, h.gl i p (by rw [List.getElem?_eq_getElem hi, e])⟩
theorem Wd.tlike {G T : List Pl} {W : List Wy} (h : Wd G T W) {p : Pl} (hp : p ∈ T) : ∃ i : Nat, i < T.length ∧ p.2.Perm (ofT W i) := by
  obtain ⟨i, hi, e⟩ := List.getElem_of_mem hp
  exact ⟨i, hi, h.tl i p (by rw [List.getElem?_eq_getElem hi, e])⟩
theorem Wd.gok {G T : List Pl} {W : List Wy} (h : Wd G T W) : (G.map plcD).all (placeOk T.length) = true := by
  rw [List.all_eq_true]
  intro x hx
  obtain ⟨p, hp, rfl⟩ := List.mem_map.mp hx
  obtain ⟨i, hi, q⟩ := h.glike hp
  refine placeOk_plc (h.ga p hp) (q.nodup_iff.mpr (ofG_nodup h.wp _)) fun j hj => ?_
  obtain ⟨w, hw, e⟩ := List.mem_map.mp (mem_ofG.mp (q.mem_iff.mp hj))
  injection e with e1 e2
  injection e2 with e2 _
  have := (h.wr w hw).2.1
  rw [e2] at this; exact this
theorem Wd.tok {G T : List Pl} {W : List Wy} (h : Wd G T W) : (T.map plcD).all (placeOk G.length) = true := by
  rw [List.all_eq_true]
  intro x hx
  obtain ⟨p, hp, rfl⟩ := List.mem_map.mp hx
  obtain ⟨i, hi, q⟩ := h.tlike hp
  refine placeOk_plc (h.ta p hp) (q.nodup_iff.mpr (ofT_nodup h.wp _)) fun j hj => ?_
  obtain ⟨w, hw, e⟩ := List.mem_map.mp (mem_ofT.mp (q.mem_iff.mp hj))
  injection e with e1 e2
  have := (h.wr w hw).1
  rw [e1] at this; exact this
theorem Wd.lok {G T : List Pl} {W : List Wy} (h : Wd G T W) : lOk (wdD G T W) = true := by
  have hP : (W.map wayD).map wpair = W.map fun w => [w.1, w.2.1] := by rw [List.map_map]; rfl
  have hadj : adj (W.map fun w => [w.1, w.2.1]) = true := pair_adj (List.pairwise_map.mpr (h.wp.imp fun hab => lex2 hab))
  have hokg : okg (W.map fun w => [w.1, w.2.1]) (T.map plcD) 0 (G.map plcD) = true := by
    rw [okg_iff]
    intro m p hp l q hq
    rw [List.getElem?_map] at hp hq
    obtain ⟨p', hp', rfl⟩ := Option.map_eq_some_iff.mp hp
    obtain ⟨q', hq', rfl⟩ := Option.map_eq_some_iff.mp hq
    rw [okp_iff, likeD_plc, likeD_plc, (h.gl m p' hp').mem_iff, (h.tl l q' hq').mem_iff, mem_ofG, mem_ofT, Nat.zero_add]
    exact ⟨Iff.rfl, Iff.rfl⟩
  have hw : (W.map wayD).all (wayOk G.length T.length) = true := by
    rw [List.all_eq_true]
    intro x hx
    obtain ⟨w, hw, rfl⟩ := List.mem_map.mp hx
    exact wayOk_way (h.wr w hw)
  have hs : ∀ {L : List Pl}, 1 ≤ L.length → L.length ≤ 4 → sideOk (.tuple (L.map plcD)) = true := fun {L} a b => by
    simp only [sideOk, long, List.length_map, Bool.and_eq_true, decide_eq_true_eq]; omega
  have h3 : long 3 3 (wdD G T W) = true := rfl
  have hg := h.gok
  have ht := h.tok
  unfold lOk
  rw [h3, Bool.true_and]
  simp only [wdD, seqD, List.getD_cons_zero, List.getD_cons_succ, hP, hadj, hokg, Bool.and_true, partsOk, hs h.g1 h.g4, hs h.t1 h.t4, List.length_map, hg, ht, hw, isT]
theorem len_filter {W : List Wy} {p : Wy → Bool} (h : W.length ≤ 16) : (W.filter p).length ≤ 16 := Nat.le_trans (List.length_filter_le _ _) h
theorem plc_fit {p : Pl} (h : p.2.length ≤ 16) : Fit 16 2 (plcD p) := .tup (by simp only [List.length_cons, List.length_nil]; omega) fun x hx => by
  rcases List.mem_cons.mp hx with rfl | hx
  · exact fit_int _
  · rw [List.mem_singleton] at hx
    subst hx
    exact fit_row h
theorem way_fit (w : Wy) : Fit 16 1 (wayD w) := .tup (by simp only [List.length_cons, List.length_nil]; omega) fun x hx => by
  simp only [List.mem_cons, List.not_mem_nil, or_false] at hx
  rcases hx with rfl | rfl | rfl <;> exact fit_int _
theorem Wd.fit {G T : List Pl} {W : List Wy} (h : Wd G T W) : Fit 16 4 (wdD G T W) := by
  refine .tup (by simp only [List.length_cons, List.length_nil]; omega) fun x hx => ?_
  simp only [List.mem_cons, List.not_mem_nil, or_false] at hx
  have h4 := h.g4
  have h5 := h.t4
  have h6 := h.wl
  rcases hx with rfl | rfl | rfl
  · refine .tup (by rw [List.length_map]; omega) fun x hx => ?_
    obtain ⟨p, hp, rfl⟩ := List.mem_map.mp hx
    obtain ⟨i, hi, q⟩ := h.glike hp
    exact plc_fit (by rw [q.length_eq, ofG, List.length_map]; exact len_filter h.wl)
  · refine .tup (by rw [List.length_map]; omega) fun x hx => ?_
    obtain ⟨p, hp, rfl⟩ := List.mem_map.mp hx
    obtain ⟨i, hi, q⟩ := h.tlike hp
    exact plc_fit (by rw [q.length_eq, ofT, List.length_map]; exact len_filter h.wl)
  · refine .tup (by rw [List.length_map]; omega) fun x hx => ?_
    obtain ⟨p, hp, rfl⟩ := List.mem_map.mp hx
    exact (way_fit p).mono (Nat.le_refl _) (by decide)
/-! the closed ones -/
theorem wd_closed {c : Int} (h0 : 0 ≤ c) (h9 : c ≤ 9) : Wd [(c, [0, 1]), (c, [1, 0])] [(c, [1, 0]), (c, [0, 1])] [(0, 0, 2), (0, 1, 2), (1, 0, 2), (1, 1, 2)] where
  g1 := by simp only [List.length_cons, List.length_nil]; omega
  g4 := by simp only [List.length_cons, List.length_nil]; omega
  t1 := by simp only [List.length_cons, List.length_nil]; omega
  t4 := by simp only [List.length_cons, List.length_nil]; omega
  ga := by intro p hp; simp only [List.mem_cons, List.not_mem_nil, or_false] at hp; rcases hp with rfl | rfl <;> exact ⟨h0, h9⟩
  ta := by intro p hp; simp only [List.mem_cons, List.not_mem_nil, or_false] at hp; rcases hp with rfl | rfl <;> exact ⟨h0, h9⟩
  gl := by
    intro i p hp
    match i, hp with
    | 0, hp => injection hp with hp; subst hp; exact (show List.Perm ([0, 1] : List Int) (ofG [(0, 0, 2), (0, 1, 2), (1, 0, 2), (1, 1, 2)] ((0 : Nat) : Int)) by decide)
    | 1, hp => injection hp with hp; subst hp; exact (show List.Perm ([1, 0] : List Int) (ofG [(0, 0, 2), (0, 1, 2), (1, 0, 2), (1, 1, 2)] ((1 : Nat) : Int)) by decide)
  tl := by
    intro i p hp
    match i, hp with
    | 0, hp => injection hp with hp; subst hp; exact (show List.Perm ([1, 0] : List Int) (ofT [(0, 0, 2), (0, 1, 2), (1, 0, 2), (1, 1, 2)] ((0 : Nat) : Int)) by decide)
    | 1, hp => injection hp with hp; subst hp; exact (show List.Perm ([0, 1] : List Int) (ofT [(0, 0, 2), (0, 1, 2), (1, 0, 2), (1, 1, 2)] ((1 : Nat) : Int)) by decide)
  wr := show ∀ w ∈ ([(0, 0, 2), (0, 1, 2), (1, 0, 2), (1, 1, 2)] : List Wy), (0 ≤ w.1 ∧ w.1 < ((2 : Nat) : Int)) ∧ (0 ≤ w.2.1 ∧ w.2.1 < ((2 : Nat) : Int)) ∧ 1 ≤ w.2.2 ∧ w.2.2 ≤ 9 by decide
  wp := by decide
  wl := by decide
/-! more givers, other limits -/
def lim9 (w : Wy) : Wy := (w.1, w.2.1, 9)
theorem ofG_lim (W : List Wy) (i : Int) : ofG (W.map lim9) i = ofG W i := by
  simp only [ofG, List.filter_map, List.map_map]; rfl
theorem ofT_lim (W : List Wy) (i : Int) : ofT (W.map lim9) i = ofT W i := by
  simp only [ofT, List.filter_map, List.map_map]; rfl
theorem Wd.pad {G T : List Pl} {W : List Wy} (h : Wd G T W) : Wd (G ++ List.replicate (4 - G.length) (9, [])) T (W.map lim9) where
  g1 := by rw [List.length_append]; have := h.g1; omega
  g4 := by rw [List.length_append, List.length_replicate]; have := h.g4; omega
  t1 := h.t1
  t4 := h.t4
  ga := by
    intro p hp
    rcases List.mem_append.mp hp with hp | hp
    · exact h.ga p hp
    · rw [List.eq_of_mem_replicate hp]; decide
  ta := h.ta
  gl := by
    intro i p hp
    rw [ofG_lim]
    by_cases hi : i < G.length
    · rw [List.getElem?_append_left hi] at hp; exact h.gl i p hp
    · rw [List.getElem?_append_right (by omega)] at hp
      have hm := List.mem_of_getElem? hp
      rw [List.eq_of_mem_replicate hm]
      have : ofG W i = [] := by
        unfold ofG
        rw [List.map_eq_nil_iff, List.filter_eq_nil_iff]
        intro w hw
        have := (h.wr w hw).1
        simp only [decide_eq_true_eq]; omega
      rw [this]
  tl := by intro i p hp; rw [ofT_lim]; exact h.tl i p hp
  wr := by
    intro w hw
    obtain ⟨v, hv, rfl⟩ := List.mem_map.mp hw
    have := h.wr v hv
    have := h.g4
    rw [List.length_append, List.length_replicate]
    simp only [lim9]
    omega
  wp := List.pairwise_map.mpr h.wp
  wl := by rw [List.length_map]; exact h.wl
/-! of the rows -/
def zipA (f : Nat → Int) : Nat → List (List Int) → List Pl | _, [] => [] | k, r :: rs => (f k, r) :: zipA f (k + 1) rs
theorem zipA_len (f : Nat → Int) : ∀ (rs : List (List Int)) (k : Nat), (zipA f k rs).length = rs.length
  | [], k => rfl
  | r :: rs, k => by rw [zipA, List.length_cons, List.length_cons, zipA_len f rs]
theorem zipA_get (f : Nat → Int) : ∀ {rs : List (List Int)} {k i : Nat} {p : Pl}, (zipA f k rs)[i]? = some p → ∃ r, rs[i]? = some r ∧ p = (f (k + i), r)
  | [], k, i, p, h => by simp [zipA] at h
  | r :: rs, k, 0, p, h => by simp [zipA] at h; exact ⟨r, rfl, h.symm⟩
  | r :: rs, k, i + 1, p, h => by
    simp only [zipA, List.getElem?_cons_succ] at h
    obtain ⟨y, h1, h2⟩ := zipA_get f h
    exact ⟨y, by simpa using h1, by rw [h2]; congr 2; omega⟩
theorem permL_len : ∀ {a b : List (List Int)}, PermL a b → a.length = b.length
  | [], [], _ => rfl
  | x :: a, y :: b, h => by rw [List.length_cons, List.length_cons, permL_len h.2]
  | [], _ :: _, h => h.elim
  | _ :: _, [], h => h.elim
theorem permL_get : ∀ {a b : List (List Int)} {i : Nat} {r : List Int}, PermL a b → a[i]? = some r → ∃ s, b[i]? = some s ∧ r.Perm s
  | [], [], i, r, _, h => by simp at h
  | x :: a, y :: b, 0, r, h, e => by
    simp only [List.getElem?_cons_zero, Option.some.injEq] at e
    subst e
    exact ⟨y, rfl, h.1⟩
  | x :: a, y :: b, i + 1, r, h, e => by
    simp only [List.getElem?_cons_succ] at e
    obtain ⟨s, h1, h2⟩ := permL_get h.2 e
    exact ⟨s, by simpa using h1, h2⟩
  | [], _ :: _, i, r, h, _ => h.elim
  | _ :: _, [], i, r, h, _ => h.elim
def rowsG (W : List Wy) (m : Nat) : List (List Int) := (List.range m).map fun i => ofG W ((i : Nat) : Int)
def rowsT (W : List Wy) (m : Nat) : List (List Int) := (List.range m).map fun i => ofT W ((i : Nat) : Int)
theorem wd_rows {m s : Nat} {W : List Wy} {mine yours : List (List Int)} {f g : Nat → Int} (m1 : 1 ≤ m) (m4 : m ≤ 4) (s1 : 1 ≤ s) (s4 : s ≤ 4) (hf : ∀ k, 0 ≤ f k ∧ f k ≤ 9) (hg : ∀ k, 0 ≤ g k ∧ g k ≤ 9)
    (hm : PermL mine (rowsG W m)) (hy : PermL yours (rowsT W s)) (wr : ∀ w ∈ W, (0 ≤ w.1 ∧ w.1 < m) ∧ (0 ≤ w.2.1 ∧ w.2.1 < s) ∧ 1 ≤ w.2.2 ∧ w.2.2 ≤ 9) (wp : Ris W) (wl : W.length ≤ 16) : Wd (zipA f 0 mine) (zipA g 0 yours) W := by
  have lm : (zipA f 0 mine).length = m := by rw [zipA_len, permL_len hm, rowsG, List.length_map, List.length_range]
  have ly : (zipA g 0 yours).length = s := by rw [zipA_len, permL_len hy, rowsT, List.length_map, List.length_range]
  have am : ∀ {h : Nat → Int} {rs : List (List Int)}, (∀ k, 0 ≤ h k ∧ h k ≤ 9) → ∀ p ∈ zipA h 0 rs, 0 ≤ p.1 ∧ p.1 ≤ 9 := fun {h rs} hh p hp => by
    obtain ⟨i, hi⟩ := List.mem_iff_getElem?.mp hp
    obtain ⟨r, _, rfl⟩ := zipA_get h hi
    exact hh _
  refine ⟨by omega, by omega, by omega, by omega, am hf, am hg, fun i p hp => ?_, fun i p hp => ?_, by rw [lm, ly]; exact wr, wp, wl⟩
  · obtain ⟨r, h1, rfl⟩ := zipA_get f hp
    obtain ⟨t, h2, h3⟩ := permL_get hm h1
    rw [rowsG, List.getElem?_map] at h2
    obtain ⟨k, hk, rfl⟩ := Option.map_eq_some_iff.mp h2
    have : k = i := by
      rw [List.getElem?_eq_some_iff] at hk
      obtain ⟨h, e⟩ := hk
      rw [List.getElem_range] at e
      exact e.symm
    subst this
    exact h3
  · obtain ⟨r, h1, rfl⟩ := zipA_get g hp
    obtain ⟨t, h2, h3⟩ := permL_get hy h1
    rw [rowsT, List.getElem?_map] at h2
    obtain ⟨k, hk, rfl⟩ := Option.map_eq_some_iff.mp h2
    have : k = i := by
      rw [List.getElem?_eq_some_iff] at hk
      obtain ⟨h, e⟩ := hk
      rw [List.getElem_range] at e
      exact e.symm
    subst this
    exact h3
theorem gSet_same {i : Nat} {fz : List Nat} {f : Dl.Env → Option D} {ρ ρ' : SEnv} {d : D} (hf : f (vAll ρ) = some d) (hs : Dl.scal d = false) (hh : hand fz 0 ρ = ρ') (hv : vFrz ρ' = vAll ρ) : Dl.gSet i fz f ρ = some (.nx (ρ'.set i (.val d))) := by
  simp only [Dl.gSet, hf, Option.bind_some, hs, Bool.false_eq_true, if_false, hh, hv, Option.map_some]
theorem gSet_scal {i : Nat} {fz : List Nat} {f : Dl.Env → Option D} {ρ : SEnv} {d : D} (hf : f (vAll ρ) = some d) (hs : Dl.scal d = true) : Dl.gSet i fz f ρ = some (.nx (ρ.set i (.val d))) := by
  simp only [Dl.gSet, hf, Option.bind_some, hs, if_true]
theorem way_0 (w : Wy) : gIx (wayD w) (.int 0) = some (.int w.1) := rfl
theorem way_1 (w : Wy) : gIx (wayD w) (.int 1) = some (.int w.2.1) := rfl
theorem small_le {ds : List D} (h : ds.length ≤ 20) : small ds = some ds := small_of (by omega)
theorem small3 (a b c : D) : small [a, b, c] = some [a, b, c] := rfl
theorem dm_lt {a b s : Int} (hs : s = 1 ∨ s = 2 ∨ s = 3) (h : a < b) : a / s < b / s ∨ (a / s = b / s ∧ a % s < b % s) := by rcases hs with rfl | rfl | rfl <;> omega
theorem dm_rng {k m s : Int} (hs : s = 1 ∨ s = 2 ∨ s = 3) (hm : m = 1 ∨ m = 2 ∨ m = 3) (h0 : 0 ≤ k) (h : k < m * s) : (0 ≤ k / s ∧ k / s < m) ∧ 0 ≤ k % s ∧ k % s < s := by
  rcases hs with rfl | rfl | rfl <;> rcases hm with rfl | rfl | rfl <;> omega
def lB : SEnv → Option Out := (gIf (fAndT (fB (f2 gLt (fCB gLen (fCons (fVar 7) fNil)) (fVar 2))) (fB (f2 gGt (fCall 3 m__law_drawn (fCons (fVar 0) (fCons (f2 gAdd (f2 gAdd (fVar 1) (fC (.int 2))) (fVar 8)) (fCons (fC (.int 4)) fNil)))) (fC (.int 0))))) (gApp 7 [8, 6, 0, 1] (fTup (fCons (f2 gDiv (fVar 8) (fVar 6)) (fCons (f2 gMod (fVar 8) (fVar 6)) (fCons (f2 gAdd (fC (.int 1)) (fCall 3 m__law_drawn (fCons (fVar 0) (fCons (f2 gAdd (f2 gAdd (fVar 1) (fC (.int 12))) (fVar 8)) (fCons (fC (.int 2)) fNil))))) fNil))))) gNx)
abbrev st (ns : List Int) (m s : Int) (x4 x7 x8 x9 x10 x11 : Slot) : SEnv := [.val (scr ns), .val (.int 0), .val (.int 9), .non, x4, .val (.int m), .val (.int s), x7, x8, x9, x10, x11]
def nxW (ns : List Int) (s k : Int) (W : List Wy) : List Wy := if (W.length : Int) < 9 ∧ 0 < dr ns (0 + 2 + k) 4 then W ++ [(k / s, k % s, 1 + dr ns (0 + 12 + k) 2)] else W
theorem lB_run {ns : List Int} {m s k : Int} {W : List Wy} (hl : ns.length ≤ 63) (hs : s = 1 ∨ s = 2 ∨ s = 3) (hw : W.length ≤ 9) :
    lB (st ns m s .non (.own (W.map wayD)) (.val (.int k)) .non .non .non) = some (.nx (st ns m s .non (.own ((nxW ns s k W).map wayD)) (.val (.int k)) .non .non .non)) := by
  have hs0 : 0 < s := by omega
  have hz : W.length < sizeLine := Nat.lt_of_le_of_lt hw (by decide)
  have hd : Dl.gDiv (.int k) (.int s) = some (.int (k / s)) := gDiv_int ⟨hs0, by omega⟩
  have hm : Dl.gMod (.int k) (.int s) = some (.int (k % s)) := gMod_int hs0
  have e4 := dr_eq (ns := ns) (0 + 2 + k) 4 hl (by decide)
  have e2 := dr_eq (ns := ns) (0 + 12 + k) 2 hl (by decide)
  have hh : hand [8, 6, 0, 1] 0 (st ns m s .non (.own (W.map wayD)) (.val (.int k)) .non .non .non) = st ns m s .non (.own (W.map wayD)) (.val (.int k)) .non .non .non := rfl
  have ha : gApp 7 [8, 6, 0, 1] (fTup (fCons (f2 gDiv (fVar 8) (fVar 6)) (fCons (f2 gMod (fVar 8) (fVar 6)) (fCons (f2 gAdd (fC (.int 1)) (fCall 3 m__law_drawn (fCons (fVar 0) (fCons (f2 gAdd (f2 gAdd (fVar 1) (fC (.int 12))) (fVar 8)) (fCons (fC (.int 2)) fNil))))) fNil)))) (st ns m s .non (.own (W.map wayD)) (.val (.int k)) .non .non .non) = some (.nx (st ns m s .non (.own ((W ++ [(k / s, k % s, 1 + dr ns (0 + 12 + k) 2)]).map wayD)) (.val (.int k)) .non .non .non)) := by
    simp only [gApp, itemD, hh, vFrz, List.map_cons, List.map_nil]
    simp! [scal_tup, Bool.false_eq_true, gMut, hd, hm, e2, small3, List.length_map, hz, List.set_cons_succ, List.set_cons_zero, List.map_append]
    rfl
  by_cases c1 : (W.length : Int) < 9
  · by_cases c2 : 0 < dr ns (0 + 2 + k) 4
    · rw [show nxW ns s k W = W ++ [(k / s, k % s, 1 + dr ns (0 + 12 + k) 2)] from if_pos ⟨c1, c2⟩, ← ha]
      simp! [lB, gLt_int, gGt_int, List.length_map, c1, c2, decide_true, gB_bool, e4]
    · rw [show nxW ns s k W = W from if_neg fun h => c2 h.2]
      simp! [lB, gLt_int, gGt_int, List.length_map, c1, c2, decide_true, decide_false, gB_bool, e4, Bool.false_eq_true]
  · rw [show nxW ns s k W = W from if_neg fun h => c1 h.1]
    simp! [lB, gLt_int, gGt_int, List.length_map, c1, decide_false, gB_bool, Bool.false_eq_true]
structure Inv (m s k : Int) (W : List Wy) : Prop where
  mem : ∀ w ∈ W, ∃ j : Int, 0 ≤ j ∧ j < k ∧ w.1 = j / s ∧ w.2.1 = j % s ∧ 1 ≤ w.2.2 ∧ w.2.2 ≤ 2
  ris : Ris W
  len : W.length ≤ 9
theorem Inv.next {ns : List Int} {m s k : Int} {W : List Wy} (hl : ns.length ≤ 63) (hs : s = 1 ∨ s = 2 ∨ s = 3) (hk : 0 ≤ k) (h : Inv m s k W) : Inv m s (k + 1) (nxW ns s k W) := by
  have old : ∀ w ∈ W, ∃ j : Int, 0 ≤ j ∧ j < k + 1 ∧ w.1 = j / s ∧ w.2.1 = j % s ∧ 1 ≤ w.2.2 ∧ w.2.2 ≤ 2 := fun w hw => by
    obtain ⟨j, a, b, c⟩ := h.mem w hw
    exact ⟨j, a, by omega, c⟩
  by_cases c : (W.length : Int) < 9 ∧ 0 < dr ns (0 + 2 + k) 4
  · rw [show nxW ns s k W = W ++ [(k / s, k % s, 1 + dr ns (0 + 12 + k) 2)] from if_pos c]
    have g1 := dr_ge (ns := ns) (0 + 12 + k) 2 hl (by decide)
    have g2 := dr_lt (ns := ns) (0 + 12 + k) 2 hl (by decide)
    refine ⟨fun w hw => ?_, ?_, ?_⟩
    · rcases List.mem_append.mp hw with hw | hw
      · exact old w hw
      · rw [List.mem_singleton] at hw
        subst hw
        exact ⟨k, hk, by omega, rfl, rfl, by simp only; omega, by simp only; omega⟩
    · refine List.pairwise_append.mpr ⟨h.ris, List.pairwise_singleton _ _, fun a ha b hb => ?_⟩
      rw [List.mem_singleton] at hb
      subst hb
      obtain ⟨j, _, b, c1, c2, _⟩ := h.mem a ha
      rw [c1, c2]
      exact dm_lt hs b
    · rw [List.length_append, List.length_singleton]; omega
  · rw [show nxW ns s k W = W from if_neg c]
    exact ⟨old, h.ris, h.len⟩
theorem lB_for {ns : List Int} {m s : Int} (hl : ns.length ≤ 63) (hs : s = 1 ∨ s = 2 ∨ s = 3) : ∀ (n k : Nat) {W : List Wy} {x8 : Slot}, Slot.frz x8 = Slot.all x8 → Inv m s k W →
    ∃ W' t8, forD (fSG 8) lB ((List.range' k n).map fun i => PyData.int ((i : Nat) : Int)) (st ns m s .non (.own (W.map wayD)) x8 .non .non .non) = some (.nx (st ns m s .non (.own (W'.map wayD)) t8 .non .non .non)) ∧ Slot.frz t8 = Slot.all t8 ∧ Inv m s ((k + n : Nat) : Int) W'
  | 0, k, W, x8, h8, h => ⟨W, x8, rfl, h8, h⟩
  | n + 1, k, W, x8, h8, h => by
    have h' : Inv m s ((k + 1 : Nat) : Int) (nxW ns s k W) := by
      have := h.next (ns := ns) hl hs (by omega)
      rwa [show ((k : Int) + 1) = ((k + 1 : Nat) : Int) by omega] at this
    obtain ⟨W', t8, e, a, b⟩ := lB_for hl hs n (k + 1) (W := nxW ns s k W) (x8 := .val (.int (k : Nat))) rfl h'
    refine ⟨W', t8, ?_, a, by rw [show k + (n + 1) = k + 1 + n by omega]; exact b⟩
    have hsg : ∀ d, fSG 8 (st ns m s .non (.own (W.map wayD)) x8 .non .non .non) d = some (st ns m s .non (.own (W.map wayD)) (.val d) .non .non .non) := fun d => rfl
    rw [List.range'_succ, List.map_cons, forD, hsg, Option.bind_some, lB_run hl hs h.len]
    exact e
/-! the rows -/
theorem inG (W : List Wy) (i : Int) (hw : W.length ≤ 20) : fComp 1 [0] (fSeq (fVar 1)) (fG 0) (fB (f2 gEqD (f2 gIx (fVar 0) (fC (.int 0))) (fVar 1))) (f2 gIx (fVar 0) (fC (.int 1))) [some (.int i), some (.list (W.map wayD))] = some ((ofG W i).map PyData.int) := by
  rw [fComp_filter (ds := W.map wayD) (p := fun d => decide (toI ((seqD d).getD 0 .none) = i)) (h := fun d => (seqD d).getD 1 .none) rfl (by rw [List.length_map]; omega) (fun d hd => ?_) fun d hd _ => ?_]
  · rw [List.filter_map, List.map_map, ofG, List.map_map]; rfl
  · obtain ⟨w, _, rfl⟩ := List.mem_map.mp hd
    simp! [way_0, gEqD_int, gB_bool]
    rfl
  · obtain ⟨w, _, rfl⟩ := List.mem_map.mp hd
    simp! [way_1]
    rfl
theorem inT (W : List Wy) (i : Int) (hw : W.length ≤ 20) : fComp 1 [0] (fSeq (fVar 1)) (fG 0) (fB (f2 gEqD (f2 gIx (fVar 0) (fC (.int 1))) (fVar 1))) (f2 gIx (fVar 0) (fC (.int 0))) [some (.int i), some (.list (W.map wayD))] = some ((ofT W i).map PyData.int) := by
  rw [fComp_filter (ds := W.map wayD) (p := fun d => decide (toI ((seqD d).getD 1 .none) = i)) (h := fun d => (seqD d).getD 0 .none) rfl (by rw [List.length_map]; omega) (fun d hd => ?_) fun d hd _ => ?_]
  · rw [List.filter_map, List.map_map, ofT, List.map_map]; rfl
  · obtain ⟨w, _, rfl⟩ := List.mem_map.mp hd
    simp! [way_1, gEqD_int, gB_bool]
    rfl
  · obtain ⟨w, _, rfl⟩ := List.mem_map.mp hd
    simp! [way_0]
    rfl
theorem okR_nat {m : Nat} (hm : m ≤ 1000) : okR ((m : Nat) : Int) = true := by
  unfold okR
  rw [Bool.and_eq_true, decide_eq_true_eq, decide_eq_true_eq]
  have h1 : (0 : Int) ≤ (m : Int) := Int.natCast_nonneg m
  have h2 : (m : Int) ≤ 1000 := by omega
  exact ⟨Int.le_trans (by decide) h1, Int.lt_of_le_of_lt h2 (by decide)⟩
theorem gRange_n {j : Int} (h : okR j = true) : gRange [.int j] = some ((List.range j.toNat).map fun i => PyData.int ((i : Nat) : Int)) := by
  rw [gRange, if_pos h]
theorem range_n {fi : Dl.Env → Option D} {ρ : Dl.Env} (m : Nat) (hm : m ≤ 1000) (h : fi ρ = some (.int (m : Nat))) : fRange (fCons fi fNil) ρ = some ((List.range m).map fun i => PyData.int ((i : Nat) : Int)) := by
  have e : fCons fi fNil ρ = some [.int ((m : Nat) : Int)] := by simp only [fCons, fNil, h, Option.bind_some, Option.map_some]
  have e2 : fRange (fCons fi fNil) ρ = (fCons fi fNil ρ).bind gRange := rfl
  rw [e2, e, Option.bind_some, gRange_n (okR_nat hm), Int.toNat_natCast]
theorem e_rowsG {W : List Wy} {m : Nat} {i7 i5 : Nat} {ρ : Dl.Env} (hw : W.length ≤ 20) (hm : m ≤ 1000) (h5 : fVar i5 ρ = some (.int (m : Nat))) (h7 : (ρ[i7]?).getD none = some (.list (W.map wayD))) :
    fComp 1 [i7] (fRange (fCons (fVar i5) fNil)) (fG 0) (fun _ => some true) (fLs (fComp 1 [0] (fSeq (fVar 1)) (fG 0) (fB (f2 gEqD (f2 gIx (fVar 0) (fC (.int 0))) (fVar 1))) (f2 gIx (fVar 0) (fC (.int 1))))) ρ = some ((rowsG W m).map lstD) := by
  rw [fComp_map (h := fun d => lstD (ofG W (toI d))) (range_n m hm h5) (by rw [List.length_map, List.length_range]; omega) fun d hd => ?_]
  · rw [rowsG, List.map_map, List.map_map]; rfl
  · obtain ⟨i, _, rfl⟩ := List.mem_map.mp hd
    simp only [List.map_cons, List.map_nil, h7, fLs, inG W _ hw, Option.map_some, lstD, toI]
theorem e_rowsT {W : List Wy} {m : Nat} {i7 i5 : Nat} {ρ : Dl.Env} (hw : W.length ≤ 20) (hm : m ≤ 1000) (h5 : fVar i5 ρ = some (.int (m : Nat))) (h7 : (ρ[i7]?).getD none = some (.list (W.map wayD))) :
    fComp 1 [i7] (fRange (fCons (fVar i5) fNil)) (fG 0) (fun _ => some true) (fLs (fComp 1 [0] (fSeq (fVar 1)) (fG 0) (fB (f2 gEqD (f2 gIx (fVar 0) (fC (.int 1))) (fVar 1))) (f2 gIx (fVar 0) (fC (.int 0))))) ρ = some ((rowsT W m).map lstD) := by
  rw [fComp_map (h := fun d => lstD (ofT W (toI d))) (range_n m hm h5) (by rw [List.length_map, List.length_range]; omega) fun d hd => ?_]
  · rw [rowsT, List.map_map, List.map_map]; rfl
  · obtain ⟨i, _, rfl⟩ := List.mem_map.mp hd
    simp only [List.map_cons, List.map_nil, h7, fLs, inT W _ hw, Option.map_some, lstD, toI]
def plE (c : Int) : Dl.Env → Option D := (fTup (fCons (fCall 3 m__law_drawn (fCons (fVar 2) (fCons (f2 gAdd (f2 gAdd (fVar 3) (fC (.int c))) (fVar 0)) (fCons (fC (.int 4)) fNil)))) (fCons (fVar 1) fNil)))
theorem e_pl {ns : List Int} (c : Int) (hl : ns.length ≤ 63) : ∀ (mine : List (List Int)) (k : Nat), compL (fG2 0 1) (fun _ => some true) (plE c) [none, none, some (scr ns), some (.int 0)] (enumD k (mine.map rowD)) = some ((zipA (fun k => dr ns (0 + c + ((k : Nat) : Int)) 4) k mine).map plcD)
  | [], k => rfl
  | r :: mine, k => by
    have hg : fG2 0 1 [none, none, some (scr ns), some (.int 0)] (.tuple [.int ((k : Nat) : Int), rowD r]) = some [some (.int ((k : Nat) : Int)), some (rowD r), some (scr ns), some (.int 0)] := rfl
    have he : plE c [some (.int ((k : Nat) : Int)), some (rowD r), some (scr ns), some (.int 0)] = some (plcD (dr ns (0 + c + ((k : Nat) : Int)) 4, r)) := by
      simp! [plE, dr_eq (ns := ns) (0 + c + ((k : Nat) : Int)) 4 hl (by decide), small2, plcD]
    have ih := e_pl c hl mine (k + 1)
    rw [List.map_cons, enumD, compL, hg]
    simp only [Option.bind_some, if_true, he, ih, Option.map_some, zipA, List.map_cons]
theorem enumD_len : ∀ (ds : List D) (k : Nat), (enumD k ds).length = ds.length
  | [], k => rfl
  | d :: ds, k => by rw [enumD, List.length_cons, List.length_cons, enumD_len ds]
theorem e_places {ns : List Int} {c : Int} {i9 : Nat} {ρ : Dl.Env} {mine : List (List Int)} (hl : ns.length ≤ 63) (hm : mine.length ≤ 1000) (h9 : fVar i9 ρ = some (.list (mine.map rowD))) (h0 : (ρ[0]?).getD none = some (scr ns)) (h1 : (ρ[1]?).getD none = some (.int 0)) :
    fCB gTuple (fCons (fLs (fComp 2 [0, 1] (fEnum (fCons (fVar i9) fNil)) (fG2 0 1) (fun _ => some true) (plE c))) fNil) ρ = some (.tuple ((zipA (fun k => dr ns (0 + c + ((k : Nat) : Int)) 4) 0 mine).map plcD)) := by
  have hi : fEnum (fCons (fVar i9) fNil) ρ = some (enumD 0 (mine.map rowD)) := by
    simp only [fEnum, fCons, fNil, h9, Option.bind_some, Option.map_some, gItems, oneOf, seqOf]
  have hc : fComp 2 [0, 1] (fEnum (fCons (fVar i9) fNil)) (fG2 0 1) (fun _ => some true) (plE c) ρ = some ((zipA (fun k => dr ns (0 + c + ((k : Nat) : Int)) 4) 0 mine).map plcD) := by
    simp only [fComp, hi, Option.bind_some, capsD, List.map_cons, List.map_nil, h0, h1, List.replicate, List.cons_append, List.nil_append, e_pl c hl]
    exact small_of (by rw [List.length_map, zipA_len]; omega)
  simp only [fCB, fCons, fNil, fLs, hc, Option.map_some, Option.bind_some, gTuple, gItems, oneOf, seqOf]
theorem gSeq_nx {g1 g2 : SEnv → Option Out} {ρ ρ' : SEnv} (h : g1 ρ = some (.nx ρ')) : gSeq g1 g2 ρ = g2 ρ' := by
  simp only [gSeq, h, Option.bind_some]
theorem gSeq_rt {g1 g2 : SEnv → Option Out} {ρ : SEnv} {d : D} (h : g1 ρ = some (.rt d)) : gSeq g1 g2 ρ = some (.rt d) := by
  simp only [gSeq, h, Option.bind_some]
theorem runB_rt {g : SEnv → Option Out} {n : Nat} {args : List D} {d : D} (h : g (args.map Slot.val ++ List.replicate (n - args.length) .non) = some (.rt d)) : runB g n args = some d := by
  simp only [runB, h, Option.map_some]
theorem f2_at {g : D → D → Option D} {fa fb : Dl.Env → Option D} {ρ : Dl.Env} {a b : D} (ha : fa ρ = some a) (hb : fb ρ = some b) : f2 g fa fb ρ = g a b := by
  simp only [f2, ha, hb, Option.bind_some]
theorem mul_ms {ns : List Int} {m s : Nat} (m1 : m ≤ 3) (s1 : s ≤ 3) : f2 gMul (fVar 5) (fVar 6) (vFrz (st ns m s .non (.own []) .non .non .non .non)) = some (.int ((m * s : Nat) : Int)) := by
  have h : Dl.gMul (.int (m : Int)) (.int (s : Int)) = some (.int ((m : Int) * (s : Int))) := gMul_int (cmul_l (by omega))
  rw [f2_at (a := .int (m : Int)) (b := .int (s : Int)) rfl rfl, h, Int.natCast_mul]
theorem lB_all {ns : List Int} {m s : Nat} (m1 : m ≤ 3) (s1 : s ≤ 3) (hms : m * s ≤ 9) {W : List Wy} {t8 : Slot} (e :  forD (fSG 8) lB ((List.range' 0 (m * s)).map fun i => PyData.int ((i : Nat) : Int)) (st ns m s .non (.own (([] : List Wy).map wayD)) .non .non .non .non) = some (.nx (st ns m s .non (.own (W.map wayD)) t8 .non .non .non))) : gFor [5, 6] (fRange (fCons (f2 gMul (fVar 5) (fVar 6)) fNil)) (fSG 8) lB (st ns m s .non (.own []) .non .non .non .non) = some (.nx (st ns m s .non (.own (W.map wayD)) t8 .non .non .non)) := by
  have hh : hand [5, 6] 0 (st ns m s .non (.own []) .non .non .non .non) = st ns m s .non (.own []) .non .non .non .non := rfl
  have hr := range_n (fi := f2 gMul (fVar 5) (fVar 6)) (ρ := vFrz (st ns m s .non (.own []) .non .non .non .non)) (m * s) (by omega) (mul_ms m1 s1)
  rw [List.range_eq_range'] at hr
  rw [List.map_nil] at e
  simp only [gFor, hh, hr, Option.bind_some]
  exact e
theorem e_law_world1 {ns : List Int} (hl : ns.length ≤ 63) (c : dr ns (0 + 64) 4 = 0) : ∃ G T W, m__law_world [scr ns, .int 0, .int 9] = some (wdD G T W) ∧ Wd G T W := by
  have e64 := dr_eq (ns := ns) (0 + 64) 4 hl (by decide)
  have e65 := dr_all (ns := ns) (0 + 65) 2 hl (by decide)
  refine ⟨_, _, _, ?_, wd_closed (c := 1 + dr ns (0 + 65) 2) (by omega) (by omega)⟩
  have s1 : Dl.gSet 3 [0, 1] (f2 gAdd (fC (.int 1)) (fCall 3 m__law_drawn (fCons (fVar 0) (fCons (f2 gAdd (fVar 1) (fC (.int 65))) (fCons (fC (.int 2)) fNil))))) [.val (scr ns), .val (.int 0), .val (.int 9), .non, .non, .non, .non, .non, .non, .non, .non, .non] = some (.nx [.val (scr ns), .val (.int 0), .val (.int 9), .val (.int (1 + dr ns (0 + 65) 2)), .non, .non, .non, .non, .non, .non, .non, .non]) :=
    gSet_scal (d := .int (1 + dr ns (0 + 65) 2)) (by simp! [e65.1]) rfl
  generalize 1 + dr ns (0 + 65) 2 = x at *
  have s2 : Dl.gSet 4 [3] (fTup (fCons (fTup (fCons (fVar 3) (fCons (fTup (fCons (fC (.int 1)) (fCons (fC (.int 0)) fNil))) fNil))) (fCons (fTup (fCons (fVar 3) (fCons (fTup (fCons (fC (.int 0)) (fCons (fC (.int 1)) fNil))) fNil))) fNil))) [.val (scr ns), .val (.int 0), .val (.int 9), .val (.int x), .non, .non, .non, .non, .non, .non, .non, .non] = some (.nx [.val (scr ns), .val (.int 0), .val (.int 9), .val (.int x), .val (.tuple [plcD (x, [1, 0]), plcD (x, [0, 1])]), .non, .non, .non, .non, .non, .non, .non]) :=
    gSet_same (d := .tuple [plcD (x, [1, 0]), plcD (x, [0, 1])]) (by simp! [small2]; rfl) rfl rfl rfl
  simp! [m__law_world, g__law_world, gGt_int, e64, c, gEqD_int, decide_true, gB_bool, show decide ((3 : Int) < 9) = true from rfl, s1, s2, small2, small3, show ∀ a b c d : D, small [a, b, c, d] = some [a, b, c, d] from fun _ _ _ _ => rfl]
  rfl
theorem e_law_world2 {ns : List Int} (hl : ns.length ≤ 63) (c : ¬ dr ns (0 + 64) 4 = 0) : ∃ G T W, m__law_world [scr ns, .int 0, .int 9] = some (wdD G T W) ∧ Wd G T W := by
  have e64 := dr_eq (ns := ns) (0 + 64) 4 hl (by decide)
  have em := dr_all (ns := ns) 0 3 hl (by decide)
  have es := dr_all (ns := ns) (0 + 1) 3 hl (by decide)
  obtain ⟨m, hm⟩ := Int.eq_ofNat_of_zero_le (show 0 ≤ 1 + dr ns 0 3 by omega)
  obtain ⟨s, hs⟩ := Int.eq_ofNat_of_zero_le (show 0 ≤ 1 + dr ns (0 + 1) 3 by omega)
  have m1 : 1 ≤ m ∧ m ≤ 3 := by omega
  have s1 : 1 ≤ s ∧ s ≤ 3 := by omega
  have hs' : (s : Int) = 1 ∨ (s : Int) = 2 ∨ (s : Int) = 3 := by omega
  have hm' : (m : Int) = 1 ∨ (m : Int) = 2 ∨ (m : Int) = 3 := by omega
  have t5 : Dl.gSet 5 [0, 1] (f2 gAdd (fC (.int 1)) (fCall 3 m__law_drawn (fCons (fVar 0) (fCons (fVar 1) (fCons (fC (.int 3)) fNil))))) [.val (scr ns), .val (.int 0), .val (.int 9), .non, .non, .non, .non, .non, .non, .non, .non, .non] = some (.nx [.val (scr ns), .val (.int 0), .val (.int 9), .non, .non, .val (.int (m : Nat)), .non, .non, .non, .non, .non, .non]) :=
    gSet_scal (d := .int (m : Nat)) (by simp! [em.1, hm]) rfl
  have t6 : Dl.gSet 6 [0, 1] (f2 gAdd (fC (.int 1)) (fCall 3 m__law_drawn (fCons (fVar 0) (fCons (f2 gAdd (fVar 1) (fC (.int 1))) (fCons (fC (.int 3)) fNil))))) [.val (scr ns), .val (.int 0), .val (.int 9), .non, .non, .val (.int (m : Nat)), .non, .non, .non, .non, .non, .non] = some (.nx (st ns m s .non .non .non .non .non .non)) :=
    gSet_scal (d := .int (s : Nat)) (by simp! [es.1, hs]) rfl
  have t7 : gSetF 7 [] (fLst fNil) (st ns m s .non .non .non .non .non .non) = some (.nx (st ns m s .non (.own []) .non .non .non .non)) := by
    simp only [gSetF, hand_nil, fLst, fNil, Option.bind_some, small_nil, Option.map_some, List.set_cons_succ, List.set_cons_zero]
  obtain ⟨W, t8, e, h8, I⟩ := lB_for (ns := ns) (m := m) (s := s) hl hs' (m * s) 0 (W := []) (x8 := .non) rfl ⟨fun w hw => (by cases hw), List.Pairwise.nil, by decide⟩
  rw [Nat.zero_add] at I
  have hms : m * s ≤ 9 := Nat.mul_le_mul m1.2 s1.2
  have tf := lB_all m1.2 s1.2 hms e
  unfold lB at tf
  have hwl : W.length ≤ 20 := Nat.le_trans I.len (by decide)
  have wr : ∀ w ∈ W, (0 ≤ w.1 ∧ w.1 < m) ∧ (0 ≤ w.2.1 ∧ w.2.1 < s) ∧ 1 ≤ w.2.2 ∧ w.2.2 ≤ 9 := fun w hw => by
    obtain ⟨j, j0, jk, a, b, c1, c2⟩ := I.mem w hw
    have := dm_rng hs' hm' j0 (by rw [← Int.natCast_mul]; exact jk)
    rw [a, b]
    exact ⟨this.1, this.2, c1, by omega⟩
  have lenG : ∀ r ∈ rowsG W m, r.length ≤ 1000 := fun r hr => by
    obtain ⟨i, _, rfl⟩ := List.mem_map.mp hr
    rw [ofG, List.length_map]
    exact Nat.le_trans (List.length_filter_le _ _) (by omega)
  have lenT : ∀ r ∈ rowsT W s, r.length ≤ 1000 := fun r hr => by
    obtain ⟨i, _, rfl⟩ := List.mem_map.mp hr
    rw [ofT, List.length_map]
    exact Nat.le_trans (List.length_filter_le _ _) (by omega)
  obtain ⟨mine, om, pm⟩ := e_orders (ns := ns) (a := 0 + 24) (rows := rowsG W m) hl lenG (by rw [rowsG, List.length_map, List.length_range]; omega)
  obtain ⟨yours, oy, py⟩ := e_orders (ns := ns) (a := 0 + 40) (rows := rowsT W s) hl lenT (by rw [rowsT, List.length_map, List.length_range]; omega)
  have lm : mine.length ≤ 1000 := by rw [permL_len pm, rowsG, List.length_map, List.length_range]; omega
  have ly : yours.length ≤ 1000 := by rw [permL_len py, rowsT, List.length_map, List.length_range]; omega
  have t9 : Dl.gSet 9 [0, 1, 5, 7] (fCall 3 m__law_orders (fCons (fVar 0) (fCons (f2 gAdd (fVar 1) (fC (.int 24))) (fCons (fLs (fComp 1 [7] (fRange (fCons (fVar 5) fNil)) (fG 0) (fun _ => some true) (fLs (fComp 1 [0] (fSeq (fVar 1)) (fG 0) (fB (f2 gEqD (f2 gIx (fVar 0) (fC (.int 0))) (fVar 1))) (f2 gIx (fVar 0) (fC (.int 1))))))) fNil)))) (st ns m s .non (.own (W.map wayD)) t8 .non .non .non) = some (.nx (st ns m s .non (.val (.list (W.map wayD))) t8 (.val (.list (mine.map rowD))) .non .non)) := by
    refine (gSet_same (ρ' := st ns m s .non (.val (.list (W.map wayD))) t8 .non .non .non) (d := .list (mine.map rowD)) ?_ rfl rfl ?_).trans rfl
    · have q := e_rowsG (ρ := vAll (st ns m s .non (.own (W.map wayD)) t8 .non .non .non)) (i5 := 5) (i7 := 7) hwl (show m ≤ 1000 by omega) rfl rfl
      simp only [fCall, fCons, fNil, fLs, q, Option.map_some, Option.bind_some]
      simp! [om]
    · simp only [st, vFrz, vAll, List.map_cons, List.map_nil, h8]; rfl
  have t10 : Dl.gSet 10 [0, 1, 6, 7] (fCall 3 m__law_orders (fCons (fVar 0) (fCons (f2 gAdd (fVar 1) (fC (.int 40))) (fCons (fLs (fComp 1 [7] (fRange (fCons (fVar 6) fNil)) (fG 0) (fun _ => some true) (fLs (fComp 1 [0] (fSeq (fVar 1)) (fG 0) (fB (f2 gEqD (f2 gIx (fVar 0) (fC (.int 1))) (fVar 1))) (f2 gIx (fVar 0) (fC (.int 0))))))) fNil)))) (st ns m s .non (.val (.list (W.map wayD))) t8 (.val (.list (mine.map rowD))) .non .non) = some (.nx (st ns m s .non (.val (.list (W.map wayD))) t8 (.val (.list (mine.map rowD))) (.val (.list (yours.map rowD))) .non)) := by
    refine (gSet_same (ρ' := st ns m s .non (.val (.list (W.map wayD))) t8 (.val (.list (mine.map rowD))) .non .non) (d := .list (yours.map rowD)) ?_ rfl ?_ ?_).trans rfl
    · have q := e_rowsT (ρ := vAll (st ns m s .non (.val (.list (W.map wayD))) t8 (.val (.list (mine.map rowD))) .non .non)) (i5 := 6) (i7 := 7) hwl (show s ≤ 1000 by omega) rfl rfl
      simp only [fCall, fCons, fNil, fLs, q, Option.map_some, Option.bind_some]
      simp! [oy]
    · rfl
    · simp only [st, vFrz, vAll, List.map_cons, List.map_nil, h8]; rfl
  have t11 : Dl.gSet 11 [9, 0, 1] (fCB gTuple (fCons (fLs (fComp 2 [0, 1] (fEnum (fCons (fVar 9) fNil)) (fG2 0 1) (fun _ => some true) (plE 56))) fNil)) (st ns m s .non (.val (.list (W.map wayD))) t8 (.val (.list (mine.map rowD))) (.val (.list (yours.map rowD))) .non) = some (.nx (st ns m s .non (.val (.list (W.map wayD))) t8 (.val (.list (mine.map rowD))) (.val (.list (yours.map rowD))) (.val (.tuple ((zipA (fun k => dr ns (0 + 56 + ((k : Nat) : Int)) 4) 0 mine).map plcD))))) := by
    refine (gSet_same (ρ' := st ns m s .non (.val (.list (W.map wayD))) t8 (.val (.list (mine.map rowD))) (.val (.list (yours.map rowD))) .non) (e_places hl lm rfl rfl rfl) rfl rfl ?_).trans rfl
    simp only [st, vFrz, vAll, List.map_cons, List.map_nil, h8]; rfl
  have t4 : ∀ G : D, Dl.gSet 4 [10, 0, 1] (fCB gTuple (fCons (fLs (fComp 2 [0, 1] (fEnum (fCons (fVar 10) fNil)) (fG2 0 1) (fun _ => some true) (plE 60))) fNil)) (st ns m s .non (.val (.list (W.map wayD))) t8 (.val (.list (mine.map rowD))) (.val (.list (yours.map rowD))) (.val G)) = some (.nx (st ns m s (.val (.tuple ((zipA (fun k => dr ns (0 + 60 + ((k : Nat) : Int)) 4) 0 yours).map plcD))) (.val (.list (W.map wayD))) t8 (.val (.list (mine.map rowD))) (.val (.list (yours.map rowD))) (.val G))) := fun G => by
    refine (gSet_same (ρ' := st ns m s .non (.val (.list (W.map wayD))) t8 (.val (.list (mine.map rowD))) (.val (.list (yours.map rowD))) (.val G)) (e_places hl ly rfl rfl rfl) rfl rfl ?_).trans rfl
    simp only [st, vFrz, vAll, List.map_cons, List.map_nil, h8]; rfl
  refine ⟨_, _, W, ?_, wd_rows (f := fun k => dr ns (0 + 56 + ((k : Nat) : Int)) 4) (g := fun k => dr ns (0 + 60 + ((k : Nat) : Int)) 4) m1.1 (by omega) s1.1 (by omega) (fun k => ?_) (fun k => ?_) pm py wr I.ris (by have := I.len; omega)⟩
  · unfold plE at t11 t4
    have tA : ∀ g, gIf (fAndT (fB (f2 gGt (fVar 2) (fC (.int 3)))) (fB (f2 gEqD (fCall 3 m__law_drawn (fCons (fVar 0) (fCons (f2 gAdd (fVar 1) (fC (.int 64))) (fCons (fC (.int 4)) fNil)))) (fC (.int 0))))) g gNx [.val (scr ns), .val (.int 0), .val (.int 9), .non, .non, .non, .non, .non, .non, .non, .non, .non] = some (.nx [.val (scr ns), .val (.int 0), .val (.int 9), .non, .non, .non, .non, .non, .non, .non, .non, .non]) := fun g => by
      simp! [gGt_int, e64, c, gEqD_int, decide_false, gB_bool, Bool.false_eq_true, show decide ((3 : Int) < 9) = true from rfl]
    refine runB_rt ?_
    show g__law_world [.val (scr ns), .val (.int 0), .val (.int 9), .non, .non, .non, .non, .non, .non, .non, .non, .non] = _
    unfold g__law_world
    rw [gSeq_nx (tA _), gSeq_nx t5, gSeq_nx t6, gSeq_nx t7, gSeq_nx tf, gSeq_nx t9, gSeq_nx t10, gSeq_nx t11, gSeq_nx (t4 _)]
    simp! [small3, wdD]
  · have a := dr_all (ns := ns) (0 + 56 + ((k : Nat) : Int)) 4 hl (by decide)
    exact ⟨a.2.1, by omega⟩
  · have a := dr_all (ns := ns) (0 + 60 + ((k : Nat) : Int)) 4 hl (by decide)
    exact ⟨a.2.1, by omega⟩
theorem e_law_world {ns : List Int} (hl : ns.length ≤ 63) : ∃ G T W, m__law_world [scr ns, .int 0, .int 9] = some (wdD G T W) ∧ Wd G T W := by
  by_cases c : dr ns (0 + 64) 4 = 0
  · exact e_law_world1 hl c
  · exact e_law_world2 hl c
theorem gIf_no {t : Dl.Env → Option Bool} {g : SEnv → Option Out} {ρ : SEnv} (h : t (vAll ρ) = some false) : gIf t g gNx ρ = some (.nx ρ) := by
  simp only [gIf, h, Option.bind_some, Bool.false_eq_true, if_false, gNx]
theorem gIf_yes {t : Dl.Env → Option Bool} {g g2 : SEnv → Option Out} {ρ : SEnv} (h : t (vAll ρ) = some true) : gIf t g g2 ρ = g ρ := by
  simp only [gIf, h, Option.bind_some, if_true]
theorem gAdd_tup {xs ys : List D} (h : (xs ++ ys).length ≤ 4000) : Dl.gAdd (.tuple xs) (.tuple ys) = some (.tuple (xs ++ ys)) := by
  simp only [Dl.gAdd, g2I, gCat, small_of h, Option.map_some, Option.none_or, Option.some_or]
theorem gAdd_lst {xs ys : List D} (h : (xs ++ ys).length ≤ 4000) : Dl.gAdd (.list xs) (.list ys) = some (.list (xs ++ ys)) := by
  simp only [Dl.gAdd, g2I, gCat, gCatL, small_of h, Option.map_some, Option.none_or]
theorem gSet_any {i : Nat} {fz : List Nat} {f : Dl.Env → Option D} {ρ : SEnv} {d : D} (hf : f (vAll ρ) = some d) (hh : hand fz 0 ρ = ρ) (hv : vFrz ρ = vAll ρ) : Dl.gSet i fz f ρ = some (.nx (ρ.set i (.val d))) := by
  cases hs : Dl.scal d with
  | true => exact gSet_scal hf hs
  | false => exact gSet_same hf hs hh hv
theorem shaped_nilT : SeqAt.shaped (.tuple []) = true := (Fit.tup (b := 0) (k := 0) (xs := []) (Nat.le_refl _) fun x hx => by cases hx).shaped (by decide)
theorem gNeD_nilT {b k : Nat} {xs : List D} (h : Fit b k (.tuple xs)) (hk : k ≤ 60) : gNeD (.tuple xs) (.tuple []) = some (.bool (!xs.isEmpty)) := by
  have hs := h.shaped (show k ≤ 64 by omega)
  simp only [gNeD, gNe, hs, shaped_nilT, and_self, if_true, PyData.eqv, eqvAll_nil, Option.map_some]
def leafB : D → Bool | .none => true | .bool _ => true | .int _ => true | .str x => PyData.canLay0 (.str x) | _ => false
def seqB (b : Nat) (p : D → Bool) : D → Bool | .list xs => decide (xs.length ≤ b) && xs.all p | .tuple xs => decide (xs.length ≤ b) && xs.all p | _ => false
def fitB (b : Nat) : Nat → D → Bool
  | 0, d => leafB d
  | k + 1, d => leafB d || seqB b (fitB b k) d
theorem leafB_ok {d : D} (h : leafB d = true) : leafD d := by cases d <;> first | trivial | exact h | cases h
theorem fitB_ok {b : Nat} : ∀ {k : Nat} {d : D}, fitB b k d = true → Fit b k d
  | 0, d, h => .leaf (leafB_ok h)
  | k + 1, d, h => by
    rw [fitB, Bool.or_eq_true] at h
    rcases h with h | h
    · exact .leaf (leafB_ok h)
    · cases d <;> simp only [seqB] at h <;> try cases h
      · rw [Bool.and_eq_true, decide_eq_true_eq, List.all_eq_true] at h
        exact .lst h.1 fun x hx => fitB_ok (h.2 x hx)
      · rw [Bool.and_eq_true, decide_eq_true_eq, List.all_eq_true] at h
        exact .tup h.1 fun x hx => fitB_ok (h.2 x hx)
def L19 : List D := [.none, .bool true, .bool false, .int (-1), .int 0, .int 1, .int 2, .int 3, .int 4, .int 9, .int 10, .str "1", .tuple [], .list [], .tuple [.int 0], .tuple [.int 1, .int 0], .tuple [.int 0, .int 0, .int 1], .tuple [.int 9, .tuple []], .tuple [.tuple [.int 0, .int 0, .int 1]]]
theorem L19_fit : ∀ x ∈ L19, Fit 40 3 x := fun x hx => fitB_ok (List.all_eq_true.mp (show L19.all (fitB 40 3) = true by decide +kernel) x hx)
def L6 (xs : List D) : List D := [.list xs, .tuple xs.reverse, .tuple (xs ++ xs), .tuple (xs.drop 1), .tuple (xs ++ xs.take 1), .tuple (xs ++ [.tuple [.int 2, .int 2, .int 1]])]
theorem L6_fit {j : Nat} {xs : List D} (h : Fit 16 (j + 1) (.tuple xs)) : ∀ x ∈ L6 xs, Fit 40 (j + 4) x := by
  obtain ⟨j', hj, hl, hx⟩ := h.of_tup
  cases hj
  have hx' : ∀ x ∈ xs, Fit 40 (j + 3) x := fun x h => (hx x h).mono (by decide) (by omega)
  have h221 : Fit 40 (j + 3) (.tuple [.int 2, .int 2, .int 1]) := (fitB_ok (b := 40) (k := 1) (by decide)).mono (Nat.le_refl _) (by omega)
  intro x hm
  simp only [L6, List.mem_cons, List.not_mem_nil, or_false] at hm
  rcases hm with rfl | rfl | rfl | rfl | rfl | rfl
  · exact .lst (by omega) hx'
  · exact .tup (by rw [List.length_reverse]; omega) fun x h => hx' x (List.mem_reverse.mp h)
  · exact .tup (by rw [List.length_append]; omega) fun x h => (List.mem_append.mp h).elim (hx' x) (hx' x)
  · exact .tup (by rw [List.length_drop]; omega) fun x h => hx' x (List.mem_of_mem_drop h)
  · exact .tup (by rw [List.length_append, List.length_take]; omega) fun x h => (List.mem_append.mp h).elim (hx' x) fun h => hx' x (List.mem_of_mem_take h)
  · refine .tup (by rw [List.length_append, List.length_singleton]; omega) fun x h => (List.mem_append.mp h).elim (hx' x) fun h => ?_
    rw [List.mem_singleton] at h
    subst h
    exact h221
def tB : SEnv → Option Out := (gSeq (gSetF 6 [] (fLst (fCons (fC .none) (fCons (fC (.bool true)) (fCons (fC (.bool false)) (fCons (f1 gNeg (fC (.int 1))) (fCons (fC (.int 0)) (fCons (fC (.int 1)) (fCons (fC (.int 2)) (fCons (fC (.int 3)) (fCons (fC (.int 4)) (fCons (fC (.int 9)) (fCons (fC (.int 10)) (fCons (fC (.str "1")) (fCons (fTup fNil) (fCons (fLs (fLst fNil)) (fCons (fTup (fCons (fC (.int 0)) fNil)) (fCons (fTup (fCons (fC (.int 1)) (fCons (fC (.int 0)) fNil))) (fCons (fTup (fCons (fC (.int 0)) (fCons (fC (.int 0)) (fCons (fC (.int 1)) fNil)))) (fCons (fTup (fCons (fC (.int 9)) (fCons (fTup fNil) fNil))) (fCons (fTup (fCons (fTup (fCons (fC (.int 0)) (fCons (fC (.int 0)) (fCons (fC (.int 1)) fNil)))) fNil)) fNil))))))))))))))))))))) (gSeq (gIf (fB (fIs "tuple" (fVar 2))) (gSet 6 [6, 2] (f2 gAdd (fVar 6) (fLs (fLst (fCons (fLs (fCBF gItems (fCons (fVar 2) fNil))) (fCons (f1 gRev (fVar 2)) (fCons (f2 gAdd (fVar 2) (fVar 2)) (fCons (fCut gCutA (fVar 2) (fBd (fC (.int 1))) fNoB) (fCons (f2 gAdd (fVar 2) (fCut gCutA (fVar 2) fNoB (fBd (fC (.int 1))))) (fCons (f2 gAdd (fVar 2) (fTup (fCons (fTup (fCons (fC (.int 2)) (fCons (fC (.int 2)) (fCons (fC (.int 1)) fNil)))) fNil))) fNil)))))))))) gNx) (gRet (f2 gIx (fVar 6) (fCall 3 m__law_drawn (fCons (fVar 0) (fCons (f2 gAdd (fVar 1) (fC (.int 2))) (fCons (fCB gLen (fCons (fVar 6) fNil)) fNil))))))))
theorem some19 (ρ : Dl.Env) : (fLst (fCons (fC .none) (fCons (fC (.bool true)) (fCons (fC (.bool false)) (fCons (f1 gNeg (fC (.int 1))) (fCons (fC (.int 0)) (fCons (fC (.int 1)) (fCons (fC (.int 2)) (fCons (fC (.int 3)) (fCons (fC (.int 4)) (fCons (fC (.int 9)) (fCons (fC (.int 10)) (fCons (fC (.str "1")) (fCons (fTup fNil) (fCons (fLs (fLst fNil)) (fCons (fTup (fCons (fC (.int 0)) fNil)) (fCons (fTup (fCons (fC (.int 1)) (fCons (fC (.int 0)) fNil))) (fCons (fTup (fCons (fC (.int 0)) (fCons (fC (.int 0)) (fCons (fC (.int 1)) fNil)))) (fCons (fTup (fCons (fC (.int 9)) (fCons (fTup fNil) fNil))) (fCons (fTup (fCons (fTup (fCons (fC (.int 0)) (fCons (fC (.int 0)) (fCons (fC (.int 1)) fNil)))) fNil)) fNil)))))))))))))))))))) ρ = some L19 := rfl
theorem ix_in {ds : List D} {r : Int} (h0 : 0 ≤ r) (h1 : r < ds.length) : ∃ x ∈ ds, atI ds r = some x := by
  obtain ⟨j, rfl⟩ := Int.eq_ofNat_of_zero_le h0
  have hj : j < ds.length := by omega
  exact ⟨_, getD_mem hj, atI_nat' hj⟩
theorem tB_run {ns : List Int} {k : Nat} {thing : D} {a deep : Int} (hl : ns.length ≤ 63) (h : Fit 16 k thing) : ∃ d, tB [.val (scr ns), .val (.int a), .val thing, .val (.int deep), .non, .non, .non] = some (.rt d) ∧ Fit 40 (k + 3) d := by
  have h1 : gSetF 6 [] (fLst (fCons (fC .none) (fCons (fC (.bool true)) (fCons (fC (.bool false)) (fCons (f1 gNeg (fC (.int 1))) (fCons (fC (.int 0)) (fCons (fC (.int 1)) (fCons (fC (.int 2)) (fCons (fC (.int 3)) (fCons (fC (.int 4)) (fCons (fC (.int 9)) (fCons (fC (.int 10)) (fCons (fC (.str "1")) (fCons (fTup fNil) (fCons (fLs (fLst fNil)) (fCons (fTup (fCons (fC (.int 0)) fNil)) (fCons (fTup (fCons (fC (.int 1)) (fCons (fC (.int 0)) fNil))) (fCons (fTup (fCons (fC (.int 0)) (fCons (fC (.int 0)) (fCons (fC (.int 1)) fNil)))) (fCons (fTup (fCons (fC (.int 9)) (fCons (fTup fNil) fNil))) (fCons (fTup (fCons (fTup (fCons (fC (.int 0)) (fCons (fC (.int 0)) (fCons (fC (.int 1)) fNil)))) fNil)) fNil)))))))))))))))))))) [.val (scr ns), .val (.int a), .val thing, .val (.int deep), .non, .non, .non] = some (.nx [.val (scr ns), .val (.int a), .val thing, .val (.int deep), .non, .non, .own L19]) := by
    simp only [gSetF, hand_nil, some19, Option.map_some, List.set_cons_succ, List.set_cons_zero]
  cases hT : isT thing with
  | false =>
    have e := dr_all (ns := ns) (a + 2) ((L19.length : Nat) : Int) hl (by decide)
    obtain ⟨x, hx, hi⟩ := ix_in (ds := L19) e.2.1 e.2.2
    refine ⟨x, ?_, (L19_fit x hx).mono (Nat.le_refl _) (by omega)⟩
    simp only [tB, gSeq, h1, Option.bind_some]
    simp! [kT h.nd, hT, gB_bool, Bool.false_eq_true, e.1, hi]
  | true =>
    obtain ⟨xs, rfl⟩ : ∃ ds, thing = .tuple ds := by cases thing <;> first | exact ⟨_, rfl⟩ | cases hT
    obtain ⟨j, rfl, hlen, hx⟩ := h.of_tup
    have e := dr_all (ns := ns) (a + 2) (((L19 ++ L6 xs).length : Nat) : Int) hl (by rw [List.length_append]; simp [L19, L6])
    obtain ⟨x, hx', hi⟩ := ix_in (ds := L19 ++ L6 xs) e.2.1 e.2.2
    refine ⟨x, ?_, ?_⟩
    · have c1 : cut xs (some 1) none = xs.drop 1 := cut_drop xs 1
      have c2 : cut xs none (some 1) = xs.take 1 := cut_take xs 1
      have a1 := gAdd_tup (xs := xs) (ys := xs) (by rw [List.length_append]; omega)
      have a2 := gAdd_tup (xs := xs) (ys := xs.take 1) (by rw [List.length_append, List.length_take]; omega)
      have a3 := gAdd_tup (xs := xs) (ys := [.tuple [.int 2, .int 2, .int 1]]) (by rw [List.length_append, List.length_singleton]; omega)
      have a4 := gAdd_lst (xs := L19) (ys := L6 xs) (by rw [List.length_append]; simp [L19, L6])
      have a5 : small (L6 xs) = some (L6 xs) := small_of (by simp [L6])
      unfold L6 at a5
      have h2 : Dl.gSet 6 [6, 2] (f2 gAdd (fVar 6) (fLs (fLst (fCons (fLs (fCBF gItems (fCons (fVar 2) fNil))) (fCons (f1 gRev (fVar 2)) (fCons (f2 gAdd (fVar 2) (fVar 2)) (fCons (fCut gCutA (fVar 2) (fBd (fC (.int 1))) fNoB) (fCons (f2 gAdd (fVar 2) (fCut gCutA (fVar 2) fNoB (fBd (fC (.int 1))))) (fCons (f2 gAdd (fVar 2) (fTup (fCons (fTup (fCons (fC (.int 2)) (fCons (fC (.int 2)) (fCons (fC (.int 1)) fNil)))) fNil))) fNil))))))))) [.val (scr ns), .val (.int a), .val (.tuple xs), .val (.int deep), .non, .non, .own L19] = some (.nx [.val (scr ns), .val (.int a), .val (.tuple xs), .val (.int deep), .non, .non, .val (.list (L19 ++ L6 xs))]) := by
        refine (gSet_same (ρ' := [.val (scr ns), .val (.int a), .val (.tuple xs), .val (.int deep), .non, .non, .val (.list L19)]) (d := .list (L19 ++ L6 xs)) ?_ rfl rfl rfl).trans rfl
        rw [← a4]
        simp! [fCut, fNoB, fBd, gI, gCutA, gRev, c1, c2, a1, a2, a3, a5, small3, show ∀ a : D, small [a] = some [a] from fun _ => rfl, L6]
      simp only [tB, gSeq, h1, Option.bind_some]
      simp! [kT h.nd, hT, gB_bool, h2, e.1, hi]
    · rcases List.mem_append.mp hx' with h' | h'
      · exact (L19_fit x h').mono (Nat.le_refl _) (by omega)
      · exact L6_fit h x h'
theorem e_spoilt {ns : List Int} (hl : ns.length ≤ 63) : ∀ (n : Nat) {k : Nat} {thing : D} (a deep : Int), Fit 16 k thing → k ≤ 20 → deep ≤ n → ∃ d, recD (fun m => runB (g__law_spoilt m) 7) (n + 1) [scr ns, .int a, thing, .int deep] = some d ∧ Fit 40 (k + 3) d := by
  have tail : ∀ {m : List D → Option D} {k : Nat} {thing : D} {a deep : Int}, Fit 16 k thing → (fAndT (fB (f2 gGt (fVar 3) (fC (.int 0)))) (fAndT (fB (fIs "tuple" (fVar 2))) (fAndT (fB (f2 gNeD (fVar 2) (fTup fNil))) (fB (f2 gGt (fCall 3 m__law_drawn (fCons (fVar 0) (fCons (fVar 1) (fCons (fC (.int 5)) fNil)))) (fC (.int 0))))))) (vAll [.val (scr ns), .val (.int a), .val thing, .val (.int deep), .non, .non, .non]) = some false → ∃ d, runB (g__law_spoilt m) 7 [scr ns, .int a, thing, .int deep] = some d ∧ Fit 40 (k + 3) d := by
    intro m k thing a deep h hc
    obtain ⟨d, e, f⟩ := tB_run (ns := ns) (a := a) (deep := deep) hl h
    refine ⟨d, ?_, f⟩
    refine runB_rt ?_
    show g__law_spoilt m [.val (scr ns), .val (.int a), .val thing, .val (.int deep), .non, .non, .non] = _
    unfold g__law_spoilt
    rw [gSeq_nx (gIf_no hc)]
    exact e
  intro n
  induction n with
  | zero =>
    intro k thing a deep h hk hd
    rw [recD]
    refine tail h ?_
    simp! [gGt_int, show decide ((0 : Int) < deep) = false from decide_eq_false (by omega), gB_bool, Bool.false_eq_true]
  | succ n ih =>
    intro k thing a deep h hk hd
    rw [recD]
    by_cases c1 : (0 : Int) < deep
    · cases hT : isT thing with
      | false => exact tail h (by simp! [gGt_int, c1, decide_true, gB_bool, kT h.nd, hT, Bool.false_eq_true])
      | true =>
        obtain ⟨xs, rfl⟩ : ∃ ds, thing = .tuple ds := by cases thing <;> first | exact ⟨_, rfl⟩ | cases hT
        have e5 := dr_eq (ns := ns) a 5 hl (by decide)
        by_cases c3 : xs = []
        · refine tail h ?_
          have := gNeD_nilT h (by omega)
          simp! [gGt_int, c1, decide_true, gB_bool, kT h.nd, hT, small_nil, this]
          subst c3
          rfl
        · by_cases c4 : 0 < dr ns a 5
          · obtain ⟨j, rfl, hlen, hx⟩ := h.of_tup
            have hpos : 0 < xs.length := List.length_pos_iff.mpr c3
            have hne : gNeD (.tuple xs) (.tuple []) = some (.bool true) := by
              rw [gNeD_nilT h (by omega)]
              cases xs <;> first | rfl | exact absurd rfl c3
            have ep := dr_all (ns := ns) (a + 1) ((xs.length : Nat) : Int) hl (by omega)
            obtain ⟨p, hp⟩ := Int.eq_ofNat_of_zero_le ep.2.1
            rw [hp] at ep
            have hpl : p < xs.length := by omega
            obtain ⟨d, e, f⟩ := ih (a + 3) (deep - 1) (hx _ (getD_mem hpl)) (by omega) (by omega)
            clear ih tail
            show ∃ d, runB (g__law_spoilt (recD (fun m => runB (g__law_spoilt m) 7) (n + 1))) 7 [scr ns, .int a, .tuple xs, .int deep] = some d ∧ _
            generalize recD (fun m => runB (g__law_spoilt m) 7) (n + 1) = M at e ⊢
            refine ⟨.tuple (xs.take p ++ [d] ++ xs.drop (p + 1)), ?_, ?_⟩
            · have s4 : Dl.gSet 4 [0, 1, 2] (fCall 3 m__law_drawn (fCons (fVar 0) (fCons (f2 gAdd (fVar 1) (fC (.int 1))) (fCons (fCB gLen (fCons (fVar 2) fNil)) fNil)))) [.val (scr ns), .val (.int a), .val (.tuple xs), .val (.int deep), .non, .non, .non] = some (.nx [.val (scr ns), .val (.int a), .val (.tuple xs), .val (.int deep), .val (.int (p : Nat)), .non, .non]) :=
                gSet_scal (d := .int (p : Nat)) (by simp! [ep.1]) rfl
              have s5 : Dl.gSet 5 [0, 1, 2, 4, 3] (fCall 4 M (fCons (fVar 0) (fCons (f2 gAdd (fVar 1) (fC (.int 3))) (fCons (f2 gIx (fVar 2) (fVar 4)) (fCons (f2 Dl.gSub (fVar 3) (fC (.int 1))) fNil))))) [.val (scr ns), .val (.int a), .val (.tuple xs), .val (.int deep), .val (.int (p : Nat)), .non, .non] = some (.nx [.val (scr ns), .val (.int a), .val (.tuple xs), .val (.int deep), .val (.int (p : Nat)), .val d, .non]) :=
                gSet_any (d := d) (by simp! [atI_nat' hpl, e]) rfl rfl
              have c1' : cut xs none (some ((p : Nat) : Int)) = xs.take p := cut_take xs p
              have c2' : cut xs (some (((p : Nat) : Int) + 1)) none = xs.drop (p + 1) := cut_drop xs (p + 1)
              have a1 := gAdd_tup (xs := xs.take p) (ys := [d]) (by rw [List.length_append, List.length_take, List.length_singleton]; omega)
              have a2 := gAdd_tup (xs := xs.take p ++ [d]) (ys := xs.drop (p + 1)) (by rw [List.length_append, List.length_append, List.length_take, List.length_singleton, List.length_drop]; omega)
              simp! [g__law_spoilt, gGt_int, c1, c4, decide_true, gB_bool, kT h.nd, hT, small_nil, hne, e5, s4, s5, fCut, fNoB, fBd, gI, gCutA, c1', c2', show ∀ a : D, small [a] = some [a] from fun _ => rfl, a1, a2]
            · have hx' : ∀ x ∈ xs, Fit 40 (j + 3) x := fun x h => (hx x h).mono (by decide) (by omega)
              refine .tup (by rw [List.length_append, List.length_append, List.length_take, List.length_singleton, List.length_drop]; omega) fun x hm => ?_
              rcases List.mem_append.mp hm with hm | hm
              · rcases List.mem_append.mp hm with hm | hm
                · exact hx' x (List.mem_of_mem_take hm)
                · rw [List.mem_singleton] at hm; subst hm; exact f
              · exact hx' x (List.mem_of_mem_drop hm)
          · refine tail h ?_
            have hne : gNeD (.tuple xs) (.tuple []) = some (.bool true) := by
              rw [gNeD_nilT h (by omega)]
              cases xs <;> first | rfl | exact absurd rfl c3
            simp! [gGt_int, c1, c4, decide_true, decide_false, gB_bool, kT h.nd, hT, small_nil, hne, e5]
    · exact tail h (by simp! [gGt_int, c1, decide_false, gB_bool, Bool.false_eq_true])
theorem flat_rep {α : Type} (x : α) : ∀ n : Nat, (List.replicate n [x]).flatten = List.replicate n x
  | 0 => rfl
  | n + 1 => by rw [List.replicate_succ, List.replicate_succ, List.flatten_cons, flat_rep x n]; rfl
theorem gMul_rep {x : D} {k : Int} (h0 : 0 ≤ k) (h1 : k ≤ 1000) : Dl.gMul (.tuple [x]) (.int k) = some (.tuple (List.replicate k.toNat x)) := by
  have ho : okR k = true := by simp only [okR, Bool.and_eq_true, decide_eq_true_eq]; omega
  have hz : [x].length * k.toNat ≤ sizeLine := Nat.le_trans (show [x].length * k.toNat ≤ 1000 by rw [List.length_singleton]; omega) (by decide)
  simp only [Dl.gMul, g2I, Option.none_or, gRepT, ho, hz, and_self, if_true, flat_rep]
theorem wd_0 (G T : List Pl) (W : List Wy) : gIx (wdD G T W) (.int 0) = some (.tuple (G.map plcD)) := rfl
theorem wd_1 (G T : List Pl) (W : List Wy) : gIx (wdD G T W) (.int 1) = some (.tuple (T.map plcD)) := rfl
theorem wd_2 (G T : List Pl) (W : List Wy) : gIx (wdD G T W) (.int 2) = some (.tuple (W.map wayD)) := rfl
def chB : SEnv → Option Out := (gIf (fB (f2 gEqD (fCall 3 m__law_drawn (fCons (fVar 0) (fCons (fC (.int 70)) (fCons (fC (.int 4)) fNil)))) (fC (.int 0)))) (gSeq (gSet 2 [1] (f2 gAdd (f2 gIx (fVar 1) (fC (.int 0))) (f2 gMul (fTup (fCons (fTup (fCons (fC (.int 9)) (fCons (fTup fNil) fNil))) fNil)) (f2 Dl.gSub (fC (.int 4)) (fCB gLen (fCons (f2 gIx (fVar 1) (fC (.int 0))) fNil)))))) (gSet 1 [2, 1] (fTup (fCons (fVar 2) (fCons (f2 gIx (fVar 1) (fC (.int 1))) (fCons (fCB gTuple (fCons (fLs (fComp 1 [] (fSeq (f2 gIx (fVar 1) (fC (.int 2)))) (fG 0) (fun _ => some true) (f2 gAdd (fCut gCutA (fVar 0) fNoB (fBd (fC (.int 2)))) (fTup (fCons (fC (.int 9)) fNil))))) fNil)) fNil)))))) gNx)
theorem cut2 (w : Wy) : cut [PyData.int w.1, .int w.2.1, .int w.2.2] none (some 2) = [.int w.1, .int w.2.1] := cut_take _ 2
theorem small1 (a : D) : small [a] = some [a] := rfl
theorem chB_run {ns : List Int} {G T : List Pl} {W : List Wy} (hl : ns.length ≤ 63) (h : Wd G T W) : ∃ G' W' s2, chB [.val (scr ns), .val (wdD G T W), .non, .non, .non, .non, .non, .non] = some (.nx [.val (scr ns), .val (wdD G' T W'), s2, .non, .non, .non, .non, .non]) ∧ Wd G' T W' := by
  have e := dr_eq (ns := ns) 70 4 hl (by decide)
  by_cases c : dr ns 70 4 = 0
  · refine ⟨_, _, .val (.tuple ((G ++ List.replicate (4 - G.length) ((9, []) : Pl)).map plcD)), ?_, h.pad⟩
    have h4 := h.g4
    have hr := gMul_rep (x := plcD (9, [])) (k := 4 - ((G.length : Nat) : Int)) (by omega) (by omega)
    rw [show (4 - ((G.length : Nat) : Int)).toNat = 4 - G.length by omega] at hr
    have ha := gAdd_tup (xs := G.map plcD) (ys := List.replicate (4 - G.length) (plcD (9, []))) (by rw [List.length_append, List.length_map, List.length_replicate]; omega)
    rw [← List.map_replicate, ← List.map_append] at ha
    rw [← List.map_replicate] at hr
    have s2 : Dl.gSet 2 [1] (f2 gAdd (f2 gIx (fVar 1) (fC (.int 0))) (f2 gMul (fTup (fCons (fTup (fCons (fC (.int 9)) (fCons (fTup fNil) fNil))) fNil)) (f2 Dl.gSub (fC (.int 4)) (fCB gLen (fCons (f2 gIx (fVar 1) (fC (.int 0))) fNil))))) [.val (scr ns), .val (wdD G T W), .non, .non, .non, .non, .non, .non] = some (.nx [.val (scr ns), .val (wdD G T W), .val (.tuple ((G ++ List.replicate (4 - G.length) ((9, []) : Pl)).map plcD)), .non, .non, .non, .non, .non]) := by
      refine (gSet_same (d := .tuple ((G ++ List.replicate (4 - G.length) ((9, []) : Pl)).map plcD)) ?_ rfl rfl rfl).trans rfl
      rw [← ha]
      have w0 := wd_0 G T W
      have hr' : Dl.gMul (.tuple [.tuple [.int 9, .tuple []]]) (.int (4 - ((G.length : Nat) : Int))) = some (.tuple ((List.replicate (4 - G.length) ((9, []) : Pl)).map plcD)) := hr
      simp only [vAll, List.map_cons, List.map_nil, all_val, all_non, f2, fVar, fC, fTup, fCons, fNil, fCB, List.getElem?_cons_zero, List.getElem?_cons_succ, Option.getD_some, Option.bind_some, Option.map_some, w0, small_nil, small2, small1, gLen, gItems, oneOf, seqOf, List.length_map, gSub_int, hr']
    have s1 : Dl.gSet 1 [2, 1] (fTup (fCons (fVar 2) (fCons (f2 gIx (fVar 1) (fC (.int 1))) (fCons (fCB gTuple (fCons (fLs (fComp 1 [] (fSeq (f2 gIx (fVar 1) (fC (.int 2)))) (fG 0) (fun _ => some true) (f2 gAdd (fCut gCutA (fVar 0) fNoB (fBd (fC (.int 2)))) (fTup (fCons (fC (.int 9)) fNil))))) fNil)) fNil)))) [.val (scr ns), .val (wdD G T W), .val (.tuple ((G ++ List.replicate (4 - G.length) ((9, []) : Pl)).map plcD)), .non, .non, .non, .non, .non] = some (.nx [.val (scr ns), .val (wdD (G ++ List.replicate (4 - G.length) ((9, []) : Pl)) T (W.map lim9)), .val (.tuple ((G ++ List.replicate (4 - G.length) ((9, []) : Pl)).map plcD)), .non, .non, .non, .non, .non]) := by
      refine (gSet_same (d := wdD (G ++ List.replicate (4 - G.length) ((9, []) : Pl)) T (W.map lim9)) ?_ rfl rfl rfl).trans rfl
      have w1 := wd_1 G T W
      have w2 := wd_2 G T W
      have hw := h.wl
      generalize wdD G T W = X at *
      generalize hY : PyData.tuple ((G ++ List.replicate (4 - G.length) ((9, []) : Pl)).map plcD) = Y at *
      have hc : fComp 1 [] (fSeq (f2 gIx (fVar 1) (fC (.int 2)))) (fG 0) (fun _ => some true) (f2 gAdd (fCut gCutA (fVar 0) fNoB (fBd (fC (.int 2)))) (fTup (fCons (fC (.int 9)) fNil))) [some (scr ns), some X, some Y, none, none, none, none, none] = some ((W.map lim9).map wayD) := by
        rw [fComp_map (ds := W.map wayD) (h := fun d => .tuple [(seqD d).getD 0 .none, (seqD d).getD 1 .none, .int 9]) ?_ (by rw [List.length_map]; omega) fun x hx => ?_]
        · rw [List.map_map, List.map_map]; rfl
        · simp only [fSeq, f2, fVar, fC, List.getElem?_cons_zero, List.getElem?_cons_succ, Option.getD_some, Option.bind_some, w2, seqOf]
        · obtain ⟨w, _, rfl⟩ := List.mem_map.mp hx
          simp! [fCut, fNoB, fBd, gI, wayD, gCutA, cut2, small1, gAdd_tup (xs := [PyData.int w.1, .int w.2.1]) (ys := [.int 9]) (by simp)]
          rfl
      simp only [vAll, List.map_cons, List.map_nil, all_val, all_non, f2, fVar, fC, fTup, fCons, fNil, fCB, fLs, List.getElem?_cons_zero, List.getElem?_cons_succ, Option.getD_some, Option.bind_some, Option.map_some, w1, hc, small3, gTuple, gItems, oneOf, seqOf, wdD, hY]
    simp! [chB, e, c, gEqD_int, decide_true, gB_bool, s2, s1]
  · exact ⟨G, W, .non, by simp! [chB, e, c, gEqD_int, decide_false, gB_bool, Bool.false_eq_true], h⟩
/-! both of a thing that fits -/
theorem gNeD_bool (a b : Bool) : gNeD (.bool a) (.bool b) = some (.bool (!(a == b))) := by
  simp [gNeD, gNe, SeqAt.shaped, PyData.canLay0, PyData.depth, PyData.eqv]
theorem is_w {b k : Nat} {d : D} (h : Fit b k d) (hb : b ≤ 100) : m_is_world [d] = some (.bool (lOk d)) := by rw [e_is_world h hb, w_is_l]
def kB : SEnv → Option Out := (gSeq (gSet 4 [0, 3, 1] (fCall 4 m__law_spoilt (fCons (fVar 0) (fCons (f2 gAdd (fC (.int 80)) (f2 gMul (fC (.int 20)) (fVar 3))) (fCons (fVar 1) (fCons (f2 gAdd (fC (.int 1)) (f2 gMod (fVar 3) (fC (.int 4)))) fNil)))))) (gSeq (gSet 5 [4] (fCall 1 m_is_world (fCons (fVar 4) fNil))) (gIf (fOrT (fNotT (fB (fIs "bool" (fVar 5)))) (fB (f2 gNeD (fVar 5) (fCall 1 m__law_is_world (fCons (fVar 4) fNil))))) (gRet (fC (.bool false))) gNx)))
theorem gSet_sc2 {i : Nat} {fz : List Nat} {f : Dl.Env → Option D} {ρ : SEnv} {d : D} (hf : f (vAll ρ) = some d) (hf2 : f (vFrz (hand fz 0 ρ)) = some d) (hh : hand fz 0 ρ = ρ) : Dl.gSet i fz f ρ = some (.nx (ρ.set i (.val d))) := by
  cases hs : Dl.scal d with
  | true => exact gSet_scal hf hs
  | false =>
    rw [hh] at hf2
    simp only [Dl.gSet, hf, Option.bind_some, hs, Bool.false_eq_true, if_false, hh, hf2, Option.map_some]
theorem kB_run {ns : List Int} {w : D} {s2 s4 s5 : Slot} {k : Int} (hl : ns.length ≤ 63) (h : Fit 16 4 w) : ∃ t4 t5, kB [.val (scr ns), .val w, s2, .val (.int k), s4, s5, .non, .non] = some (.nx [.val (scr ns), .val w, s2, .val (.int k), .val t4, .val t5, .non, .non]) := by
  have hm : Dl.gMod (.int k) (.int 4) = some (.int (k % 4)) := gMod_int (by decide)
  have hu : Dl.gMul (.int 20) (.int k) = some (.int (20 * k)) := gMul_int (cmul_l (by decide))
  have hlt := Int.emod_lt_of_pos k (show (0 : Int) < 4 by decide)
  obtain ⟨d, e, f⟩ := e_spoilt hl 5 (80 + 20 * k) (1 + k % 4) h (by decide) (by omega)
  have e' : m__law_spoilt [scr ns, .int (80 + 20 * k), w, .int (1 + k % 4)] = some d := e
  refine ⟨d, .bool (lOk d), ?_⟩
  have s4' : Dl.gSet 4 [0, 3, 1] (fCall 4 m__law_spoilt (fCons (fVar 0) (fCons (f2 gAdd (fC (.int 80)) (f2 gMul (fC (.int 20)) (fVar 3))) (fCons (fVar 1) (fCons (f2 gAdd (fC (.int 1)) (f2 gMod (fVar 3) (fC (.int 4)))) fNil))))) [.val (scr ns), .val w, s2, .val (.int k), s4, s5, .non, .non] = some (.nx [.val (scr ns), .val w, s2, .val (.int k), .val d, s5, .non, .non]) := by
    have hh : hand [0, 3, 1] 0 [Slot.val (scr ns), .val w, s2, .val (.int k), s4, s5, .non, .non] = [Slot.val (scr ns), .val w, s2, .val (.int k), s4, s5, .non, .non] := rfl
    refine (gSet_sc2 (d := d) ?_ ?_ hh).trans rfl
    · simp! [hm, hu, e']
    · rw [hh]; simp only [vFrz, List.map_cons, List.map_nil]; simp! [hm, hu, e']
  have s5' : Dl.gSet 5 [4] (fCall 1 m_is_world (fCons (fVar 4) fNil)) [.val (scr ns), .val w, s2, .val (.int k), .val d, s5, .non, .non] = some (.nx [.val (scr ns), .val w, s2, .val (.int k), .val d, .val (.bool (lOk d)), .non, .non]) :=
    gSet_scal (d := .bool (lOk d)) (by simp! [is_w f (by decide)]) rfl
  have hb : kit0 (tyName (.bool (lOk d))) "bool" = some true := Dl.kB (d := .bool (lOk d)) rfl
  simp only [kB, gSeq, s4', s5', Option.bind_some]
  simp! [hb, Bool.not_true, gB_bool, e_law_is_world f (by decide) (by decide), gNeD_bool, beq_self_eq_true, Bool.false_eq_true]
theorem kB_for {ns : List Int} {w : D} {s2 : Slot} (hl : ns.length ≤ 63) (h : Fit 16 4 w) : ∀ (ks : List Int) {s3 s4 s5 : Slot}, ∃ t3 t4 t5, forD (fSG 3) kB (ks.map PyData.int) [.val (scr ns), .val w, s2, s3, s4, s5, .non, .non] = some (.nx [.val (scr ns), .val w, s2, t3, t4, t5, .non, .non])
  | [], s3, s4, s5 => ⟨s3, s4, s5, rfl⟩
  | k :: ks, s3, s4, s5 => by
    obtain ⟨u4, u5, e1⟩ := kB_run (s2 := s2) (s4 := s4) (s5 := s5) (k := k) hl h
    obtain ⟨t3, t4, t5, e⟩ := kB_for hl h ks (s2 := s2) (s3 := .val (.int k)) (s4 := .val u4) (s5 := .val u5)
    refine ⟨t3, t4, t5, ?_⟩
    have hs : fSG 3 [.val (scr ns), .val w, s2, s3, s4, s5, .non, .non] (.int k) = some [.val (scr ns), .val w, s2, .val (.int k), s4, s5, .non, .non] := rfl
    simp only [List.map_cons, forD, hs, Option.bind_some, e1, e]
/-! the known ones -/
def base : D := .tuple [.tuple [.tuple [.int 2, .tuple [.int 1]]], .tuple [.tuple [.int 1, .tuple []], .tuple [.int 3, .tuple [.int 0]]], .tuple [.tuple [.int 0, .int 1, .int 2]]]
def chk : Option D → Bool
  | some (.list L) => decide (L.length ≤ 1000) && L.all (fitB 40 7)
  | _ => false
theorem each_chk : chk (m__law_each [base]) = true := by decide +kernel
theorem chk_out {o : Option D} (h : chk o = true) : ∃ L, o = some (.list L) ∧ L.length ≤ 1000 ∧ ∀ x ∈ L, Fit 40 7 x := by
  cases o with
  | none => cases h
  | some d =>
    cases d <;> try cases h
    rename_i L
    unfold chk at h
    rw [Bool.and_eq_true, decide_eq_true_eq, List.all_eq_true] at h
    exact ⟨L, rfl, h.1, fun x hx => fitB_ok (h.2 x hx)⟩
theorem each_ok : ∃ L, m__law_each [base] = some (.list L) ∧ L.length ≤ 1000 ∧ ∀ x ∈ L, Fit 40 7 x := chk_out each_chk
def b1 : D := .tuple [.tuple [.tuple [.int 2, .tuple [.int 1]]], .tuple [.tuple [.int 1, .tuple []], .tuple [.int 3, .tuple [.int 0]]], .tuple [.tuple [.int 0, .int 1, .int 0]]]
def b2 : D := .tuple [.tuple [.tuple [.int 2, .tuple [.int 1]]], .tuple [.tuple [.int 1, .tuple [.int 0]], .tuple [.int 3, .tuple []]], .tuple [.tuple [.int 0, .int 1, .int 2]]]
def z1 : D := .tuple [.tuple [.tuple [.int 0, .tuple []]], .tuple [.tuple [.int 9, .tuple []]], .tuple []]
def z2 : D := .tuple [.tuple (List.replicate 5 (.tuple [.int 0, .tuple []])), .tuple [.tuple [.int 9, .tuple []]], .tuple []]
theorem fit_b {d : D} (h : fitB 40 7 d = true) : Fit 40 7 d := fitB_ok h
def q5E : Dl.Env → Option D := (fTup (fCons (fTup (fCons (fTup (fCons (fC (.int 2)) (fCons (fTup (fCons (fC (.int 1)) fNil)) fNil))) fNil)) (fCons (fTup (fCons (fTup (fCons (fC (.int 1)) (fCons (fTup fNil) fNil))) (fCons (fTup (fCons (fC (.int 3)) (fCons (fTup (fCons (fC (.int 0)) fNil)) fNil))) fNil))) (fCons (fTup (fCons (fTup (fCons (fC (.int 0)) (fCons (fC (.int 1)) (fCons (fC (.int 2)) fNil)))) fNil)) fNil))))
def q6B : Dl.Env → Option D := (fLs (fLst (fCons (f2 gAdd (fCut gCutA (fVar 6) fNoB (fBd (fC (.int 2)))) (fTup (fCons (fTup (fCons (fTup (fCons (fC (.int 0)) (fCons (fC (.int 1)) (fCons (fC (.int 0)) fNil)))) fNil)) fNil))) (fCons (fTup (fCons (f2 gIx (fVar 6) (fC (.int 0))) (fCons (fTup (fCons (fTup (fCons (fC (.int 1)) (fCons (fTup (fCons (fC (.int 0)) fNil)) fNil))) (fCons (fTup (fCons (fC (.int 3)) (fCons (fTup fNil) fNil))) fNil))) (fCons (f2 gIx (fVar 6) (fC (.int 2))) fNil)))) fNil))))
def q6E : Dl.Env → Option D := f2 Dl.gAdd (f2 gAdd (fLs (fLst (fCons (fVar 6) fNil))) (fCall 1 m__law_each (fCons (fVar 6) fNil))) q6B
def q8a : Dl.Env → Option D := (fCall 1 m_is_world (fCons (fTup (fCons (fTup (fCons (fTup (fCons (fC (.int 0)) (fCons (fTup fNil) fNil))) fNil)) (fCons (fTup (fCons (fTup (fCons (fC (.int 9)) (fCons (fTup fNil) fNil))) fNil)) (fCons (fTup fNil) fNil)))) fNil))
def q8b : Dl.Env → Option D := (fNot (fCall 1 m_is_world (fCons (fTup (fCons (f2 gMul (fTup (fCons (fTup (fCons (fC (.int 0)) (fCons (fTup fNil) fNil))) fNil)) (fC (.int 5))) (fCons (fTup (fCons (fTup (fCons (fC (.int 9)) (fCons (fTup fNil) fNil))) fNil)) (fCons (fTup fNil) fNil)))) fNil)))
theorem g_law_eq : g_law = gSeq (gSet 1 [0] (fCall 3 m__law_world (fCons (fVar 0) (fCons (fC (.int 0)) (fCons (fC (.int 9)) fNil))))) (gSeq chB (gSeq (gIf (fOrT (fNotT (fB (fCall 1 m_is_world (fCons (fVar 1) fNil)))) (fNotT (fB (fCall 1 m__law_is_world (fCons (fVar 1) fNil))))) (gRet (fC (.bool false))) gNx) (gSeq (gFor [] (fRange (fCons (fC (.int 5)) fNil)) (fSG 3) kB) (gSeq (gSet 6 [] q5E) (gSeq (gSet 7 [6] q6E) (gSeq (gIf (fB (f2 gNeD (fLs (fComp 1 [] (fSeq (fVar 7)) (fG 0) (fB (f2 gNeD (fCall 1 m_is_world (fCons (fVar 0) fNil)) (fCall 1 m__law_is_world (fCons (fVar 0) fNil)))) (fVar 0))) (fLs (fLst fNil)))) (gRet (fC (.bool false))) gNx) (gRet (fAnd q8a q8b)))))))) := rfl
theorem q5_eq (ρ : Dl.Env) : q5E ρ = some base := rfl
theorem q6B_eq {ρ : Dl.Env} (h : fVar 6 ρ = some base) : q6B ρ = some (.list [b1, b2]) := by
  simp only [q6B, fLs, fLst, fCons, fNil, f2, fCut, fTup, h, Option.bind_some, Option.map_some]
  rfl
theorem q6_eq {ρ : Dl.Env} {L : List D} (hL : m__law_each [base] = some (.list L)) (hl : L.length ≤ 1000) (h : fVar 6 ρ = some base) : q6E ρ = some (.list ([base] ++ L ++ [b1, b2])) := by
  have a1 := gAdd_lst (xs := [base]) (ys := L) (by rw [List.length_append, List.length_singleton]; omega)
  have a2 := gAdd_lst (xs := [base] ++ L) (ys := [b1, b2]) (by simp only [List.length_append, List.length_cons, List.length_nil]; omega)
  rw [← a2]
  simp only [q6E, f2, q6B_eq h, fLs, fLst, fCons, fNil, fCall, h, Option.bind_some, Option.map_some, small1, List.length_cons, List.length_nil, Nat.zero_add, if_true, hL, a1]
theorem q8a_eq (ρ : Dl.Env) : q8a ρ = m_is_world [z1] := rfl
theorem q8b_eq (ρ : Dl.Env) : q8b ρ = (m_is_world [z2]).bind gNot := rfl
theorem z1_ok : lOk z1 = true := by decide +kernel
theorem z2_ok : lOk z2 = false := by decide +kernel
theorem some_fit {L : List D} (hL : ∀ x ∈ L, Fit 40 7 x) : ∀ x ∈ [base] ++ L ++ [b1, b2], Fit 40 7 x := fun x hx => by
  rcases List.mem_append.mp hx with hx | hx
  · rcases List.mem_append.mp hx with hx | hx
    · rw [List.mem_singleton] at hx; subst hx; exact fit_b (by decide +kernel)
    · exact hL x hx
  · simp only [List.mem_cons, List.not_mem_nil, or_false] at hx
    rcases hx with rfl | rfl <;> exact fit_b (by decide +kernel)
theorem main : ∀ ns : List Int, ns.length ≤ 63 → m_law [.list (ns.map PyData.int)] = some (.bool true) := by
  intro ns hl
  show m_law [scr ns] = some (.bool true)
  obtain ⟨G, T, W, e0, h0⟩ := e_law_world hl
  have t1 : Dl.gSet 1 [0] (fCall 3 m__law_world (fCons (fVar 0) (fCons (fC (.int 0)) (fCons (fC (.int 9)) fNil)))) [.val (scr ns), .non, .non, .non, .non, .non, .non, .non] = some (.nx [.val (scr ns), .val (wdD G T W), .non, .non, .non, .non, .non, .non]) :=
    (gSet_same (d := wdD G T W) (by simp! [e0]) rfl rfl rfl).trans rfl
  obtain ⟨G', W', s2, e1, h1⟩ := chB_run hl h0
  have f1 := h1.fit
  have l1 := h1.lok
  generalize wdD G' T W' = w at *
  obtain ⟨t3, t4, t5, e4⟩ := kB_for hl f1 [0, 1, 2, 3, 4] (s2 := s2) (s3 := .non) (s4 := .non) (s5 := .non)
  have tf : gFor [] (fRange (fCons (fC (.int 5)) fNil)) (fSG 3) kB [.val (scr ns), .val w, s2, .non, .non, .non, .non, .non] = some (.nx [.val (scr ns), .val w, s2, t3, t4, t5, .non, .non]) := by
    have hr := range_n (fi := fC (.int 5)) (ρ := vFrz [.val (scr ns), .val w, s2, .non, .non, .non, .non, .non]) 5 (by decide) rfl
    simp only [gFor, hand_nil, hr, Option.bind_some]
    exact e4
  have t6 : Dl.gSet 6 [] q5E [.val (scr ns), .val w, s2, t3, t4, t5, .non, .non] = some (.nx [.val (scr ns), .val w, s2, t3, t4, t5, .val base, .non]) :=
    (gSet_sc2 (d := base) (q5_eq _) (q5_eq _) (hand_nil _ _)).trans rfl
  obtain ⟨L, hL, hlen, hfit⟩ := each_ok
  have t7 : Dl.gSet 7 [6] q6E [.val (scr ns), .val w, s2, t3, t4, t5, .val base, .non] = some (.nx [.val (scr ns), .val w, s2, t3, t4, t5, .val base, .val (.list ([base] ++ L ++ [b1, b2]))]) :=
    (gSet_sc2 (d := .list ([base] ++ L ++ [b1, b2])) (q6_eq hL hlen rfl) (q6_eq hL hlen rfl) rfl).trans rfl
  have hs := some_fit hfit
  have hsl : ([base] ++ L ++ [b1, b2]).length ≤ 4000 := by simp only [List.length_append, List.length_cons, List.length_nil]; omega
  generalize [base] ++ L ++ [b1, b2] = S at *
  have hc : ∀ ρ : Dl.Env, fVar 7 ρ = some (.list S) → fComp 1 [] (fSeq (fVar 7)) (fG 0) (fB (f2 gNeD (fCall 1 m_is_world (fCons (fVar 0) fNil)) (fCall 1 m__law_is_world (fCons (fVar 0) fNil)))) (fVar 0) ρ = some [] := fun ρ h => by
    rw [fComp_filter (ds := S) (p := fun _ => false) (h := id) (by simp only [fSeq, h, Option.bind_some, seqOf]) hsl (fun x hx => ?_) fun x hx h => (by cases h)]
    · simp
    · simp! [is_w (hs x hx) (by decide), e_law_is_world (hs x hx) (by decide) (by decide), gNeD_bool, beq_self_eq_true, Bool.not_true, gB_bool]
  have hne := gNeD_nil (b := 0) (k := 0) (xs := []) (fun x hx => by cases hx) (by decide)
  have hc' := hc [some (scr ns), some w, Slot.all s2, Slot.all t3, Slot.all t4, Slot.all t5, some base, some (.list S)] rfl
  have hz1 : m_is_world [z1] = some (.bool true) := by rw [is_w (b := 40) (k := 7) (fit_b (by decide +kernel)) (by decide), z1_ok]
  have hz2 : m_is_world [z2] = some (.bool false) := by rw [is_w (b := 40) (k := 7) (fit_b (by decide +kernel)) (by decide), z2_ok]
  unfold m_law
  rw [g_law_eq]
  simp! [t1, e1, is_w f1 (by decide), e_law_is_world f1 (by decide) (by decide), l1, Bool.not_true, gB_bool, Bool.false_eq_true, tf, t6, t7, hc', small_nil, hne, List.isEmpty_nil, q8a_eq, q8b_eq, hz1, hz2, Bool.not_false]
end K1
set_option Elab.async false
set_option linter.all false
set_option maxRecDepth 100000
set_option maxHeartbeats 4000000
namespace K1
open PySem L2 Dl PySem.Spec PyProof.Rows
theorem bltAll {K : PySem.W.Frag} (h0 : PySem.W.nsIn K mainGlobals "len" = some none) (h1 : PySem.W.nsIn K mainGlobals "isinstance" = some none) (h2 : PySem.W.nsIn K mainGlobals "int" = some none) (h3 : PySem.W.nsIn K mainGlobals "bool" = some none) (h4 : PySem.W.nsIn K mainGlobals "tuple" = some none) (h5 : PySem.W.nsIn K mainGlobals "list" = some none) (h6 : PySem.W.nsIn K mainGlobals "range" = some none) (h7 : PySem.W.nsIn K mainGlobals "all" = some none) (h8 : PySem.W.nsIn K mainGlobals "any" = some none) (h9 : PySem.W.nsIn K mainGlobals "set" = some none) (h10 : PySem.W.nsIn K mainGlobals "sorted" = some none) (h11 : PySem.W.nsIn K mainGlobals "enumerate" = some none) (h12 : PySem.W.nsIn K mainGlobals "zip" = some none) (h13 : PySem.W.nsIn K mainGlobals "sum" = some none) (h14 : PySem.W.nsIn K mainGlobals "min" = some none) (h15 : PySem.W.nsIn K mainGlobals "max" = some none) (h16 : PySem.W.nsIn K mainGlobals "reversed" = some none) : ∀ x ∈ bltNames, PySem.W.nsIn K mainGlobals x = some none := by
  intro x hx
  simp only [bltNames, List.mem_cons, List.not_mem_nil, or_false] at hx
  rcases hx with rfl | rfl | rfl | rfl | rfl | rfl | rfl | rfl | rfl | rfl | rfl | rfl | rfl | rfl | rfl | rfl | rfl <;> assumption
end K1
open PySem PySem.W PyProof.Rows
set_option maxRecDepth 100000 in
set_option maxHeartbeats 0 in
theorem PySem.Challenge.cw_stillflow_k01_worlds_holds : PySem.Challenge.rw_stillflow_k01_worlds.Holds := by
  w_on; o_law; k_head; (case hw => w_witness2)
  k_fill
  refine K1.walk (l := PySem.Challenge.rw_stillflow_k01_worlds) rfl rfl rfl (fun w h Y => PySem.W.kIn_of Y) ?I K1.main
  case I =>
    intro w
    refine' ⟨(Dl.defIn (fun _ _ _ _ _ _ _ _ us hl => match us, hl with | [_, _, _], _ => rfl) ?qa3 ?ql3 ?qc3 ?qk3), (Dl.defIn (fun _ _ _ _ _ _ _ _ us hl => match us, hl with | [_, _], _ => rfl) ?qa4 ?ql4 ?qc4 ?qk4), (Dl.defIn (fun _ _ _ _ _ _ _ _ us hl => match us, hl with | [_, _, _], _ => rfl) ?qa5 ?ql5 ?qc5 ?qk5), (Dl.defIn (fun _ _ _ _ _ _ _ _ us hl => match us, hl with | [_, _], _ => rfl) ?qa6 ?ql6 ?qc6 ?qk6), (Dl.defIn (fun _ _ _ _ _ _ _ _ us hl => match us, hl with | [_, _], _ => rfl) ?qa7 ?ql7 ?qc7 ?qk7), (Dl.defIn (fun _ _ _ _ _ _ _ _ us hl => match us, hl with | [_, _, _], _ => rfl) ?qa8 ?ql8 ?qc8 ?qk8), (Dl.defIn (fun _ _ _ _ _ _ _ _ us hl => match us, hl with | [_, _, _], _ => rfl) ?qa9 ?ql9 ?qc9 ?qk9), (Dl.defIn (fun _ _ _ _ _ _ _ _ us hl => match us, hl with | [_], _ => rfl) ?qa10 ?ql10 ?qc10 ?qk10), (Dl.defIn (fun _ _ _ _ _ _ _ _ us hl => match us, hl with | [_], _ => rfl) ?qa11 ?ql11 ?qc11 ?qk11), (Dl.defIn (fun _ _ _ _ _ _ _ _ us hl => match us, hl with | [_, _], _ => rfl) ?qa13 ?ql13 ?qc13 ?qk13), (Dl.defIn (fun _ _ _ _ _ _ _ _ us hl => match us, hl with | [_, _, _], _ => rfl) ?qa14 ?ql14 ?qc14 ?qk14), (Dl.defIn (fun _ _ _ _ _ _ _ _ us hl => match us, hl with | [_, _, _], _ => rfl) ?qa15 ?ql15 ?qc15 ?qk15), (Dl.defIn (fun _ _ _ _ _ _ _ _ us hl => match us, hl with | [_, _, _], _ => rfl) ?qa16 ?ql16 ?qc16 ?qk16), (Dl.defIn (fun _ _ _ _ _ _ _ _ us hl => match us, hl with | [_, _, _], _ => rfl) ?qa17 ?ql17 ?qc17 ?qk17), (Dl.defIn (fun _ _ _ _ _ _ _ _ us hl => match us, hl with | [_, _], _ => rfl) ?qa18 ?ql18 ?qc18 ?qk18), (Dl.defIn (fun _ _ _ _ _ _ _ _ us hl => match us, hl with | [_, _, _], _ => rfl) ?qa19 ?ql19 ?qc19 ?qk19), (Dl.defIn (fun _ _ _ _ _ _ _ _ us hl => match us, hl with | [_], _ => rfl) ?qa20 ?ql20 ?qc20 ?qk20), (Dl.defIn (fun _ _ _ _ _ _ _ _ us hl => match us, hl with | [_, _, _, _], _ => rfl) ?qa21 ?ql21 ?qc21 ?qk21), (Dl.defIn (fun _ _ _ _ _ _ _ _ us hl => match us, hl with | [_], _ => rfl) ?qa22 ?ql22 ?qc22 ?qk22), (Dl.defIn (fun _ _ _ _ _ _ _ _ us hl => match us, hl with | [_], _ => rfl) ?qa23 ?ql23 ?qc23 ?qk23), (Dl.intIn ?gint0), (Dl.intIn ?gint1), (K1.bltAll ?zz0 ?zz1 ?zz2 ?zz3 ?zz4 ?zz5 ?zz6 ?zz7 ?zz8 ?zz9 ?zz10 ?zz11 ?zz12 ?zz13 ?zz14 ?zz15 ?zz16)⟩
    (case qa3 => k_is); (case ql3 => k_is); (case qc3 => k_is); (case qk3 => k_is)
    (case qa4 => k_is); (case ql4 => k_is); (case qc4 => k_is); (case qk4 => k_is)
    (case qa5 => k_is); (case ql5 => k_is); (case qc5 => k_is); (case qk5 => k_is)
    (case qa6 => k_is); (case ql6 => k_is); (case qc6 => k_is); (case qk6 => k_is)
    (case qa7 => k_is); (case ql7 => k_is); (case qc7 => k_is); (case qk7 => k_is)
    (case qa8 => k_is); (case ql8 => k_is); (case qc8 => k_is); (case qk8 => k_is)
    (case qa9 => k_is); (case ql9 => k_is); (case qc9 => k_is); (case qk9 => k_is)
    (case qa10 => k_is); (case ql10 => k_is); (case qc10 => k_is); (case qk10 => k_is)
    (case qa11 => k_is); (case ql11 => k_is); (case qc11 => k_is); (case qk11 => k_is)
    (case qa13 => k_is); (case ql13 => k_is); (case qc13 => k_is); (case qk13 => k_is)
    (case qa14 => k_is); (case ql14 => k_is); (case qc14 => k_is); (case qk14 => k_is)
    (case qa15 => k_is); (case ql15 => k_is); (case qc15 => k_is); (case qk15 => k_is)
    (case qa16 => k_is); (case ql16 => k_is); (case qc16 => k_is); (case qk16 => k_is)
    (case qa17 => k_is); (case ql17 => k_is); (case qc17 => k_is); (case qk17 => k_is)
    (case qa18 => k_is); (case ql18 => k_is); (case qc18 => k_is); (case qk18 => k_is)
    (case qa19 => k_is); (case ql19 => k_is); (case qc19 => k_is); (case qk19 => k_is)
    (case qa20 => k_is); (case ql20 => k_is); (case qc20 => k_is); (case qk20 => k_is)
    (case qa21 => k_is); (case ql21 => k_is); (case qc21 => k_is); (case qk21 => k_is)
    (case qa22 => k_is); (case ql22 => k_is); (case qc22 => k_is); (case qk22 => k_is)
    (case qa23 => k_is); (case ql23 => k_is); (case qc23 => k_is); (case qk23 => k_is)
    (case gint0 => k_is)
    (case gint1 => k_is)
    (case zz0 => k_is); (case zz1 => k_is); (case zz2 => k_is); (case zz3 => k_is); (case zz4 => k_is); (case zz5 => k_is); (case zz6 => k_is); (case zz7 => k_is); (case zz8 => k_is); (case zz9 => k_is); (case zz10 => k_is); (case zz11 => k_is); (case zz12 => k_is); (case zz13 => k_is); (case zz14 => k_is); (case zz15 => k_is); (case zz16 => k_is)
