import PyProof.Rows.All
import Wide.All
import OpenK.AllK
import Wide.FinOn
import Lean
import PyProof.EqAt
import PyProof.EqKinds
import PyProof.TupleCall
import PyProof.CollectIter
import PyProof.JoinWalk
import PyProof.StrOps
import PyProof.ListOps
import PyProof.StrLawsJoin
import KE.KRevIter
import PyProof.StrLawsTight
import PyProof.StrLawsChain
import PySem.Challenge.RW_quiltlaw_k02_pictures_as_texts
set_option Elab.async false
set_option linter.all false
set_option maxRecDepth 100000
/-! THE HAND LAYER, for ints, bools, texts, own classes, DICTS (int and text keys), calls, loops. Paste it whole ahead of your own text; what your proof does not reach may be deleted. -/
namespace L2
open PySem PySem.Spec PyProof.Rows

/-- a key: an int or a str -/
abbrev Key := Sum Int Str
def keyIs : Key → Value → Bool
  | .inl k, v => Value.isInt k v
  | .inr x, v => Value.isStrOf x v
def keyH (w : World) : Key → Int
  | .inl k => hashInt k
  | .inr x => hashStr w x
theorem keyIs_shape : ∀ {k : Key} {v : Value}, keyIs k v = true → (∃ i t, k = Sum.inl i ∧ v = Value.int i t) ∨ (∃ x t, k = Sum.inr x ∧ v = Value.str x t)
  | .inl i, v, h => by
    obtain ⟨t, e⟩ := Value.isInt_shape (k := i) (v := v) h
    exact .inl ⟨i, t, rfl, e⟩
  | .inr x, v, h => by
    obtain ⟨t, e⟩ := Value.isStrOf_shape (x := x) (v := v) h
    exact .inr ⟨x, t, rfl, e⟩
theorem key_ll (a b : Int) : decide ((Sum.inl a : Key) = Sum.inl b) = (a == b) := by
  by_cases e : a = b
  · subst e; simp
  · have h : ¬ (Sum.inl a : Key) = Sum.inl b := fun q => e (Sum.inl.inj q)
    rw [decide_eq_false h]
    exact (beq_eq_false_iff_ne.mpr e).symm
theorem key_rr (a b : Str) : decide ((Sum.inr a : Key) = Sum.inr b) = decide (a = b) := by
  by_cases e : a = b
  · subst e; simp
  · have h : ¬ (Sum.inr a : Key) = Sum.inr b := fun q => e (Sum.inr.inj q)
    rw [decide_eq_false h, decide_eq_false e]
theorem key_lr (a : Int) (b : Str) : decide ((Sum.inl a : Key) = Sum.inr b) = false := decide_eq_false (fun q => nomatch q)
theorem key_rl (a : Str) (b : Int) : decide ((Sum.inr a : Key) = Sum.inl b) = false := decide_eq_false (fun q => nomatch q)

def mixKind (prog : Program) (w : World) : PySem.KeyKind prog w Key where
  is := keyIs
  hash := keyH w
  inj := fun v a b ha hb => by
    rcases keyIs_shape ha with ⟨i, t, rfl, rfl⟩ | ⟨x, t, rfl, rfl⟩
    · rcases keyIs_shape hb with ⟨j, u, rfl, e⟩ | ⟨y, u, rfl, e⟩
      · injection e with e1 _; rw [e1]
      · exact nomatch e
    · rcases keyIs_shape hb with ⟨j, u, rfl, e⟩ | ⟨y, u, rfl, e⟩
      · exact nomatch e
      · injection e with e1 _; rw [e1]
  byValue := fun k v h => by
    rcases keyIs_shape h with ⟨i, t, rfl, rfl⟩ | ⟨x, t, rfl, rfl⟩ <;> rfl
  pyHash := fun hv h => by
    rcases keyIs_shape hv with ⟨i, t, rfl, rfl⟩ | ⟨x, t, rfl, rfl⟩
    · exact wpAny_pyHash_int h
    · exact wpAny_pyHash_str h
  eqBool := fun hu hv h => by
    rcases keyIs_shape hu with ⟨i, t, rfl, rfl⟩ | ⟨x, t, rfl, rfl⟩
    · rcases keyIs_shape hv with ⟨j, u, rfl, rfl⟩ | ⟨y, u, rfl, rfl⟩
      · rw [key_ll] at h; exact wpAny_eqBool_int h
      · rw [key_lr] at h; exact SeqAt.EqAt.int_str i t y u _ _ _ _ h
    · rcases keyIs_shape hv with ⟨j, u, rfl, rfl⟩ | ⟨y, u, rfl, rfl⟩
      · rw [key_rl] at h; exact SeqAt.EqAt.str_int x t j u _ _ _ _ h
      · rw [key_rr] at h; exact wpAny_eqBool_str h
  «strs» := fun k x t v h => by
    rcases keyIs_shape h with ⟨i, u, rfl, e⟩ | ⟨y, u, rfl, e⟩
    · exact nomatch e
    · injection e with e1 _
      subst e1
      cases v <;> rfl

end L2

namespace L2
open PySem PySem.Spec PyProof.Rows

/-- a value, without the heap -/
inductive V where
  | non | bl (b : Bool) | int (i : Int) | str (x : Str) | byt (b : Array UInt8) | flt (b : UInt64) | ref (a : Addr) | ty (n : String)
  deriving DecidableEq

def RelV : V → Value → Prop
  | .non, u => u = Value.none
  | .bl b, u => u = Value.bool b
  | .int i, u => ∃ t, u = Value.int i t
  | .str x, u => ∃ t, u = Value.str x t
  | .byt b, u => ∃ t, u = Value.bytes b t
  | .flt b, u => ∃ t, u = Value.float b t
  | .ref a, u => u = Value.ref a
  | .ty n, u => u = Value.type n

abbrev Vals : List V → List Value → Prop := Paired RelV
theorem Vals.length {xs : List V} {us : List Value} (r : Vals xs us) : xs.length = us.length := Paired.length r
theorem Vals.get : ∀ {xs : List V} {us : List Value} {i : Nat} {x : V}, Vals xs us → xs[i]? = some x → ∃ u, us[i]? = some u ∧ RelV x u
  | _, _, _, _, .nil, e => by simp at e
  | _, _, 0, _, .cons r _, e => by simp at e; subst e; exact ⟨_, rfl, r⟩
  | _, _, i + 1, x, .cons _ t, e => by
    obtain ⟨u, h1, h2⟩ := Vals.get (i := i) (x := x) t (by simpa using e)
    exact ⟨u, by simpa using h1, h2⟩
theorem Vals.set {x : V} {u : Value} (r : RelV x u) : ∀ {xs : List V} {us : List Value} (i : Nat), Vals xs us → Vals (xs.set i x) (us.set i u)
  | _, _, _, .nil => .nil
  | _, _, 0, .cons _ t => .cons r t
  | _, _, i + 1, .cons q t => .cons q (Vals.set r i t)
theorem Vals.append : ∀ {xs ys : List V} {us ws : List Value}, Vals xs us → Vals ys ws → Vals (xs ++ ys) (us ++ ws)
  | _, _, _, _, .nil, s => s
  | _, _, _, _, .cons r t, s => .cons r (Vals.append t s)
theorem Vals.take : ∀ {xs : List V} {us : List Value} (n : Nat), Vals xs us → Vals (xs.take n) (us.take n)
  | _, _, 0, _ => .nil
  | _, _, _ + 1, .nil => .nil
  | _, _, n + 1, .cons r t => .cons r (Vals.take n t)
theorem Vals.drop : ∀ {xs : List V} {us : List Value} (n : Nat), Vals xs us → Vals (xs.drop n) (us.drop n)
  | _, _, 0, r => r
  | _, _, _ + 1, .nil => .nil
  | _, _, n + 1, .cons _ t => Vals.drop n t
def RelO : Option V → Option Value → Prop
  | some v, some u => RelV v u
  | none, none => True
  | _, _ => False
def KV {κ : Type} : List (κ × V) → List (κ × Value) → Prop := Paired fun (p : κ × V) (q : κ × Value) => p.1 = q.1 ∧ RelV p.2 q.2

/-- a key of a dict (00_mix): an int or a text -/
def kV : Key → V
  | .inl i => .int i
  | .inr x => .str x

/-- what stands at a tracked address -/
inductive HO where
  /-- a list -/
  | lst (xs : List V)
  /-- a tuple (never changes) -/
  | tup (xs : List V)
  /-- a dict whose keys are ints and texts; one whose keys are tuples of ints and texts (the empty one is both) -/
  | dK (kvs : List (Key × V)) | dT (kvs : List (List Key × V))
  /-- a set of ints: its members, its size -/
  | set (S : Int → Bool) (n : Nat)
  /-- an instance of the class at C, its dict at dx, its attributes -/
  | ins (C dx : Addr) (fs : List (Str × V))
  /-- the dict of the instance at x -/
  | own (x : Addr)
  /-- the dict of an exception -/
  | xd (fs : List (Str × V))
  /-- a bound method, f of x -/
  | met (f x : Addr)
  /-- a range object lo, lo + 1, .. below hi -/
  | rng (lo hi : Int)
  /-- a thing that is known to the object (the script; a dict while a loop walks it): read, never written while it is so -/
  | frz (o : Obj) (u : HO)
  /-- a code object's table -/
  | tbl (ps : Array Value)
  /-- any other thing, by what is true of its one object (a def of one's own: SetO a S n := HO.ext fun h => ..) -/
  | ext (φ : Heap → Prop)

abbrev Hp := Addr → Option HO
def upd (H : Hp) (a : Addr) (o : HO) : Hp := fun b => if b = a then some o else H b
theorem upd_same {H : Hp} {a : Addr} {o : HO} : upd H a o a = some o := by unfold upd; rw [if_pos rfl]
theorem upd_ne {H : Hp} {a b : Addr} {o : HO} (h : b ≠ a) : upd H a o b = H b := by unfold upd; rw [if_neg h]
theorem upd_upd {H : Hp} {a : Addr} {o u : HO} : upd (upd H a o) a u = upd H a u := by
  funext b; unfold upd; split <;> rfl
theorem ne_of_none {H : Hp} {a b : Addr} {o : HO} (h : H a = some o) (h' : H b = none) : a ≠ b := by
  intro e; subst e; rw [h] at h'; cases h'

section
variable (P : Program) (w : World)
def ObjOk (H : Hp) (h : Heap) (a : Addr) : HO → Prop
  | .lst xs => xs.length ≤ sizeLine ∧ ∃ (its : List Value) (n : Nat), Vals xs its ∧ h.get? a = some { cls := .type "list", data := .seq its.toArray n }
  | .tup xs => xs.length ≤ sizeLine ∧ ∃ its : List Value, Vals xs its ∧ IsTup h a its.toArray
  | .dK kvs => kvs.length ≤ sizeLine ∧ (a == sysModules) = false ∧ ∃ vs, KV kvs vs ∧ h.DictOf (mixKind P w) a vs
  | .dT kvs => kvs.length ≤ sizeLine ∧ (a == sysModules) = false ∧ ∃ xs : List (List Key × Addr × Value),
      Paired (fun (p : List Key × V) (q : List Key × Addr × Value) => p.1 = q.1 ∧ H q.2.1 = some (.tup (p.1.map kV)) ∧ RelV p.2 q.2.2) kvs xs ∧
      ∃ o es ep, h.get? a = some o ∧ o.ExactDict ∧ o.data = .dict es ep ∧ es.toList = xs.map (entryOfKey (tupleKind (mixKind P w))) ∧ (xs.map (·.1)).Nodup
  | .set S n => h.SetOf (intKind P w) a S n
  | .ins C dx fs => H dx = some (.own a) ∧ fs.length ≤ 1000 ∧ dx ≠ a ∧ h.get? a = some (PySem.W.instObj C dx) ∧
      ∃ mA, h.Ns1 dx mA ∧ (∀ f, RelO (fs.lookup f) (mA f)) ∧ PySem.Within mA (fs.map (·.1))
  | .own _ => ∃ o, h.get? a = some o
  | .xd fs => ∃ mA, h.Ns1 a mA ∧ ∀ f, RelO (fs.lookup f) (mA f)
  | .rng lo hi => ∃ t u v, h.get? a = some { cls := .type "range", data := .fields #[.int lo t, .int hi u, .int 1 v] }
  | .frz o u => h.get? a = some o ∧ ObjOk H h a u
  | .tbl ps => h.get? a = some { cls := .none, data := .fields ps }
  | .met f x => h.get? a = some (PySem.W.methodObj (.ref f) (.ref x))
  | .ext φ => φ h ∧ (∃ o, h.get? a = some o) ∧ ∀ h1 h2 : Heap, φ h1 → (∀ o, h1.get? a = some o → h2.get? a = some o) → φ h2
/-- the abstract heap is held -/
def HOk (H : Hp) (h : Heap) : Prop := ∀ a o, H a = some o → ObjOk P w H h a o
end

section
variable {P : Program} {w : World} {H H' : Hp} {h h' : Heap} {a : Addr} {o : HO}
theorem ObjOk.lt (x : ObjOk P w H h a o) : a < h.objs.size := by
  cases o with
  | lst xs => obtain ⟨_, _, _, _, e⟩ := x; exact Heap.lt_size e
  | tup xs => obtain ⟨_, _, _, p⟩ := x; exact p.lt
  | dK kvs => obtain ⟨_, _, _, _, o, _, _, e, _⟩ := x; exact Heap.lt_size e
  | dT kvs => obtain ⟨_, _, _, _, o, _, _, e, _⟩ := x; exact Heap.lt_size e
  | set S n => obtain ⟨o, _, _, _, e, _⟩ := x; exact Heap.lt_size e
  | ins C dx fs => obtain ⟨_, _, _, e, _⟩ := x; exact Heap.lt_size e
  | own y => obtain ⟨_, e⟩ := x; exact Heap.lt_size e
  | xd fs => obtain ⟨_, ⟨_, _, _, e, _⟩, _⟩ := x; exact Heap.lt_size e
  | rng lo hi => obtain ⟨_, _, _, e⟩ := x; exact Heap.lt_size e
  | frz ob u => obtain ⟨e, _⟩ := x; exact Heap.lt_size e
  | tbl ps => exact Heap.lt_size (show h.get? a = some _ from x)
  | met f y => exact Heap.lt_size (show h.get? a = some _ from x)
  | ext φ => obtain ⟨_, ⟨_, e⟩, _⟩ := x; exact Heap.lt_size e
theorem Paired.mapP {α β : Type} {F G : α → β → Prop} : ∀ {l₁ : List α} {l₂ : List β}, Paired F l₁ l₂ → (∀ a b, F a b → G a b) → Paired G l₁ l₂
  | _, _, .nil, _ => .nil
  | _, _, .cons r t, f => .cons (f _ _ r) (Paired.mapP t f)
/-- what an object's description leans on: its own object, its own dict, the tuples -/
theorem ObjOk.stay (x : ObjOk P w H h a o) (k : ∀ b u, (b = a ∨ H b = some (.own a)) → h.get? b = some u → h'.get? b = some u)
    (ho : ∀ b, H b = some (.own a) → H' b = some (.own a)) (ht : ∀ b xs, H b = some (.tup xs) → H' b = some (.tup xs)) : ObjOk P w H' h' a o := by
  induction o with
  | lst xs => obtain ⟨z, its, n, r, e⟩ := x; exact ⟨z, its, n, r, k _ _ (.inl rfl) e⟩
  | tup xs => obtain ⟨z, its, r, ob, e, c⟩ := x; exact ⟨z, its, r, ob, k _ _ (.inl rfl) e, c⟩
  | dK kvs => obtain ⟨z, y, vs, r, ob, es, ep, e, c⟩ := x; exact ⟨z, y, vs, r, ob, es, ep, k _ _ (.inl rfl) e, c⟩
  | dT kvs =>
    obtain ⟨z, y, xs, r, ob, es, ep, e, c⟩ := x
    exact ⟨z, y, xs, Paired.mapP r fun p q z => ⟨z.1, ht _ _ z.2.1, z.2.2⟩, ob, es, ep, k _ _ (.inl rfl) e, c⟩
  | set S n => obtain ⟨ob, es, ep, t, e, c⟩ := x; exact ⟨ob, es, ep, t, k _ _ (.inl rfl) e, c⟩
  | ins C dx fs =>
    obtain ⟨d, z, ne, e, mA, ⟨od, es, ep, e2, c⟩, r⟩ := x
    exact ⟨ho _ d, z, ne, k _ _ (.inl rfl) e, mA, ⟨od, es, ep, k _ _ (.inr d) e2, c⟩, r⟩
  | own y => obtain ⟨ob, e⟩ := x; exact ⟨ob, k _ _ (.inl rfl) e⟩
  | xd fs => obtain ⟨mA, ⟨od, es, ep, e, c⟩, r⟩ := x; exact ⟨mA, ⟨od, es, ep, k _ _ (.inl rfl) e, c⟩, r⟩
  | rng lo hi => obtain ⟨t, u, v, e⟩ := x; exact ⟨t, u, v, k _ _ (.inl rfl) e⟩
  | frz ob u ih => obtain ⟨e, q⟩ := x; exact ⟨k _ _ (.inl rfl) e, ih q⟩
  | tbl ps =>
    have e : h.get? a = some { cls := .none, data := .fields ps } := x
    show h'.get? a = some { cls := .none, data := .fields ps }
    exact k a _ (.inl rfl) e
  | met f y =>
    have e : h.get? a = some (PySem.W.methodObj (.ref f) (.ref y)) := x
    show h'.get? a = some (PySem.W.methodObj (.ref f) (.ref y))
    exact k a _ (.inl rfl) e
  | ext φ => obtain ⟨p, ⟨o, e⟩, st⟩ := x; exact ⟨st _ _ p fun o q => k _ _ (.inl rfl) q, ⟨o, k _ _ (.inl rfl) e⟩, st⟩
theorem HOk.lt (x : HOk P w H h) (e : H a = some o) : a < h.objs.size := (x a o e).lt
theorem HOk.fresh (x : HOk P w H h) (e : h.objs.size ≤ a) : H a = none := by
  cases q : H a with
  | none => rfl
  | some u => exact absurd (Nat.lt_of_lt_of_le (x.lt q) e) (Nat.lt_irrefl _)
/-- every object of the heap is kept -/
theorem HOk.kept (x : HOk P w H h) (k : ∀ b u, h.get? b = some u → h'.get? b = some u) : HOk P w H h' := fun a o e =>
  (x a o e).stay (fun b u _ q => k b u q) (fun _ q => q) fun _ _ q => q
/-- a new object is laid and tracked -/
theorem HOk.laid (x : HOk P w H h) (k : ∀ b u, h.get? b = some u → h'.get? b = some u) (hp : h.objs.size ≤ a) (new : ObjOk P w (upd H a o) h' a o) : HOk P w (upd H a o) h' := fun b u e => by
  have hn := x.fresh hp
  by_cases hb : b = a
  · subst hb; rw [upd_same] at e; cases e; exact new
  · rw [upd_ne hb] at e
    exact (x b u e).stay (fun c v _ q => k c v q) (fun c q => by rw [upd_ne (ne_of_none q hn)]; exact q) fun c xs q => by rw [upd_ne (ne_of_none q hn)]; exact q
end

/-- what may be read as u: it is u, or a known u -/
def Rd (H : Hp) (a : Addr) (u : HO) : Prop := H a = some u ∨ ∃ o, H a = some (.frz o u)
theorem Rd.of {H : Hp} {a : Addr} {u : HO} (h : H a = some u) : Rd H a u := .inl h
theorem Rd.ok {P : Program} {w : World} {H : Hp} {h : Heap} {a : Addr} {u : HO} (r : Rd H a u) (x : HOk P w H h) : ObjOk P w H h a u := by
  rcases r with r | ⟨o, r⟩
  · exact x a u r
  · obtain ⟨_, q⟩ := x a _ r
    exact q
/-- what may be written -/
def Mut : Option HO → Prop
  | some (.lst _) => True
  | some (.dK _) => True
  | some (.dT _) => True
  | some (.set _ _) => True
  | some (.ins _ _ _) => True
  | some (.ext _) => True
  | _ => False
section
variable {P : Program} {w : World} {H : Hp} {h h' : Heap} {x e : Addr} {o' : HO}
/-- the object at e is changed: x itself, or the dict of the instance x -/
theorem HOk.write (ok : HOk P w H h) (mu : Mut (H x)) (he : e = x ∨ H e = some (.own x)) (k : ∀ b u, b ≠ e → h.get? b = some u → h'.get? b = some u) (heo : ∃ u, h'.get? e = some u)
    (new : ObjOk P w (upd H x o') h' x o') : HOk P w (upd H x o') h' := fun b u q => by
  have nown : ∀ c y, H c = some (.own y) → c ≠ x := fun c y r z => by subst z; rw [r] at mu; exact mu
  have ntup : ∀ c xs, H c = some (.tup xs) → c ≠ x := fun c xs r z => by subst z; rw [r] at mu; exact mu
  by_cases hb : b = x
  · subst hb; rw [upd_same] at q; cases q; exact new
  · rw [upd_ne hb] at q
    by_cases hbe : b = e
    · have q' : H b = some (.own x) := by
        rcases he with z | z
        · exact absurd (hbe.trans z) hb
        · rw [hbe]; exact z
      rw [q] at q'; cases q'
      obtain ⟨v, hv⟩ := heo
      exact ⟨v, by rw [hbe]; exact hv⟩
    · refine (ok b u q).stay (fun c v hc r => k c v ?_ r) (fun c r => by rw [upd_ne (nown c b r)]; exact r) fun c xs r => by rw [upd_ne (ntup c xs r)]; exact r
      rcases hc with rfl | hc
      · exact hbe
      · rintro rfl
        rcases he with z | z
        · exact nown c b hc z
        · rw [hc] at z; cases z; exact hb rfl
end

/-! ### kept unless tracked; of the frames at fs (the callers') the slots may change (an exception that passes writes there); of the records at ex (iterators) nothing is said -/
structure Un (fs ex : List Addr) (H H' : Hp) (h h' : Heap) : Prop where
  keep : ∀ b o, h.get? b = some o → H b = none → b ∉ fs → b ∉ ex → h'.get? b = some o
  slot : ∀ b o, h.get? b = some o → H b = none → b ∈ fs → b ∉ ex → ∃ sl, h'.get? b = some { o with slots := sl }
  free : ∀ b o, h.get? b = some o → H b = none → b ∉ ex → H' b = none
  there : ∀ b o, h.get? b = some o → b ∉ ex → ∃ o', h'.get? b = some o'
  tups : ∀ b xs, H b = some (.tup xs) → H' b = some (.tup xs)
  frzs : ∀ b o u, H b = some (.frz o u) → H' b = some (.frz o u)
  tbls : ∀ b ps, H b = some (.tbl ps) → ∃ more, H' b = some (.tbl (ps ++ more))
section
variable {fs fs' ex ex' : List Addr} {H H1 H2 : Hp} {h h1 h2 h' : Heap} {a x e : Addr} {o : HO}
theorem Un.any (u : Un fs ex H H1 h h1) {b : Addr} {ob : Obj} (q : h.get? b = some ob) (n : H b = none) (hx : b ∉ ex) : ∃ sl, h1.get? b = some { ob with slots := sl } := by
  by_cases hb : b ∈ fs
  · exact u.slot b ob q n hb hx
  · exact ⟨ob.slots, u.keep b ob q n hb hx⟩
theorem Un.trans (a : Un fs ex H H1 h h1) (b : Un fs ex H1 H2 h1 h2) : Un fs ex H H2 h h2 where
  keep := fun c ob q n hc hx => b.keep c ob (a.keep c ob q n hc hx) (a.free c ob q n hx) hc hx
  slot := fun c ob q n hc hx => by
    obtain ⟨sl, e1⟩ := a.slot c ob q n hc hx
    obtain ⟨sl', e2⟩ := b.slot c _ e1 (a.free c ob q n hx) hc hx
    exact ⟨sl', e2⟩
  free := fun c ob q n hx => by
    obtain ⟨o', e1⟩ := a.there c ob q hx
    exact b.free c o' e1 (a.free c ob q n hx) hx
  there := fun c ob q hx => by
    obtain ⟨o', e1⟩ := a.there c ob q hx
    exact b.there c o' e1 hx
  tups := fun c xs q => b.tups c xs (a.tups c xs q)
  frzs := fun c ob xs q => b.frzs c ob xs (a.frzs c ob xs q)
  tbls := fun c ps q => by
    obtain ⟨m1, e1⟩ := a.tbls c ps q
    obtain ⟨m2, e2⟩ := b.tbls c _ e1
    exact ⟨m1 ++ m2, by rw [e2, Array.append_assoc]⟩
theorem Un.kept (k : ∀ b u, h.get? b = some u → h'.get? b = some u) : Un fs ex H H h h' :=
  ⟨fun b ob q _ _ _ => k b ob q, fun b ob q _ _ _ => ⟨ob.slots, k b ob q⟩, fun _ _ _ n _ => n, fun b ob q _ => ⟨ob, k b ob q⟩, fun _ _ q => q, fun _ _ _ q => q, fun _ ps q => ⟨#[], by rw [q]; simp⟩⟩
theorem Un.refl : Un fs ex H H h h := Un.kept fun _ _ q => q
theorem Un.laid (k : ∀ b u, h.get? b = some u → h'.get? b = some u) (hp : h.objs.size ≤ a) (hn : H a = none) : Un fs ex H (upd H a o) h h' where
  keep := fun b u q _ _ _ => k b u q
  slot := fun b u q _ _ _ => ⟨u.slots, k b u q⟩
  free := fun b u q n _ => by rw [upd_ne (Nat.ne_of_lt (Nat.lt_of_lt_of_le (Heap.lt_size q) hp))]; exact n
  there := fun b u q _ => ⟨u, k b u q⟩
  tups := fun b xs q => by rw [upd_ne (ne_of_none q hn)]; exact q
  frzs := fun b u xs q => by rw [upd_ne (ne_of_none q hn)]; exact q
  tbls := fun b ps q => ⟨#[], by rw [upd_ne (ne_of_none q hn), q]; simp⟩
theorem Un.write (mu : Mut (H x)) (he : e = x ∨ H e = some (.own x)) (k : ∀ b u, b ≠ e → h.get? b = some u → h'.get? b = some u) (heo : ∃ u, h'.get? e = some u) : Un fs ex H (upd H x o) h h' := by
  have hx : ∀ b, H b = none → b ≠ x := fun b n z => by subst z; rw [n] at mu; exact mu
  have hb : ∀ b, H b = none → b ≠ e := fun b n z => by
    subst z
    rcases he with r | r
    · exact hx b n r
    · rw [n] at r; cases r
  have hm : ∀ b u, H b = some u → ¬ Mut (some u) → b ≠ x := fun b u q nm z => by subst z; rw [q] at mu; exact nm mu
  refine ⟨fun b u q n _ _ => k b u (hb b n) q, fun b u q n _ _ => ⟨u.slots, k b u (hb b n) q⟩, fun b u q n _ => by rw [upd_ne (hx b n)]; exact n, fun b u q _ => ?_,
    fun b xs q => by rw [upd_ne (hm b _ q fun z => z)]; exact q, fun b u xs q => by rw [upd_ne (hm b _ q fun z => z)]; exact q, fun b ps q => ⟨#[], by rw [upd_ne (hm b _ q fun z => z), q]; simp⟩⟩
  by_cases hbe : b = e
  · subst hbe; exact heo
  · exact ⟨u, k b u hbe q⟩
theorem Un.mono (u : Un fs ex H H1 h h1) (hs : ∀ b ∈ fs, b ∈ fs') (hx : ∀ b ∈ ex, b ∈ ex') : Un fs' ex' H H1 h h1 :=
  ⟨fun b ob q n hb he => u.keep b ob q n (fun z => hb (hs b z)) fun z => he (hx b z), fun _ _ q n _ he => u.any q n fun z => he (hx _ z), fun b ob q n he => u.free b ob q n fun z => he (hx b z), fun b ob q he => u.there b ob q fun z => he (hx b z), u.tups, u.frzs, u.tbls⟩
end

/-! ### the heap without what is tracked -/
def trk (h : Heap) (H : Hp) : List Addr := (List.range h.objs.size).filter fun a => (H a).isSome
def hidT (h : Heap) (H : Hp) : Heap := PySem.W.hideAll h (trk h H)
theorem hidT_size (h : Heap) (H : Hp) : (hidT h H).objs.size = h.objs.size := PySem.W.hideAll_size _ _
theorem hidT_get {h : Heap} {H : Hp} {b : Addr} {o : Obj} (e : h.get? b = some o) (n : H b = none) : (hidT h H).get? b = some o :=
  PySem.W.hideAll_get _ e fun hm => by
    have q : (H b).isSome = true := (List.mem_filter.mp hm).2
    rw [n] at q; simp at q
theorem of_hidT {h : Heap} {H : Hp} {b : Addr} {o : Obj} (e : (hidT h H).get? b = some o) : h.get? b = some o ∧ H b = none := by
  have e' : h.get? b = some o := PySem.W.of_hideAll (trk h H) e
  refine ⟨e', ?_⟩
  cases q : H b with
  | none => rfl
  | some x =>
    have hm : b ∈ trk h H := List.mem_filter.mpr ⟨List.mem_range.mpr (Heap.lt_size e'), by simp [q]⟩
    have z : (hidT h H).get? b = none := PySem.W.hideAll_none (trk h H) hm
    rw [z] at e; cases e

/-! ### OpenK's ledger, filled with every new object but one -/
def allNews (g h : Heap) (L : Addr) : List (Addr × Obj) := (List.range h.objs.size).filterMap fun a => if a = L ∨ (g.get? a).isSome = true then none else (h.get? a).map fun o => (a, o)
def rest (g h : Heap) (L d : Addr) : List (Addr × Obj) := (allNews g h L).filter fun p => decide (p.1 ≠ d)
end L2

namespace L2
open PySem PySem.Spec PyProof.Rows

/-- the module's facts, over the base: the heap at the law's entry without what is tracked there -/
structure Mod (K : PySem.W.Frag) (mg : Str → Option Value) (base : Heap) : Prop where
  kin : K.In base
  glob : base.Ns mainGlobals mg
  blt : ∃ mb, base.Ns builtinsNs mb ∧ ∀ x : Str, x ≠ "__name__" → mb x = bootBuiltins x
  nolimit : base.NoLimit

/-- the context: a def's body (or a comprehension's block) running. base: fixed through the whole law; s₀, H₀: the entry; outer: the frames whose slots others may change (a def's callers); stack: all frames that run;
   ex: iterators that were made ahead of the entry and are walked here (a comprehension's); fn: the names whose cells were made at the entry (a def: all; a comprehension's block: its own); calm: not within an except suite; pn: pins that every state bears; xe: what is wanted of an exception that leaves the code -/
structure Cx where
  prog : Program
  w : World
  K : PySem.W.Frag
  mg : Str → Option Value
  base : Heap
  A : Around
  N : List Str
  s₀ : Shared
  H₀ : Hp
  env : Env
  outer : List Env
  stack : List Env
  ex : List Addr
  fn : Str → Bool
  calm : Bool
  pn : List (Addr × Obj)
  xe : Value → Shared → Prop
/-- the callers' frames -/
def frs (l : List Env) : List Addr := l.filterMap (·.frame)
abbrev Cx.fs (X : Cx) : List Addr := frs X.outer

def Vis (sc : Scope) (x : Str) : Prop := sc.names.lookup x = some .local ∨ sc.names.lookup x = some .cell ∨ sc.names.lookup x = some .free
def Loc (sc : Scope) (x : Str) : Prop := sc.names.lookup x = some .local ∨ sc.names.lookup x = some .cell
def Look (env : Env) (h : Heap) (m : Str → Option Value) (x : Str) (u : Value) : Prop :=
  (env.kindOf x = some .local ∧ m x = some u) ∨ ((env.kindOf x = some .cell ∨ env.kindOf x = some .free) ∧ ∃ c, env.cells.lookup x = some c ∧ h.IsCell c (some u))

structure Cx.Ok (X : Cx) : Prop where
  mod : Mod X.K X.mg X.base
  kind : X.env.scope.kind = .function
  glob : X.env.globals = mainGlobals
  blt : X.env.builtins = builtinsNs
  above : X.s₀.heap.objs.size ≤ X.env.locals
  inj : ∀ x y c, X.env.cells.lookup x = some c → X.env.cells.lookup y = some c → x = y
  has : ∀ x, (X.env.kindOf x = some .cell ∨ X.env.kindOf x = some .free) → ∃ c, X.env.cells.lookup x = some c
  cab : ∀ x c, X.fn x = true → X.env.cells.lookup x = some c → X.s₀.heap.objs.size ≤ c
  hd : X.calm = true → X.A.handled = none
  frames : X.A.frames = some X.stack
  stk : X.stack = X.outer ∨ (X.stack = X.env :: X.outer ∧ X.env.frame = some X.env.locals)
  exf : ∀ b ∈ X.ex, b ≠ X.env.locals ∧ ∀ x c, X.env.cells.lookup x = some c → c ≠ b
  bs : ∀ b o, X.base.get? b = some o → X.s₀.heap.get? b = some o ∧ X.H₀ b = none
  bsz : X.base.objs.size ≤ X.s₀.heap.objs.size
  noex : ∀ b o, X.base.get? b = some o → b ∉ X.ex
  exfs : ∀ b ∈ X.ex, b ∉ X.fs
  funs : X.s₀.heap.FunFrames X.base X.outer
  frf : ∀ b ∈ X.fs, X.H₀ b = none

structure Inv (X : Cx) (pins : List (Addr × Obj)) (σ : List (Option V)) (H : Hp) (s : Shared) : Prop where
  ok : X.Ok
  os : s.os = X.s₀.os
  bare : AllBare s.gens
  base : Un X.fs X.ex X.H₀ H X.s₀.heap s.heap
  loc : ∃ m, s.heap.Ns X.env.locals m ∧ ∀ (i : Nat) (x : Str) (v : V), X.N[i]? = some x → σ[i]? = some (some v) → Vis X.env.scope x → ∃ u, RelV v u ∧ Look X.env s.heap m x u
  cell : ∀ x c, X.env.cells.lookup x = some c → ∃ v, s.heap.IsCell c v
  free : H X.env.locals = none
  freeC : ∀ x c, X.env.cells.lookup x = some c → H c = none
  pin : ∀ p ∈ X.pn ++ pins, s.heap.get? p.1 = some p.2 ∧ H p.1 = none ∧ p.1 ≠ X.env.locals ∧ p.1 ∉ X.fs ∧ ∀ v, p.2.data ≠ .cell v
  hok : HOk X.prog X.w H s.heap
  len : σ.length = X.N.length

section
variable {X : Cx} {pins : List (Addr × Obj)} {σ : List (Option V)} {H H' : Hp} {s : Shared} {h' : Heap}

theorem Cx.Ok.nofr (ok : X.Ok) {b : Addr} {o : Obj} (e : X.base.get? b = some o) : b ∉ X.fs := fun hb => by
  have := (ok.funs.mem hb).1
  rw [e] at this; cases this
theorem Inv.bs (I : Inv X pins σ H s) : ∀ b o, X.base.get? b = some o → s.heap.get? b = some o ∧ H b = none := fun b o e =>
  ⟨I.base.keep b o (I.ok.bs b o e).1 (I.ok.bs b o e).2 (I.ok.nofr e) (I.ok.noex b o e), I.base.free b o (I.ok.bs b o e).1 (I.ok.bs b o e).2 (I.ok.noex b o e)⟩
theorem Inv.bk (I : Inv X pins σ H s) : ∀ b o, X.base.get? b = some o → s.heap.get? b = some o := fun b o e => (I.bs b o e).1
theorem Inv.mod (I : Inv X pins σ H s) : Mod X.K X.mg X.base := I.ok.mod
theorem Inv.kIn (I : Inv X pins σ H s) : X.K.In s.heap := I.ok.mod.kin.keeps I.bk
theorem Inv.nolimit (I : Inv X pins σ H s) : s.heap.NoLimit := I.ok.mod.nolimit.keeps I.bk
theorem Inv.lt (I : Inv X pins σ H s) : X.env.locals < s.heap.objs.size := let ⟨_, hn, _⟩ := I.loc; hn.lt
theorem Inv.sz (I : Inv X pins σ H s) : X.s₀.heap.objs.size ≤ s.heap.objs.size := Nat.le_trans I.ok.above (Nat.le_of_lt I.lt)
theorem Inv.nofs (I : Inv X pins σ H s) {a : Addr} (h : s.heap.objs.size ≤ a) : a ∉ X.fs := fun hb => by
  obtain ⟨_, o, ho, _⟩ := I.ok.funs.mem hb
  exact absurd (Nat.lt_of_lt_of_le (Heap.lt_size ho) (Nat.le_trans I.sz h)) (Nat.lt_irrefl _)
theorem Inv.cne (I : Inv X pins σ H s) : ∀ x c, X.env.cells.lookup x = some c → c ≠ X.env.locals := fun x c e z => by
  obtain ⟨v, o, ho, hd⟩ := I.cell x c e
  obtain ⟨m, ⟨o', es, ep, ho', hd', _⟩, _⟩ := I.loc
  rw [z, ho'] at ho; cases ho; rw [hd'] at hd; cases hd
theorem Inv.funs (I : Inv X pins σ H s) : s.heap.FunFrames X.base X.outer := by
  have all : ∀ (l : List Env), (∀ b ∈ frs l, b ∈ X.fs) → X.s₀.heap.FunFrames X.base l → s.heap.FunFrames X.base l := by
    intro l
    induction l with
    | nil => intro _ _; trivial
    | cons env r ih =>
      intro hs hl
      obtain ⟨hk, ⟨L, o, hf, hn, ho, hd⟩, hr⟩ := hl
      have hL : L ∈ X.fs := hs L (by unfold frs; rw [List.filterMap_cons, hf]; exact List.mem_cons_self)
      obtain ⟨sl, e⟩ := I.base.slot L o ho (I.ok.frf L hL) hL fun z => I.ok.exfs L z hL
      exact ⟨hk, ⟨L, _, hf, hn, e, hd⟩, ih (fun b hb => hs b (by unfold frs; rw [List.filterMap_cons, hf]; exact List.mem_cons_of_mem _ hb)) hr⟩
  exact all X.outer (fun _ hb => hb) I.ok.funs

/-- the frames that run, for a call -/
theorem Inv.stack (I : Inv X pins σ H s) : s.heap.FunFrames X.base X.stack := by
  rcases I.ok.stk with e | ⟨e, hf⟩
  · rw [e]; exact I.funs
  · rw [e]
    obtain ⟨m, hn, _⟩ := I.loc
    refine .cons (by rw [I.ok.kind]; decide) hf hn ?_ I.funs
    exact Heap.get?_none_of_le (Nat.le_trans I.ok.bsz I.ok.above)
theorem Inv.stkSub (I : Inv X pins σ H s) : ∀ b ∈ frs X.stack, b ∈ X.env.locals :: X.fs := fun b hb => by
  rcases I.ok.stk with e | ⟨e, hf⟩
  · rw [e] at hb; exact List.mem_cons_of_mem _ hb
  · rw [e] at hb
    unfold frs at hb
    rw [List.filterMap_cons, hf] at hb
    exact hb
theorem Inv.stkFree (I : Inv X pins σ H s) : ∀ b ∈ frs X.stack, H b = none := fun b hb => by
  rcases List.mem_cons.mp (I.stkSub b hb) with e | hb
  · rw [e]; exact I.free
  · obtain ⟨_, o, ho, _⟩ := I.ok.funs.mem hb
    exact I.base.free b o ho (I.ok.frf b hb) fun z => I.ok.exfs b z hb

/-- THE STEP: the untracked objects but the frame and the records at ch are kept (the callers' frames up to slots), the frame's map is kept, the new abstract heap is held -/
theorem Inv.step {g' : Array GenState} {t' : Nat} {d' : Drawn} {ch : List Addr} (I : Inv X pins σ H s)
    (hch : ∀ b ∈ ch, (b ∈ X.ex ∨ X.s₀.heap.objs.size ≤ b) ∧ b ≠ X.env.locals ∧ (∀ x c, X.env.cells.lookup x = some c → c ≠ b) ∧ ∀ p ∈ X.pn ++ pins, p.1 ≠ b)
    (keep : ∀ b o, b ≠ X.env.locals → b ∉ X.fs → b ∉ ch → s.heap.get? b = some o → H b = none → h'.get? b = some o)
    (slot : ∀ b o, b ≠ X.env.locals → b ∈ X.fs → b ∉ ch → s.heap.get? b = some o → H b = none → ∃ sl, h'.get? b = some { o with slots := sl }) (free : ∀ b o, b ∉ ch → s.heap.get? b = some o → H b = none → H' b = none)
    (there : ∀ b o, b ∉ ch → s.heap.get? b = some o → ∃ o', h'.get? b = some o')
    (tups : ∀ b xs, H b = some (.tup xs) → H' b = some (.tup xs)) (frzs : ∀ b o u, H b = some (.frz o u) → H' b = some (.frz o u)) (tbls : ∀ b ps, H b = some (.tbl ps) → ∃ more, H' b = some (.tbl (ps ++ more)))
    (ns : ∀ m, s.heap.Ns X.env.locals m → h'.Ns X.env.locals m) (hok : HOk X.prog X.w H' h') (hg : AllBare g') :
    Inv X pins σ H' { s with heap := h', gens := g', drawn := d', toks := t' } := by
  have neL : ∀ b o, X.s₀.heap.get? b = some o → b ≠ X.env.locals := fun b o e => Nat.ne_of_lt (Nat.lt_of_lt_of_le (Heap.lt_size e) I.ok.above)
  have neC : ∀ b o, X.s₀.heap.get? b = some o → b ∉ X.ex → b ∉ ch := fun b o e hx hb => by
    rcases (hch b hb).1 with z | z
    · exact hx z
    · exact absurd (Nat.lt_of_lt_of_le (Heap.lt_size e) z) (Nat.lt_irrefl _)
  have cellK : ∀ x c, X.env.cells.lookup x = some c → ∀ v, s.heap.IsCell c v → h'.IsCell c v := fun x c e v ⟨o, ho, hd⟩ => by
    have nch : c ∉ ch := fun z => (hch c z).2.2.1 x c e rfl
    by_cases hc : c ∈ X.fs
    · obtain ⟨sl, q⟩ := slot c o (I.cne x c e) hc nch ho (I.freeC x c e)
      exact ⟨_, q, hd⟩
    · exact ⟨o, keep c o (I.cne x c e) hc nch ho (I.freeC x c e), hd⟩
  refine ⟨I.ok, I.os, hg, ⟨fun b o e n hb hx => ?_, fun b o e n hb hx => ?_, fun b o e n hx => ?_, fun b o e hx => ?_, fun b xs e => tups b xs (I.base.tups b xs e), fun b o xs e => frzs b o xs (I.base.frzs b o xs e), fun b ps e => ?_⟩, ?_, fun x c e => ?_, ?_, fun x c e => ?_, fun p hp => ?_, hok, I.len⟩
  · exact keep b o (neL b o e) hb (neC b o e hx) (I.base.keep b o e n hb hx) (I.base.free b o e n hx)
  · obtain ⟨sl, e1⟩ := I.base.slot b o e n hb hx
    obtain ⟨sl', e2⟩ := slot b _ (neL b o e) hb (neC b o e hx) e1 (I.base.free b o e n hx)
    exact ⟨sl', e2⟩
  · obtain ⟨o', e1⟩ := I.base.there b o e hx
    exact free b o' (neC b o e hx) e1 (I.base.free b o e n hx)
  · obtain ⟨o', e1⟩ := I.base.there b o e hx
    exact there b o' (neC b o e hx) e1
  · obtain ⟨m1, e1⟩ := I.base.tbls b ps e
    obtain ⟨m2, e2⟩ := tbls b _ e1
    exact ⟨m1 ++ m2, by rw [e2, Array.append_assoc]⟩
  · obtain ⟨m, hn, hl⟩ := I.loc
    refine ⟨m, ns m hn, fun i x v e1 e2 e3 => ?_⟩
    obtain ⟨u, r, l⟩ := hl i x v e1 e2 e3
    refine ⟨u, r, ?_⟩
    rcases l with l | ⟨k, c, e, z⟩
    · exact .inl l
    · exact .inr ⟨k, c, e, cellK x c e _ z⟩
  · obtain ⟨v, z⟩ := I.cell x c e
    exact ⟨v, cellK x c e v z⟩
  · obtain ⟨m, ⟨o, _, _, ho, _⟩, _⟩ := I.loc
    exact free _ o (fun z => (hch _ z).2.1 rfl) ho I.free
  · obtain ⟨v, o, ho, hd⟩ := I.cell x c e
    exact free c o (fun z => (hch c z).2.2.1 x c e rfl) ho (I.freeC x c e)
  · obtain ⟨e, n, ne, nf, d⟩ := I.pin p hp
    have nch : p.1 ∉ ch := fun z => (hch p.1 z).2.2.2 p hp rfl
    exact ⟨keep p.1 p.2 ne nf nch e n, free p.1 p.2 nch e n, ne, nf, d⟩
/-- .. where the frame's own object is kept too -/
theorem Inv.un {t' : Nat} (I : Inv X pins σ H s) (u : Un X.fs [] H H' s.heap h') (hok : HOk X.prog X.w H' h') : Inv X pins σ H' { s with heap := h', toks := t' } := by
  obtain ⟨m, ⟨o, es, ep, ho, r⟩, _⟩ := id I.loc
  obtain ⟨sl, hL⟩ := u.any ho I.free (by simp)
  exact I.step (g' := s.gens) (d' := s.drawn) (ch := []) (fun _ z => nomatch z) (fun b o _ hb _ e n => u.keep b o e n hb (by simp)) (fun b o _ hb _ e n => u.slot b o e n hb (by simp)) (fun b o _ e n => u.free b o e n (by simp)) (fun b o _ e => u.there b o e (by simp)) u.tups u.frzs u.tbls (fun m' hm => by
    obtain ⟨o', es', ep', ho', r'⟩ := hm
    rw [ho] at ho'; cases ho'
    exact ⟨_, es', ep', hL, r'⟩) hok I.bare
/-- behind a call (or a comprehension's block): the slots of this frame may have changed too, the records at ch may have turned -/
theorem Inv.call {g' : Array GenState} {t' : Nat} {d' : Drawn} {ch : List Addr} (I : Inv X pins σ H s) (u : Un (frs X.stack) ch H H' s.heap h') (hok : HOk X.prog X.w H' h') (hg : AllBare g')
    (hch : ∀ b ∈ ch, (b ∈ X.ex ∨ X.s₀.heap.objs.size ≤ b) ∧ b ≠ X.env.locals ∧ (∀ x c, X.env.cells.lookup x = some c → c ≠ b) ∧ ∀ p ∈ X.pn ++ pins, p.1 ≠ b) :
    Inv X pins σ H' { s with heap := h', gens := g', drawn := d', toks := t' } := by
  obtain ⟨m, ⟨o, es, ep, ho, r⟩, _⟩ := id I.loc
  obtain ⟨sl, hL⟩ := u.any ho I.free fun z => (hch _ z).2.1 rfl
  exact I.step (ch := ch) hch (fun b o hL hb hc e n => u.keep b o e n (fun z => (List.mem_cons.mp (I.stkSub b z)).elim hL hb) hc) (fun b o _ _ hc e n => u.any e n hc) (fun b o hc e n => u.free b o e n hc) (fun b o hc e => u.there b o e hc) u.tups u.frzs u.tbls (fun m' hm => by
    obtain ⟨o', es', ep', ho', r'⟩ := hm
    rw [ho] at ho'; cases ho'
    exact ⟨_, es', ep', hL, r'⟩) hok hg
/-- an untracked record of ours (an iterator) has turned -/
theorem Inv.turned {t' : Nat} {it : Addr} (I : Inv X pins σ H s) (k : ∀ b o, b ≠ it → s.heap.get? b = some o → h'.get? b = some o) (hn : H it = none) (hL : it ≠ X.env.locals)
    (h1 : it ∈ X.ex ∨ X.s₀.heap.objs.size ≤ it) (h2 : ∀ x c, X.env.cells.lookup x = some c → c ≠ it) (h3 : ∀ p ∈ X.pn ++ pins, p.1 ≠ it) : Inv X pins σ H { s with heap := h', toks := t' } := by
  have nit : ∀ b u, H b = some u → b ≠ it := fun b u e z => by rw [z, hn] at e; cases e
  refine I.step (g' := s.gens) (d' := s.drawn) (ch := [it]) (fun b hb => ?_) (fun b o _ _ hc e _ => k b o (fun z => hc (by simp [z])) e) (fun b o _ _ hc e _ => ⟨o.slots, k b o (fun z => hc (by simp [z])) e⟩) (fun _ _ _ _ n => n)
    (fun b o hc e => ⟨o, k b o (fun z => hc (by simp [z])) e⟩) (fun _ _ e => e) (fun _ _ _ e => e) (fun b ps e => ⟨#[], by rw [e]; simp⟩) (fun m hm => ?_) (fun b u e => ?_) I.bare
  · have e : b = it := by simpa using hb
    subst e
    exact ⟨h1, hL, h2, h3⟩
  · obtain ⟨o, es, ep, ho, r⟩ := hm
    exact ⟨o, es, ep, k _ o (Ne.symm hL) ho, r⟩
  · refine (I.hok b u e).stay (fun c v hc q => k c v ?_ q) (fun _ q => q) fun _ _ q => q
    rcases hc with z | z
    · rw [z]; exact nit b u e
    · exact nit c _ z
theorem Inv.tok (I : Inv X pins σ H s) (t : Nat) : Inv X pins σ H { s with toks := t } := I.un (h' := s.heap) (t' := t) Un.refl I.hok
/-- all objects kept -/
theorem Inv.kept {t' : Nat} (I : Inv X pins σ H s) (k : ∀ b u, s.heap.get? b = some u → h'.get? b = some u) : Inv X pins σ H { s with heap := h', toks := t' } := I.un (Un.kept k) (I.hok.kept k)
/-- a new object laid and tracked -/
theorem Inv.laid {a : Addr} {o : HO} {t' : Nat} (I : Inv X pins σ H s) (k : ∀ b u, s.heap.get? b = some u → h'.get? b = some u) (hp : s.heap.objs.size ≤ a) (new : ObjOk X.prog X.w (upd H a o) h' a o) :
    Inv X pins σ (upd H a o) { s with heap := h', toks := t' } := I.un (Un.laid k hp (I.hok.fresh hp)) (I.hok.laid k hp new)
/-- an object written -/
theorem Inv.write {x e : Addr} {o : HO} {t' : Nat} (I : Inv X pins σ H s) (mu : Mut (H x)) (he : e = x ∨ H e = some (.own x)) (k : ∀ b u, b ≠ e → s.heap.get? b = some u → h'.get? b = some u) (heo : ∃ u, h'.get? e = some u)
    (new : ObjOk X.prog X.w (upd H x o) h' x o) : Inv X pins σ (upd H x o) { s with heap := h', toks := t' } := I.un (Un.write mu he k heo) (I.hok.write mu he k heo new)
theorem Inv.pins_of {pins' : List (Addr × Obj)} (I : Inv X pins σ H s) (h : ∀ p ∈ pins', s.heap.get? p.1 = some p.2 ∧ H p.1 = none ∧ p.1 ≠ X.env.locals ∧ p.1 ∉ X.fs ∧ ∀ v, p.2.data ≠ .cell v) : Inv X pins' σ H s :=
  ⟨I.ok, I.os, I.bare, I.base, I.loc, I.cell, I.free, I.freeC, fun p hp => (List.mem_append.mp hp).elim (fun z => I.pin p (List.mem_append_left _ z)) (h p), I.hok, I.len⟩

theorem nodup_ix {N : List Str} (hN : N.Nodup) {i j : Nat} {x : Str} (a : N[i]? = some x) (b : N[j]? = some x) : i = j := by
  obtain ⟨h1, e1⟩ := List.getElem?_eq_some_iff.mp a
  obtain ⟨h2, e2⟩ := List.getElem?_eq_some_iff.mp b
  exact (List.getElem_inj hN).mp (e1.trans e2.symm)

/-- a name is stored; what changed -/
theorem store_ok2 {M : Model} {A : Around} {E : Value → Shared → Prop} {i : Nat} {x : Str} {v : V} {u : Value} {Q : Unit → Shared → Prop} (I : Inv X pins σ H s) (hN : X.N.Nodup) (hi : X.N[i]? = some x) (hx : Loc X.env.scope x) (r : RelV v u)
    (h : ∀ s', Inv X pins (σ.set i (some v)) H s' → (∃ a, Heap.SameBut a s.heap s'.heap ∧ (a = X.env.locals ∨ X.env.cells.lookup x = some a)) → Q () s') (hf : X.fn x = true ∨ X.env.scope.names.lookup x = some .local := by first | exact .inl rfl | exact .inr rfl | assumption) : wpAny M A (storeName X.env x u) Q E s := by
  obtain ⟨m, hn, hl⟩ := id I.loc
  have hcls : (X.env.scope.kind == .class || (X.env.scope.kind == .module && X.env.locals != X.env.globals)) = false := by rw [I.ok.kind]; rfl
  have hiσ : i < σ.length := by rw [I.len]; exact (List.getElem?_eq_some_iff.mp hi).1
  have cne := I.cne
  have tracked : ∀ {a : Addr} {h' : Heap}, (∃ o, s.heap.get? a = some o ∧ H a = none) → Heap.SameBut a s.heap h' → HOk X.prog X.w H h' := fun {a h'} ha hs b ob e => by
    obtain ⟨_, _, hfree⟩ := ha
    refine (I.hok b ob e).stay (fun c w' hc q => (hs.2 c ?_).trans q) (fun _ q => q) fun _ _ q => q
    rintro rfl
    rcases hc with rfl | hc
    · rw [hfree] at e; cases e
    · rw [hfree] at hc; cases hc
  rcases hx with hk | hk
  · refine wpAny_storeName_local hk hn (fun h' hn' hs => ?_) hcls
    obtain ⟨oL, _, _, hoL, _⟩ := id hn
    refine h _ ⟨I.ok, I.os, I.bare, ⟨fun b o e n hb hx => ?_, fun b o e n hb hx => ?_, I.base.free, fun b o e hx => ?_, I.base.tups, I.base.frzs, I.base.tbls⟩, ⟨_, hn', fun j y v' e1 e2 e3 => ?_⟩, fun y c e => ?_, I.free, I.freeC, fun p hp => ?_, tracked ⟨oL, hoL, I.free⟩ hs, by simpa using I.len⟩ ⟨_, hs, .inl rfl⟩
    · exact (hs.2 b (Nat.ne_of_lt (Nat.lt_of_lt_of_le (Heap.lt_size e) I.ok.above))).trans (I.base.keep b o e n hb hx)
    · obtain ⟨sl, e1⟩ := I.base.slot b o e n hb hx
      exact ⟨sl, (hs.2 b (Nat.ne_of_lt (Nat.lt_of_lt_of_le (Heap.lt_size e) I.ok.above))).trans e1⟩
    · obtain ⟨o', e1⟩ := I.base.there b o e hx
      exact ⟨o', (hs.2 b (Nat.ne_of_lt (Nat.lt_of_lt_of_le (Heap.lt_size e) I.ok.above))).trans e1⟩
    · by_cases hj : j = i
      · subst hj
        rw [hi] at e1; cases e1
        rw [List.getElem?_set_self hiσ] at e2
        cases e2
        exact ⟨u, r, .inl ⟨hk, by simp⟩⟩
      · rw [List.getElem?_set_ne (Ne.symm hj)] at e2
        obtain ⟨u', r', q⟩ := hl j y v' e1 e2 e3
        refine ⟨u', r', ?_⟩
        rcases q with ⟨k, e⟩ | ⟨k, c, e, z⟩
        · refine .inl ⟨k, ?_⟩
          have : y ≠ x := fun e => hj (nodup_ix hN e1 (e ▸ hi))
          simp [this, e]
        · exact .inr ⟨k, c, e, z.sameBut hs (cne y c e)⟩
    · obtain ⟨w', z⟩ := I.cell y c e
      exact ⟨w', z.sameBut hs (cne y c e)⟩
    · obtain ⟨e, n, ne, nf, d⟩ := I.pin p hp
      exact ⟨(hs.2 p.1 ne).trans e, n, ne, nf, d⟩
  · have hfn : X.fn x = true := by
      rcases hf with z | z
      · exact z
      · rw [z] at hk; cases hk
    obtain ⟨c, hc⟩ := I.ok.has x (.inl hk)
    obtain ⟨w', z⟩ := I.cell x c hc
    refine wpAny_storeName_cell I.ok.kind hk hc z (fun h' hc' hs => ?_)
    obtain ⟨oc, hoc, hocd⟩ := id z
    refine h { s with heap := h' } ⟨I.ok, I.os, I.bare, ⟨fun b o e n hb hx => ?_, fun b o e n hb hx => ?_, I.base.free, fun b o e hx => ?_, I.base.tups, I.base.frzs, I.base.tbls⟩, ⟨m, hn.sameBut hs (Ne.symm (cne x c hc)), fun j y v' e1 e2 e3 => ?_⟩, fun y c' e => ?_, I.free, I.freeC, fun p hp => ?_, tracked ⟨oc, hoc, I.freeC x c hc⟩ hs, by simpa using I.len⟩ ⟨c, hs, .inr hc⟩
    · exact (hs.2 b (Nat.ne_of_lt (Nat.lt_of_lt_of_le (Heap.lt_size e) (I.ok.cab x c hfn hc)))).trans (I.base.keep b o e n hb hx)
    · obtain ⟨sl, e1⟩ := I.base.slot b o e n hb hx
      exact ⟨sl, (hs.2 b (Nat.ne_of_lt (Nat.lt_of_lt_of_le (Heap.lt_size e) (I.ok.cab x c hfn hc)))).trans e1⟩
    · obtain ⟨o', e1⟩ := I.base.there b o e hx
      exact ⟨o', (hs.2 b (Nat.ne_of_lt (Nat.lt_of_lt_of_le (Heap.lt_size e) (I.ok.cab x c hfn hc)))).trans e1⟩
    · by_cases hj : j = i
      · subst hj
        rw [hi] at e1; cases e1
        rw [List.getElem?_set_self hiσ] at e2
        cases e2
        exact ⟨u, r, .inr ⟨.inl hk, c, hc, hc'⟩⟩
      · rw [List.getElem?_set_ne (Ne.symm hj)] at e2
        obtain ⟨u', r', q⟩ := hl j y v' e1 e2 e3
        refine ⟨u', r', ?_⟩
        rcases q with q | ⟨k, c', e, z'⟩
        · exact .inl q
        · refine .inr ⟨k, c', e, z'.sameBut hs ?_⟩
          rintro rfl
          exact hj (nodup_ix hN e1 (I.ok.inj _ _ _ e hc ▸ hi))
    · by_cases hcc : c' = c
      · subst hcc; exact ⟨_, hc'⟩
      · obtain ⟨w2, z2⟩ := I.cell y c' e
        exact ⟨w2, z2.sameBut hs hcc⟩
    · obtain ⟨e, n, ne, nf, d⟩ := I.pin p hp
      refine ⟨(hs.2 p.1 ?_).trans e, n, ne, nf, d⟩
      intro q
      rw [q, hoc] at e
      have q' : oc = p.2 := Option.some.inj e
      exact d w' (by rw [← q']; exact hocd)
theorem store_ok {M : Model} {A : Around} {E : Value → Shared → Prop} {i : Nat} {x : Str} {v : V} {u : Value} {Q : Unit → Shared → Prop} (I : Inv X pins σ H s) (hN : X.N.Nodup) (hi : X.N[i]? = some x) (hx : Loc X.env.scope x) (r : RelV v u)
    (h : ∀ s', Inv X pins (σ.set i (some v)) H s' → Q () s') (hf : X.fn x = true ∨ X.env.scope.names.lookup x = some .local := by first | exact .inl rfl | exact .inr rfl | assumption) : wpAny M A (storeName X.env x u) Q E s :=
  store_ok2 I hN hi hx r (fun s' I' _ => h s' I') hf
/-- behind a call or a block, the state as it is -/
theorem Inv.call' {s' : Shared} {ch : List Addr} (I : Inv X pins σ H s) (ho : s'.os = s.os) (u : Un (frs X.stack) ch H H' s.heap s'.heap) (hok : HOk X.prog X.w H' s'.heap) (hg : AllBare s'.gens)
    (hch : ∀ b ∈ ch, (b ∈ X.ex ∨ X.s₀.heap.objs.size ≤ b) ∧ b ≠ X.env.locals ∧ (∀ x c, X.env.cells.lookup x = some c → c ≠ b) ∧ ∀ p ∈ X.pn ++ pins, p.1 ≠ b) : Inv X pins σ H' s' := by
  obtain ⟨h', g', d', t', o'⟩ := s'
  have e : o' = s.os := ho
  subst e
  exact I.call (g' := g') (t' := t') (d' := d') u hok hg hch
end

/-! ### the judgements -/
/-- an exception: its class, its own dict's address (where it has one), the abstract heap behind it -/
abbrev XK := Value → Option Addr → Hp → Prop
abbrev St := List (Option V)
abbrev VK := V → Hp → Prop
/-- an expression's reading; a test's; an argument list's -/
abbrev TE := St → Hp → VK → Prop
abbrev TT := St → Hp → (Bool → Hp → Prop) → Prop
abbrev TA := St → Hp → (List V → Hp → Prop) → Prop
/-- what is wanted behind a statement -/
structure Ends where
  nx : St → Hp → Prop
  rt : VK
  bk : St → Hp → Prop := fun _ _ => False
  ct : St → Hp → Prop := fun _ _ => False
abbrev TS := Ends → St → Hp → Prop

def EP (X : Cx) (pins : List (Addr × Obj)) (σ : St) (Q : VK) (u : Value) (s' : Shared) : Prop := ∃ v H', Inv X pins σ H' s' ∧ RelV v u ∧ Q v H'
def TP (X : Cx) (pins : List (Addr × Obj)) (σ : St) (Q : Bool → Hp → Prop) (b : Bool) (s' : Shared) : Prop := ∃ H', Inv X pins σ H' s' ∧ Q b H'
def AP (X : Cx) (pins : List (Addr × Obj)) (σ : St) (Q : List V → Hp → Prop) (us : List Value) (s' : Shared) : Prop := ∃ vs H', Inv X pins σ H' s' ∧ Vals vs us ∧ Q vs H'
def SP (X : Cx) (pins : List (Addr × Obj)) (D : Ends) (f : Flow) (s' : Shared) : Prop :=
  match f with
  | .next => ∃ σ' H', Inv X pins σ' H' s' ∧ D.nx σ' H'
  | .brk => ∃ σ' H', Inv X pins σ' H' s' ∧ D.bk σ' H'
  | .cont => ∃ σ' H', Inv X pins σ' H' s' ∧ D.ct σ' H'
  | .ret u => ∃ v σ' H', Inv X pins σ' H' s' ∧ RelV v u ∧ D.rt v H'

def PE (X : Cx) (e : Expr) (t : TE) : Prop :=
  ∀ (pins : List (Addr × Obj)) (s : Shared) (σ : St) (H : Hp) (Q : VK), Inv X pins σ H s → t σ H Q → wpAny (model X.prog X.w) X.A (eval e X.env) (EP X pins σ Q) X.xe s
def PT (X : Cx) (e : Expr) (t : TT) : Prop :=
  ∀ (pins : List (Addr × Obj)) (s : Shared) (σ : St) (H : Hp) (Q : Bool → Hp → Prop), Inv X pins σ H s → t σ H Q → wpAny (model X.prog X.w) X.A (isTrue e X.env (eval e X.env)) (TP X pins σ Q) X.xe s
/-- a test whatever its 'whole' is (and, or) -/
def PW (X : Cx) (e : Expr) (t : TT) : Prop :=
  ∀ (whole : Sem Value) (pins : List (Addr × Obj)) (s : Shared) (σ : St) (H : Hp) (Q : Bool → Hp → Prop), Inv X pins σ H s → t σ H Q → wpAny (model X.prog X.w) X.A (isTrue e X.env whole) (TP X pins σ Q) X.xe s
theorem PW.pt {X : Cx} {e : Expr} {t : TT} (h : PW X e t) : PT X e t := h _
/-- an argument list (no star), from the left -/
def PA (X : Cx) (es : List Expr) (t : TA) : Prop :=
  ∀ (pos : Pos) (pins : List (Addr × Obj)) (s : Shared) (σ : St) (H : Hp) (Q : List V → Hp → Prop), Inv X pins σ H s → t σ H Q → wpAny (model X.prog X.w) X.A (spliced (backTo pos (starEach es X.env))) (AP X pins σ Q) X.xe s
def PS (X : Cx) (st : Stmt) (t : TS) : Prop :=
  ∀ (pins : List (Addr × Obj)) (s : Shared) (σ : St) (H : Hp) (D : Ends), Inv X pins σ H s → t D σ H → wpAny (model X.prog X.w) X.A (exec st X.env) (SP X pins D) X.xe s
def PSs (X : Cx) (st : List Stmt) (t : TS) : Prop :=
  ∀ (pins : List (Addr × Obj)) (s : Shared) (σ : St) (H : Hp) (D : Ends), Inv X pins σ H s → t D σ H → wpAny (model X.prog X.w) X.A (execs st X.env) (SP X pins D) X.xe s
/-- weaken the end -/
theorem thn {α : Type} {t : Sem α} {Q Q' : α → Shared → Prop} {M : Model} {A : Around} {E : Value → Shared → Prop} {s : Shared} (h : wpAny M A t Q E s) (hQ : ∀ a s, Q a s → Q' a s) : wpAny M A t Q' E s := wpAny_mono h hQ fun _ _ x => x
end L2

namespace L2
open PySem PySem.Spec PyProof.Rows
section
variable {X : Cx}

/-! ### names and constants -/
def tVar (i : Nat) : TE := fun σ H Q => ∃ v, σ[i]? = some (some v) ∧ Q v H
def tC (v : V) : TE := fun _ H Q => Q v H
theorem pe_var {i : Nat} {x : Str} {pos : Pos} (hN : X.N[i]? = some x) (hv : Vis X.env.scope x) (hd : (x == ("__debug__" : Str)) = false := by decide) (hcd : (x == ("__classdict__" : Str)) = false := by decide) : PE X (.Name x pos) (tVar i) := by
  intro pins s σ H Q I h
  obtain ⟨v, e, h⟩ := h
  obtain ⟨m, hn, hl⟩ := I.loc
  obtain ⟨u, r, l⟩ := hl i x v hN e hv
  have fin : EP X pins σ Q u s := ⟨v, H, I, r, h⟩
  rcases l with ⟨hk, hm⟩ | ⟨hk, c, hc, hcell⟩
  · exact wpAny_Name (wpAny_loadName_local I.ok.kind hk hn hm fin) hd
  · rcases hk with hk | hk
    · exact wpAny_Name (wpAny_loadName_cell I.ok.kind hk hc hcell fin) hd
    · exact wpAny_Name (wpAny_loadName_free I.ok.kind hk hc hcell fin hcd) hd
theorem pe_int {i j pos} : PE X (.Constant (.int i) j pos) (tC (.int i)) := fun _ _ _ H _ I h => wpAny_Constant_int ⟨.int i, H, I.tok _, ⟨_, rfl⟩, h⟩
theorem pe_bl {b j pos} : PE X (.Constant (.bool b) j pos) (tC (.bl b)) := fun _ _ _ H _ I h => Constant_bool ⟨.bl b, H, I, rfl, h⟩
theorem pe_non {j pos} : PE X (.Constant .none j pos) (tC .non) := fun _ _ _ H _ I h => Constant_none ⟨.non, H, I, rfl, h⟩
theorem pe_str {x j pos} : PE X (.Constant (.str x) j pos) (tC (.str x)) := fun _ _ _ H _ I h => Calls.Constant_str ⟨.str x, H, I.tok _, ⟨_, rfl⟩, h⟩

/-- a global name of the def -/
def Gl (X : Cx) (x : Str) : Prop := X.env.kindOf x = some .globalImplicit
theorem ld_glob {E : Value → Shared → Prop} {pins : List (Addr × Obj)} {s : Shared} {σ : St} {H : Hp} {x : Str} {u : Value} {pos : Pos} {Q : Value → Shared → Prop} (I : Inv X pins σ H s) (hg : Gl X x) (hm : X.mg x = some u) (h : Q u s)
    (hd : (x == ("__debug__" : Str)) = false := by decide) : wpAny (model X.prog X.w) X.A (eval (.Name x pos) X.env) Q E s :=
  Calls.Name_function_global I.ok.kind hg (Calls.loadGlobal_global (by rw [I.ok.glob]; exact I.mod.glob.keeps I.bk) hm h) hd
theorem ld_blt {E : Value → Shared → Prop} {pins : List (Addr × Obj)} {s : Shared} {σ : St} {H : Hp} {x : Str} {u : Value} {pos : Pos} {Q : Value → Shared → Prop} (I : Inv X pins σ H s) (hg : Gl X x) (hm : X.mg x = none) (hv : bootBuiltins x = some u) (h : Q u s)
    (hn : x ≠ "__name__" := by decide) (hd : (x == ("__debug__" : Str)) = false := by decide) : wpAny (model X.prog X.w) X.A (eval (.Name x pos) X.env) Q E s := by
  obtain ⟨mb, h1, h2⟩ := I.mod.blt
  exact Calls.Name_function_global I.ok.kind hg (Calls.loadGlobal_builtin (by rw [I.ok.glob]; exact I.mod.glob.keeps I.bk) hm (by rw [I.ok.blt]; exact h1.keeps I.bk) ((h2 x hn).trans hv) h) hd
/-- a module's constant, a class, a function, as a value -/
theorem pe_glob {x : Str} {v : V} {u : Value} {pos : Pos} (hg : Gl X x) (hm : X.mg x = some u) (r : RelV v u) (hd : (x == ("__debug__" : Str)) = false := by decide) : PE X (.Name x pos) (tC v) :=
  fun _ _ _ H _ I h => ld_glob I hg hm ⟨v, H, I, r, h⟩ hd
theorem pe_bltn {x : Str} {v : V} {u : Value} {pos : Pos} (hg : Gl X x) (hm : X.mg x = none) (hv : bootBuiltins x = some u) (r : RelV v u) (hn : x ≠ "__name__" := by decide) (hd : (x == ("__debug__" : Str)) = false := by decide) : PE X (.Name x pos) (tC v) :=
  fun _ _ _ H _ I h => ld_blt I hg hm hv ⟨v, H, I, r, h⟩ hn hd

/-! ### arithmetic -/
variable {a b : Expr} {ta tb : TE} {pos : Pos}
/-! ### comparisons -/
/-! ### and, or, not -/
variable {tA tB' : TT} {rest : List Expr}
def tAnd (t u : TT) : TT := fun σ H Q => t σ H fun c H1 => if c = true then u σ H1 Q else Q false H1
def tOr (t u : TT) : TT := fun σ H Q => t σ H fun c H1 => if c = true then Q true H1 else u σ H1 Q
def tNot (t : TT) : TT := fun σ H Q => t σ H fun c H1 => Q (!c) H1
theorem pw_or1 (ha : PT X a tA) : PW X (.BoolOp .Or [a] pos) tA := by
  intro wh pins s σ H Q I h
  refine isTrue_or (thn (ha pins s σ H Q I h) fun c s1 e => ?_)
  cases c with
  | false => exact isTrue_or_nil e
  | true => exact e
theorem pw_or (ha : PT X a tA) (hb : PW X (.BoolOp .Or (b :: rest) pos) tB') : PW X (.BoolOp .Or (a :: b :: rest) pos) (tOr tA tB') := by
  intro wh pins s σ H Q I h
  refine isTrue_or (thn (ha pins s σ H _ I h) fun c s1 ⟨H1, I1, q1⟩ => ?_)
  cases c with
  | true => exact ⟨H1, I1, q1⟩
  | false => exact hb wh pins s1 σ H1 Q I1 q1
theorem pt_not (ha : PT X a tA) : PT X (.UnaryOp .Not a pos) (tNot tA) := by
  intro pins s σ H Q I h
  exact isTrue_not (ha pins s σ H (fun c H1 => Q (!c) H1) I h)
/-- .. as values (bools) -/
def tAndV (ta tb : TE) : TE := fun σ H Q => ta σ H fun x H1 => ∃ c, x = .bl c ∧ if c = true then tb σ H1 Q else Q (.bl false) H1
def tOrV (ta tb : TE) : TE := fun σ H Q => ta σ H fun x H1 => ∃ c, x = .bl c ∧ if c = true then Q (.bl true) H1 else tb σ H1 Q
def tNotV (ta : TE) : TE := fun σ H Q => ta σ H fun x H1 => ∃ c, x = .bl c ∧ Q (.bl (!c)) H1
theorem pe_one {op} {t : TE} (h : PE X a t) : PE X (.BoolOp op [a] pos) t := fun pins s σ H Q I hw => BoolOp_one (h pins s σ H Q I hw)
theorem pe_and (ha : PE X a ta) (hb : PE X (.BoolOp .And (b :: rest) pos) tb) : PE X (.BoolOp .And (a :: b :: rest) pos) (tAndV ta tb) := by
  intro pins s σ H Q I h
  refine BoolOp_and (thn (ha pins s σ H _ I h) fun v s1 ⟨x, H1, I1, r1, q1⟩ => ?_)
  obtain ⟨c, rfl, q1⟩ := q1
  cases r1
  refine wpAny_truthy_bool ?_
  cases c with
  | true => exact hb pins s1 σ H1 Q I1 q1
  | false => exact ⟨.bl false, H1, I1, rfl, q1⟩
theorem pe_not (ha : PE X a ta) : PE X (.UnaryOp .Not a pos) (tNotV ta) := by
  intro pins s σ H Q I h
  refine UnaryOp_ (thn (ha pins s σ H _ I h) fun v s1 ⟨x, H1, I1, r1, q1⟩ => ?_)
  obtain ⟨c, rfl, q1⟩ := q1
  cases r1
  exact not_of (wpAny_truthy_bool ⟨.bl (!c), H1, I1, rfl, q1⟩)
/-- a if t else b -/
def tIf (t : TT) (ta tb : TE) : TE := fun σ H Q => t σ H fun c H1 => if c = true then ta σ H1 Q else tb σ H1 Q
end
end L2

namespace L2
open PySem PySem.Spec PyProof.Rows

/-! ### a list, a tuple that is read: tracked, frozen, or an object of the module -/
def SqL (K : PySem.W.Frag) (H : Hp) (a : Addr) (xs : List V) : Prop :=
  Rd H a (.lst xs) ∨
    ∃ (o : Obj) (its : Array Value) (n : Nat), K.lookup a = some o ∧ o.cls = .type "list" ∧ o.dict = none ∧ o.data = .seq its n ∧ its.size ≤ sizeLine ∧ Vals xs its.toList
def SqT (K : PySem.W.Frag) (H : Hp) (a : Addr) (xs : List V) : Prop :=
  Rd H a (.tup xs) ∨
    ∃ (o : Obj) (its : Array Value) (n : Nat), K.lookup a = some o ∧ o.cls = .type "tuple" ∧ o.data = .seq its n ∧ its.size ≤ sizeLine ∧ Vals xs its.toList
def absV : Value → Option V
  | .none => some .non
  | .bool b => some (.bl b)
  | .int i _ => some (.int i)
  | .str x _ => some (.str x)
  | .bytes b _ => some (.byt b)
  | .float b _ => some (.flt b)
  | .ref a => some (.ref a)
  | .type n => some (.ty n)
  | _ => none
theorem RelV.abs {x : V} {u : Value} (r : RelV x u) : absV u = some x := by
  cases x with
  | non => cases r; rfl
  | bl _ => cases r; rfl
  | int _ => obtain ⟨t, rfl⟩ := r; rfl
  | str _ => obtain ⟨t, rfl⟩ := r; rfl
  | byt _ => obtain ⟨t, rfl⟩ := r; rfl
  | flt _ => obtain ⟨t, rfl⟩ := r; rfl
  | ref _ => cases r; rfl
  | ty _ => cases r; rfl
theorem RelV.inj {x y : V} {u : Value} (r : RelV x u) (q : RelV y u) : x = y := Option.some.inj (r.abs.symm.trans q.abs)
theorem Vals.inj : ∀ {xs ys : List V} {us : List Value}, Vals xs us → Vals ys us → xs = ys
  | _, _, _, .nil, .nil => rfl
  | _, _, _, .cons r t, .cons r' t' => by rw [r.inj r', Vals.inj t t']
section
variable {X : Cx} {pins : List (Addr × Obj)} {σ : St} {H : Hp} {s : Shared} {a : Addr} {xs ys : List V}
theorem SqL.of {K : PySem.W.Frag} (h : H a = some (.lst xs)) : SqL K H a xs := .inl (.inl h)
theorem SqT.of {K : PySem.W.Frag} (h : H a = some (.tup xs)) : SqT K H a xs := .inl (.inl h)
theorem Inv.list (I : Inv X pins σ H s) (h : SqL X.K H a xs) : ∃ its : List Value, Vals xs its ∧ PlainL s.heap a its.toArray ∧ xs.length ≤ sizeLine := by
  rcases h with h | ⟨o, its, n, hk, hc, hd, hs, hz, r⟩
  · obtain ⟨z, its, n, r, e⟩ := h.ok I.hok
    exact ⟨its, r, ⟨_, n, e, rfl, rfl, rfl⟩, z⟩
  · refine ⟨its.toList, r, ⟨o, n, I.kIn a o hk, hc, hd, by simpa using hs⟩, ?_⟩
    have e := r.length
    simp only [Array.length_toList] at e
    omega
theorem Inv.tuple (I : Inv X pins σ H s) (h : SqT X.K H a xs) : ∃ its : List Value, Vals xs its ∧ IsTup s.heap a its.toArray ∧ xs.length ≤ sizeLine := by
  rcases h with h | ⟨o, its, n, hk, hc, hs, hz, r⟩
  · obtain ⟨z, its, r, p⟩ := h.ok I.hok
    exact ⟨its, r, p, z⟩
  · refine ⟨its.toList, r, ⟨o, I.kIn a o hk, hc, n, by simpa using hs⟩, ?_⟩
    have e := r.length
    simp only [Array.length_toList] at e
    omega
theorem Inv.list_inj (I : Inv X pins σ H s) (h : SqL X.K H a xs) (h' : SqL X.K H a ys) : xs = ys := by
  obtain ⟨its, r, ⟨o, n, e, _, _, d⟩, _⟩ := I.list h
  obtain ⟨its', r', ⟨o', n', e', _, _, d'⟩, _⟩ := I.list h'
  rw [e] at e'; cases e'
  rw [d] at d'
  injection d' with d1 _
  have : its = its' := by simpa using congrArg Array.toList d1
  subst this
  exact r.inj r'
theorem Inv.tuple_inj (I : Inv X pins σ H s) (h : SqT X.K H a xs) (h' : SqT X.K H a ys) : xs = ys := by
  obtain ⟨its, r, ⟨o, e, _, n, d⟩, _⟩ := I.tuple h
  obtain ⟨its', r', ⟨o', e', _, n', d'⟩, _⟩ := I.tuple h'
  rw [e] at e'; cases e'
  rw [d] at d'
  injection d' with d1 _
  have : its = its' := by simpa using congrArg Array.toList d1
  subst this
  exact r.inj r'
end

/-! ### another wish about exceptions -/
abbrev Cx.wish (X : Cx) (E : Value → Shared → Prop) : Cx := { X with xe := E }
/-- no exception leaves -/
abbrev Cx.nox (X : Cx) : Cx := X.wish fun _ _ => False
theorem Cx.Ok.wish {X : Cx} (ok : X.Ok) (E : Value → Shared → Prop) : (X.wish E).Ok :=
  ⟨ok.mod, ok.kind, ok.glob, ok.blt, ok.above, ok.inj, ok.has, ok.cab, ok.hd, ok.frames, ok.stk, ok.exf, ok.bs, ok.bsz, ok.noex, ok.exfs, ok.funs, ok.frf⟩
theorem Cx.Ok.unwish {X : Cx} {E : Value → Shared → Prop} (ok : (X.wish E).Ok) : X.Ok :=
  ⟨ok.mod, ok.kind, ok.glob, ok.blt, ok.above, ok.inj, ok.has, ok.cab, ok.hd, ok.frames, ok.stk, ok.exf, ok.bs, ok.bsz, ok.noex, ok.exfs, ok.funs, ok.frf⟩
section
variable {X : Cx} {pins : List (Addr × Obj)} {σ : St} {H : Hp} {s : Shared} {E : Value → Shared → Prop}
theorem Inv.wish (I : Inv X pins σ H s) (E : Value → Shared → Prop) : Inv (X.wish E) pins σ H s := ⟨I.ok.wish E, I.os, I.bare, I.base, I.loc, I.cell, I.free, I.freeC, I.pin, I.hok, I.len⟩
theorem Inv.unwish (I : Inv (X.wish E) pins σ H s) : Inv X pins σ H s := ⟨I.ok.unwish, I.os, I.bare, I.base, I.loc, I.cell, I.free, I.freeC, I.pin, I.hok, I.len⟩
theorem SP.unwish {D : Ends} {f : Flow} {s' : Shared} (h : SP (X.wish E) pins D f s') : SP X pins D f s' := by
  cases f with
  | next => obtain ⟨σ', H', I, q⟩ := h; exact ⟨σ', H', I.unwish, q⟩
  | brk => obtain ⟨σ', H', I, q⟩ := h; exact ⟨σ', H', I.unwish, q⟩
  | cont => obtain ⟨σ', H', I, q⟩ := h; exact ⟨σ', H', I.unwish, q⟩
  | ret u => obtain ⟨v, σ', H', I, r, q⟩ := h; exact ⟨v, σ', H', I.unwish, r, q⟩
theorem PE.nox {e : Expr} {t : TE} (h : PE X.nox e t) : PE X e t := fun pins s σ H Q I hw =>
  wpAny_mono (h pins s σ H Q (I.wish _) hw) (fun _ _ ⟨v, H', I', r, q⟩ => ⟨v, H', I'.unwish, r, q⟩) fun _ _ z => False.elim z
theorem PT.nox {e : Expr} {t : TT} (h : PT X.nox e t) : PT X e t := fun pins s σ H Q I hw =>
  wpAny_mono (h pins s σ H Q (I.wish _) hw) (fun _ _ ⟨H', I', q⟩ => ⟨H', I'.unwish, q⟩) fun _ _ z => False.elim z
theorem PSs.nox {st : List Stmt} {t : TS} (h : PSs X.nox st t) : PSs X st t := fun pins s σ H D I hw =>
  wpAny_mono (h pins s σ H D (I.wish _) hw) (fun _ _ q => q.unwish) fun _ _ z => False.elim z
end

/-! ### blocks and small statements -/
section
variable {X : Cx} {st : Stmt} {rest : List Stmt} {t u : TS} {e : Expr} {te : TE} {pos : Pos}
def tNext : TS := fun D σ H => D.nx σ H
def tSeq (t u : TS) : TS := fun D σ H => t { D with nx := u D } σ H
theorem pss_nil : PSs X [] tNext := fun _ _ σ H _ I h => wpAny_execs_nil ⟨σ, H, I, h⟩
theorem pss_cons (h1 : PS X st t) (h2 : PSs X rest u) : PSs X (st :: rest) (tSeq t u) := by
  intro pins s σ H D I h
  refine wpAny_execs_cons (thn (h1 pins s σ H { D with nx := u D } I h) fun f s1 q => ?_)
  cases f with
  | next =>
    obtain ⟨σ', H', I', q⟩ := q
    exact h2 pins s1 σ' H' D I' q
  | ret v => exact q
  | brk => exact q
  | cont => exact q
theorem pss_one (h1 : PS X st t) : PSs X [st] t := by
  intro pins s σ H D I h
  refine wpAny_execs_cons (thn (h1 pins s σ H D I h) fun f s1 q => ?_)
  cases f with
  | next => exact wpAny_execs_nil q
  | ret v => exact q
  | brk => exact q
  | cont => exact q
def tBreak : TS := fun D σ H => D.bk σ H
def tCont : TS := fun D σ H => D.ct σ H
/-- in a def's body nothing is shown -/
theorem Inv.quiet {pins : List (Addr × Obj)} {σ : St} {H : Hp} {s : Shared} (I : Inv X pins σ H s) : interactive X.env = false := by simp [interactive, I.ok.kind]
/-- an expression whose value is dropped -/
def tDrop (te : TE) : TS := fun D σ H => te σ H fun _ H1 => D.nx σ H1
theorem ps_expr (he : PE X e te) (hs : swapsWith e none pos.line X.env = pure false := by rfl) : PS X (.Expr e pos) (tDrop te) := by
  intro pins s σ H D I h
  exact wpAny_Expr_any (thn (he pins s σ H _ I h) fun v s1 ⟨x, H1, I1, r1, q1⟩ => ⟨σ, H1, I1, q1⟩) I.quiet hs
def tRet (te : TE) : TS := fun D σ H => te σ H D.rt
theorem ps_ret (he : PE X e te) : PS X (.Return (some e) pos) (tRet te) := by
  intro pins s σ H D I h
  exact wpAny_Return_some (thn (he pins s σ H _ I h) fun v s1 ⟨x, H1, I1, r1, q1⟩ => ⟨x, σ, H1, I1, r1, q1⟩)
def tRetN : TS := fun D _ H => D.rt .non H
def tIfS (c : TT) (t u : TS) : TS := fun D σ H => c σ H fun b H1 => if b = true then t D σ H1 else u D σ H1
theorem ps_if {c : Expr} {a b : List Stmt} {tc : TT} (hc : PT X c tc) (ha : PSs X a t) (hb : PSs X b u) : PS X (.If c a b pos) (tIfS tc t u) := by
  intro pins s σ H D I h
  refine wpAny_If (thn (hc pins s σ H _ I h) fun d s1 ⟨H1, I1, q1⟩ => ?_)
  cases d with
  | true => exact ha pins s1 σ H1 D I1 q1
  | false => exact hb pins s1 σ H1 D I1 q1
end

/-! ### targets -/
abbrev TG := V → St → Hp → (St → Hp → Prop) → Prop
abbrev TGs := List V → St → Hp → (St → Hp → Prop) → Prop
def PG (X : Cx) (target : Expr) (t : TG) : Prop :=
  ∀ (pins : List (Addr × Obj)) (s : Shared) (σ : St) (H : Hp) (v : V) (u : Value) (Q : St → Hp → Prop), Inv X pins σ H s → RelV v u → t v σ H Q →
    wpAny (model X.prog X.w) X.A (assign target X.env u) (fun _ s' => ∃ σ' H', Inv X pins σ' H' s' ∧ Q σ' H') X.xe s
/-- several targets, one after another -/
def PGs (X : Cx) (ts : List Expr) (t : TGs) : Prop :=
  ∀ (pins : List (Addr × Obj)) (s : Shared) (σ : St) (H : Hp) (vs : List V) (us : List Value) (Q : St → Hp → Prop), Inv X pins σ H s → Vals vs us → t vs σ H Q →
    wpAny (model X.prog X.w) X.A (assignInOrder ((assignEach ts X.env).map (·.2)) us) (fun _ s' => ∃ σ' H', Inv X pins σ' H' s' ∧ Q σ' H') X.xe s
/-- o[i] = v, by values -/
abbrev TSet := V → V → V → Hp → (Hp → Prop) → Prop
def PSet (X : Cx) (t : TSet) : Prop :=
  ∀ (pins : List (Addr × Obj)) (s : Shared) (σ : St) (H : Hp) (o i v : V) (ov iv u : Value) (Q : Hp → Prop), Inv X pins σ H s → RelV o ov → RelV i iv → RelV v u → t o i v H Q →
    wpAny (model X.prog X.w) X.A (setItem ov iv u) (fun _ s' => ∃ H', Inv X pins σ H' s' ∧ Q H') X.xe s
section
variable {X : Cx} {pos : Pos}
def gName (i : Nat) : TG := fun v σ H Q => Q (σ.set i (some v)) H
theorem pg_name {i : Nat} {x : Str} (hN : X.N.Nodup) (hi : X.N[i]? = some x) (hx : Loc X.env.scope x) (hf : X.fn x = true ∨ X.env.scope.names.lookup x = some .local := by first | exact .inl rfl | exact .inr rfl | assumption) : PG X (.Name x pos) (gName i) := by
  intro pins s σ H v u Q I r h
  exact wpAny_assign_Name (store_ok I hN hi hx r (fun s' I' => ⟨_, H, I', h⟩) hf)
def gNil : TGs := fun vs σ H Q => vs = [] ∧ Q σ H
def gCons (t : TG) (u : TGs) : TGs := fun vs σ H Q => ∃ v r, vs = v :: r ∧ t v σ H fun σ' H' => u r σ' H' Q
theorem pgs_nil : PGs X [] gNil := by
  intro pins s σ H vs us Q I r h
  obtain ⟨e, h⟩ := h
  subst e
  cases r
  exact assignInOrder_nil ⟨σ, H, I, h⟩
theorem pgs_cons {e : Expr} {es : List Expr} {t : TG} {u : TGs} (h1 : PG X e t) (h2 : PGs X es u)
    (hs : (assignEach (e :: es) X.env).map (·.2) = assign e X.env :: (assignEach es X.env).map (·.2) := by rfl) : PGs X (e :: es) (gCons t u) := by
  intro pins s σ H vs us Q I r h
  obtain ⟨v, vr, e1, h⟩ := h
  subst e1
  cases r with
  | cons r rr =>
    rw [hs]
    refine assignInOrder_cons (thn (h1 pins s σ H _ _ _ I r h) fun _ s1 ⟨σ1, H1, I1, q1⟩ => ?_)
    exact h2 pins s1 σ1 H1 _ _ Q I1 rr q1
/-- (a, b, ..) = a tuple of that length -/
def gTup (K : PySem.W.Frag) (n : Nat) (t : TGs) : TG := fun v σ H Q => ∃ a xs, v = .ref a ∧ SqT K H a xs ∧ xs.length = n ∧ t xs σ H Q
theorem pg_tup {es : List Expr} {k : Nat} {t : TGs} {n : Nat} (hc : X.calm = true) (h : PGs X es t)
    (hn : (assignEach es X.env).length = n := by rfl) (hst : (assignEach es X.env).findIdx? (·.1) = none := by rfl) : PG X (.Tuple es k pos) (gTup X.K n t) := by
  intro pins s σ H v u Q I r hw
  obtain ⟨a, xs, e1, hq, hl, hw⟩ := hw
  subst e1
  cases r
  obtain ⟨its, rv, ht, hz⟩ := I.tuple hq
  refine assign_Tuple_tuple (I.ok.hd hc) ht (by simp [hn, ← hl, rv.length]) hst fun h' hx => ?_
  have I1 : Inv X pins σ H { s with heap := h' } := I.kept (t' := s.toks) fun b o e => hx b o (Nat.ne_of_lt (Heap.lt_size e)) e
  exact h pins _ σ H xs _ Q I1 (by simpa using rv) hw
/-- o[i] = .. -/
def gSub (to ti : TE) (t : TSet) : TG := fun v σ H Q => to σ H fun o H1 => ti σ H1 fun i H2 => t o i v H2 fun H3 => Q σ H3
theorem pg_sub {o i : Expr} {to ti : TE} {t : TSet} (ho : PE X o to) (hi : PE X i ti) (hs : PSet X t)
    (ha : ∀ v, assign (.Subscript o i pos) X.env v = (do
      let ov ← holding [v] (eval o X.env)
      let iv ← holding [v, ov] (eval i X.env)
      standAt pos
      holding [v, ov, iv] (setItem ov iv v)
      release [v, ov, iv] []) := by intro _; rfl) : PG X (.Subscript o i pos) (gSub to ti t) := by
  intro pins s σ H v u Q I r h
  rw [ha]
  refine wpAny_bind (wpAny_holding (thn (ho pins s σ H _ I h) fun ov s1 ⟨x, H1, I1, r1, q1⟩ => ?_))
  refine wpAny_bind (wpAny_holding (thn (hi pins s1 σ H1 _ I1 q1) fun iv s2 ⟨y, H2, I2, r2, q2⟩ => ?_))
  refine wpAny_bind (wpAny_standAt (wpAny_bind (wpAny_holding (thn (hs pins s2 σ H2 x y v ov iv u _ I2 r1 r2 r q2) fun _ s3 ⟨H3, I3, q3⟩ => ?_))))
  exact wpAny_release ⟨σ, H3, I3, q3⟩
/-- target = value -/
def tAsg (te : TE) (g : TG) : TS := fun D σ H => te σ H fun x H1 => g x σ H1 D.nx
theorem ps_asg {tg e : Expr} {te : TE} {g : TG} (he : PE X e te) (hg : PG X tg g) (hs : swapsWithSole [tg] e pos.line X.env = pure false := by rfl) (hw : swappedStores [tg] e X.env = pure none := by rfl)
    (h1 : (assignEach [tg] X.env).map (·.2) = [assign tg X.env] := by rfl) : PS X (.Assign [tg] e pos) (tAsg te g) := by
  intro pins s σ H D I h
  refine wpAny_Assign_stores (thn (he pins s σ H _ I h) fun v s1 ⟨x, H1, I1, r1, q1⟩ => ?_) hs hw
  rw [h1]
  exact thn (hg pins s1 σ H1 x v _ I1 r1 q1) fun _ s2 q => q
/-- name = value -/
theorem ps_set {i : Nat} {x : Str} {e : Expr} {te : TE} {pos' : Pos} (hN : X.N.Nodup) (hi : X.N[i]? = some x) (hx : Loc X.env.scope x) (he : PE X e te) (hs : swapsWith e (some (.Name x pos')) pos.line X.env = pure false := by rfl) (hf : X.fn x = true ∨ X.env.scope.names.lookup x = some .local := by first | exact .inl rfl | exact .inr rfl | assumption) :
    PS X (.Assign [.Name x pos'] e pos) (tAsg te (gName i)) := by
  intro pins s σ H D I h
  refine wpAny_Assign_Name (thn (he pins s σ H _ I h) fun v s1 ⟨y, H1, I1, r1, q1⟩ => ?_) hs
  exact store_ok I1 hN hi hx r1 (fun s2 I2 => ⟨_, H1, I2, q1⟩) hf
/-- a, b = x, y with plain local names: stored from the right; the pair itself is not tracked (the opening rows as in PyProof/Rows/TupAssign.lean:23) -/
def tPar (i j : Nat) (ta : TA) : TS := fun D σ H => ta σ H fun vs H1 => ∃ v w, vs = [v, w] ∧ D.nx ((σ.set i (some v)).set j (some w)) H1
end

/-! ### while -/
section
variable {X : Cx} {pos : Pos}
end

/-! ### what a loop or a comprehension walks -/
/-- at turn i: it yields x (the heap may grow), or it stops -/
structure It where
  go : Nat → Hp → Prop
  yld : Nat → Hp → V → Hp → Prop
  stop : Nat → Hp → Prop
/-- the iterator's own objects may turn: they are not the frame's, not pinned, younger than the entry (or a comprehension's own) -/
def FpOk (X : Cx) (pins : List (Addr × Obj)) (H : Hp) (b : Addr) : Prop :=
  H b = none ∧ b ≠ X.env.locals ∧ b ∉ X.fs ∧ (b ∈ X.ex ∨ X.s₀.heap.objs.size ≤ b) ∧ (∀ x c, X.env.cells.lookup x = some c → c ≠ b) ∧ ∀ p ∈ X.pn ++ pins, p.1 ≠ b
theorem Inv.fpOk {X : Cx} {pins : List (Addr × Obj)} {σ : St} {H H' : Hp} {s : Shared} {b : Addr} (I : Inv X pins σ H s) (hb : s.heap.objs.size ≤ b) (hn : H' b = none) : FpOk X pins H' b := by
  refine ⟨hn, Nat.ne_of_gt (Nat.lt_of_lt_of_le I.lt hb), I.nofs hb, .inr (Nat.le_trans I.sz hb), fun x c e z => ?_, fun p hp z => ?_⟩
  · obtain ⟨v, q⟩ := I.cell x c e
    exact absurd (Nat.lt_of_lt_of_le q.lt (by rw [z]; exact hb)) (Nat.lt_irrefl _)
  · exact absurd (Nat.lt_of_lt_of_le (Heap.lt_size (I.pin p hp).1) (by rw [z]; exact hb)) (Nat.lt_irrefl _)
structure Turn (P : Program) (w : World) (K : PySem.W.Frag) (tg : Expr) (J : It) (fp : List Addr) (it : Addr) (tn : Nat → Heap → Prop) : Prop where
  mem : it ∈ fp
  obj : ∀ i h, tn i h → ∀ b ∈ fp, ∃ o, h.get? b = some o ∧ ∀ v, o.data ≠ .cell v
  keep : ∀ i h h', tn i h → (∀ b ∈ fp, ∀ o, h.get? b = some o → h'.get? b = some o) → tn i h'
  item : ∀ (X : Cx), X.prog = P → X.w = w → X.K = K → X.calm = true → ∀ (i : Nat) (pins : List (Addr × Obj)) (s : Shared) (σ : St) (H : Hp) (E : Value → Shared → Prop), Inv X pins σ H s → (∀ b ∈ fp, FpOk X pins H b) → tn i s.heap → J.go i H →
    wpAny (model P w) X.A (pyNext (.ref it)) (fun r s1 => ∃ u, r = some u ∧
      wpAny (model P w) X.A (letOwnedTupleGo tg (.ref it) u) (fun _ s2 => ∃ x H', Inv X pins σ H' s2 ∧ RelV x u ∧ J.yld i H x H' ∧ tn (i + 1) s2.heap ∧ ∀ b ∈ fp, H' b = none) E s1) E s
  done : ∀ (X : Cx), X.prog = P → X.w = w → X.K = K → X.calm = true → ∀ (i : Nat) (pins : List (Addr × Obj)) (s : Shared) (σ : St) (H : Hp) (E : Value → Shared → Prop), Inv X pins σ H s → (∀ b ∈ fp, FpOk X pins H b) → tn i s.heap → J.stop i H →
    wpAny (model P w) X.A (pyNext (.ref it)) (fun r s1 => r = none ∧ Inv X pins σ H s1) E s
  self : ∀ (A : Around) (i : Nat) (s : Shared) (Q : Value → Shared → Prop) (E : Value → Shared → Prop), tn i s.heap → Q (.ref it) s → wpAny (model P w) A (pyIter (.ref it)) Q E s
abbrev TI := St → Hp → (It → Hp → Prop) → Prop
/-- an iterator has come -/
def PIE (X : Cx) (pins : List (Addr × Obj)) (σ : St) (tg : Expr) (R : It → Hp → Prop) (itv : Value) (s2 : Shared) : Prop :=
  ∃ (it : Addr) (fp : List Addr) (tn : Nat → Heap → Prop) (J : It) (H' : Hp), itv = .ref it ∧ Inv X pins σ H' s2 ∧ Turn X.prog X.w X.K tg J fp it tn ∧ tn 0 s2.heap ∧ (∀ b ∈ fp, FpOk X pins H' b) ∧ R J H'
def PI (X : Cx) (tg iter : Expr) (wi : TI) : Prop :=
  ∀ (pins : List (Addr × Obj)) (s : Shared) (σ : St) (H : Hp) (R : It → Hp → Prop), Inv X pins σ H s → wi σ H R →
    wpAny (model X.prog X.w) X.A (eval iter X.env) (fun v s1 => wpAny (model X.prog X.w) X.A (pyIter v) (PIE X pins σ tg R) X.xe s1) X.xe s

/-- the step ahead of the store is nothing for an iterator that keeps no tuple -/
theorem go_of {M : Model} {A : Around} {E : Value → Shared → Prop} {s : Shared} {tg : Expr} {it : Addr} {u : Value} {o : Obj} {n : String} {vs : Array Value} {Q : Unit → Shared → Prop} (ho : s.heap.get? it = some o) (hc : o.cls = .type n) (hd : o.data = .fields vs)
    (hn : ["enumerate", "zip", "dict_itemiterator", "dict_reverseitemiterator", "odict_iterator", "itertools.zip_longest", "itertools.pairwise"].contains n = false) (hQ : Q () s) : wpAny M A (letOwnedTupleGo tg (.ref it) u) Q E s := by
  unfold letOwnedTupleGo
  cases tg <;> first
    | exact wpAny_pure hQ
    | (cases u <;> first
        | exact wpAny_pure hQ
        | (refine wpAny_bind (wpAny_load ho ?_)
           rw [hc, hd]
           show wpAny M A (if (["enumerate", "zip", "dict_itemiterator", "dict_reverseitemiterator", "odict_iterator", "itertools.zip_longest", "itertools.pairwise"].contains n && vs[0]? == some (rawInt _)) = true then _ else _) Q E s
           rw [if_neg (by intro h; rw [hn, Bool.false_and] at h; cases h)]
           exact wpAny_pure hQ))

/-- the list at a, as it stands at each turn (a loop may append to it) -/
def Itl (K : PySem.W.Frag) (a : Addr) : It :=
  ⟨fun i H => ∃ xs x, SqL K H a xs ∧ xs[i]? = some x, fun i H x H' => H' = H ∧ ∀ xs, SqL K H a xs → xs[i]? = some x, fun i H => ∃ xs, SqL K H a xs ∧ xs.length ≤ i⟩
def Itt (K : PySem.W.Frag) (a : Addr) : It :=
  ⟨fun i H => ∃ xs x, SqT K H a xs ∧ xs[i]? = some x, fun i H x H' => H' = H ∧ ∀ xs, SqT K H a xs → xs[i]? = some x, fun i H => ∃ xs, SqT K H a xs ∧ xs.length ≤ i⟩
/-- lo, lo + 1, .. (n of them) -/
def Itr (lo : Int) (n : Nat) : It := ⟨fun i _ => i < n, fun i H x H' => H' = H ∧ x = .int (lo + i), fun i _ => n ≤ i⟩
theorem turn_list {P : Program} {w : World} {K : PySem.W.Frag} {tg : Expr} (a it : Addr) : Turn P w K tg (Itl K a) [it] it (fun i h => h.IsListIter it a i) where
  mem := by simp
  obj := fun i h st b hb => by
    have e : b = it := by simpa using hb
    subst e
    obtain ⟨o, e, c, d⟩ := st
    exact ⟨o, e, fun v z => by rw [d] at z; cases z⟩
  keep := fun i h h' st k => st.at fun o e => k it (by simp) o e
  item := by
    intro X hP hw hK hc i pins s σ H E I hf st hg
    subst hP hw hK
    obtain ⟨xs, x, hq, hx⟩ := hg
    obtain ⟨its, rv, p, hz⟩ := I.list hq
    obtain ⟨u, hu, ru⟩ := rv.get hx
    obtain ⟨f0, f1, f2, f3, f4, f5⟩ := hf it (by simp)
    refine wpAny_pyNext_list_item st p.isList (x := u) (by simpa using hu) fun h' st' sb => ?_
    have I1 : Inv X pins σ H { s with heap := h' } := I.turned (t' := s.toks) (fun b o hb e => (sb.2 b hb).trans e) f0 f1 f3 f4 f5
    obtain ⟨o, e, c, d⟩ := id st'
    exact ⟨u, rfl, go_of (s := { s with heap := h' }) e c d (by decide) ⟨x, H, I1, ru, ⟨rfl, fun ys hy => by rw [I.list_inj hy hq]; exact hx⟩, st', fun b hb => (hf b hb).1⟩⟩
  done := by
    intro X hP hw hK hc i pins s σ H E I hf st hg
    subst hP hw hK
    obtain ⟨xs, hq, hx⟩ := hg
    obtain ⟨its, rv, p, hz⟩ := I.list hq
    obtain ⟨f0, f1, f2, f3, f4, f5⟩ := hf it (by simp)
    have hl := rv.length
    exact wpAny_pyNext_list_end (I.ok.hd hc) st p.isList (by simp; omega) fun h' eb => ⟨rfl, I.turned (t' := s.toks) (fun b o hb e => eb b o hb e) f0 f1 f3 f4 f5⟩
  self := fun _ _ _ _ _ st h => wpAny_pyIter_listiter st h
theorem turn_tuple {P : Program} {w : World} {K : PySem.W.Frag} {tg : Expr} (a it : Addr) : Turn P w K tg (Itt K a) [it] it (fun i h => h.IsTupleIter it a i) where
  mem := by simp
  obj := fun i h st b hb => by
    have e : b = it := by simpa using hb
    subst e
    obtain ⟨o, e, c, d⟩ := st
    exact ⟨o, e, fun v z => by rw [d] at z; cases z⟩
  keep := fun i h h' st k => st.at fun o e => k it (by simp) o e
  item := by
    intro X hP hw hK hc i pins s σ H E I hf st hg
    subst hP hw hK
    obtain ⟨xs, x, hq, hx⟩ := hg
    obtain ⟨its, rv, p, hz⟩ := I.tuple hq
    obtain ⟨u, hu, ru⟩ := rv.get hx
    obtain ⟨f0, f1, f2, f3, f4, f5⟩ := hf it (by simp)
    refine wpAny_pyNext_tuple_item st (show s.heap.IsTuple a its.toArray from p) (x := u) (by simpa using hu) fun h' st' sb => ?_
    have I1 : Inv X pins σ H { s with heap := h' } := I.turned (t' := s.toks) (fun b o hb e => (sb.2 b hb).trans e) f0 f1 f3 f4 f5
    obtain ⟨o, e, c, d⟩ := id st'
    exact ⟨u, rfl, go_of (s := { s with heap := h' }) e c d (by decide) ⟨x, H, I1, ru, ⟨rfl, fun ys hy => by rw [I.tuple_inj hy hq]; exact hx⟩, st', fun b hb => (hf b hb).1⟩⟩
  done := by
    intro X hP hw hK hc i pins s σ H E I hf st hg
    subst hP hw hK
    obtain ⟨xs, hq, hx⟩ := hg
    obtain ⟨its, rv, p, hz⟩ := I.tuple hq
    obtain ⟨f0, f1, f2, f3, f4, f5⟩ := hf it (by simp)
    have hl := rv.length
    exact wpAny_pyNext_tuple_end (I.ok.hd hc) st (show s.heap.IsTuple a its.toArray from p) (by simp; omega) fun h' eb => ⟨rfl, I.turned (t' := s.toks) (fun b o hb e => eb b o hb e) f0 f1 f3 f4 f5⟩
  self := fun _ _ _ _ _ st h => wpAny_pyIter_tupleiter st h
theorem turn_range {P : Program} {w : World} {K : PySem.W.Frag} {tg : Expr} (it : Addr) (lo : Int) (n : Nat) : Turn P w K tg (Itr lo n) [it] it (fun i h => IsRangeIter h it (lo + (i : Nat) * 1) ((n : Int) - (i : Nat)) 1) where
  mem := by simp
  obj := fun i h st b hb => by
    have e : b = it := by simpa using hb
    subst e
    exact ⟨_, st, fun v z => by
      have z' : Data.fields _ = Data.cell v := z
      cases z'⟩
  keep := fun i h h' st k => k it (by simp) _ st
  item := by
    intro X hP hw hK hc i pins s σ H E I hf st hg
    subst hP hw hK
    obtain ⟨f0, f1, f2, f3, f4, f5⟩ := hf it (by simp)
    have W := Walks.range (prog := X.prog) (w := X.w) (I.ok.hd hc) it lo 1 n
    refine W.item i s _ _ hg st fun v h' tk hv st' kk => ?_
    obtain ⟨t, rfl⟩ := hv
    have I1 : Inv X pins σ H { s with heap := h', toks := tk } := I.turned (fun b o hb e => kk b o (by simpa using hb) e) f0 f1 f3 f4 f5
    refine ⟨_, rfl, go_of (s := { s with heap := h', toks := tk }) (n := "range_iterator") st' rfl rfl (by decide) ⟨.int (lo + i), H, I1, ⟨t, ?_⟩, ⟨rfl, rfl⟩, st', fun b hb => (hf b hb).1⟩⟩
    rw [Int.mul_one]
  done := by
    intro X hP hw hK hc i pins s σ H E I hf st hg
    subst hP hw hK
    obtain ⟨f0, f1, f2, f3, f4, f5⟩ := hf it (by simp)
    exact wpAny_pyNext_range_end (I.ok.hd hc) st (by have : n ≤ i := hg; omega) fun h' eb => ⟨rfl, I.turned (t' := s.toks) (fun b o hb e => eb b o hb e) f0 f1 f3 f4 f5⟩
  self := fun _ _ _ _ _ st h => wpAny_pyIter_rangeiter st h
end L2

namespace L2
open PySem PySem.Spec PyProof.Rows
section
variable {X : Cx} {tg : Expr}
def iList (K : PySem.W.Frag) (tl : TE) : TI := fun σ H R => tl σ H fun x H1 => ∃ a, x = .ref a ∧ (∃ xs, SqL K H1 a xs) ∧ R (Itl K a) H1
def iTup (K : PySem.W.Frag) (tl : TE) : TI := fun σ H R => tl σ H fun x H1 => ∃ a, x = .ref a ∧ (∃ xs, SqT K H1 a xs) ∧ R (Itt K a) H1
theorem pi_list {l : Expr} {tl : TE} (hl : PE X l tl) : PI X tg l (iList X.K tl) := by
  intro pins s σ H R I h
  refine thn (hl pins s σ H _ I h) fun v s1 ⟨x, H1, I1, r1, q1⟩ => ?_
  obtain ⟨a, e, ⟨xs, hq⟩, q⟩ := q1
  subst e
  cases r1
  obtain ⟨its, rv, p, hz⟩ := I1.list hq
  refine wpAny_pyIter_list p.isList ?_
  refine ⟨s1.heap.objs.size, [s1.heap.objs.size], _, _, H1, rfl, I1.kept (t' := s1.toks) fun b o e => Heap.get?_push_of_some _ e, turn_list a _, ⟨_, Heap.get?_push_size _ rfl, rfl, rfl⟩, fun b hb => ?_, q⟩
  have e : b = s1.heap.objs.size := by simpa using hb
  subst e
  exact I1.fpOk (Nat.le_refl _) (I1.hok.fresh (Nat.le_refl _))
theorem pi_tup {l : Expr} {tl : TE} (hl : PE X l tl) : PI X tg l (iTup X.K tl) := by
  intro pins s σ H R I h
  refine thn (hl pins s σ H _ I h) fun v s1 ⟨x, H1, I1, r1, q1⟩ => ?_
  obtain ⟨a, e, ⟨xs, hq⟩, q⟩ := q1
  subst e
  cases r1
  obtain ⟨its, rv, p, hz⟩ := I1.tuple hq
  refine wpAny_pyIter_tuple (show s1.heap.IsTuple a its.toArray from p) ?_
  refine ⟨s1.heap.objs.size, [s1.heap.objs.size], _, _, H1, rfl, I1.kept (t' := s1.toks) fun b o e => Heap.get?_push_of_some _ e, turn_tuple a _, ⟨_, Heap.get?_push_size _ rfl, rfl, rfl⟩, fun b hb => ?_, q⟩
  have e : b = s1.heap.objs.size := by simpa using hb
  subst e
  exact I1.fpOk (Nat.le_refl _) (I1.hok.fresh (Nat.le_refl _))
/-- a range object just made, walked -/
theorem range_it {pins : List (Addr × Obj)} {σ : St} {H : Hp} {s : Shared} {R : It → Hp → Prop} {E : Value → Shared → Prop} {lo hi : Int} {t u v : Tok} {tk : Nat} (I : Inv X pins σ H s) (h1 : -(2 ^ 62) ≤ lo) (h2 : lo < 2 ^ 62) (h3 : -(2 ^ 62) ≤ hi) (h4 : hi < 2 ^ 62)
    (q : R (Itr lo (hi - lo).toNat) H) : wpAny (model X.prog X.w) X.A (pyIter (.ref s.heap.objs.size)) (PIE X pins σ tg R) E { s with heap := s.heap.push { cls := .type "range", data := .fields #[.int lo t, .int hi u, .int 1 v] }, toks := tk } := by
  refine wpAny_pyIter_range (IsRange.new ..) (small_one h1 h2 h3 h4) ?_
  have I1 : Inv X pins σ H { s with heap := s.heap.push { cls := .type "range", data := .fields #[.int lo t, .int hi u, .int 1 v] }, toks := tk } := I.kept fun b o e => Heap.get?_push_of_some _ e
  refine ⟨(s.heap.push { cls := .type "range", data := .fields #[.int lo t, .int hi u, .int 1 v] }).objs.size, [(s.heap.push { cls := .type "range", data := .fields #[.int lo t, .int hi u, .int 1 v] }).objs.size], _, _, H, rfl,
    I1.kept (t' := tk) fun b o e => Heap.get?_push_of_some _ e, turn_range _ lo (hi - lo).toNat, ?_, fun b hb => ?_, q⟩
  · have e1 : lo + ((0 : Nat) : Int) * 1 = lo := by simp
    have e2 : (((hi - lo).toNat : Nat) : Int) - ((0 : Nat) : Int) = Builtin.Range.rangeSize lo hi 1 := by rw [rangeSize_one]; split <;> omega
    show IsRangeIter _ _ (lo + ((0 : Nat) : Int) * 1) ((((hi - lo).toNat : Nat) : Int) - ((0 : Nat) : Int)) 1
    rw [e1, e2]
    exact Heap.get?_push_size _ rfl
  · have e : b = (s.heap.push { cls := .type "range", data := .fields #[.int lo t, .int hi u, .int 1 v] }).objs.size := by simpa using hb
    subst e
    exact I1.fpOk (Nat.le_refl _) (I1.hok.fresh (Nat.le_refl _))
def iRng1 (ta : TA) : TI := fun σ H R => ta σ H fun vs H1 => ∃ j : Int, vs = [.int j] ∧ -(2 ^ 62) ≤ j ∧ j < 2 ^ 62 ∧ R (Itr 0 j.toNat) H1
def iRng2 (ta : TA) : TI := fun σ H R => ta σ H fun vs H1 => ∃ i j : Int, vs = [.int i, .int j] ∧ (-(2 ^ 62) ≤ i ∧ i < 2 ^ 62 ∧ -(2 ^ 62) ≤ j ∧ j < 2 ^ 62) ∧ R (Itr i (j - i).toNat) H1
theorem pi_range1 {a : Expr} {ta : TA} {p pos : Pos} (hg : Gl X "range") (hm : X.mg "range" = none) (ha : PA X [a] ta) (hs : starEach [a] X.env = [(false, eval a X.env)] := by rfl) : PI X tg (.Call (.Name "range" p) [a] [] pos) (iRng1 ta) := by
  intro pins s σ H R I h
  refine Call_ (ld_blt I hg hm boot_range (PyProof.Rows.callWith_type1 (thn (ha pos pins s σ H _ I h) fun us s1 ⟨vs, H1, I1, r1, q1⟩ => ?_) hs rfl))
  obtain ⟨j, e, q1, q2, q⟩ := q1
  subst e
  cases r1 with
  | cons r rr =>
    cases rr
    obtain ⟨t, rfl⟩ := r
    exact call_range_1 (range_it I1 (by omega) (by omega) q1 q2 (by simpa using q))
/-! ### for -/
/-- W: the invariant by the turn and a measure; N: what the body is to reach -/
def tFor (wi : TI) (g : TG) (tb : TS) : TS := fun D σ H => wi σ H fun J H1 => ∃ W : Nat → Nat → St → Hp → Prop, (∃ m, W 0 m σ H1) ∧ ∀ i m σ H, W i m σ H →
  (J.stop i H ∧ D.nx σ H) ∨ (J.go i H ∧ ∃ N : St → Hp → Prop, (∀ σ' H', N σ' H' → ∃ m', m' < m ∧ W (i + 1) m' σ' H') ∧ ∀ x H', J.yld i H x H' → g x σ H' fun σ2 H2 => tb { D with nx := N, ct := N, bk := D.nx } σ2 H2)
/-- the records at fp as they stand -/
def pinsAt (fp : List Addr) (h : Heap) : List (Addr × Obj) := fp.filterMap fun b => (h.get? b).map fun o => (b, o)
theorem mem_pinsAt {fp : List Addr} {h : Heap} {b : Addr} {o : Obj} (hb : b ∈ fp) (e : h.get? b = some o) : (b, o) ∈ pinsAt fp h := List.mem_filterMap.mpr ⟨b, hb, by rw [e]; rfl⟩
theorem of_pinsAt {fp : List Addr} {h : Heap} {p : Addr × Obj} (hp : p ∈ pinsAt fp h) : p.1 ∈ fp ∧ h.get? p.1 = some p.2 := by
  obtain ⟨b, hb, e⟩ := List.mem_filterMap.mp hp
  cases q : h.get? b with
  | none => rw [q] at e; cases e
  | some o =>
    rw [q] at e
    have e' : (b, o) = p := Option.some.inj e
    subst e'
    exact ⟨hb, q⟩
theorem Inv.pinned {pins : List (Addr × Obj)} {σ : St} {H : Hp} {s : Shared} {fp : List Addr} (I : Inv X pins σ H s) (hf : ∀ b ∈ fp, FpOk X pins H b) (ho : ∀ b ∈ fp, ∃ o, s.heap.get? b = some o ∧ ∀ v, o.data ≠ .cell v) : Inv X (pins ++ pinsAt fp s.heap) σ H s :=
  I.pins_of fun p hp => (List.mem_append.mp hp).elim (fun z => I.pin p (List.mem_append_right _ z)) fun z => by
    obtain ⟨hb, e⟩ := of_pinsAt z
    obtain ⟨f0, f1, f2, _⟩ := hf p.1 hb
    obtain ⟨o, e', d⟩ := ho p.1 hb
    rw [e] at e'; cases e'
    exact ⟨e, f0, f1, f2, d⟩
theorem Inv.unpinned {pins pl : List (Addr × Obj)} {σ : St} {H : Hp} {s : Shared} (I : Inv X (pins ++ pl) σ H s) : Inv X pins σ H s := I.pins_of fun p hp => I.pin p (List.mem_append_right _ (List.mem_append_left _ hp))
theorem ps_for {iter : Expr} {body : List Stmt} {wi : TI} {g : TG} {tb : TS} {pos : Pos} (hp : PassesOwn (model X.prog X.w) X.A X.env X.xe) (hc : X.calm = true) (hi : PI X tg iter wi) (hg : PG X tg g) (hb : PSs X body tb)
    (hs : ∀ x, foldedSetIterable iter X.env x = pure x := by intro _; rfl) : PS X (.For tg iter body [] pos) (tFor wi g tb) := by
  intro pins s σ H D I h
  refine wpAny_For (thn (hi pins s σ H _ I h) fun v s1 h1 => thn h1 fun itv s2 h2 => ?_) hs
  obtain ⟨it, fp, tn, J, H2, e, I2, T, st2, f2, W, ⟨m0, w0⟩, turn⟩ := h2
  subst e
  -- what stays true of the iterator's objects through the loop
  have stat : ∀ {H' : Hp}, (∀ b ∈ fp, H' b = none) → ∀ b ∈ fp, FpOk X pins H' b := fun hn b hb => ⟨hn b hb, (f2 b hb).2⟩
  refine codeAny_forLoop_any (fun n s' => ∃ i σ' H', Inv X pins σ' H' s' ∧ tn i s'.heap ∧ (∀ b ∈ fp, H' b = none) ∧ W i n σ' H') ?_ m0 ⟨0, σ, H2, I2, st2, fun b hb => (f2 b hb).1, w0⟩
  rintro n s3 ⟨i, σ3, H3, I3, st3, fr3, w3⟩
  rcases turn i n σ3 H3 w3 with ⟨stop, qn⟩ | ⟨go, N, hN, step⟩
  · refine wpAny_passesOwn hp (thn (T.done X rfl rfl rfl hc i pins s3 σ3 H3 X.xe I3 (stat fr3) st3 stop) fun r s4 ⟨hr, I4⟩ => ?_)
    subst hr
    exact wpAny_execs_nil ⟨σ3, H3, I4, qn⟩
  · refine wpAny_passesOwn hp (thn (T.item X rfl rfl rfl hc i pins s3 σ3 H3 X.xe I3 (stat fr3) st3 go) fun r s4 ⟨u, hr, h4⟩ => ?_)
    subst hr
    refine wpAny_passesOwn hp (thn h4 fun _ s5 ⟨x, H5, I5, r5, y5, st5, fr5⟩ => ?_)
    have I5' := I5.pinned (stat fr5) (T.obj _ _ st5)
    refine wpAny_passesOwn hp (thn (hg _ s5 σ3 H5 x u _ I5' r5 (step x H5 y5)) fun _ s6 ⟨σ6, H6, I6, q6⟩ => ?_)
    refine wpAny_passesOwn hp (thn (hb _ s6 σ6 H6 _ I6 q6) fun f s7 q7 => ?_)
    have again : ∀ {σ7 : St} {H7 : Hp}, Inv X (pins ++ pinsAt fp s5.heap) σ7 H7 s7 → N σ7 H7 → ∃ m, m < n ∧ ∃ i σ' H', Inv X pins σ' H' s7 ∧ tn i s7.heap ∧ (∀ b ∈ fp, H' b = none) ∧ W i m σ' H' := fun {σ7 H7} I7 n7 => by
      obtain ⟨m', hm, w7⟩ := hN σ7 H7 n7
      refine ⟨m', hm, i + 1, σ7, H7, I7.unpinned, T.keep _ _ _ st5 fun b hb o e => (I7.pin (b, o) (List.mem_append_right _ (List.mem_append_right _ (mem_pinsAt hb e)))).1, fun b hb => ?_, w7⟩
      obtain ⟨o, e, d⟩ := T.obj _ _ st5 b hb
      exact (I7.pin (b, o) (List.mem_append_right _ (List.mem_append_right _ (mem_pinsAt hb e)))).2.1
    cases f with
    | next => obtain ⟨σ7, H7, I7, n7⟩ := q7; exact again I7 n7
    | cont => obtain ⟨σ7, H7, I7, n7⟩ := q7; exact again I7 n7
    | brk => obtain ⟨σ7, H7, I7, q7⟩ := q7; exact ⟨σ7, H7, I7.unpinned, q7⟩
    | ret v => obtain ⟨x7, σ7, H7, I7, r7, q7⟩ := q7; exact ⟨x7, σ7, H7, I7.unpinned, r7, q7⟩
end

/-! ### the forms one uses -/
/-- over a list that the body leaves as it is -/
theorem for_list {K : PySem.W.Frag} {a : Addr} {xs : List V} {g : TG} {tb : TS} {D : Ends} {σ : St} {H : Hp} (Pv : Nat → St → Hp → Prop) (h0 : Pv 0 σ H) (hl : ∀ i σ H, i ≤ xs.length → Pv i σ H → SqL K H a xs)
    (hs : ∀ i x σ H, xs[i]? = some x → Pv i σ H → g x σ H fun σ2 H2 => tb { D with nx := Pv (i + 1), ct := Pv (i + 1), bk := D.nx } σ2 H2) (hd : ∀ σ H, Pv xs.length σ H → D.nx σ H) :
    ∃ W : Nat → Nat → St → Hp → Prop, (∃ m, W 0 m σ H) ∧ ∀ i m σ H, W i m σ H →
      ((Itl K a).stop i H ∧ D.nx σ H) ∨ ((Itl K a).go i H ∧ ∃ N : St → Hp → Prop, (∀ σ' H', N σ' H' → ∃ m', m' < m ∧ W (i + 1) m' σ' H') ∧ ∀ x H', (Itl K a).yld i H x H' → g x σ H' fun σ2 H2 => tb { D with nx := N, ct := N, bk := D.nx } σ2 H2) := by
  refine ⟨fun i m σ H => m = xs.length - i ∧ i ≤ xs.length ∧ Pv i σ H, ⟨xs.length, by simp, Nat.zero_le _, h0⟩, ?_⟩
  rintro i m σ H ⟨rfl, hi, p⟩
  have q := hl i σ H hi p
  by_cases hlt : i < xs.length
  · refine .inr ⟨⟨xs, xs[i], q, by simp [hlt]⟩, Pv (i + 1), fun σ' H' p' => ⟨xs.length - (i + 1), by omega, rfl, hlt, p'⟩, fun x H' y => ?_⟩
    obtain ⟨e, y⟩ := y
    subst e
    exact hs i x σ _ (y xs q) p
  · have e : i = xs.length := by omega
    subst e
    exact .inl ⟨⟨xs, q, Nat.le_refl _⟩, hd σ H p⟩
theorem for_range {lo : Int} {n : Nat} {g : TG} {tb : TS} {D : Ends} {σ : St} {H : Hp} (Pv : Nat → St → Hp → Prop) (h0 : Pv 0 σ H)
    (hs : ∀ i σ H, i < n → Pv i σ H → g (.int (lo + i)) σ H fun σ2 H2 => tb { D with nx := Pv (i + 1), ct := Pv (i + 1), bk := D.nx } σ2 H2) (hd : ∀ σ H, Pv n σ H → D.nx σ H) :
    ∃ W : Nat → Nat → St → Hp → Prop, (∃ m, W 0 m σ H) ∧ ∀ i m σ H, W i m σ H →
      ((Itr lo n).stop i H ∧ D.nx σ H) ∨ ((Itr lo n).go i H ∧ ∃ N : St → Hp → Prop, (∀ σ' H', N σ' H' → ∃ m', m' < m ∧ W (i + 1) m' σ' H') ∧ ∀ x H', (Itr lo n).yld i H x H' → g x σ H' fun σ2 H2 => tb { D with nx := N, ct := N, bk := D.nx } σ2 H2) := by
  refine ⟨fun i m σ H => m = n - i ∧ i ≤ n ∧ Pv i σ H, ⟨n, by simp, Nat.zero_le _, h0⟩, ?_⟩
  rintro i m σ H ⟨rfl, hi, p⟩
  by_cases hlt : i < n
  · refine .inr ⟨hlt, Pv (i + 1), fun σ' H' p' => ⟨n - (i + 1), by omega, rfl, hlt, p'⟩, fun x H' y => ?_⟩
    obtain ⟨e, y⟩ := y
    subst e y
    exact hs i σ _ hlt p
  · have e : i = n := by omega
    subst e
    exact .inl ⟨Nat.le_refl _, hd σ H p⟩
end L2

namespace L2
open PySem PySem.Spec PyProof.Rows

abbrev R2 := V → V → Hp → VK → Prop
/-- a two-place operation on values: f is binaryOp op, inplaceOp op or compareOp op -/
def OpR (X : Cx) (f : Value → Value → Sem Value) (r : R2) : Prop :=
  ∀ (pins : List (Addr × Obj)) (s : Shared) (σ : St) (H : Hp) (x y : V) (v u : Value) (Q : VK), Inv X pins σ H s → RelV x v → RelV y u → r x y H Q →
    wpAny (model X.prog X.w) X.A (f v u) (EP X pins σ Q) X.xe s
/-- a one-place operation -/
def UnR (X : Cx) (f : Value → Sem Value) (r : V → Hp → VK → Prop) : Prop :=
  ∀ (pins : List (Addr × Obj)) (s : Shared) (σ : St) (H : Hp) (x : V) (v : Value) (Q : VK), Inv X pins σ H s → RelV x v → r x H Q →
    wpAny (model X.prog X.w) X.A (f v) (EP X pins σ Q) X.xe s
/-- a call of a value that is known (a builtin, a type) with values -/
def CallR (X : Cx) (f : Value) (r : List V → Hp → VK → Prop) : Prop :=
  ∀ (pins : List (Addr × Obj)) (s : Shared) (σ : St) (H : Hp) (xs : List V) (us : List Value) (Q : VK), Inv X pins σ H s → Vals xs us → r xs H Q →
    wpAny (model X.prog X.w) X.A (call f us) (EP X pins σ Q) X.xe s
def tOp (r : R2) (ta tb : TE) : TE := fun σ H Q => ta σ H fun x H1 => tb σ H1 fun y H2 => r x y H2 Q
def tUn (r : V → Hp → VK → Prop) (ta : TE) : TE := fun σ H Q => ta σ H fun x H1 => r x H1 Q
/-- ints in, under C, and a value out -/
def rI (C : Int → Int → Prop) (g : Int → Int → V) : R2 := fun x y H Q => ∃ i j, x = .int i ∧ y = .int j ∧ C i j ∧ Q (g i j) H
def rI0 (g : Int → Int → V) : R2 := fun x y H Q => ∃ i j, x = .int i ∧ y = .int j ∧ Q (g i j) H
def rU (g : Int → V) : V → Hp → VK → Prop := fun x H Q => ∃ i, x = .int i ∧ Q (g i) H

section
variable {X : Cx} {a b c : Expr} {ta tb tc : TE} {pos : Pos}

theorem binT (ha : PE X a ta) (hb : PE X b tb) {pins : List (Addr × Obj)} {s : Shared} {σ : St} {H : Hp} {R : V → V → Hp → Prop} (I : Inv X pins σ H s)
    (h : ta σ H fun x H1 => tb σ H1 fun y H2 => R x y H2) {Q : Value → Shared → Prop} {f : Value → Value → Sem Value}
    (hf : ∀ v u s2 x y H2, Inv X pins σ H2 s2 → RelV x v → RelV y u → R x y H2 → wpAny (model X.prog X.w) X.A (f v u) Q X.xe s2) :
    wpAny (model X.prog X.w) X.A (eval a X.env) (fun v s₁ => wpAny (model X.prog X.w) X.A (eval b X.env) (fun u s₂ => wpAny (model X.prog X.w) X.A (f v u) Q X.xe s₂) X.xe s₁) X.xe s := by
  refine thn (ha pins s σ H _ I h) fun v s1 ⟨x, H1, I1, r1, q1⟩ => ?_
  refine thn (hb pins s1 σ H1 _ I1 q1) fun u s2 ⟨y, H2, I2, r2, q2⟩ => ?_
  exact hf v u s2 x y H2 I2 r1 r2 q2

theorem pe_op {op : Operator} {r : R2} (ho : OpR X (binaryOp op) r) (ha : PE X a ta) (hb : PE X b tb) : PE X (.BinOp a op b pos) (tOp r ta tb) := by
  intro pins s σ H Q I h
  exact wpAny_BinOp (binT ha hb I h fun v u s2 x y H2 I2 rx ry q => ho pins s2 σ H2 x y v u Q I2 rx ry q)
theorem pe_un {op : UnaryOp} {r : V → Hp → VK → Prop} (ho : UnR X (unaryOp op) r) (ha : PE X a ta) : PE X (.UnaryOp op a pos) (tUn r ta) := by
  intro pins s σ H Q I h
  exact UnaryOp_ (thn (ha pins s σ H _ I h) fun v s1 ⟨x, H1, I1, r1, q1⟩ => ho pins s1 σ H1 x v Q I1 r1 q1)
/-! ### ints -/
theorem opI {f : Value → Value → Sem Value} {C : Int → Int → Prop} {g : Int → Int → Int}
    (rule : ∀ (i j : Int) (t u : Tok) (s : Shared) (Q : Value → Shared → Prop) (E : Value → Shared → Prop), C i j → Q (.int (g i j) s.toks) { s with toks := s.toks + 1 } → wpAny (model X.prog X.w) X.A (f (.int i t) (.int j u)) Q E s) :
    OpR X f (rI C fun i j => .int (g i j)) := by
  intro pins s σ H x y v u Q I rx ry h
  obtain ⟨i, j, rfl, rfl, hc, q⟩ := h
  obtain ⟨t, rfl⟩ := rx
  obtain ⟨t', rfl⟩ := ry
  exact rule i j t t' s _ _ hc ⟨.int (g i j), H, I.tok _, ⟨_, rfl⟩, q⟩
theorem opI0 {f : Value → Value → Sem Value} {g : Int → Int → Int}
    (rule : ∀ (i j : Int) (t u : Tok) (s : Shared) (Q : Value → Shared → Prop) (E : Value → Shared → Prop), Q (.int (g i j) s.toks) { s with toks := s.toks + 1 } → wpAny (model X.prog X.w) X.A (f (.int i t) (.int j u)) Q E s) :
    OpR X f (rI0 fun i j => .int (g i j)) := by
  intro pins s σ H x y v u Q I rx ry h
  obtain ⟨i, j, rfl, rfl, q⟩ := h
  obtain ⟨t, rfl⟩ := rx
  obtain ⟨t', rfl⟩ := ry
  exact rule i j t t' s _ _ ⟨.int (g i j), H, I.tok _, ⟨_, rfl⟩, q⟩
theorem opB0 {f : Value → Value → Sem Value} {g : Int → Int → Bool}
    (rule : ∀ (i j : Int) (t u : Tok) (s : Shared) (Q : Value → Shared → Prop) (E : Value → Shared → Prop), Q (.bool (g i j)) s → wpAny (model X.prog X.w) X.A (f (.int i t) (.int j u)) Q E s) :
    OpR X f (rI0 fun i j => .bl (g i j)) := by
  intro pins s σ H x y v u Q I rx ry h
  obtain ⟨i, j, rfl, rfl, q⟩ := h
  obtain ⟨t, rfl⟩ := rx
  obtain ⟨t', rfl⟩ := ry
  exact rule i j t t' s _ _ ⟨.bl (g i j), H, I, rfl, q⟩

def CMul (i j : Int) : Prop := (-(2 ^ 64) < i ∧ i < 2 ^ 64) ∨ (-(2 ^ 64) < j ∧ j < 2 ^ 64)
theorem CMul.ok {i j : Int} (h : CMul i j) : IntMulOk i j := by
  rcases h with ⟨h1, h2⟩ | ⟨h1, h2⟩
  · exact .of_left (intBits_le_64 h1 h2)
  · exact .of_right (intBits_le_64 h1 h2)
theorem op_add : OpR X (binaryOp .Add) (rI0 fun i j => .int (i + j)) := opI0 fun _ _ _ _ _ _ _ q => add_int q
theorem op_mul : OpR X (binaryOp .Mult) (rI CMul fun i j => .int (i * j)) := opI fun _ _ _ _ _ _ _ hc q => mul_int q hc.ok
/-- % by a positive divisor of any size -/
theorem op_mod : OpR X (binaryOp .Mod) (rI (fun _ j => 0 < j) fun i j => .int (i % j)) := opI fun i j _ _ _ _ _ hc q => by
  have h1 : (0 : Int) < j := hc
  exact mod_int' (by omega) (by rw [Int.fmod_eq_emod_of_nonneg i (by omega)]; exact q)
theorem unI {f : Value → Sem Value} {g : Int → Int}
    (rule : ∀ (i : Int) (t : Tok) (s : Shared) (Q : Value → Shared → Prop) (E : Value → Shared → Prop), Q (.int (g i) s.toks) { s with toks := s.toks + 1 } → wpAny (model X.prog X.w) X.A (f (.int i t)) Q E s) :
    UnR X f (rU fun i => .int (g i)) := by
  intro pins s σ H x v Q I rx h
  obtain ⟨i, rfl, q⟩ := h
  obtain ⟨t, rfl⟩ := rx
  exact rule i t s _ _ ⟨.int (g i), H, I.tok _, ⟨_, rfl⟩, q⟩
theorem un_neg : UnR X (unaryOp .USub) (rU fun i => .int (-i)) := unI fun _ _ _ _ _ q => neg_int q
/-! ### bools among ints: n += (a < b) -/
end

/-! ### comparisons -/
/-- the scalars that == tells apart as data does -/
def scal : V → V → Bool
  | .non, .non => true | .non, .int _ => true | .int _, .non => true | .non, .bl _ => true | .bl _, .non => true | .non, .str _ => true | .str _, .non => true
  | .int _, .int _ => true | .bl _, .bl _ => true | .str _, .str _ => true | .byt _, .byt _ => true
  | .int _, .str _ => true | .str _, .int _ => true | .bl _, .str _ => true | .str _, .bl _ => true
  | _, _ => false
def rEq : R2 := fun x y H Q => scal x y = true ∧ Q (.bl (decide (x = y))) H
def rNe : R2 := fun x y H Q => scal x y = true ∧ Q (.bl (!decide (x = y))) H

theorem dec_int {i j : Int} : decide (V.int i = V.int j) = (i == j) := by
  rw [Bool.eq_iff_iff]
  simp
theorem dec_bl {i j : Bool} : decide (V.bl i = V.bl j) = (i == j) := by
  rw [Bool.eq_iff_iff]
  simp
theorem dec_str {i j : Str} : decide (V.str i = V.str j) = (i == j) := by
  rw [Bool.eq_iff_iff]
  simp
theorem dec_byt {i j : Array UInt8} : decide (V.byt i = V.byt j) = (i.toList == j.toList) := by
  rw [Bool.eq_iff_iff]
  cases i
  cases j
  simp

section
variable {X : Cx} {a b c : Expr} {ta tb tc : TE} {pos : Pos}
theorem fin_bl {pins : List (Addr × Obj)} {σ : St} {H : Hp} {s : Shared} {Q : VK} {k k' : Bool} (I : Inv X pins σ H s) (q : Q (.bl k) H) (e : k = k') : EP X pins σ Q (.bool k') s := by
  subst e
  exact ⟨.bl k, H, I, rfl, q⟩
theorem op_eq : OpR X (compareOp .Eq) rEq := by
  intro pins s σ H x y v u Q I rx ry h
  obtain ⟨hs, q⟩ := h
  cases x with
  | non =>
    cases rx
    cases y with
    | non => cases ry; exact PySem.EqNone.eq_none_none (fin_bl I q (by simp))
    | bl j => cases ry; exact PySem.EqNone.eq_none_bool (fin_bl I q (by simp))
    | int j => obtain ⟨t', rfl⟩ := ry; exact PySem.EqNone.eq_none_int (fin_bl I q (by simp))
    | str j => obtain ⟨t', rfl⟩ := ry; exact PySem.EqNone.eq_none_str (fin_bl I q (by simp))
    | _ => exact absurd (show false = true from hs) Bool.false_ne_true
  | bl i =>
    cases rx
    cases y with
    | non => cases ry; exact PySem.EqNone.eq_bool_none (fin_bl I q (by simp))
    | bl j => cases ry; exact eq_bool (fin_bl I q dec_bl)
    | str j => obtain ⟨t', rfl⟩ := ry; exact PySem.EqMixed.eq_bool_str (fin_bl I q (by simp))
    | _ => exact absurd (show false = true from hs) Bool.false_ne_true
  | int i =>
    obtain ⟨t, rfl⟩ := rx
    cases y with
    | non => cases ry; exact PySem.EqNone.eq_int_none (fin_bl I q (by simp))
    | int j => obtain ⟨t', rfl⟩ := ry; exact eq_int (fin_bl I q dec_int)
    | str j => obtain ⟨t', rfl⟩ := ry; exact PySem.EqMixed.eq_int_str (fin_bl I q (by simp))
    | _ => exact absurd (show false = true from hs) Bool.false_ne_true
  | str i =>
    obtain ⟨t, rfl⟩ := rx
    cases y with
    | non => cases ry; exact PySem.EqNone.eq_str_none (fin_bl I q (by simp))
    | bl j => cases ry; exact PySem.EqMixed.eq_str_bool (fin_bl I q (by simp))
    | int j => obtain ⟨t', rfl⟩ := ry; exact PySem.EqMixed.eq_str_int (fin_bl I q (by simp))
    | str j => obtain ⟨t', rfl⟩ := ry; exact eq_str (fin_bl I q dec_str)
    | _ => exact absurd (show false = true from hs) Bool.false_ne_true
  | byt i =>
    obtain ⟨t, rfl⟩ := rx
    cases y with
    | byt j => obtain ⟨t', rfl⟩ := ry; exact PySem.W.eq_bytes (fin_bl I q dec_byt)
    | _ => exact absurd (show false = true from hs) Bool.false_ne_true
  | _ => cases y <;> exact absurd (show false = true from hs) Bool.false_ne_true
theorem op_ne : OpR X (compareOp .NotEq) rNe := by
  intro pins s σ H x y v u Q I rx ry h
  obtain ⟨hs, q⟩ := h
  cases x with
  | non =>
    cases rx
    cases y with
    | non => cases ry; exact PySem.EqNone.ne_none_none (fin_bl I q (by simp))
    | bl j => cases ry; exact PySem.EqNone.ne_none_bool (fin_bl I q (by simp))
    | int j => obtain ⟨t', rfl⟩ := ry; exact PySem.EqNone.ne_none_int (fin_bl I q (by simp))
    | str j => obtain ⟨t', rfl⟩ := ry; exact PySem.EqNone.ne_none_str (fin_bl I q (by simp))
    | _ => exact absurd (show false = true from hs) Bool.false_ne_true
  | bl i =>
    cases rx
    cases y with
    | non => cases ry; exact PySem.EqNone.ne_bool_none (fin_bl I q (by simp))
    | bl j => cases ry; exact ne_bool (fin_bl I q (congrArg not dec_bl))
    | str j => obtain ⟨t', rfl⟩ := ry; exact PySem.EqMixed.ne_bool_str (fin_bl I q (by simp))
    | _ => exact absurd (show false = true from hs) Bool.false_ne_true
  | int i =>
    obtain ⟨t, rfl⟩ := rx
    cases y with
    | non => cases ry; exact PySem.EqNone.ne_int_none (fin_bl I q (by simp))
    | int j => obtain ⟨t', rfl⟩ := ry; exact ne_int (fin_bl I q (congrArg not dec_int))
    | str j => obtain ⟨t', rfl⟩ := ry; exact PySem.EqMixed.ne_int_str (fin_bl I q (by simp))
    | _ => exact absurd (show false = true from hs) Bool.false_ne_true
  | str i =>
    obtain ⟨t, rfl⟩ := rx
    cases y with
    | non => cases ry; exact PySem.EqNone.ne_str_none (fin_bl I q (by simp))
    | bl j => cases ry; exact PySem.EqMixed.ne_str_bool (fin_bl I q (by simp))
    | int j => obtain ⟨t', rfl⟩ := ry; exact PySem.EqMixed.ne_str_int (fin_bl I q (by simp))
    | str j => obtain ⟨t', rfl⟩ := ry; exact ne_str (fin_bl I q (congrArg not dec_str))
    | _ => exact absurd (show false = true from hs) Bool.false_ne_true
  | byt i =>
    obtain ⟨t, rfl⟩ := rx
    cases y with
    | byt j => obtain ⟨t', rfl⟩ := ry; exact PySem.W.ne_bytes (fin_bl I q (congrArg not dec_byt))
    | _ => exact absurd (show false = true from hs) Bool.false_ne_true
  | _ => cases y <;> exact absurd (show false = true from hs) Bool.false_ne_true

theorem op_lt : OpR X (compareOp .Lt) (rI0 fun i j => .bl (decide (i < j))) := opB0 fun _ _ _ _ _ _ _ q => lt_int q
theorem op_gt : OpR X (compareOp .Gt) (rI0 fun i j => .bl (decide (j < i))) := opB0 fun _ _ _ _ _ _ _ q => gt_int q
/-- is None, is not None: the right side a value none -/
theorem op_isN : OpR X (compareOp .Is) (fun x y H Q => y = .non ∧ Q (.bl (decide (x = .non))) H) := by
  intro pins s σ H x y v u Q I rx ry h
  obtain ⟨rfl, q⟩ := h
  cases ry
  refine is_none_gen (fin_bl I q ?_)
  cases x <;> first
    | (cases rx; rfl)
    | (obtain ⟨t, rfl⟩ := rx; rfl)
theorem op_notin_str : OpR X (compareOp .NotIn) (fun x y H Q => ∃ i j, x = .str i ∧ y = .str j ∧ Q (.bl (!(!(Builtin.Str.occurrences j i 0 j.length 1).isEmpty))) H) := by
  intro pins s σ H x y v u Q I rx ry h
  obtain ⟨i, j, rfl, rfl, q⟩ := h
  obtain ⟨t, rfl⟩ := rx
  obtain ⟨t', rfl⟩ := ry
  exact notIn_str (fin_bl I q rfl)
/-- two rules for one operation: by cases -/
theorem OpR.or {f : Value → Value → Sem Value} {r r' : R2} (h : OpR X f r) (h' : OpR X f r') : OpR X f (fun x y H Q => r x y H Q ∨ r' x y H Q) := by
  intro pins s σ H x y v u Q I rx ry q
  rcases q with q | q
  · exact h pins s σ H x y v u Q I rx ry q
  · exact h' pins s σ H x y v u Q I rx ry q

theorem nomark (b : Expr) {op : CmpOp} (h : op ≠ .In := by decide) (h2 : op ≠ .NotIn := by decide) : behindInMarks op b = false := by
  have e1 : (op == CmpOp.In) = false := by cases op <;> first | rfl | exact absurd rfl h
  have e2 : (op == CmpOp.NotIn) = false := by cases op <;> first | rfl | exact absurd rfl h2
  cases b <;> simp [behindInMarks, e1, e2]
/-- a comparison as a value; hm: nomark b, or (for in, not in) by with_unfolding_all rfl -/
theorem pe_cmpR {op : CmpOp} {r : R2} (ho : OpR X (compareOp op) r) (ha : PE X a ta) (hb : PE X b tb) (hm : behindInMarks op b = false) : PE X (.Compare a [op] [b] pos) (tOp r ta tb) := by
  intro pins s σ H Q I h
  exact wpAny_Compare1 (binT ha hb I h fun v u s2 x y H2 I2 rx ry q => ho pins s2 σ H2 x y v u Q I2 rx ry q) hm
/-- a reading of a value as a test -/
def tTest (t : TE) : TT := fun σ H Q => t σ H fun x H' => ∃ k, x = .bl k ∧ Q k H'
theorem pt_cmpR {op : CmpOp} {r : R2} (ho : OpR X (compareOp op) r) (ha : PE X a ta) (hb : PE X b tb) (hm : behindInMarks op b = false) : PT X (.Compare a [op] [b] pos) (tTest (tOp r ta tb)) := by
  intro pins s σ H Q I h
  refine wpAny_isTrue_Compare1 (thn (ha pins s σ H _ I h) fun v s1 ⟨x, H1, I1, r1, q1⟩ => thn (hb pins s1 σ H1 _ I1 q1) fun u s2 ⟨y, H2, I2, r2, q2⟩ =>
    thn (ho pins s2 σ H2 x y v u _ I2 r1 r2 q2) fun c s3 ⟨z, H3, I3, r3, k, e, q3⟩ => ?_) hm
  subst e
  cases r3
  exact wpAny_truthy_bool ⟨H3, I3, q3⟩
/-- a op1 b op2 c -/
def tChain (r r' : R2) (ta tb tc : TE) : TE := fun σ H Q => ta σ H fun x H1 => tb σ H1 fun y H2 => r x y H2 fun z H3 => ∃ k, z = .bl k ∧
  (if k = true then tc σ H3 fun w' H4 => r' y w' H4 Q else Q (.bl false) H3)
/-! ### truth -/
theorem line63 : (sizeLine : Nat) < 2 ^ 63 := by rw [sizeLine_eq]; decide
/-! ### strs and bytes -/
theorem op_add_str : OpR X (binaryOp .Add) (fun x y H Q => ∃ i j, x = .str i ∧ y = .str j ∧ i.length + j.length ≤ sizeLine ∧ Q (.str (i ++ j)) H) := by
  intro pins s σ H x y v u Q I rx ry h
  obtain ⟨i, j, rfl, rfl, hz, q⟩ := h
  obtain ⟨t, rfl⟩ := rx
  obtain ⟨t', rfl⟩ := ry
  exact add_str (fun t' tk => ⟨.str (i ++ j), H, I.tok _, ⟨_, rfl⟩, q⟩) hz
/-! ### scalar builtins, by CallR -/
theorem vals1 {x : V} {us : List Value} (r : Vals [x] us) : ∃ u, us = [u] ∧ RelV x u := by
  cases r with
  | cons r1 r2 => cases r2; exact ⟨_, rfl, r1⟩
end
end L2

namespace L2
open PySem PySem.Spec PyProof.Rows

/-! ### an instance, its attributes a map -/
structure ObjM (h : Heap) (x dx C : Addr) (mA : Str → Option Value) : Prop where
  obj : h.get? x = some (PySem.W.instObj C dx)
  ns : h.Ns1 dx mA
  ne : dx ≠ x

theorem lookIn_ns {h : Heap} {dx : Addr} {mA : Str → Option Value} (n : h.Ns1 dx mA) : ∃ od, h.get? dx = some od ∧ ∀ name, PySem.W.lookIn name od = some (mA name) := by
  obtain ⟨o, es, ep, ho, hd, hk, _, hm⟩ := n
  refine ⟨o, ho, fun name => ?_⟩
  have e := hm name
  unfold nsFind findBy at e
  rw [← Array.find?_toList] at e
  unfold PySem.W.lookIn
  rw [hd]
  dsimp only
  split
  · rename_i y q
    rw [q] at e
    exact congrArg some e
  · rename_i q
    rw [q] at e
    have a : es.toList.any (·.refKey) = false := by
      rw [List.any_eq_false]
      intro y hy
      obtain ⟨z, t, hkey⟩ := hk y (Array.mem_toList_iff.mp hy)
      simp [DictEntry.refKey, hkey]
    have a' : ¬ es.toList.any (·.refKey) = true := by rw [a]; exact Bool.false_ne_true
    rw [if_neg a']
    exact congrArg some e

theorem ObjM.look {h : Heap} {x dx C : Addr} {mA : Str → Option Value} (I : ObjM h x dx C mA) : ∃ od, PySem.W.InstAt h x (PySem.W.instObj C dx) C (some od) ∧ ∀ name, PySem.W.lookIn name od = some (mA name) :=
  let ⟨od, ho, hl⟩ := lookIn_ns I.ns
  ⟨od, ⟨I.obj, rfl, rfl, ho⟩, hl⟩

section
variable {prog : Program} {w : World} {A : Around} {E : Value → Shared → Prop} {s : Shared} {K : PySem.W.Frag} {x dx C f : Addr} {mA : Str → Option Value} {name : Str} {v : Value}

end

/-! ### the attributes as a list of pairs -/
theorem RelO.some_of {v : V} {o : Option Value} (r : RelO (some v) o) : ∃ u, o = some u ∧ RelV v u := by
  cases o with
  | none => exact (show False from r).elim
  | some u => exact ⟨u, rfl, r⟩
theorem handed_of {v : V} {u : Value} (r : RelV v u) : PySem.W.handedIn u = true := by
  cases v with
  | non => cases (show u = Value.none from r); rfl
  | bl b => cases (show u = Value.bool b from r); rfl
  | int i => obtain ⟨t, e⟩ := (show ∃ t, u = Value.int i t from r); cases e; rfl
  | str x => obtain ⟨t, e⟩ := (show ∃ t, u = Value.str x t from r); cases e; rfl
  | byt b => obtain ⟨t, e⟩ := (show ∃ t, u = Value.bytes b t from r); cases e; rfl
  | flt b => obtain ⟨t, e⟩ := (show ∃ t, u = Value.float b t from r); cases e; rfl
  | ref a => cases (show u = Value.ref a from r); rfl
  | ty n => cases (show u = Value.type n from r); rfl

section
variable {P : Program} {w : World} {H H' : Hp} {h h' : Heap} {a C dx : Addr} {fs fs' : List (Str × V)}
theorem ins_get (hok : HOk P w H h) (e : H a = some (.ins C dx fs)) : ∃ mA, ObjM h a dx C mA ∧ (∀ f, RelO (fs.lookup f) (mA f)) ∧ PySem.Within mA (fs.map (·.1)) ∧ fs.length ≤ 1000 ∧ H dx = some (.own a) := by
  obtain ⟨d, z, ne, ob, mA, n, r, q⟩ := (show ObjOk P w H h a (.ins C dx fs) from hok a _ e)
  exact ⟨mA, ⟨ob, n, ne⟩, r, q, z, d⟩
end

/-! ### what of the text a class must have -/
structure Cls (K : PySem.W.Frag) (C : Addr) : Prop where
  pg : PySem.W.plainGet K C Str.empty = true
  hd : PySem.W.hasDictIn K C = true
  po : PySem.W.plainOver K C = true
  sa : PySem.W.findIn K (.ref C) "__setattr__" = some (some (.builtin "object.__setattr__"))
theorem Cls.get {K : PySem.W.Frag} {C : Addr} (c : Cls K C) (f : Str) : PySem.W.plainGet K C f = true := c.pg
/-- no class of it has the name -/
def NoAttr (K : PySem.W.Frag) (C : Addr) (f : Str) : Prop := PySem.W.findIn K (.ref C) f = some none
/-- a constant of the class -/
structure Con (K : PySem.W.Frag) (C : Addr) (f : Str) (v : V) (u : Value) : Prop where
  at_ : PySem.W.findIn K (.ref C) f = some (some u)
  rel : RelV v u
  get : PySem.W.specialIn K u "__get__" = some none
  cp : PySem.W.copiedNames.contains f = false
/-- a method: a plain def of the class or of one above it -/
structure Meth (K : PySem.W.Frag) (C : Addr) (m : Str) (f : Addr) : Prop where
  at_ : PySem.W.findIn K (.ref C) m = some (some (.ref f))
  fn : PySem.W.isFn K (.ref f) = true
  kp : PySem.W.keepIn K (.ref f) = true

section
variable {X : Cx} {pins : List (Addr × Obj)} {σ : St} {H : Hp} {s : Shared} {a C dx : Addr} {fs : List (Str × V)} {f : Str} {v : V} {A : Around} {E : Value → Shared → Prop}

/-- a new instance, tracked, without attributes -/
theorem Inv.made (I : Inv X pins σ H s) : Inv X pins σ (upd (upd H s.heap.objs.size (.own (s.heap.objs.size + 1))) (s.heap.objs.size + 1) (.ins C s.heap.objs.size []))
    { s with heap := (s.heap.push PySem.W.emptyDict).push (PySem.W.instObj C s.heap.objs.size) } := by
  have e1 : (s.heap.push PySem.W.emptyDict).get? s.heap.objs.size = some PySem.W.emptyDict := Heap.get?_push_size s.heap rfl
  have e2 : ((s.heap.push PySem.W.emptyDict).push (PySem.W.instObj C s.heap.objs.size)).get? (s.heap.objs.size + 1) = some (PySem.W.instObj C s.heap.objs.size) := by
    have := Heap.get?_push_size (s.heap.push PySem.W.emptyDict) (o := PySem.W.instObj C s.heap.objs.size) rfl
    rwa [Heap.size_push] at this
  have e3 : (s.heap.push PySem.W.emptyDict).Ns s.heap.objs.size (fun _ => none) := ⟨PySem.W.emptyDict, #[], _, e1, rfl, (fun e he => absurd he (by simp)), fun _ => rfl⟩
  have I1 := I.laid (a := s.heap.objs.size) (o := .own (s.heap.objs.size + 1)) (h' := s.heap.push PySem.W.emptyDict) (t' := s.toks) (fun b u q => Heap.get?_push_of_some _ q) (Nat.le_refl _) ⟨_, e1⟩
  refine I1.laid (a := s.heap.objs.size + 1) (o := .ins C s.heap.objs.size []) (t' := s.toks) (fun b u q => Heap.get?_push_of_some _ q) (Nat.le_of_eq (Heap.size_push _ _)) ?_
  have ne : s.heap.objs.size ≠ s.heap.objs.size + 1 := Nat.ne_of_lt (Nat.lt_succ_self _)
  refine ⟨by rw [upd_ne ne, upd_same], Nat.zero_le _, ne, e2, fun _ => none, (Heap.Ns1.of_empty e3).at fun o q => Heap.get?_push_of_some _ q, fun _ => True.intro, fun y hy => absurd rfl hy⟩

/-- e.f where nothing but the object is asked: through attributeBase (super) and the last hold -/
theorem attr_of {prog : Program} {w : World} {env : Env} {e : Expr} {f : Str} {pos : Pos} {s : Shared} {Q : Value → Shared → Prop} (hb : attributeBase e f env (eval e env) = eval e env)
    (h : wpAny (model prog w) A (eval e env) (fun o s₁ => wpAny (model prog w) A (getAttr o f true) Q E s₁) E s) : wpAny (model prog w) A (eval (.Attribute e f pos) env) Q E s :=
  Attribute_any_ h (by rw [arm_eval_Attribute, hb])
end

/-! ### readings and rules -/
section
variable {X : Cx} {o e value : Expr} {f : Str} {pos pos' tpos : Pos} {ta tv : TE}
end

/-! ### isinstance -/
section
variable {X : Cx} {pins : List (Addr × Obj)} {σ : St} {H : Hp} {s : Shared} {A : Around} {E : Value → Shared → Prop} {Q : Value → Shared → Prop} {c : Value} {b : Bool}
/-- the type of a value, as the fragment's deciders take it; for an instance its class -/
inductive TyOf (K : PySem.W.Frag) (H : Hp) : V → Value → Prop where
  | non : TyOf K H .non (.type "NoneType")
  | bl (x : Bool) : TyOf K H (.bl x) (.type "bool")
  | int (i : Int) : TyOf K H (.int i) (.type "int")
  | str (x : Str) : TyOf K H (.str x) (.type "str")
  | flt (x : UInt64) : TyOf K H (.flt x) (.type "float")
  | lst {a : Addr} {xs : List V} (e : H a = some (.lst xs)) : TyOf K H (.ref a) (.type "list")
  | frz {a : Addr} {o : Obj} {xs : List V} (e : H a = some (.frz o (.lst xs))) : TyOf K H (.ref a) (.type "list")
  | tup {a : Addr} {xs : List V} (e : H a = some (.tup xs)) : TyOf K H (.ref a) (.type "tuple")
  | dK {a : Addr} {kvs : List (Key × V)} (e : H a = some (.dK kvs)) : TyOf K H (.ref a) (.type "dict")
  | dT {a : Addr} {kvs : List (List Key × V)} (e : H a = some (.dT kvs)) : TyOf K H (.ref a) (.type "dict")
  | ins {a C dx : Addr} {fs : List (Str × V)} (e : H a = some (.ins C dx fs)) (cl : Cls K C) (ha : PySem.W.findIn K (.ref C) "__class__" = some (some (.builtin "object.__class__")))
      (hn : PySem.W.specialIn K (.builtin "object.__class__") "__get__" = some (some (.builtin "getset_descriptor.__get__"))) (htk : PySem.W.takesIn K (.builtin "object.__class__") = some true)
      (hm : PySem.W.mroIn K C (.type "object") = some true) : TyOf K H (.ref a) (.ref C)
/-- isinstance(x, c) for one class c, a built-in or an own one: kitOne's answer -/
theorem isinst_ok {x : V} {u t : Value} (I : Inv X pins σ H s) (rx : RelV x u) (ty : TyOf X.K H x t) (e : PySem.W.kitOne X.K t c = some b) (h : ∀ tk, Q (.bool b) { s with toks := tk }) :
    wpAny (model X.prog X.w) A (call (.builtin "isinstance") [u, c]) Q E s := by
  cases ty with
  | non => cases (show u = Value.none from rx); exact PySem.W.kia_one PySem.W.kitx_none I.kIn True.intro e (fun z => nomatch z) h
  | bl y => cases (show u = Value.bool y from rx); exact PySem.W.kia_one PySem.W.kitx_bool I.kIn True.intro e (fun z => nomatch z) h
  | int i => obtain ⟨t, q⟩ := (show ∃ t, u = Value.int i t from rx); cases q; exact PySem.W.kia_one PySem.W.kitx_int I.kIn True.intro e (fun z => nomatch z) h
  | str y => obtain ⟨t, q⟩ := (show ∃ t, u = Value.str y t from rx); cases q; exact PySem.W.kia_one PySem.W.kitx_str I.kIn True.intro e (fun z => nomatch z) h
  | flt y => obtain ⟨t, q⟩ := (show ∃ t, u = Value.float y t from rx); cases q; exact PySem.W.kia_one PySem.W.kitx_float I.kIn True.intro e (fun z => nomatch z) h
  | @lst a xs ea =>
    cases (show u = Value.ref a from rx)
    obtain ⟨_, _, n, _, h1⟩ := (show ObjOk X.prog X.w H s.heap a (.lst xs) from I.hok a _ ea)
    exact PySem.W.kia_one PySem.W.kitx_list I.kIn ⟨_, h1, rfl⟩ e (fun z => nomatch z) h
  | @frz a ob xs ea =>
    cases (show u = Value.ref a from rx)
    obtain ⟨_, _, _, n, _, h1⟩ := (show ObjOk X.prog X.w H s.heap a (.frz ob (.lst xs)) from I.hok a _ ea)
    exact PySem.W.kia_one PySem.W.kitx_list I.kIn ⟨_, h1, rfl⟩ e (fun z => nomatch z) h
  | @tup a xs ea =>
    cases (show u = Value.ref a from rx)
    obtain ⟨_, _, _, p⟩ := (show ObjOk X.prog X.w H s.heap a (.tup xs) from I.hok a _ ea)
    obtain ⟨o, h1, h2, _⟩ := p
    exact PySem.W.kia_one PySem.W.kitx_tuple I.kIn ⟨o, h1, h2⟩ e (fun z => nomatch z) h
  | @dK a kvs ea =>
    cases (show u = Value.ref a from rx)
    obtain ⟨_, _, vs, _, p⟩ := (show ObjOk X.prog X.w H s.heap a (.dK kvs) from I.hok a _ ea)
    obtain ⟨o, es, ep, h1, h2, _⟩ := p
    exact PySem.W.kia_one PySem.W.kitx_dict I.kIn ⟨o, h1, h2.1⟩ e (fun z => nomatch z) h
  | @dT a kvs ea =>
    cases (show u = Value.ref a from rx)
    obtain ⟨_, _, xs, _, o, es, ep, h1, h2, _⟩ := (show ObjOk X.prog X.w H s.heap a (.dT kvs) from I.hok a _ ea)
    exact PySem.W.kia_one PySem.W.kitx_dict I.kIn ⟨o, h1, h2.1⟩ e (fun z => nomatch z) h
  | @ins a C dx fs ea cl ha hn htk hm =>
    cases (show u = Value.ref a from rx)
    obtain ⟨mA, O, _⟩ := ins_get I.hok ea
    obtain ⟨od, J, _⟩ := O.look
    exact PySem.W.kia_one (PySem.W.kitx_own (cl.get _) cl.hd ha hn htk hm) I.kIn J e (fun z => nomatch z) h
end
end L2

namespace L2
open PySem PySem.Spec PyProof.Rows

/-! ### room -/
structure Room (k : Nat) (A : Around) : Prop where
  hd : A.handled = none
  dp : A.depth + 3 * k + 5 < recursionLimit
  un : A.units + 16 * k + 200 < cLine
theorem Room.mono {j k : Nat} {A : Around} (r : Room k A) (h : j ≤ k) : Room j A := ⟨r.hd, by have := r.dp; omega, by have := r.un; omega⟩
theorem Room.deeper {k : Nat} {A : Around} (r : Room (k + 1) A) (env : Env) : Room k (A.deeper env) :=
  ⟨r.hd, by have := r.dp; show A.depth + 1 + 3 * k + 5 < _; omega, by have := r.un; show A.units + 3 + 16 * k + 200 < _; omega⟩
theorem Room.in1 {k : Nat} {A : Around} (r : Room (k + 1) A) : Room k A.in1 :=
  ⟨r.hd, by have := r.dp; show A.depth + 3 * k + 5 < _; omega, by have := r.un; show A.units + 1 + 16 * k + 200 < _; omega⟩
theorem make_depth {A : Around} {C : Addr} {us : List Value} {kw : List (Str × Value)} : (A.under (.builtin "type.__call__" ⟨.ref C :: us, kw⟩)).depth = A.depth + 1 := by
  first | rfl | simp [Around.under, Code.weight, Code.isCreation, Code.isGuard, Code.isCaller, Code.frames, Code.isFrame, guardIds]
theorem make_units {A : Around} {C : Addr} {us : List Value} {kw : List (Str × Value)} : (A.under (.builtin "type.__call__" ⟨.ref C :: us, kw⟩)).units = A.units + 1 := by
  first | rfl | simp [Around.under, Code.cUnits, Code.frames, Code.isFrame]
theorem Room.make {k : Nat} {A : Around} (r : Room (k + 1) A) (C : Addr) (us : List Value) (kw : List (Str × Value)) : Room k (A.under (.builtin "type.__call__" ⟨.ref C :: us, kw⟩)) :=
  ⟨r.hd, by have := r.dp; rw [make_depth]; omega, by have := r.un; rw [make_units]; omega⟩
theorem Room.depth {k : Nat} {A : Around} (r : Room k A) : A.depth < recursionLimit := by have := r.dp; omega
theorem Room.units {k : Nat} {A : Around} (r : Room k A) : A.units + 64 < cLine := by have := r.un; omega
/-! ### argument lists and displays -/
def tNil : TA := fun _ H Q => Q [] H
def tCons (ta : TE) (tr : TA) : TA := fun σ H Q => ta σ H fun x H1 => tr σ H1 fun xs H2 => Q (x :: xs) H2
section
variable {X : Cx} {e : Expr} {es : List Expr} {te : TE} {t : TA} {pos : Pos}
theorem pa_nil : PA X [] tNil := fun _ _ _ _ H Q I h => Calls.spliced_nil ⟨[], H, I, .nil, h⟩
theorem pa_cons (ha : PE X e te) (hr : PA X es t) (hs : starEach (e :: es) X.env = (false, eval e X.env) :: starEach es X.env := by rfl) : PA X (e :: es) (tCons te t) := by
  intro pos pins s σ H Q I h
  rw [hs]
  show wpAny _ _ (spliced ((false, eval e X.env) :: backTo pos (starEach es X.env))) _ _ s
  refine Calls.spliced_cons (thn (ha pins s σ H _ I h) fun u s1 ⟨x, H1, I1, r1, q1⟩ => ?_)
  exact thn (hr pos pins s1 σ H1 _ I1 q1) fun us s2 ⟨xs, H2, I2, r2, q2⟩ => ⟨x :: xs, H2, I2, .cons r1 r2, q2⟩

/-- a tuple, a list of written items -/
def tTup (t : TA) : TE := fun σ H Q => t σ H fun xs H1 => xs.length ≤ sizeLine ∧ ∀ p, H1 p = none → Q (.ref p) (upd H1 p (.tup xs))
def tLst (t : TA) : TE := fun σ H Q => t σ H fun xs H1 => xs.length ≤ sizeLine ∧ ∀ p, H1 p = none → Q (.ref p) (upd H1 p (.lst xs))
theorem pe_tup {x1} (h : PA X es t) : PE X (.Tuple es x1 pos) (tTup t) := by
  intro pins s σ H Q I hq
  refine wpAny_Tuple_spliced (thn (h pos pins s σ H _ I hq) fun us s1 ⟨xs, H1, I1, r, z, q⟩ => ⟨by rw [← r.length]; exact z, ?_⟩)
  have hf : H1 s1.heap.objs.size = none := I1.hok.fresh (Nat.le_refl _)
  refine ⟨.ref s1.heap.objs.size, upd H1 s1.heap.objs.size (.tup xs), I1.laid (t' := s1.toks) (fun b u e => Heap.get?_push_of_some _ e) (Nat.le_refl _) ?_, rfl, q _ hf⟩
  exact ⟨z, us, r, ⟨_, Heap.get?_push_size _ rfl, rfl, _, rfl⟩⟩
theorem pe_lst (h : PA X es t) : PE X (.List es pos) (tLst t) := by
  intro pins s σ H Q I hq
  refine wpAny_List_spliced (thn (h pos pins s σ H _ I hq) fun us s1 ⟨xs, H1, I1, r, z, q⟩ => ⟨by rw [← r.length]; exact z, ?_⟩)
  have hf : H1 s1.heap.objs.size = none := I1.hok.fresh (Nat.le_refl _)
  refine ⟨.ref s1.heap.objs.size, upd H1 s1.heap.objs.size (.lst xs), I1.laid (t' := s1.toks) (fun b u e => Heap.get?_push_of_some _ e) (Nat.le_refl _) ?_, rfl, q _ hf⟩
  exact ⟨z, us, 0, r, Heap.get?_push_size _ rfl⟩
end

/-! ### what a def promises -/
/-- a def's promise: the bound arguments in the parameters' order, the heap, the wanted end, the wanted exception -/
abbrev Sp := List V → Hp → VK → XK → Prop
/-- how an exception lies behind a call (file 08 gives it): the callers' frames, abstract heap and state ahead of the call, the wish, the exception, the state -/
abbrev CXT := List Env → Hp → Shared → XK → Value → Shared → Prop

/-- the state at a call -/
structure Env0 (P : Program) (w : World) (K : PySem.W.Frag) (mg : Str → Option Value) (base : Heap) (A : Around) (outer : List Env) (s : Shared) (H : Hp) : Prop where
  frames : A.frames = some outer
  mod : Mod K mg base
  bs : ∀ b o, base.get? b = some o → s.heap.get? b = some o ∧ H b = none
  bsz : base.objs.size ≤ s.heap.objs.size
  funs : s.heap.FunFrames base outer
  frf : ∀ b ∈ frs outer, H b = none
  hok : HOk P w H s.heap
  bare : AllBare s.gens
/-- a call's end -/
def CE (outer : List Env) (P : Program) (w : World) (H : Hp) (s : Shared) (Q : VK) (u : Value) (s' : Shared) : Prop :=
  ∃ v H', s'.os = s.os ∧ AllBare s'.gens ∧ Un (frs outer) [] H H' s.heap s'.heap ∧ HOk P w H' s'.heap ∧ RelV v u ∧ Q v H'
def CR (CX : CXT) (outer : List Env) (P : Program) (w : World) (H : Hp) (s : Shared) (Q : VK) (E : XK) (r : Result) (s' : Shared) : Prop :=
  match r with
  | .ok (.ret u) => CE outer P w H s Q u s'
  | .ok _ => False
  | .error e => CX outer H s E e s'
structure FnOk (P : Program) (w : World) (K : PySem.W.Frag) (mg : Str → Option Value) (base : Heap) (CX : CXT) (k : Nat) (f : Addr) (fd : FuncData) (ps : List Str) (sp : Sp) : Prop where
  len : ∀ vs H Q E, sp vs H Q E → vs.length = ps.length
  run : ∀ (A : Around) (outer : List Env) (s : Shared) (H : Hp) (args : Args) (us : List Value) (vs : List V) (Q : VK) (E : XK), Room k A → Env0 P w K mg base A outer s H → BindsTo s fd args (ps.zip us) → Vals vs us → sp vs H Q E →
    codeAny (model P w) A (.call (.ref f) args) (CR CX outer P w H s Q E) s
theorem FnOk.mono {P : Program} {w : World} {K : PySem.W.Frag} {mg : Str → Option Value} {base : Heap} {CX : CXT} {j k : Nat} {f : Addr} {fd : FuncData} {ps : List Str} {sp : Sp} (F : FnOk P w K mg base CX j f fd ps sp) (h : j ≤ k) :
    FnOk P w K mg base CX k f fd ps sp := ⟨F.len, fun A outer s H args us vs Q E hr => F.run A outer s H args us vs Q E (hr.mono h)⟩
theorem Env0.make {P : Program} {w : World} {K : PySem.W.Frag} {mg : Str → Option Value} {base : Heap} {A : Around} {outer : List Env} {s : Shared} {H : Hp} (e : Env0 P w K mg base A outer s H) (C : Addr) (us : List Value) (kw : List (Str × Value)) :
    Env0 P w K mg base (A.under (.builtin "type.__call__" ⟨.ref C :: us, kw⟩)) outer s H := ⟨by first | exact e.frames | (simpa [Around.under, Code.envs, Code.isFrame, pushEnvs] using e.frames), e.mod, e.bs, e.bsz, e.funs, e.frf, e.hok, e.bare⟩
theorem Env0.in1 {P : Program} {w : World} {K : PySem.W.Frag} {mg : Str → Option Value} {base : Heap} {A : Around} {outer : List Env} {s : Shared} {H : Hp} (e : Env0 P w K mg base A outer s H) :
    Env0 P w K mg base A.in1 outer s H := ⟨e.frames, e.mod, e.bs, e.bsz, e.funs, e.frf, e.hok, e.bare⟩

section
variable {X : Cx} {pins : List (Addr × Obj)} {σ : St} {H : Hp} {s s' : Shared}
/-- from a body: what a callee wants -/
theorem Inv.env0 (I : Inv X pins σ H s) : Env0 X.prog X.w X.K X.mg X.base X.A X.stack s H :=
  ⟨I.ok.frames, I.ok.mod, I.bs, Nat.le_trans I.ok.bsz I.sz, I.stack, I.stkFree, I.hok, I.bare⟩
/-- behind a call -/
theorem Inv.after {Q : VK} {u : Value} (I : Inv X pins σ H s) (h : CE X.stack X.prog X.w H s Q u s') : EP X pins σ Q u s' := by
  obtain ⟨v, H', os, bare, un, hok, r, q⟩ := h
  obtain ⟨hh, g, d, t, os'⟩ := s'
  obtain rfl : os' = s.os := os
  exact ⟨v, H', I.call (h' := hh) (g' := g) (d' := d) (t' := t) (ch := []) un hok bare (fun b z => absurd z (by simp)), r, q⟩
end

/-! ### calls -/
/-- f(..): the written arguments, then the defaults dvs; E: what is wanted of an exception -/
def tCall (sp : Sp) (dvs : List V) (E : XK) (t : TA) : TE := fun σ H Q => t σ H fun vs H1 => sp (vs ++ dvs) H1 Q E
/-- how the parameters are bound: us the positional arguments, kw the keywords' values by name, ds the defaults that fill up -/
def Binds (K : PySem.W.Frag) (fd : FuncData) (ps : List Str) (ds : List Value) : Prop :=
  ∀ (s : Shared) (us : List Value), K.In s.heap → (us ++ ds).length = ps.length → BindsTo s fd ⟨us, []⟩ (ps.zip (us ++ ds))
/-- every parameter is given -/
theorem Binds.all {K : PySem.W.Frag} {fd : FuncData} {ps : List Str} (h : ∀ us : List Value, us.length = ps.length → bindArgs fd ⟨us, []⟩ = pure (ps.zip us)) : Binds K fd ps [] := fun s us _ hl => by
  rw [List.append_nil] at hl ⊢
  exact .of_eq (h us hl)

/-- an exception of a callee reaches what this body wants of exceptions -/
def Passes (CX : CXT) (X : Cx) (E : XK) : Prop := ∀ (pins : List (Addr × Obj)) (σ : St) (H : Hp) (s : Shared) (e : Value) (s' : Shared), Inv X pins σ H s → CX X.stack H s E e s' → X.xe e s'

section
variable {X : Cx} {CX : CXT} {k : Nat} {f C : Addr} {fd : FuncData} {ps : List Str} {sp : Sp} {dvs : List V} {ds : List Value} {E : XK} {x m : Str} {p pos apos : Pos} {e o : Expr} {es : List Expr} {ta : TE} {t : TA}

/-- the callee runs -/
theorem run_fn {pins : List (Addr × Obj)} {σ : St} {H : Hp} {s : Shared} {Q : VK} {us : List Value} {vs : List V} (F : FnOk X.prog X.w X.K X.mg X.base CX k f fd ps sp) (hr : Room k X.A) (hb : Binds X.K fd ps ds) (hd : Vals dvs ds) (hx : Passes CX X E)
    (I : Inv X pins σ H s) (r : Vals vs us) (h : sp (vs ++ dvs) H Q E) : wpAny (model X.prog X.w) X.A (call (.ref f) us) (EP X pins σ Q) X.xe s := by
  have r2 : Vals (vs ++ dvs) (us ++ ds) := r.append hd
  have hl : (us ++ ds).length = ps.length := by rw [← r2.length]; exact F.len _ _ _ _ h
  refine wpAny_call (codeAny_mono (F.run X.A X.stack s H ⟨us, []⟩ (us ++ ds) (vs ++ dvs) Q E hr I.env0 (hb s us I.kIn hl) r2 h) fun r s' hq => ?_)
  cases r with
  | error e => exact hx pins σ H s e s' I hq
  | ok fl =>
    cases fl with
    | ret u => exact I.after hq
    | next => exact False.elim hq
    | brk => exact False.elim hq
    | cont => exact False.elim hq

theorem pe_call (F : FnOk X.prog X.w X.K X.mg X.base CX k f fd ps sp) (hr : Room k X.A) (hg : Gl X x) (hm : X.mg x = some (.ref f)) (hk : PySem.W.keepIn X.K (.ref f) = true) (hb : Binds X.K fd ps ds) (hd : Vals dvs ds) (hx : Passes CX X E)
    (ha : PA X (e :: es) t) (hdb : (x == ("__debug__" : Str)) = false := by decide) (he : starEach (e :: es) X.env = (false, eval e X.env) :: starEach es X.env := by rfl) (hpl : (backTo pos (starEach es X.env)).any (·.1) = false := by rfl) :
    PE X (.Call (.Name x p) (e :: es) [] pos) (tCall sp dvs E t) := by
  intro pins s σ H Q I h
  refine wpAny_Call_Name_kw (ld_glob I hg hm ?_ hdb)
  refine PySem.W.callWith_K (h₀ := X.base) I.ok.mod.kin hk (thn (ha pos pins s σ H _ I h) fun us s1 ⟨vs, H1, I1, r, q⟩ => ⟨I1.kIn, ?_⟩) he hpl
  exact run_fn F hr hb hd hx I1 r q
/-- what a class must have to be made -/
structure Mk (K : PySem.W.Frag) (C f : Addr) : Prop where
  makes : PySem.W.makesIn K C = true
  init : PySem.W.findIn K (.ref C) "__init__" = some (some (.ref f))
  fn : PySem.W.isFn K (.ref f) = true
  kp : PySem.W.keepIn K (.ref C) = true

end

/-! ### keywords -/
section
variable {X : Cx} {CX : CXT} {k : Nat} {f C : Addr} {fd : FuncData} {ps ks : List Str} {sp : Sp} {E : XK} {x m : Str} {p pos apos kpos : Pos} {e o : Expr} {es : List Expr} {kws : List Keyword} {te ta : TE} {t tk : TA} {nm : Option Str}
/-- how a call with keywords binds: g puts the positional values us and the keywords' values ws (names ks) in the parameters' order, defaults among them -/
structure KBinds (K : PySem.W.Frag) (fd : FuncData) (ps ks : List Str) (g : List Value → List Value → List Value) (gV : List V → List V → List V) : Prop where
  to : ∀ (s : Shared) (us ws : List Value), K.In s.heap → (g us ws).length = ps.length → BindsTo s fd ⟨us, ks.zip ws⟩ (ps.zip (g us ws))
  rel : ∀ {vs : List V} {us : List Value} {zs : List V} {ws : List Value}, Vals vs us → Vals zs ws → Vals (gV vs zs) (g us ws)
variable {g : List Value → List Value → List Value} {gV : List V → List V → List V}
end

/-! ### a def's body keeps its promise -/
/-- names: the parameters first -/
structure FnScope (N P : List Str) (sc : Scope) : Prop where
  kind : sc.kind = .function
  co : sc.isCoroutine = false
  gen : sc.isGenerator = false
  nd : N.Nodup
  pre : N.take P.length = P
  par : ∀ x ∈ P, sc.names.lookup x = some .local ∨ sc.names.lookup x = some .cell
  nofree : ∀ y ∈ sc.names, y.2 ≠ .free

theorem bindL_out {kindOf : Str → Option NameKind} {x : Str} : ∀ {binds : List (Str × Value)} {m : Str → Option Value}, (∀ v, (x, v) ∉ binds) → bindL kindOf binds m x = m x
  | [], _, _ => rfl
  | (n, v) :: r, m, h => by
    unfold bindL
    rw [bindL_out fun w hw => h w (List.mem_cons_of_mem _ hw)]
    split
    · have : x ≠ n := by rintro rfl; exact h v List.mem_cons_self
      simp [this]
    · rfl
theorem bindC_out {kindOf : Str → Option NameKind} {x : Str} : ∀ {binds : List (Str × Value)} {m : Str → Option Value}, (∀ v, (x, v) ∉ binds) → bindC kindOf binds m x = m x
  | [], _, _ => rfl
  | (n, v) :: r, m, h => by
    unfold bindC
    rw [bindC_out fun w hw => h w (List.mem_cons_of_mem _ hw)]
    split
    · rfl
    · have : x ≠ n := by rintro rfl; exact h v List.mem_cons_self
      simp [this]
theorem bindL_get {kindOf : Str → Option NameKind} {x : Str} {v : Value} : ∀ {P : List Str} {vs : List Value} {i : Nat} {m : Str → Option Value}, P.Nodup → P[i]? = some x → vs[i]? = some v → kindOf x = some .local →
    bindL kindOf (P.zip vs) m x = some v
  | [], _, _, _, _, h, _, _ => by simp at h
  | _ :: _, [], _, _, _, _, h, _ => by simp at h
  | p :: P, w :: vs, 0, m, nd, h1, h2, hk => by
    simp at h1 h2; subst h1; subst h2
    show bindL kindOf ((p, w) :: P.zip vs) m p = _
    unfold bindL
    rw [bindL_out fun v hv => (List.nodup_cons.mp nd).1 (List.of_mem_zip hv).1, if_pos hk]
    simp
  | p :: P, w :: vs, i + 1, m, nd, h1, h2, hk => by
    show bindL kindOf ((p, w) :: P.zip vs) m x = _
    unfold bindL
    exact bindL_get (i := i) (List.nodup_cons.mp nd).2 (by simpa using h1) (by simpa using h2) hk
theorem bindC_get {kindOf : Str → Option NameKind} {x : Str} {v : Value} : ∀ {P : List Str} {vs : List Value} {i : Nat} {m : Str → Option Value}, P.Nodup → P[i]? = some x → vs[i]? = some v → kindOf x ≠ some .local →
    bindC kindOf (P.zip vs) m x = some v
  | [], _, _, _, _, h, _, _ => by simp at h
  | _ :: _, [], _, _, _, _, h, _ => by simp at h
  | p :: P, w :: vs, 0, m, nd, h1, h2, hk => by
    simp at h1 h2; subst h1; subst h2
    show bindC kindOf ((p, w) :: P.zip vs) m p = _
    unfold bindC
    rw [bindC_out fun v hv => (List.nodup_cons.mp nd).1 (List.of_mem_zip hv).1, if_neg hk]
    simp
  | p :: P, w :: vs, i + 1, m, nd, h1, h2, hk => by
    show bindC kindOf ((p, w) :: P.zip vs) m x = _
    unfold bindC
    exact bindC_get (i := i) (List.nodup_cons.mp nd).2 (by simpa using h1) (by simpa using h2) hk

/-- the names' values at the entry -/
def start (N : List Str) (vs : List V) : St := vs.map some ++ List.replicate (N.length - vs.length) none

/-- the context of a def's body, at its entry; an exception leaves the frame, then lies as CX says -/
def cxOf (CX : CXT) (P : Program) (w : World) (K : PySem.W.Frag) (mg : Str → Option Value) (base : Heap) (N : List Str) (qual : Str) (scope : Scope) (f : Addr) (cd : Value) (A : Around) (outer : List Env) (s : Shared) (H : Hp) (E : XK) : Cx where
  prog := P
  w := w
  K := K
  mg := mg
  base := base
  A := A.deeper (envOfC qual scope s.heap.objs.size f cd)
  N := N
  s₀ := s
  H₀ := H
  env := envOfC qual scope s.heap.objs.size f cd
  outer := outer
  stack := envOfC qual scope s.heap.objs.size f cd :: outer
  ex := []
  calm := true
  fn := fun _ => true
  pn := []
  xe := fun e s' => wpAny (model P w) (A.deeper (envOfC qual scope s.heap.objs.size f cd)) (leaving (envOfC qual scope s.heap.objs.size f cd) e) (fun _ s'' => CX outer H s E e s'') (fun e' s'' => CX outer H s E e' s'') s'

theorem cell_has {sc : Scope} {n : Nat} {x : Str} (h : sc.names.lookup x = some .cell) : ∃ c, (cellsFrom n sc.names []).lookup x = some c := by
  have q := PySem.W.cellsFrom_some sc.names n [] (.inl h)
  exact Option.isSome_iff_exists.mp q

theorem inv_start {CX : CXT} {P : Program} {w : World} {K : PySem.W.Frag} {mg : Str → Option Value} {base : Heap} {N ps : List Str} {qual : Str} {scope : Scope} {f : Addr} {cd : Value} {A : Around} {outer : List Env} {s s1 : Shared} {H : Hp} {E : XK} {us : List Value} {vs : List V}
    (S : FnScope N ps scope) (hd : A.handled = none) (e0 : Env0 P w K mg base A outer s H) (hl : vs.length = ps.length) (r : Vals vs us)
    (x : InCallC s s.heap.objs.size (bindL (envOfC qual scope s.heap.objs.size f cd).kindOf (ps.zip us) fun _ => none) (cellsFrom (s.heap.objs.size + 1) scope.names []) (bindC (envOfC qual scope s.heap.objs.size f cd).kindOf (ps.zip us) fun _ => none) s1) :
    Inv (cxOf CX P w K mg base N qual scope f cd A outer s H E) [] (start N vs) H s1 := by
  have hpl : ps.length ≤ N.length := by have := congrArg List.length S.pre; rw [List.length_take] at this; omega
  obtain ⟨h1, tk, rfl, hk⟩ := x.done
  have noA : ∀ b : Addr, b ∉ (cxOf CX P w K mg base N qual scope f cd A outer s H E).ex := fun b z => absurd (show b ∈ ([] : List Addr) from z) (by simp)
  refine ⟨⟨e0.mod, S.kind, rfl, rfl, Nat.le_refl _, fun y z c h1 h2 => ?_, fun y hy => ?_, fun y c _ h => ?_, fun _ => hd, Around.frames_deeper e0.frames, .inr ⟨rfl, rfl⟩, fun b z => absurd z (noA b), e0.bs, e0.bsz, fun b _ _ => noA b, fun b z => absurd z (noA b), e0.funs, e0.frf⟩,
    rfl, e0.bare, Un.kept hk, ⟨_, x.toInCall.ns, fun i y v h1 h2 h3 => ?_⟩, fun y c h => ⟨_, x.cell y c h⟩, e0.hok.fresh (Nat.le_refl _), fun y c h => ?_, fun p hp => absurd (show p ∈ ([] : List (Addr × Obj)) from hp) (by simp), e0.hok.kept hk, ?_⟩
  · exact name_of_addr x.apart (PySem.mem_of_lookup h1) (PySem.mem_of_lookup h2)
  · have hy : scope.names.lookup y = some .cell ∨ scope.names.lookup y = some .free := hy
    rcases hy with hy | hy
    · exact cell_has hy
    · exact absurd rfl (S.nofree _ (PySem.mem_of_lookup hy))
  · exact Nat.le_of_lt (x.above y c (PySem.mem_of_lookup h))
  · have hi : i < vs.length := by
      unfold start at h2
      by_cases hi : i < vs.length
      · exact hi
      · rw [List.getElem?_append_right (by simpa using hi)] at h2
        rw [List.getElem?_replicate] at h2
        split at h2 <;> cases h2
    have ha : vs[i]? = some v := by
      unfold start at h2
      rw [List.getElem?_append_left (by simpa using hi), List.getElem?_map] at h2
      cases e : vs[i]? with
      | none => rw [e] at h2; cases h2
      | some a => rw [e] at h2; cases h2; rfl
    obtain ⟨u, hu, rv⟩ := r.get ha
    have hp : ps[i]? = some y := by
      rw [← S.pre, List.getElem?_take_of_lt (by omega)]; exact h1
    have ndP : ps.Nodup := by rw [← S.pre]; exact S.nd.sublist (List.take_sublist _ _)
    refine ⟨u, rv, ?_⟩
    rcases S.par y (List.mem_of_getElem? hp) with k | k
    · exact .inl ⟨k, bindL_get ndP hp hu k⟩
    · obtain ⟨c, e⟩ := cell_has (n := s.heap.objs.size + 1) k
      refine .inr ⟨.inl k, c, e, ?_⟩
      have q := x.cell y c e
      rw [bindC_get ndP hp hu (by show scope.names.lookup y ≠ _; rw [k]; decide)] at q
      exact q
  · exact e0.hok.fresh (Nat.le_of_lt (x.above y c (PySem.mem_of_lookup h)))
  · unfold start
    show _ = N.length
    rw [List.length_append, List.length_map, List.length_replicate]
    omega

/-- THE RULE: a def (or a method) of the text, by its body. The body's reading t is chosen for each entry; it is run at the parameters' values -/
theorem fn_of {CX : CXT} {P : Program} {w : World} {K : PySem.W.Frag} {mg : Str → Option Value} {base : Heap} {k : Nat} {f : Addr} {name qual : Str} {params : Arguments} {body : List Stmt} {scope : Scope} {dV kV doc pm cdv ct oc : Value} {an od : Option Addr}
    {osl : Array (Option Value)} {N ps : List Str} {sp : Sp} (lk : K.lookup f = some ⟨oc, od, .func (PySem.W.fnOf name qual params body scope dV kV doc pm an cdv ct), osl⟩) (hcd : PySem.W.codeIn K cdv qual = true) (S : FnScope N ps scope)
    (len : ∀ vs H Q E, sp vs H Q E → vs.length = ps.length)
    (hbody : ∀ (A : Around) (outer : List Env) (s : Shared) (H : Hp) (vs : List V) (Q : VK) (E : XK), Room k (A.deeper (envOfC qual scope s.heap.objs.size f cdv)) → sp vs H Q E →
      ∃ t, PSs (cxOf CX P w K mg base N qual scope f cdv A outer s H E) body t ∧ t { nx := fun _ H' => Q .non H', rt := Q } (start N vs) H) :
    FnOk P w K mg base CX (k + 1) f (PySem.W.fnOf name qual params body scope dV kV doc pm an cdv ct) ps sp := by
  refine ⟨len, fun A outer s H args us vs Q E hr e0 hb r hsp => ?_⟩
  have hl := len _ _ _ _ hsp
  have KX : K.In s.heap := e0.mod.kin.keeps fun b o e => (e0.bs b o e).1
  have lim : s.heap.NoLimit := e0.mod.nolimit.keeps fun b o e => (e0.bs b o e).1
  have hkind : ∀ y ∈ ps.zip us, scope.names.lookup y.1 = some .local ∨ (scope.names.lookup y.1 = some .cell ∧ ((cellsFrom (s.heap.objs.size + 1) scope.names []).lookup y.1).isSome = true) := fun ⟨n, v⟩ hy => by
    rcases S.par n (List.of_mem_zip hy).1 with q | q
    · exact .inl q
    · exact .inr ⟨q, PySem.W.cellsFrom_some _ _ _ (.inl q)⟩
  refine codeAny_call_function hr.depth (KX _ _ lk) rfl S.co S.gen rfl (PySem.W.codeRec_of KX hcd) (hb _ _ _ _ ?_)
  refine wpAny_newFunctionEnv_cells S.kind hkind fun env he s1 x => ?_
  subst he
  refine ⟨lim.keeps x.toInCall.keep, codeAny_func ?_⟩
  obtain ⟨t, ht, hq⟩ := hbody A outer s H vs Q E (hr.deeper _) hsp
  have I : Inv (cxOf CX P w K mg base N qual scope f cdv A outer s H E) [] (start N vs) H s1 := inv_start S hr.hd e0 hl r x
  refine wpAny_mono (ht [] s1 (start N vs) H _ I hq) (fun fl s' hs => ?_) fun e s' hs => hs
  have fin : ∀ {σ' : St} {H' : Hp} {v : V} {u : Value}, Inv (cxOf CX P w K mg base N qual scope f cdv A outer s H E) [] σ' H' s' → RelV v u → Q v H' → CE outer P w H s Q u s' :=
    fun {σ' H' v u} J rv q => ⟨v, H', J.os, J.bare, J.base, J.hok, rv, q⟩
  cases fl with
  | ret u =>
    obtain ⟨v, σ', H', J, rv, q⟩ := hs
    exact fin J rv q
  | next =>
    obtain ⟨σ', H', J, q⟩ := hs
    exact fin (v := V.non) (u := Value.none) J rfl q
  | brk =>
    obtain ⟨_, _, _, q⟩ := hs
    exact False.elim q
  | cont =>
    obtain ⟨_, _, _, q⟩ := hs
    exact False.elim q
end L2

namespace L2
open PySem PySem.Spec PyProof.Rows
section
variable {X : Cx} {x : Str} {p pos : Pos} {e : Expr} {es : List Expr} {t : TA} {id T : String} {r : List V → Hp → VK → Prop}

def tCB (r : List V → Hp → VK → Prop) (t : TA) : TE := fun σ H Q => t σ H fun vs H1 => r vs H1 Q
/-- f(e, ..), f a built-in function -/
theorem pe_callB (hc : CallR X (.builtin id) r) (hg : Gl X x) (hm : X.mg x = none) (hv : bootBuiltins x = some (.builtin id)) (ha : PA X (e :: es) t) (hn : x ≠ "__name__" := by decide) (hdb : (x == ("__debug__" : Str)) = false := by decide)
    (he : starEach (e :: es) X.env = (false, eval e X.env) :: starEach es X.env := by rfl) (hpl : (backTo pos (starEach es X.env)).any (·.1) = false := by rfl) : PE X (.Call (.Name x p) (e :: es) [] pos) (tCB r t) := by
  intro pins s σ H Q I h
  refine wpAny_Call_Name_kw (ld_blt I hg hm hv ?_ hn hdb)
  exact PyProof.Rows.callWith_builtin1 (thn (ha pos pins s σ H _ I h) fun us s1 ⟨vs, H1, I1, r1, q1⟩ => hc pins s1 σ H1 vs us Q I1 r1 q1) he hpl
/-- T(e, ..), T a built-in type -/
theorem pe_callTy (hc : CallR X (.type T) r) (hg : Gl X x) (hm : X.mg x = none) (hv : bootBuiltins x = some (.type T)) (ha : PA X (e :: es) t) (hn : x ≠ "__name__" := by decide) (hdb : (x == ("__debug__" : Str)) = false := by decide)
    (he : starEach (e :: es) X.env = (false, eval e X.env) :: starEach es X.env := by rfl) (hpl : (backTo pos (starEach es X.env)).any (·.1) = false := by rfl) : PE X (.Call (.Name x p) (e :: es) [] pos) (tCB r t) := by
  intro pins s σ H Q I h
  refine wpAny_Call_Name_kw (ld_blt I hg hm hv ?_ hn hdb)
  exact PyProof.Rows.callWith_type1 (thn (ha pos pins s σ H _ I h) fun us s1 ⟨vs, H1, I1, r1, q1⟩ => hc pins s1 σ H1 vs us Q I1 r1 q1) he hpl
end
end L2

namespace HT
open PySem PyProof.Rows

/-- t < u of tuples of ints -/
def lexLt : List Int → List Int → Bool
  | [], [] => false
  | [], _ :: _ => true
  | _ :: _, [] => false
  | x :: xs, y :: ys => if x = y then lexLt xs ys else decide (x < y)
section
open PySem.SeqAt
open PySem.AutoSeq1 (wpAny_loadPart')
open PySem.MeetsSeq PySem.MeetsSeq2 PySem.MeetsSeq3

end

section
variable {prog : Program} {w : World} {A : Around} {E : Value → Shared → Prop} {s : Shared}

/-! ### t[a:b], not the whole -/
/-- a slice's bound as a place among n (d where it is left out) -/
def sIx (n d : Nat) : Option Int → Nat
  | none => d
  | some v => if v < 0 then (v + (n : Int)).toNat else min v.toNat n
theorem sIx_none (n d : Nat) : sIx n d none = d := rfl
theorem sIx_nat (n d k : Nat) : sIx n d (some (k : Int)) = min k n := by
  show (if (k : Int) < 0 then ((k : Int) + (n : Int)).toNat else min (k : Int).toNat n) = min k n
  rw [if_neg (by omega), Int.toNat_natCast]
theorem sIx_le (n d : Nat) (hd : d ≤ n) (o : Option Int) : sIx n d o ≤ n := by
  cases o with
  | none => exact hd
  | some v =>
    show (if v < 0 then (v + (n : Int)).toNat else min v.toNat n) ≤ n
    by_cases hv : v < 0
    · rw [if_pos hv]; omega
    · rw [if_neg hv]; exact Nat.min_le_right _ _
theorem clip_eq (v : Int) (n d : Nat) : (if v < 0 then max (v + (n : Int)) 0 else min v (n : Int)) = ((sIx n d (some v) : Nat) : Int) := by
  show (if v < 0 then max (v + (n : Int)) 0 else min v (n : Int)) = (((if v < 0 then (v + (n : Int)).toNat else min v.toNat n) : Nat) : Int)
  by_cases hv : v < 0
  · simp only [if_pos hv]; omega
  · simp only [if_neg hv]; omega
theorem adjust_gen (lo hi : Option Int) (n : Nat) : Builtin.Slice.sliceAdjust lo hi 1 (n : Int) = (((sIx n 0 lo : Nat) : Int), ((sIx n n hi : Nat) : Int)) := by
  have h1 : ¬ ((1 : Int) < 0) := by omega
  unfold Builtin.Slice.sliceAdjust
  simp only [h1, if_false]
  refine Prod.ext ?_ ?_
  · cases lo with
    | none => rfl
    | some v => exact clip_eq v n 0
  · cases hi with
    | none => rfl
    | some v => exact clip_eq v n n
theorem places_gen (i j : Nat) : Builtin.Slice.slicePlaces (i : Int) (j : Int) 1 = j - i := by
  unfold Builtin.Slice.slicePlaces
  have h1 : (1 : Int) > 0 := by omega
  simp only [h1, if_true, Int.ediv_one]
  split <;> omega
theorem slicePart_ {v : Value} {o : Option Int} {Q : Option Int → Shared → Prop} (p : IsPart v o) (h : Q o s) : wpAny (model prog w) A (Builtin.Slice.slicePartIndex v) Q E s := by
  cases p with
  | none => exact slicePart_none h
  | int i t => exact slicePart_int h
theorem sliceApplied_gen {sl : Addr} {vl vu : Value} {lo hi : Option Int} {n : Nat} {Q : Int × Int × Nat → Shared → Prop} (hs : s.heap.IsSliceOf sl vl vu .none) (pl : IsPart vl lo) (pu : IsPart vu hi)
    (h : Q (((sIx n 0 lo : Nat) : Int), 1, sIx n n hi - sIx n 0 lo) s) : wpAny (model prog w) A (Builtin.Slice.sliceApplied (.ref sl) (pure (n : Int))) Q E s := by
  obtain ⟨os, hos, hcs, hds⟩ := id hs
  unfold Builtin.Slice.sliceApplied Builtin.Slice.sliceFields
  refine wpAny_bind (wpAny_bind (wpAny_field hos hds (x := vl) rfl (wpAny_bind (wpAny_field hos hds (x := vu) rfl (wpAny_bind (wpAny_field hos hds (x := .none) rfl (wpAny_pure ?_)))))))
  refine wpAny_bind (slicePart_none ?_)
  show wpAny _ _ (if ((1 : Int) == 0) = true then _ else _) _ _ s
  rw [if_neg (by decide)]
  refine wpAny_bind (slicePart_ pl (wpAny_bind (slicePart_ pu (wpAny_bind (wpAny_pure ?_)))))
  show wpAny _ _ (match Builtin.Slice.sliceAdjust lo hi 1 (n : Int) with | (lo, hi) => pure (lo, (1 : Int), Builtin.Slice.slicePlaces lo hi 1)) _ _ s
  rw [adjust_gen lo hi n]
  show wpAny _ _ (pure (((sIx n 0 lo : Nat) : Int), (1 : Int), Builtin.Slice.slicePlaces ((sIx n 0 lo : Nat) : Int) ((sIx n n hi : Nat) : Int) 1)) _ _ s
  rw [places_gen]
  exact wpAny_pure h
theorem pick_gen (xs : Array Value) (i k : Nat) : ((List.range k).filterMap fun (m : Nat) => xs[((i : Int) + (m : Int) * 1).toNat]?).toArray = ((xs.toList.drop i).take k).toArray := by
  have e : (fun (m : Nat) => xs[((i : Int) + (m : Int) * 1).toNat]?) = fun m => xs[i + m]? := by
    funext m
    have : ((i : Int) + (m : Int) * 1).toNat = i + m := by omega
    rw [this]
  rw [e]
  have := pick_run xs i k
  rw [List.filterMap_map] at this
  have e2 : ((fun x => xs[x]?) ∘ fun x => i + x) = fun m => xs[i + m]? := rfl
  rw [e2] at this
  rw [this]

theorem getItem_tuple_cut {t sl : Addr} {items : Array Value} {vl vu : Value} {lo hi : Option Int} {Q : Value → Shared → Prop} (ht : IsTup s.heap t items) (hs : s.heap.IsSliceOf sl vl vu .none) (pl : IsPart vl lo) (pu : IsPart vu hi)
    (hw : ¬ (sIx items.size 0 lo = 0 ∧ sIx items.size items.size hi = items.size))
    (h : Q (.ref s.heap.objs.size) { s with heap := s.heap.push { cls := .type "tuple", data := .seq ((items.toList.drop (sIx items.size 0 lo)).take (sIx items.size items.size hi - sIx items.size 0 lo)).toArray } })
    (hsz : items.size ≤ sizeLine) : wpAny (model prog w) A (getItem (.ref t) (.ref sl)) Q E s := by
  have htake : sizeOk (.seq ((items.toList.drop (sIx items.size 0 lo)).take (sIx items.size items.size hi - sIx items.size 0 lo)).toArray) := by
    show ((items.toList.drop (sIx items.size 0 lo)).take (sIx items.size items.size hi - sIx items.size 0 lo)).toArray.size ≤ sizeLine
    rw [List.size_toArray, List.length_take, List.length_drop, Array.length_toList]
    omega
  have hj : sIx items.size items.size hi ≤ items.size := sIx_le _ _ (Nat.le_refl _) hi
  obtain ⟨os, hos, hcs, hds⟩ := id hs
  have hTs : s.TypeIs (.ref sl) "slice" := ⟨os, hos, hcs⟩
  unfold getItem
  try with_reducible refine wpAny_holding ?_
  first | refine wpAny_bind (wpAny_pure ?_) | skip
  refine wpAny_bind (wpAny_sequenceKey ht.typeIs (by decide) ?_)
  refine wpAny_bind (wpAny_callSpecial?_slot (name := Str.ofString "__getitem__") ht.typeIs PyProof.Rows.slot_tuple_getitem
    (wpAny_call_entry PyProof.Rows.slot_tuple_getitem ht.typeIs entry_tuple_getitem ?_ (args_tuple_getitem _ _)))
  show wpAny _ _ (Builtin.Tuple.tupleItemsOf (.ref t) >>= _) _ _ s
  refine wpAny_bind (tupleItemsOf_ ht ?_)
  refine wpAny_bind (wpAny_typeOf hTs ?_)
  rw [if_pos (by decide)]
  refine wpAny_bind (sliceApplied_gen hs pl pu ?_)
  have hno : ¬ ((((sIx items.size 0 lo : Nat) : Int) == 0 && (1 : Int) == 1 && (sIx items.size items.size hi - sIx items.size 0 lo) == items.size) = true) := by
    intro q
    rw [Bool.and_eq_true, Bool.and_eq_true] at q
    have q1 : ((sIx items.size 0 lo : Nat) : Int) = 0 := eq_of_beq q.1.1
    have q2 : sIx items.size items.size hi - sIx items.size 0 lo = items.size := eq_of_beq q.2
    exact hw ⟨by omega, by omega⟩
  show wpAny _ _ (if (((sIx items.size 0 lo : Nat) : Int) == 0 && (1 : Int) == 1 && (sIx items.size items.size hi - sIx items.size 0 lo) == items.size) = true then _ else _) _ _ s
  rw [if_neg hno, pick_gen]
  first
    | exact wpAny_bind (m := Builtin.Tuple.tupleExact _) (wpAny_newObj_type (wpAny_pure ⟨_, rfl, wpAny_pure h⟩) htake)
    | exact wpAny_bind (m := Builtin.Tuple.tupleExact _) (wpAny_newObj_type (wpAny_bind (wpAny_pure (wpAny_pure ⟨_, rfl, wpAny_pure h⟩))) htake)
    | exact wpAny_bind (wpAny_bind (m := Builtin.Tuple.tupleExact _) (wpAny_newObj_type (wpAny_pure (wpAny_pure ⟨_, rfl, wpAny_pure h⟩)) htake))
    | exact wpAny_bind (wpAny_bind (m := Builtin.Tuple.tupleExact _) (wpAny_newObj_type (wpAny_pure ⟨_, rfl, wpAny_pure h⟩) htake))
end
end HT

namespace L2
open PySem PySem.Spec PyProof.Rows

/-! ### the parts of a slice -/
abbrev TO := St → Hp → (Option Int → Hp → Prop) → Prop
/-- a slice's part (left out, or an int) -/
def PO (X : Cx) (e : Option Expr) (t : TO) : Prop :=
  ∀ (pins : List (Addr × Obj)) (s : Shared) (σ : St) (H : Hp) (Q : Option Int → Hp → Prop), Inv X pins σ H s → t σ H Q →
    wpAny (model X.prog X.w) X.A (evalPart e X.env) (fun u s' => ∃ o H', Inv X pins σ H' s' ∧ IsPart u o ∧ Q o H') X.xe s
def tNoPart : TO := fun _ H Q => Q none H
def tPart (t : TE) : TO := fun σ H Q => t σ H fun x H1 => ∃ i, x = .int i ∧ Q (some i) H1

section
variable {X : Cx} {e : Expr} {te : TE} {lo hi : Option Expr} {tl th : TO} {pos p2 : Pos}

theorem po_none : PO X none tNoPart := by
  intro pins s σ H Q I h
  rw [evalPart_none]
  exact wpAny_pure ⟨none, H, I, .none, h⟩
theorem po_some (h : PE X e te) : PO X (some e) (tPart te) := by
  intro pins s σ H Q I hw
  rw [evalPart_some]
  refine thn (h pins s σ H _ I hw) fun u s1 ⟨x, H1, I1, r1, q1⟩ => ?_
  obtain ⟨i, rfl, q⟩ := q1
  obtain ⟨t, rfl⟩ := r1
  exact ⟨some i, H1, I1, .int i t, q⟩

/-- what a slice of a value is, by values: the slice object stands at sl -/
def SlR (X : Cx) (r : V → Option Int → Option Int → Hp → VK → Prop) : Prop :=
  ∀ (pins : List (Addr × Obj)) (s : Shared) (σ : St) (H : Hp) (x : V) (v vl vu : Value) (lo hi : Option Int) (sl : Addr) (Q : VK), Inv X pins σ H s → RelV x v → s.heap.IsSliceOf sl vl vu .none → IsPart vl lo → IsPart vu hi → r x lo hi H Q →
    ∃ T id, typeLookup (.type T) "__getitem__" = pure (some (.builtin id)) ∧ s.TypeIs v T ∧ wpAny (model X.prog X.w) X.A (getItem v (.ref sl)) (EP X pins σ Q) X.xe s
theorem SlR.or {r r' : V → Option Int → Option Int → Hp → VK → Prop} (h : SlR X r) (h' : SlR X r') : SlR X (fun x lo hi H Q => r x lo hi H Q ∨ r' x lo hi H Q) := by
  intro pins s σ H x v vl vu lo hi sl Q I rx hs pl pu q
  rcases q with q | q
  · exact h pins s σ H x v vl vu lo hi sl Q I rx hs pl pu q
  · exact h' pins s σ H x v vl vu lo hi sl Q I rx hs pl pu q
def tSl (r : V → Option Int → Option Int → Hp → VK → Prop) (te : TE) (tl th : TO) : TE := fun σ H Q => te σ H fun x H1 => tl σ H1 fun l H2 => th σ H2 fun u H3 => r x l u H3 Q
/-- a[lo:hi], any a -/
theorem pe_slice {r : V → Option Int → Option Int → Hp → VK → Prop} (hr : SlR X r) (he : PE X e te) (hl : PO X lo tl) (hu : PO X hi th) : PE X (.Subscript e (.Slice lo hi none p2) pos) (tSl r te tl th) := by
  intro pins s σ H Q I h
  refine Subscript_ (thn (he pins s σ H _ I h) fun v s1 ⟨x, H1, I1, r1, q1⟩ => ?_)
  refine wpAny_Slice (thn (hl pins s1 σ H1 _ I1 q1) fun vl s2 ⟨l, H2, I2, pl, q2⟩ => thn (hu pins s2 σ H2 _ I2 q2) fun vu s3 ⟨u, H3, I3, pu, q3⟩ => ?_)
  rw [evalPart_none]
  refine wpAny_pure ?_
  have I4 : Inv X pins σ H3 { s3 with heap := s3.heap.push { cls := .type "slice", data := .fields #[vl, vu, .none] } } := I3.kept (t' := s3.toks) fun b ob q => Heap.get?_push_of_some _ q
  obtain ⟨T, id, hT, ht, hg⟩ := hr pins { s3 with heap := s3.heap.push { cls := .type "slice", data := .fields #[vl, vu, .none] } } σ H3 x v vl vu l u s3.heap.objs.size Q I4 r1 (Heap.IsSliceOf.new ..) pl pu q3
  show wpAny (model X.prog X.w) X.A (subscriptTail e (.Slice lo hi none p2) v (.ref s3.heap.objs.size)) (EP X pins σ Q) X.xe { s3 with heap := s3.heap.push { cls := .type "slice", data := .fields #[vl, vu, .none] } }
  exact tail_any (ops := [.ref s3.heap.objs.size, v]) ht hT hg (by with_unfolding_all rfl)

/-- the items of xs[lo:hi] -/
def cutV (xs : List V) (lo hi : Option Int) : List V := (xs.drop (HT.sIx xs.length 0 lo)).take (HT.sIx xs.length xs.length hi - HT.sIx xs.length 0 lo)
theorem cutV_length (xs : List V) (lo hi : Option Int) : (cutV xs lo hi).length ≤ xs.length := by
  unfold cutV
  rw [List.length_take, List.length_drop]
  omega
/-- t[lo:hi], not the whole of it (the whole would be t itself) -/
def rSlT (K : PySem.W.Frag) : V → Option Int → Option Int → Hp → VK → Prop := fun x lo hi H Q => ∃ a xs, x = .ref a ∧ SqT K H a xs ∧
  ¬ (HT.sIx xs.length 0 lo = 0 ∧ HT.sIx xs.length xs.length hi = xs.length) ∧ ∀ p, H p = none → Q (.ref p) (upd H p (.tup (cutV xs lo hi)))
theorem sl_tup : SlR X (rSlT X.K) := by
  intro pins s σ H x v vl vu lo hi sl Q I rx hs pl pu h
  obtain ⟨a, xs, rfl, hx, hw, q⟩ := h
  cases rx
  obtain ⟨its, r, ht, hz⟩ := I.tuple hx
  have hlen : its.toArray.size = xs.length := by rw [List.size_toArray]; exact r.length.symm
  refine ⟨"tuple", _, PyProof.Rows.slot_tuple_getitem.lookup, ht.typeIs, ?_⟩
  refine HT.getItem_tuple_cut ht hs pl pu (by rw [hlen]; exact hw) ?_ (by rw [hlen]; exact hz)
  rw [hlen]
  refine ⟨.ref s.heap.objs.size, _, I.laid (t' := s.toks) (o := .tup (cutV xs lo hi)) (fun b ob q => Heap.get?_push_of_some _ q) (Nat.le_refl _) ?_, rfl, q _ (I.hok.fresh (Nat.le_refl _))⟩
  exact ⟨Nat.le_trans (cutV_length xs lo hi) hz, _, (r.drop (HT.sIx xs.length 0 lo)).take (HT.sIx xs.length xs.length hi - HT.sIx xs.length 0 lo), IsTup.new _ _⟩

/-! ### t < u, t + u -/
def rLtT (K : PySem.W.Frag) : R2 := fun x y H Q => ∃ a b ns ms, x = .ref a ∧ y = .ref b ∧ SqT K H a (ns.map V.int) ∧ SqT K H b (ms.map V.int) ∧ Q (.bl (HT.lexLt ns ms)) H
end
end L2

namespace L2
open PySem PySem.Spec PyProof.Rows

/-! ### places -/
/-- the place that an index of any sign means -/
def ixN (n : Nat) (i : Int) : Option Nat := if 0 ≤ i then (if i < n then some i.toNat else none) else if -(n : Int) ≤ i then some (i + n).toNat else none
def atI {α : Type} (xs : List α) (i : Int) : Option α := (ixN xs.length i).bind fun j => xs[j]?
theorem ixN_seq {n : Nat} {i : Int} {j : Nat} (h : ixN n i = some j) : seqIndex? i n = some j ∧ j < n ∧ -(n : Int) ≤ i ∧ i < n := by
  unfold ixN at h
  by_cases h0 : 0 ≤ i
  · rw [if_pos h0] at h
    by_cases h1 : i < n
    · rw [if_pos h1] at h
      have e : i.toNat = j := Option.some.inj h
      exact ⟨by rw [seqIndex_of h0 h1, e], by omega, by omega, h1⟩
    · rw [if_neg h1] at h; cases h
  · rw [if_neg h0] at h
    by_cases h1 : -(n : Int) ≤ i
    · rw [if_pos h1] at h
      have e : (i + n).toNat = j := Option.some.inj h
      exact ⟨by rw [seqIndex_neg (by omega) h1, e], by omega, h1, by omega⟩
    · rw [if_neg h1] at h; cases h
theorem atI_get {α : Type} {xs : List α} {i : Int} {v : α} (h : atI xs i = some v) : ∃ j, seqIndex? i xs.length = some j ∧ xs[j]? = some v ∧ j < xs.length ∧ -(xs.length : Int) ≤ i ∧ i < xs.length := by
  unfold atI at h
  cases e : ixN xs.length i with
  | none => rw [e] at h; cases h
  | some j =>
    rw [e] at h
    obtain ⟨h1, h2, h3, h4⟩ := ixN_seq e
    exact ⟨j, h1, h, h2, h3, h4⟩
theorem atI_nat {α : Type} {xs : List α} {j : Nat} {v : α} (h : xs[j]? = some v) : atI xs (j : Int) = some v := by
  have hj : j < xs.length := (List.getElem?_eq_some_iff.mp h).1
  have e : ixN xs.length (j : Int) = some j := by
    unfold ixN
    rw [if_pos (by omega), if_pos (by omega)]; simp
  unfold atI; rw [e]; exact h
/-! ### what may be subscripted -/
/-- what stands as an index of a plain subscript -/
def PlainIx (b : Expr) : Prop := ∀ o i, subscripted b false o i = operate [o, i] (getItem o i)
/-- a subscript by values -/
def IxR (X : Cx) (r : R2) : Prop :=
  ∀ (value slice : Expr) (pins : List (Addr × Obj)) (s : Shared) (σ : St) (H : Hp) (x y : V) (v u : Value) (Q : VK), Inv X pins σ H s → RelV x v → RelV y u → r x y H Q →
    subscripted slice false v u = operate [v, u] (getItem v u) → wpAny (model X.prog X.w) X.A (subscriptTail value slice v u) (EP X pins σ Q) X.xe s
/-- a call of a builtin's method by values: the receiver, the arguments -/
def MtR (X : Cx) (id : String) (r : V → List V → Hp → VK → Prop) : Prop :=
  ∀ (pins : List (Addr × Obj)) (s : Shared) (σ : St) (H : Hp) (x : V) (xs : List V) (v : Value) (us : List Value) (Q : VK), Inv X pins σ H s → RelV x v → Vals xs us → r x xs H Q →
    wpAny (model X.prog X.w) X.A (call (.builtin id) (v :: us)) (EP X pins σ Q) X.xe s
section
variable {X : Cx} {a b : Expr} {ta tb : TE} {pos : Pos}
theorem IxR.or {r r' : R2} (h : IxR X r) (h' : IxR X r') : IxR X (fun x y H Q => r x y H Q ∨ r' x y H Q) := by
  intro value slice pins s σ H x y v u Q I rx ry q hs
  rcases q with q | q
  · exact h value slice pins s σ H x y v u Q I rx ry q hs
  · exact h' value slice pins s σ H x y v u Q I rx ry q hs
theorem MtR.or {id : String} {r r' : V → List V → Hp → VK → Prop} (h : MtR X id r) (h' : MtR X id r') : MtR X id (fun x xs H Q => r x xs H Q ∨ r' x xs H Q) := by
  intro pins s σ H x xs v us Q I rx rs q
  rcases q with q | q
  · exact h pins s σ H x xs v us Q I rx rs q
  · exact h' pins s σ H x xs v us Q I rx rs q
/-- a[b] -/
theorem pe_ix {r : R2} (hr : IxR X r) (ha : PE X a ta) (hb : PE X b tb) (hs : PlainIx b) : PE X (.Subscript a b pos) (tOp r ta tb) := by
  intro pins s σ H Q I h
  exact Subscript_ (binT ha hb I h fun v u s2 x y H2 I2 rx ry q => hr a b pins s2 σ H2 x y v u Q I2 rx ry q (hs _ _))

def rIxL (K : PySem.W.Frag) : R2 := fun x y H Q => ∃ p xs i v, x = .ref p ∧ y = .int i ∧ SqL K H p xs ∧ atI xs i = some v ∧ Q v H
def rIxT (K : PySem.W.Frag) : R2 := fun x y H Q => ∃ p xs i v, x = .ref p ∧ y = .int i ∧ SqT K H p xs ∧ atI xs i = some v ∧ Q v H
def rIxS : R2 := fun x y H Q => ∃ z i c, x = .str z ∧ y = .int i ∧ z.length ≤ sizeLine ∧ atI z.cps.toList i = some c ∧ Q (.str ⟨#[c]⟩) H
theorem ix_list : IxR X (rIxL X.K) := by
  intro value slice pins s σ H x y v u Q I rx ry h hs
  obtain ⟨p, xs, i, z, rfl, rfl, hq, he, q⟩ := h
  cases rx
  obtain ⟨t, rfl⟩ := ry
  obtain ⟨its, r, pl, hz⟩ := I.list hq
  obtain ⟨j, h1, h2, h3, h4, h5⟩ := atI_get he
  obtain ⟨w, ew, rw'⟩ := r.get h2
  have hl := r.length
  have hn := line63
  have fin : EP X pins σ Q w s := ⟨z, H, I, rw', q⟩
  by_cases h0 : 0 ≤ i
  · have hj : i.toNat = j := by
      rw [seqIndex_of h0 h5] at h1
      exact Option.some.inj h1
    exact item_listR pl.isList h0 (by omega) (by rw [hj]; simpa using ew) fin hs
  · have hj : (i + (its.toArray.size : Int)).toNat = j := by
      rw [seqIndex_neg (by omega) h4] at h1
      rw [List.size_toArray, ← hl]
      exact Option.some.inj h1
    exact subscriptTail_builtinR (x := w) pl.isList.typeIs slot_list_getitem.lookup
      (wpAny_getItem_list_neg (Q := fun r s' => r = w ∧ EP X pins σ Q r s') pl.isList (by omega) (by rw [List.size_toArray] <;> omega) (by omega) (by rw [hj]; simpa using ew) ⟨rfl, fin⟩) hs
theorem ix_tup : IxR X (rIxT X.K) := by
  intro value slice pins s σ H x y v u Q I rx ry h hs
  obtain ⟨p, xs, i, z, rfl, rfl, hq, he, q⟩ := h
  cases rx
  obtain ⟨t, rfl⟩ := ry
  obtain ⟨its, r, pl, hz⟩ := I.tuple hq
  obtain ⟨j, h1, h2, h3, h4, h5⟩ := atI_get he
  obtain ⟨w, ew, rw'⟩ := r.get h2
  have hl := r.length
  have hn := line63
  have fin : EP X pins σ Q w s := ⟨z, H, I, rw', q⟩
  exact subscriptTail_builtinR (x := w) pl.typeIs slot_tuple_getitem.lookup
    (getItem_tuple (j := j) (Q := fun r s' => r = w ∧ EP X pins σ Q r s') pl (by omega) (by omega) (by rw [List.size_toArray, ← hl]; exact h1) (by simpa using ew) ⟨rfl, fin⟩) hs
theorem ix_str : IxR X rIxS := by
  intro value slice pins s σ H x y v u Q I rx ry h hs
  obtain ⟨z, i, c, rfl, rfl, hz, he, q⟩ := h
  obtain ⟨t, rfl⟩ := rx
  obtain ⟨t', rfl⟩ := ry
  obtain ⟨j, h1, h2, h3, h4, h5⟩ := atI_get he
  have hl : z.cps.toList.length = z.length := by simp [Str.length]
  rw [hl] at h1 h4 h5
  have hn := line63
  exact tail_any (typeIs_str s z t) slot_str_getitem.lookup (getItem_str (c := c) (by
    have e1 : decide (i < -(2 ^ 63 : Int)) = false := decide_eq_false (by omega)
    have e2 : decide (i ≥ 2 ^ 63) = false := decide_eq_false (by omega)
    rw [e1, e2, Bool.or_false]) (by rw [h1]; simpa using h2) ⟨.str ⟨#[c]⟩, H, I.tok _, ⟨_, rfl⟩, q⟩) hs
/-! ### xs[i] = v, any sign -/
/-- the list's object behind a store -/
theorem mapSeq_set (its : List Value) (n j : Nat) (u : Value) : Obj.mapSeq (·.setIfInBounds j u) { cls := .type "list", data := .seq its.toArray n } = { cls := .type "list", data := .seq (its.set j u).toArray n } := by
  simp [Obj.mapSeq]
theorem Inv.lst {pins : List (Addr × Obj)} {σ : St} {H : Hp} {s : Shared} {p : Addr} {xs : List V} (I : Inv X pins σ H s) (h : H p = some (.lst xs)) :
    ∃ (its : List Value) (n : Nat), Vals xs its ∧ s.heap.get? p = some { cls := .type "list", data := .seq its.toArray n } ∧ xs.length ≤ sizeLine := by
  obtain ⟨z, its, n, r, e⟩ := I.hok p _ h
  exact ⟨its, n, r, e, z⟩
/-- the list at p is written by an update of its object -/
theorem Inv.lstUpd {pins : List (Addr × Obj)} {σ : St} {H : Hp} {s : Shared} {p : Addr} {xs ys : List V} {its its' : List Value} {n n' : Nat} {f : Obj → Obj} (I : Inv X pins σ H s) (h : H p = some (.lst xs))
    (ho : s.heap.get? p = some { cls := .type "list", data := .seq its.toArray n }) (hf : f { cls := .type "list", data := .seq its.toArray n } = { cls := .type "list", data := .seq its'.toArray n' }) (r : Vals ys its') (hz : ys.length ≤ sizeLine) (t : Nat) :
    Inv X pins σ (upd H p (.lst ys)) { s with heap := s.heap.update p f, toks := t } := by
  have e : (s.heap.update p f).get? p = some { cls := .type "list", data := .seq its'.toArray n' } := by
    rw [Heap.get?_update_self f ho (by rw [hf] <;> rfl), hf]
  refine I.write (x := p) (e := p) (by rw [h]; trivial) (.inl rfl) (fun b u hb q => (Heap.get?_update_other _ _ (Ne.symm hb)).trans q) ⟨_, e⟩ ?_
  exact ⟨hz, its', n', r, e⟩
def rSetL : V → V → V → Hp → (Hp → Prop) → Prop := fun o i v H Q => ∃ p xs k j, o = .ref p ∧ i = .int k ∧ H p = some (.lst xs) ∧ ixN xs.length k = some j ∧ Q (upd H p (.lst (xs.set j v)))
theorem set_list : PSet X rSetL := by
  intro pins s σ H o i v ov iv u Q I ro ri rv h
  obtain ⟨p, xs, k, j, rfl, rfl, hp, hj, q⟩ := h
  cases ro
  obtain ⟨t, rfl⟩ := ri
  obtain ⟨its, n, r, ho, hz⟩ := I.lst hp
  obtain ⟨h1, h2, h3, h4⟩ := ixN_seq hj
  have hl := r.length
  have hn := line63
  have I' : Inv X pins σ (upd H p (.lst (xs.set j v))) { s with heap := s.heap.update p (Obj.mapSeq (·.setIfInBounds j u)) } :=
    I.lstUpd hp ho (mapSeq_set its n j u) (r.set rv j) (by rw [List.length_set]; exact hz) s.toks
  by_cases h0 : 0 ≤ k
  · have hk : k.toNat = j := by
      rw [seqIndex_of h0 h4] at h1
      exact Option.some.inj h1
    exact PySem.W.ki_setAt ho h0 (by omega) (by rw [List.size_toArray, ← hl]; exact h4) (by rw [hk]; exact ⟨_, I', q⟩)
  · have hk : (k + (its.toArray.size : Int)).toNat = j := by
      rw [seqIndex_neg (by omega) h3] at h1
      rw [List.size_toArray, ← hl]
      exact Option.some.inj h1
    exact PySem.W.ki_setBack ho (by omega) (by rw [List.size_toArray, ← hl]; exact h3) (by omega) (by rw [hk]; exact ⟨_, I', q⟩)

/-! ### slices -/
/-- xs[lo:hi] of a list: a new list -/
def rSlL (K : PySem.W.Frag) : V → Option Int → Option Int → Hp → VK → Prop := fun x lo hi H Q => ∃ a xs, x = .ref a ∧ SqL K H a xs ∧ ∀ p, H p = none → Q (.ref p) (upd H p (.lst (cutV xs lo hi)))
/-! ### in, not in: flat items -/
def flatV : V → Bool
  | .non => true
  | .bl _ => true
  | .int _ => true
  | .str _ => true
  | _ => false
/-- == of flat values -/
def eqV : V → V → Bool
  | .non, .non => true
  | .bl a, .bl b => a == b
  | .bl a, .int b => (if a then 1 else 0) == b
  | .int a, .bl b => a == (if b then 1 else 0)
  | .int a, .int b => a == b
  | .str a, .str b => a == b
  | _, _ => false
theorem eqAt_V {A : Around} {s : Shared} {y x : V} {u v : Value} (ry : RelV y u) (rx : RelV x v) (fy : flatV y = true) (fx : flatV x = true) : SeqAt.EqAt A s u v (eqV y x) := by
  cases y with
  | non =>
    cases ry
    cases x with
    | non => cases rx; exact SeqAt.EqAt.same _
    | bl b => cases rx; exact SeqAt.EqAt.none_bool b
    | int b => obtain ⟨t, rfl⟩ := rx; exact SeqAt.EqAt.none_int b t
    | str b => obtain ⟨t, rfl⟩ := rx; exact SeqAt.EqAt.none_str b t
    | _ => exact absurd (show false = true from fx) Bool.false_ne_true
  | bl a =>
    cases ry
    cases x with
    | non => cases rx; exact SeqAt.EqAt.bool_none a
    | bl b => cases rx; exact SeqAt.EqAt.bool_bool a b
    | int b => obtain ⟨t, rfl⟩ := rx; exact SeqAt.EqAt.bool_int a b t
    | str b => obtain ⟨t, rfl⟩ := rx; exact SeqAt.EqAt.bool_str a b t
    | _ => exact absurd (show false = true from fx) Bool.false_ne_true
  | int a =>
    obtain ⟨t', rfl⟩ := ry
    cases x with
    | non => cases rx; exact SeqAt.EqAt.int_none a t'
    | bl b => cases rx; exact SeqAt.EqAt.int_bool a t' b
    | int b => obtain ⟨t, rfl⟩ := rx; exact SeqAt.EqAt.int_int a t' b t
    | str b => obtain ⟨t, rfl⟩ := rx; exact SeqAt.EqAt.int_str a t' b t
    | _ => exact absurd (show false = true from fx) Bool.false_ne_true
  | str a =>
    obtain ⟨t', rfl⟩ := ry
    cases x with
    | non => cases rx; exact SeqAt.EqAt.str_none a t'
    | bl b => cases rx; exact SeqAt.EqAt.str_bool a t' b
    | int b => obtain ⟨t, rfl⟩ := rx; exact SeqAt.EqAt.str_int a t' b t
    | str b => obtain ⟨t, rfl⟩ := rx; exact SeqAt.EqAt.str_str a t' b t
    | _ => exact absurd (show false = true from fx) Bool.false_ne_true
  | _ => exact absurd (show false = true from fy) Bool.false_ne_true
/-! ### len, list(x), tuple(x) of any list or tuple that is read -/
theorem call_len_seq : CallR X (.builtin "len") (fun xs H Q => ∃ p ys, xs = [.ref p] ∧ (SqL X.K H p ys ∨ SqT X.K H p ys) ∧ Q (.int ys.length) H) := by
  intro pins s σ H xs us Q I r h
  obtain ⟨p, ys, rfl, hq, q⟩ := h
  obtain ⟨u, rfl, rx⟩ := vals1 r
  cases rx
  have hn := line63
  rcases hq with hq | hq
  · obtain ⟨its, r', pl, hz⟩ := I.list hq
    have hlen := r'.length
    exact Calls.call_len_list pl.isList (by simp only [List.size_toArray] <;> omega) ⟨.int ys.length, H, I.tok _, ⟨s.toks + 1, by rw [List.size_toArray, hlen]⟩, q⟩
  · obtain ⟨its, r', pl, hz⟩ := I.tuple hq
    have hlen := r'.length
    exact len_tuple pl (by simp only [List.size_toArray] <;> omega) ⟨.int ys.length, H, I.tok _, ⟨s.toks + 1, by rw [List.size_toArray, hlen]⟩, q⟩
theorem call_len_str : CallR X (.builtin "len") (fun xs H Q => ∃ z, xs = [.str z] ∧ z.length ≤ sizeLine ∧ Q (.int z.length) H) := by
  intro pins s σ H xs us Q I r h
  obtain ⟨z, rfl, hz, q⟩ := h
  obtain ⟨u, rfl, t, rfl⟩ := vals1 r
  have hn := line63
  exact len_str (by omega) ⟨.int z.length, H, I.tok _, ⟨_, rfl⟩, q⟩
theorem CallR.or {f : Value} {r r' : List V → Hp → VK → Prop} (h : CallR X f r) (h' : CallR X f r') : CallR X f (fun xs H Q => r xs H Q ∨ r' xs H Q) := by
  intro pins s σ H xs us Q I rs q
  rcases q with q | q
  · exact h pins s σ H xs us Q I rs q
  · exact h' pins s σ H xs us Q I rs q
theorem call_list_of : CallR X (.type "list") (fun xs H Q => ∃ p ys, xs = [.ref p] ∧ (SqL X.K H p ys ∨ SqT X.K H p ys) ∧ ∀ l, H l = none → Q (.ref l) (upd H l (.lst ys))) := by
  intro pins s σ H xs us Q I r h
  obtain ⟨p, ys, rfl, hq, q⟩ := h
  obtain ⟨u, rfl, rx⟩ := vals1 r
  cases rx
  have fin : ∀ (its : List Value), Vals ys its → ys.length ≤ sizeLine → ∀ (h' : Heap) (c' : Nat), (∀ b o', s.heap.get? b = some o' → h'.get? b = some o') →
      h'.get? s.heap.objs.size = some { cls := .type "list", dict := none, data := .seq its.toArray c', slots := #[] } → EP X pins σ Q (.ref s.heap.objs.size) { s with heap := h' } := fun its r' hz h' c' kp e =>
    ⟨.ref s.heap.objs.size, _, I.laid (t' := s.toks) kp (Nat.le_refl _) (show ObjOk X.prog X.w _ h' _ (.lst ys) from ⟨hz, its, c', r', e⟩), rfl, q _ (I.hok.fresh (Nat.le_refl _))⟩
  rcases hq with hq | hq
  · obtain ⟨its, r', pl, hz⟩ := I.list hq
    have hlen := r'.length
    obtain ⟨o, ho, hc, n, hd⟩ := pl.isList
    exact call_list_seq p (.inl rfl) ho hc hd (fun h' c' kp e => fin its r' hz h' c' kp e) (by simp only [List.size_toArray] <;> omega)
  · obtain ⟨its, r', pl, hz⟩ := I.tuple hq
    have hlen := r'.length
    obtain ⟨o, ho, hc, n, hd⟩ := pl
    exact call_list_seq p (.inr rfl) ho hc hd (fun h' c' kp e => fin its r' hz h' c' kp e) (by simp only [List.size_toArray] <;> omega)
/-! ### the call of a builtin's method: o.m(..) -/
/-- the value is of that builtin type -/
def tyV (K : PySem.W.Frag) (T : String) (x : V) (H : Hp) : Prop := match x with
  | .str _ => T = "str"
  | .int _ => T = "int"
  | .ref p => (T = "list" ∧ ∃ xs, SqL K H p xs) ∨ (T = "tuple" ∧ ∃ o, K.lookup p = some o ∧ o.cls = .type "tuple" ∧ o.dict = none) ∨
      (T = "dict" ∧ ((∃ kvs, H p = some (.dK kvs)) ∨ ∃ kvs, H p = some (.dT kvs))) ∨ (T = "set" ∧ ∃ S n, H p = some (.set S n))
  | _ => False
theorem tyV_is {pins : List (Addr × Obj)} {σ : St} {H : Hp} {s : Shared} {T : String} {x : V} {v : Value} (I : Inv X pins σ H s) (r : RelV x v) (ty : tyV X.K T x H) :
    s.TypeIs v T ∧ ∀ a, v = .ref a → ∃ ob, s.heap.get? a = some ob ∧ ob.dict = none := by
  cases x with
  | str z =>
    obtain ⟨t, rfl⟩ := r
    cases (show T = "str" from ty)
    exact ⟨typeIs_str s z t, fun _ e => nomatch e⟩
  | int i =>
    obtain ⟨t, rfl⟩ := r
    cases (show T = "int" from ty)
    exact ⟨typeIs_int s i t, fun _ e => nomatch e⟩
  | ref p =>
    cases r
    rcases ty with ⟨rfl, xs, hq⟩ | ⟨rfl, o, hk, hc, hd⟩ | ⟨rfl, hk⟩ | ⟨rfl, S, n, hk⟩
    · obtain ⟨its, _, pl, _⟩ := I.list hq
      refine ⟨pl.isList.typeIs, fun a e => ?_⟩
      cases e
      obtain ⟨o, n, e, c, hd, _⟩ := pl
      exact ⟨o, e, hd⟩
    · refine ⟨⟨o, I.kIn p o hk, hc⟩, fun a e => ?_⟩
      cases e
      exact ⟨o, I.kIn _ o hk, hd⟩
    · have z : ∃ o, s.heap.get? p = some o ∧ o.ExactDict := by
        rcases hk with ⟨kvs, hk⟩ | ⟨kvs, hk⟩
        · obtain ⟨_, _, _, _, o, _, _, e, ex, _⟩ := I.hok p _ hk
          exact ⟨o, e, ex⟩
        · obtain ⟨_, _, _, _, o, _, _, e, ex, _⟩ := I.hok p _ hk
          exact ⟨o, e, ex⟩
      obtain ⟨o, e, ex⟩ := z
      refine ⟨⟨o, e, ex.1⟩, fun a e2 => ?_⟩
      cases e2
      exact ⟨o, e, ex.2.1⟩
    · obtain ⟨o, _, _, _, e, ex, _⟩ := I.hok p _ hk
      refine ⟨⟨o, e, ex.1⟩, fun a e2 => ?_⟩
      cases e2
      exact ⟨o, e, ex.2.1⟩
  | _ => exact False.elim ty
def tBM (K : PySem.W.Frag) (T : String) (r : V → List V → Hp → VK → Prop) (to : TE) (t : TA) : TE := fun σ H Q => to σ H fun x H1 => tyV K T x H1 ∧ t σ H1 fun xs H2 => r x xs H2 Q
variable {o e : Expr} {es : List Expr} {to : TE} {t : TA} {name : Str} {apos cpos : Pos} {T id : String} {r : V → List V → Hp → VK → Prop}
theorem pe_bm (pa : PlainAttrs T) (slot : Slot T name id) (hty : typeOf (.builtin id) = pure (.type "method_descriptor")) (hm : MtR X id r) (ho : PE X o to) (ha : PA X (e :: es) t)
    (hbase : attributeBase o name X.env (eval o X.env) = eval o X.env := by rfl)
    (hfew : ((backTo cpos (starEach (e :: es) X.env)).all (fun x => !x.1) && (backToKw cpos (keywordEach [] X.env)).all (fun x => x.1.isSome)
      && decide ((e :: es).length + ([] : List Keyword).length + (if ([] : List Keyword).isEmpty then 0 else 1) < 30)) = true := by rfl)
    (hline : (apos.endLine == cpos.line) = true := by rfl) (hs : starEach (e :: es) X.env = (false, eval e X.env) :: starEach es X.env := by rfl) (hplain : (backTo cpos (starEach es X.env)).any (·.1) = false := by rfl) :
    PE X (.Call (.Attribute o name apos) (e :: es) [] cpos) (tBM X.K T r to t) := by
  intro pins s σ H Q I h
  refine wpAny_Call_method_late hbase hfew hline rfl (thn (ho pins s σ H _ I h) fun v s1 ⟨x, H1, I1, r1, ty, q1⟩ => ?_)
  obtain ⟨h1, h2⟩ := tyV_is I1 r1 ty
  refine ⟨T, id, pa, slot, hty, h1, h2, ?_⟩
  have hA := ha cpos pins s1 σ H1 _ I1 q1
  rw [hs] at hA ⊢
  refine Calls.callWith_builtin (by show (false || (backTo cpos (starEach es X.env)).any (·.1)) = false; rw [hplain] <;> rfl) (Calls.evalArgs_plain ?_)
  exact thn hA fun us s2 ⟨vs, H2, I2, r2, q2⟩ => hm pins s2 σ H2 x vs v us Q I2 r1 r2 q2
/- xs.append(e), list.index on a module's tuple .. are MtR facts of 06m -/
end
end L2

namespace L2
open PySem PySem.Spec PyProof.Rows

def MtM (X : Cx) (id : String) (r : V → List V → Hp → VK → Prop) : Prop :=
  ∀ (pins : List (Addr × Obj)) (s : Shared) (σ : St) (H : Hp) (x : V) (xs : List V) (v : Value) (us : List Value) (Q : VK), Inv X pins σ H s → RelV x v → Vals xs us → r x xs H Q →
    wpAny (model X.prog X.w) X.A (call (.builtin id) (v :: us)) (EP X pins σ Q) X.xe s

/-! ### lists of values -/
theorem Vals.one : ∀ {x : V} {us : List Value}, Vals [x] us → ∃ u, us = [u] ∧ RelV x u
  | _, _, .cons r .nil => ⟨_, rfl, r⟩
theorem Vals.two : ∀ {x y : V} {us : List Value}, Vals [x, y] us → ∃ u v, us = [u, v] ∧ RelV x u ∧ RelV y v
  | _, _, _, .cons r (.cons q .nil) => ⟨_, _, rfl, r, q⟩
theorem Vals.zero : ∀ {us : List Value}, Vals [] us → us = []
  | _, .nil => rfl
theorem Vals.dropLast {xs : List V} {us : List Value} (h : Vals xs us) : Vals xs.dropLast us.dropLast := by
  induction h with
  | nil => exact .nil
  | cons r t ih =>
    cases t with
    | nil => exact .nil
    | cons q t' => exact .cons r ih
theorem Vals.reverse {xs : List V} {us : List Value} (h : Vals xs us) : Vals xs.reverse us.reverse := by
  induction h with
  | nil => exact .nil
  | cons r t ih => rw [List.reverse_cons, List.reverse_cons]; exact Vals.append ih (.cons r .nil)
section
variable {X : Cx} {pins : List (Addr × Obj)} {σ : St} {H : Hp} {s : Shared} {l b : Addr} {xs ys zs : List V}

/-! ### the two steps: a tracked list is rewritten, a new list is laid -/
theorem Inv.lset {its its' : List Value} {n : Nat} {f : Array Value → Array Value} {t' : Nat} (I : Inv X pins σ H s) (hH : H l = some (.lst xs))
    (e : s.heap.get? l = some { cls := .type "list", data := .seq its.toArray n }) (hf : f its.toArray = its'.toArray) (hv : Vals ys its') (hz : ys.length ≤ sizeLine) :
    Inv X pins σ (upd H l (.lst ys)) { s with heap := s.heap.update l (Obj.mapSeq f), toks := t' } := by
  have q := PySem.IsL.update e f
  rw [hf] at q
  refine I.write (x := l) (e := l) (by rw [hH]; exact trivial) (.inl rfl) (fun b' u hb hu => (Heap.get?_update_other s.heap (Obj.mapSeq f) (Ne.symm hb)).trans hu) ⟨_, q⟩ ?_
  exact ⟨hz, its', _, hv, q⟩
theorem Inv.fresh (I : Inv X pins σ H s) : H s.heap.objs.size = none := I.hok.fresh (Nat.le_refl _)
theorem Inv.lstM (I : Inv X pins σ H s) (hH : H l = some (.lst xs)) : xs.length ≤ sizeLine ∧ ∃ (its : List Value) (n : Nat), Vals xs its ∧ xs.length = its.length ∧ s.heap.get? l = some { cls := .type "list", data := .seq its.toArray n } := by
  obtain ⟨z, its, n, r, e⟩ := I.hok l _ hH
  exact ⟨z, its, n, r, r.length, e⟩

end

section
variable {X : Cx}

/-! ### methods -/
def rAppend : V → List V → Hp → VK → Prop := fun x vs H Q => ∃ l xs y, x = .ref l ∧ vs = [y] ∧ H l = some (.lst xs) ∧ xs.length < sizeLine ∧ Q .non (upd H l (.lst (xs ++ [y])))
theorem mt_append : MtM X "list.append" rAppend := by
  intro pins s σ H x vs v us Q I rx rv h
  obtain ⟨l, xs, y, rfl, rfl, hH, hz, q⟩ := h
  cases rx
  obtain ⟨u, rfl, ru⟩ := rv.one
  obtain ⟨z, its, n, r, hl, e⟩ := I.lstM hH
  refine call_meets F.slot_list_append ⟨_, e, rfl⟩ F.entry_list_append (F.args_list_append_2 _ _) (PySem.list_append l its.toArray n u (by rw [List.size_toArray]; omega)) ⟨e, ?_⟩
  refine ⟨.non, _, I.lset (its' := its ++ [u]) hH e (by simp) (r.append (.cons ru .nil)) ?_, rfl, q⟩
  rw [List.length_append, List.length_singleton]
  omega

/-! ### list + list, list += list, list * int -/
def rCat : R2 := fun x y H Q => ∃ l b xs zs, x = .ref l ∧ y = .ref b ∧ H l = some (.lst xs) ∧ H b = some (.lst zs) ∧ xs.length + zs.length ≤ sizeLine ∧ ∀ p, H p = none → Q (.ref p) (upd H p (.lst (xs ++ zs)))
/-! ### del xs[i] -/
end

/-! ### xs[a:b] = ys -/
section
variable {prog : Program} {w : World} {A : Around} {E : Value → Shared → Prop} {s : Shared}
end

section
variable {X : Cx}
end
end L2

namespace L2
open PySem PySem.Spec PyProof.Rows

/-! ### lists of pairs as tables -/
section
variable {κ : Type} [DecidableEq κ]
def valV (kvs : List (κ × V)) (k : κ) : Option V := (kvs.find? fun kv => decide (kv.1 = k)).map (·.2)
/-- in its place, or at the end -/
def putK (kvs : List (κ × V)) (k : κ) (v : V) : List (κ × V) :=
  if (kvs.any fun kv => decide (kv.1 = k)) = true then kvs.map (fun kv => if kv.1 = k then (kv.1, v) else kv) else kvs ++ [(k, v)]
def dropK (kvs : List (κ × V)) (k : κ) : List (κ × V) := kvs.filter fun kv => decide (kv.1 ≠ k)

theorem valV_pos {p : κ × V} {r : List (κ × V)} {k : κ} (e : p.1 = k) : valV (p :: r) k = some p.2 := by simp [valV, List.find?_cons, e]
theorem valV_neg {p : κ × V} {r : List (κ × V)} {k : κ} (e : ¬ p.1 = k) : valV (p :: r) k = valV r k := by simp [valV, List.find?_cons, e]
theorem valV_any (k : κ) : ∀ kvs : List (κ × V), (kvs.any fun kv => decide (kv.1 = k)) = (valV kvs k).isSome
  | [] => rfl
  | p :: r => by
    rw [List.any_cons]
    by_cases e : p.1 = k
    · simp only [valV_pos e, decide_eq_true e, Bool.true_or, Option.isSome_some]
    · rw [valV_neg e, decide_eq_false e, Bool.false_or]; exact valV_any k r
theorem RelO.isSome_eq {o : Option V} {u : Option Value} (r : RelO o u) : o.isSome = u.isSome := by
  cases o with
  | none => cases u with
    | none => rfl
    | some _ => exact (show False from r).elim
  | some _ => cases u with
    | none => exact (show False from r).elim
    | some _ => rfl
theorem RelO.getD {o : Option V} {u : Option Value} {d : V} {d' : Value} (r : RelO o u) (rd : RelV d d') : RelV (o.getD d) (u.getD d') := by
  cases o with
  | none => cases u with
    | none => exact rd
    | some _ => exact (show False from r).elim
  | some _ => cases u with
    | none => exact (show False from r).elim
    | some _ => exact r

/-- raw tables of the same keys -/
theorem KV.val {kvs : List (κ × V)} {vs : List (κ × Value)} (r : KV kvs vs) (k : κ) : RelO (valV kvs k) (valueAt vs k) := by
  unfold KV at r
  induction r with
  | nil => exact True.intro
  | @cons p q ps qs h t ih =>
    obtain ⟨h1, h2⟩ := h
    by_cases e : p.1 = k
    · have e' : q.1 = k := h1.symm.trans e
      have b : valueAt (q :: qs) k = some q.2 := by simp [valueAt, List.find?_cons, e']
      rw [valV_pos e, b]; exact h2
    · have e' : ¬ q.1 = k := fun z => e (h1.trans z)
      have b : valueAt (q :: qs) k = valueAt qs k := by simp [valueAt, List.find?_cons, e']
      rw [valV_neg e, b]; exact ih
theorem KV.any {kvs : List (κ × V)} {vs : List (κ × Value)} (r : KV kvs vs) (k : κ) : (kvs.any fun kv => decide (kv.1 = k)) = vs.any fun kv => decide (kv.1 = k) := by
  unfold KV at r
  induction r with
  | nil => rfl
  | cons h t ih => rw [List.any_cons, List.any_cons, ih, h.1]
theorem KV.repl {kvs : List (κ × V)} {vs : List (κ × Value)} (r : KV kvs vs) (k : κ) {y : V} {u : Value} (ry : RelV y u) :
    KV (kvs.map fun kv => if kv.1 = k then (kv.1, y) else kv) (vs.map fun kv => if kv.1 = k then (kv.1, u) else kv) := by
  unfold KV at r ⊢
  induction r with
  | nil => exact .nil
  | @cons p q ps qs h t ih =>
    rw [List.map_cons, List.map_cons]
    refine .cons ?_ ih
    obtain ⟨h1, h2⟩ := h
    by_cases e : p.1 = k
    · rw [if_pos e, if_pos (h1.symm.trans e)]; exact ⟨h1, ry⟩
    · rw [if_neg e, if_neg (fun z => e (h1.trans z))]; exact ⟨h1, h2⟩
theorem KV.put {kvs : List (κ × V)} {vs : List (κ × Value)} (r : KV kvs vs) (k : κ) {y : V} {u : Value} (ry : RelV y u) : KV (putK kvs k y) (stored vs k u) := by
  unfold putK stored
  rw [r.any k]
  by_cases e : (vs.any fun kv => decide (kv.1 = k)) = true
  · rw [if_pos e, if_pos e]; exact r.repl k ry
  · rw [if_neg e, if_neg e]; exact Paired.snoc r ⟨rfl, ry⟩
theorem KV.drop {kvs : List (κ × V)} {vs : List (κ × Value)} (r : KV kvs vs) (k : κ) : KV (dropK kvs k) (without vs k) := by
  unfold KV at r ⊢
  unfold dropK without
  induction r with
  | nil => exact .nil
  | @cons p q ps qs h t ih =>
    obtain ⟨h1, h2⟩ := h
    rw [List.filter_cons, List.filter_cons]
    by_cases e : p.1 = k
    · have a : ¬ decide (p.1 ≠ k) = true := by simp [e]
      have b : ¬ decide (q.1 ≠ k) = true := by simp [h1.symm.trans e]
      rw [if_neg a, if_neg b]; exact ih
    · have e' : ¬ q.1 = k := fun z => e (h1.trans z)
      have a : decide (p.1 ≠ k) = true := by simp [e]
      have b : decide (q.1 ≠ k) = true := by simp [e']
      rw [if_pos a, if_pos b]; exact .cons ⟨h1, h2⟩ ih
theorem KV.keys {kvs : List (κ × V)} {vs : List (κ × Value)} (r : KV kvs vs) : kvs.map (·.1) = vs.map (·.1) := by
  unfold KV at r
  induction r with
  | nil => rfl
  | cons h t ih => rw [List.map_cons, List.map_cons, ih, h.1]
theorem KV.length {kvs : List (κ × V)} {vs : List (κ × Value)} (r : KV kvs vs) : kvs.length = vs.length := Paired.length r
end


/-! ### a tracked dict, its keys ints and texts or tuples of these -/
/-- raw entries of a dict with tuple keys -/
abbrev KT (H : Hp) : List (List Key × V) → List (List Key × Addr × Value) → Prop := Paired fun p q => p.1 = q.1 ∧ H q.2.1 = some (.tup (p.1.map kV)) ∧ RelV p.2 q.2.2
theorem KT.val {H : Hp} {kvs : List (List Key × V)} {xs : List (List Key × Addr × Value)} (r : KT H kvs xs) (k : List Key) : RelO (valV kvs k) ((atKey xs k).map (·.2)) := by
  induction r with
  | nil => exact True.intro
  | @cons p q ps qs h t ih =>
    obtain ⟨h1, _, h2⟩ := h
    by_cases e : p.1 = k
    · have e' : q.1 = k := h1.symm.trans e
      have b : atKey (q :: qs) k = some q.2 := by simp [atKey, List.find?_cons, e']
      rw [valV_pos e, b]; exact h2
    · have e' : ¬ q.1 = k := fun z => e (h1.trans z)
      have b : atKey (q :: qs) k = atKey qs k := by simp [atKey, List.find?_cons, e']
      rw [valV_neg e, b]; exact ih
theorem KT.repl {H : Hp} {kvs : List (List Key × V)} {xs : List (List Key × Addr × Value)} (r : KT H kvs xs) (k : List Key) {y : V} {u : Value} (ry : RelV y u) :
    KT H (kvs.map fun kv => if kv.1 = k then (kv.1, y) else kv) (xs.map (putAt k u)) := by
  induction r with
  | nil => exact .nil
  | @cons p q ps qs h t ih =>
    rw [List.map_cons, List.map_cons]
    refine .cons ?_ ih
    obtain ⟨h1, h2, h3⟩ := h
    unfold putAt
    by_cases e : p.1 = k
    · rw [if_pos e, if_pos (h1.symm.trans e)]; exact ⟨h1, h2, ry⟩
    · rw [if_neg e, if_neg (fun z => e (h1.trans z))]; exact ⟨h1, h2, h3⟩
theorem KT.put {H : Hp} {kvs : List (List Key × V)} {xs : List (List Key × Addr × Value)} (r : KT H kvs xs) (k : List Key) {b : Addr} {y : V} {u : Value} (hb : H b = some (.tup (k.map kV))) (ry : RelV y u) :
    KT H (putK kvs k y) (storedH xs k b u) := by
  have e : (kvs.any fun kv => decide (kv.1 = k)) = (atKey xs k).isSome := by
    rw [valV_any, (r.val k).isSome_eq, Option.isSome_map]
  unfold putK storedH
  rw [e]
  by_cases q : (atKey xs k).isSome = true
  · rw [if_pos q, if_pos q]; exact r.repl k ry
  · rw [if_neg q, if_neg q]; exact Paired.snoc r ⟨rfl, hb, ry⟩
theorem KT.keeps {H H' : Hp} {kvs : List (List Key × V)} {xs : List (List Key × Addr × Value)} (r : KT H kvs xs) (ht : ∀ b ys, H b = some (.tup ys) → H' b = some (.tup ys)) : KT H' kvs xs :=
  Paired.mapP r fun _ _ z => ⟨z.1, ht _ _ z.2.1, z.2.2⟩

section
variable {P : Program} {w : World} {H : Hp} {h : Heap} {a : Addr}
end

/-- what the dict at a holds at the key y -/
def DGet (H : Hp) (a : Addr) (y : V) (r : Option V) : Prop :=
  (∃ kvs k, Rd H a (.dK kvs) ∧ y = kV k ∧ r = valV kvs k) ∨ ∃ kvs k b, Rd H a (.dT kvs) ∧ y = .ref b ∧ H b = some (.tup (k.map kV)) ∧ r = valV kvs k
/-- the heap behind a[y] = v -/
def DPut (H : Hp) (a : Addr) (y v : V) (H' : Hp) : Prop :=
  (∃ kvs k, H a = some (.dK kvs) ∧ y = kV k ∧ kvs.length < sizeLine ∧ H' = upd H a (.dK (putK kvs k v))) ∨
  ∃ kvs k b, H a = some (.dT kvs) ∧ y = .ref b ∧ H b = some (.tup (k.map kV)) ∧ kvs.length < sizeLine ∧ H' = upd H a (.dT (putK kvs k v))
theorem DGet.k {H : Hp} {a : Addr} {kvs : List (Key × V)} {k : Key} (e : H a = some (.dK kvs)) : DGet H a (kV k) (valV kvs k) := .inl ⟨kvs, k, .inl e, rfl, rfl⟩
theorem DGet.t {H : Hp} {a b : Addr} {kvs : List (List Key × V)} {k : List Key} (e : H a = some (.dT kvs)) (eb : H b = some (.tup (k.map kV))) : DGet H a (.ref b) (valV kvs k) := .inr ⟨kvs, k, b, .inl e, rfl, eb, rfl⟩
theorem DPut.k {H : Hp} {a : Addr} {kvs : List (Key × V)} {k : Key} {v : V} (e : H a = some (.dK kvs)) (hl : kvs.length < sizeLine) : DPut H a (kV k) v (upd H a (.dK (putK kvs k v))) := .inl ⟨kvs, k, e, rfl, hl, rfl⟩
theorem DPut.t {H : Hp} {a b : Addr} {kvs : List (List Key × V)} {k : List Key} {v : V} (e : H a = some (.dT kvs)) (eb : H b = some (.tup (k.map kV))) (hl : kvs.length < sizeLine) :
    DPut H a (.ref b) v (upd H a (.dT (putK kvs k v))) := .inr ⟨kvs, k, b, e, rfl, eb, hl, rfl⟩


section
variable {X : Cx} {pins : List (Addr × Obj)} {σ : St} {H : Hp} {s : Shared} {a : Addr} {y v : V} {u r : Value} {o : Option V} {A : Around} {E : Value → Shared → Prop}

end

section
variable {X : Cx} {pins : List (Addr × Obj)} {σ : St} {H : Hp} {s : Shared} {a : Addr} {kvs : List (Key × V)} {k : Key} {u : Value} {A : Around} {E : Value → Shared → Prop}
end


/-! ### readings and rules -/
section
variable {X : Cx} {o i e value : Expr} {pos pos' tpos : Pos} {td ty tv : TE}
end


/-! ### displays -/
section
variable {X : Cx} {pos : Pos}
end

/-! ### methods -/
/-- a method call o.m(e) of a built-in, with one argument: what must be seen of the text -/
structure M1 (X : Cx) (o : Expr) (m : Str) (apos : Pos) (e : Expr) (cpos : Pos) : Prop where
  base : attributeBase o m X.env (eval o X.env) = eval o X.env
  few : ((backTo cpos (starEach [e] X.env)).all (fun x => !x.1) && (backToKw cpos (keywordEach [] X.env)).all (fun x => x.1.isSome)
    && decide (([e] : List Expr).length + ([] : List Keyword).length + (if ([] : List Keyword).isEmpty then 0 else 1) < 30)) = true
  line : (apos.endLine == cpos.line) = true
  trees : backTo cpos (starEach [e] X.env) = [(false, eval e X.env)]
structure M2 (X : Cx) (o : Expr) (m : Str) (apos : Pos) (e f : Expr) (cpos : Pos) : Prop where
  base : attributeBase o m X.env (eval o X.env) = eval o X.env
  few : ((backTo cpos (starEach [e, f] X.env)).all (fun x => !x.1) && (backToKw cpos (keywordEach [] X.env)).all (fun x => x.1.isSome)
    && decide (([e, f] : List Expr).length + ([] : List Keyword).length + (if ([] : List Keyword).isEmpty then 0 else 1) < 30)) = true
  line : (apos.endLine == cpos.line) = true
  trees : backTo cpos (starEach [e, f] X.env) = [(false, eval e X.env), (false, eval f X.env)]

section
variable {X : Cx} {pins : List (Addr × Obj)} {σ : St} {H : Hp} {s : Shared} {a : Addr} {y d : V} {u r : Value} {o : Option V} {A : Around} {E : Value → Shared → Prop}
end

section
variable {X : Cx} {o e f : Expr} {apos cpos : Pos} {td ty tx : TE}
end

/-! ### dict(d): a copy -/
section
variable {X : Cx} {pins : List (Addr × Obj)} {σ : St} {H : Hp} {s : Shared} {a : Addr} {kvs : List (Key × V)} {A : Around} {E : Value → Shared → Prop}
end


section
variable {X : Cx} {pins : List (Addr × Obj)} {σ : St} {H : Hp} {s : Shared} {a : Addr} {y : V} {u : Value} {A : Around} {E : Value → Shared → Prop}
end
end L2

namespace Att
open PySem PySem.W PySem.Calls PyProof.Rows

/-! ### the script -/
theorem ints_of_wellAll {P : Params} {h : Heap} : ∀ (ns : List Int) (vs : List Value), WellAll P h vs (ns.map WData.int) → IntsAre vs ns := by
  intro ns
  induction ns with
  | nil =>
    intro vs w
    rw [List.map_nil] at w
    cases w
    exact .nil
  | cons n ns ih =>
    intro vs w
    rw [List.map_cons] at w
    cases w with
    | cons a b =>
      cases a
      exact .cons _ _ (ih _ b)

theorem script_of {l : OpenLaw} {n : Nat} (hn : l.most = some n) {P : Params} {h : Heap} {args : List WData} {vals : List Value}
    (hpre : l.row.toRowW.claim.pre args = true) (hwl : WellAll P h vals args) :
    ∃ a vs ns, vals = [Value.ref a] ∧ args = [WData.list (ns.map WData.int)] ∧ h.get? a = some { cls := .type "list", data := .seq vs.toArray } ∧ IntsAre vs ns ∧ ns.length ≤ n := by
  have hsh : WShape.hasAll [] args [.list .int] = true := (pre_splitW hpre).1
  have hc : l.pre.holds [] { args := args } = true := (pre_splitW hpre).2
  obtain ⟨d, r, rfl, h1, h2⟩ := hasAllW_cons hsh
  obtain rfl := hasAllW_nil h2
  obtain ⟨xs, rfl, h3⟩ := hasW_list h1
  obtain ⟨ns, rfl⟩ := items_int h3
  have hlen : ns.length ≤ n := by
    unfold OpenLaw.pre at hc
    have h4 : (WTm.not (.lt (.lit (.int (n : Int))) (.len (.arg 0)))).holds [] { args := [.list (ns.map .int)] } = true := by
      have h4 := (holds_andW hc).1
      rw [hn] at h4
      exact h4
    have h5 := condW_of h4 (w_not (w_lt w_lit (w_len_list (w_arg rfl))))
    rw [List.length_map] at h5
    refine Nat.le_of_not_lt fun q => ?_
    have q' : (n : Int) < ((ns.length : Nat) : Int) := by omega
    first
      | (rw [decide_eq_true q'] at h5; exact absurd h5 (by decide))
      | (simp at h5; omega)
  cases hwl with
  | cons w1 w2 =>
    cases w2
    cases w1 with
    | list ho hall => exact ⟨_, _, ns, rfl, rfl, ho, ints_of_wellAll ns _ hall, hlen⟩

theorem post_true (l : OpenLaw) (args : List WData) : l.row.toRowW.claim.post args (.bool true) args = true :=
  postW_of (r := l.row.toRowW) (X := (true == true))
    (show WShape.has [] (.bool true) .bool = true by first | rfl | decide | simp [WShape.has, WShape.arms, WShape.armsAll])
    (show (WTm.eq .res (.lit (.bool true))).value [] { args := args, res := some (.bool true), after := args } = some (.bool (true == true)) from w_eq_bool (w_res rfl) w_lit) rfl

/-! ### the attachment: holds_open's last premise (the goal 'hc' behind k_head) from a wpAny of the law's body -/
/-- the same from a codeAny of the CALL (for a layer whose function contracts speak of calls) -/
theorem attach_call {l : OpenLaw} {n : Nat} {q : Program} {loose : List Str} {XP : (Str → Option Value) → Heap → Prop} {YP : World → Heap → Prop} {d : DefRec}
    (hn : l.most = some n) (hdf : d.params.defaults = [])
    (call : ∀ (w : World) (s₀ s₁ : Shared) (mg mb : Str → Option Value) (fa : Addr) (o : Obj) (pm cd doc : Value) (a : Addr) (vs : List Value) (ns : List Int),
      Ground q loose [] XP w s₀ mg mb s₁.heap → YP w s₁.heap →
      s₁.heap.get? fa = some o → o.data = .func (docDef d.name d.params d.body d.scope pm cd doc) → s₁.heap.CodeRec cd d.name → mg d.name = some (.ref fa) →
      s₁.heap.get? a = some { cls := .type "list", data := .seq vs.toArray } → IntsAre vs ns → ns.length ≤ n → s₁.gens = #[] →
      codeAny (model l.prog w) callerA (.call (.ref fa) ⟨[.ref a], []⟩) (fun r s' => r = .ok (.ret (.bool true)) ∧ OldK s₁.heap s'.heap ∧ s'.os = s₁.os ∧ AllBare s'.gens) s₁) :
    WalkO q loose XP YP l.row.toRowW d [] (fun f vs => PySem.call f vs) := by
  intro w s₀ s₁ mg mb G Y fa o pm cd doc dV kV ho hd hcd hD hmg hg args vals as hpre hlay hrd hwl hlo
  obtain rfl : dV = .none := Dflts.none hD hdf
  obtain rfl : kV = .none := Dflts.noKw hD
  obtain ⟨a, vs, ns, rfl, rfl, hobj, hints, hlen⟩ := script_of hn hpre hwl
  refine enter_call (codeAny_mono (call w s₀ s₁ mg mb fa o pm cd doc a vs ns G Y ho (fd_plain hd) hcd hmg hobj hints hlen hg) fun r s' hq => ?_)
  obtain ⟨rfl, h2, h3, h4⟩ := hq
  exact ⟨.inl ⟨.bool true, .bool true, [], rfl, fun _ => rfl, .bool true, post_true l _, fun _ => ⟨List.Pairwise.nil, fun _ hm => (nomatch hm)⟩⟩, h2, h3, h4⟩

/-! ### rules over ANY heap (no ledger) from facts about the written part K: the library's own take a ledger (News) for what they write -/
section
variable {prog : Program} {w : World} {A : Around} {E : Value → Shared → Prop} {s : Shared} {K : Frag}

/-! the whole heap as the ledger: makes every rule that writes through a ledger a rule over any heap -/
def ledger (h : Heap) (L d : Addr) : List (Addr × Obj) := (List.range h.objs.size).filterMap fun a => if a = L ∨ a = d then none else (h.get? a).map fun o => (a, o)
end
end Att

namespace L2
open PySem PySem.Spec PyProof.Rows

theorem vals_ints : ∀ {vs : List Value} {ns : List Int}, IntsAre vs ns → Vals (ns.map V.int) vs
  | _, _, .nil => .nil
  | _, _, .cons n t h => .cons ⟨t, rfl⟩ (vals_ints h)

/-- nothing is tracked but the script, known to the object (or it is an object of the module) -/
def Only (H : Hp) : Prop := ∀ b, H b = none ∨ ∃ o xs, H b = some (.frz o (.lst xs))

/-- THE HEAD: the law's promise, at the heap behind the top. F, the promise of the law's def, may use that base is part of the heap (so K.In base, base.Ns mainGlobals mg stand in Mod) -/
theorem law_call {P : Program} {w : World} {K : PySem.W.Frag} {mg mb : Str → Option Value} {CX : CXT} {k : Nat} {fa a : Addr} {fd : FuncData} {x : Str} {sp : Sp} {s₁ : Shared} {vs : List Value} {ns : List Int}
    (KX : K.In s₁.heap) (hns : s₁.heap.Ns mainGlobals mg) (hb : s₁.heap.Ns builtinsNs mb) (hbb : ∀ x : Str, x ≠ "__name__" → mb x = bootBuiltins x) (hlim : s₁.heap.NoLimit) (hg : s₁.gens = #[])
    (ha : s₁.heap.get? a = some { cls := .type "list", data := .seq vs.toArray }) (hi : IntsAre vs ns) (hl : ns.length ≤ sizeLine) (hr : Room k callerA)
    (F : ∀ base : Heap, K.In base → base.Ns mainGlobals mg → FnOk P w K mg base CX k fa fd [x] sp) (hbind : ∀ (s : Shared) (u : Value), BindsTo s fd ⟨[u], []⟩ [(x, u)])
    (hsp : ∀ H : Hp, Only H → SqL K H a (ns.map V.int) → sp [.ref a] H (fun v _ => v = .bl true) fun _ _ _ => False)
    (hCX : ∀ H e s', CX [] H s₁ (fun _ _ _ => False) e s' → False) :
    codeAny (model P w) callerA (.call (.ref fa) ⟨[.ref a], []⟩) (fun r s' => r = .ok (.ret (.bool true)) ∧ OldK s₁.heap s'.heap ∧ s'.os = s₁.os ∧ AllBare s'.gens) s₁ := by
  have rv := vals_ints hi
  have lenV := hi.length
  -- from an abstract heap in which nothing but the script may be tracked
  have core : ∀ H : Hp, Only H → SqL K H a (ns.map V.int) → HOk P w H s₁.heap → (∀ b, H b ≠ none → b = a) → (H a ≠ none → K.lookup a = none) →
      codeAny (model P w) callerA (.call (.ref fa) ⟨[.ref a], []⟩) (fun r s' => r = .ok (.ret (.bool true)) ∧ OldK s₁.heap s'.heap ∧ s'.os = s₁.os ∧ AllBare s'.gens) s₁ := by
    intro H hO hS hok hA hK
    have base_of : ∀ {b : Addr} {o : Obj}, s₁.heap.get? b = some o → H b = none → (hidT s₁.heap H).get? b = some o := fun e n => hidT_get e n
    have noA : ∀ {b : Addr} {o : Obj} {es : Array DictEntry} {ep : Nat}, s₁.heap.get? b = some o → o.data = .dict es ep → H b = none := fun {b o es ep} e d => by
      cases q : H b with
      | none => rfl
      | some u =>
        have e' : b = a := hA b (by rw [q]; simp)
        subst e'
        rw [ha] at e; cases e
        have d' : Data.seq vs.toArray _ = Data.dict es ep := d
        cases d'
    have nsK : ∀ {b : Addr} {m : Str → Option Value}, s₁.heap.Ns b m → (hidT s₁.heap H).Ns b m := fun {b m} ⟨o, es, ep, e, d, r⟩ => ⟨o, es, ep, base_of e (noA e d), d, r⟩
    have hKb : K.In (hidT s₁.heap H) := fun b o e => base_of (KX b o e) (by
      cases q : H b with
      | none => rfl
      | some u =>
        have e' : b = a := hA b (by rw [q]; simp)
        subst e'
        rw [hK (by rw [q]; simp)] at e; cases e)
    have hM : Mod K mg (hidT s₁.heap H) := ⟨hKb, nsK hns, ⟨mb, nsK hb, hbb⟩, let ⟨mc, h1, h2⟩ := hlim; ⟨mc, nsK h1, h2⟩⟩
    have e0 : Env0 P w K mg (hidT s₁.heap H) callerA [] s₁ H := ⟨rfl, hM, fun b o e => of_hidT e, Nat.le_of_eq (hidT_size _ _), trivial, fun b hb => absurd (show b ∈ ([] : List Addr) from hb) (by simp), hok, .of_eq hg⟩
    refine codeAny_mono ((F _ hKb (nsK hns)).run callerA [] s₁ H ⟨[.ref a], []⟩ [.ref a] [.ref a] _ _ hr e0 (hbind s₁ (.ref a)) (.cons rfl .nil) (hsp H hO hS)) fun r s' h => ?_
    cases r with
    | error e => exact (hCX H e s' h).elim
    | ok fl =>
      cases fl with
      | next => exact False.elim h
      | brk => exact False.elim h
      | cont => exact False.elim h
      | ret u =>
        obtain ⟨v, H', os, bare, un, hok', r', q⟩ := h
        have q' : v = .bl true := q
        subst q'
        obtain rfl : u = Value.bool true := r'
        refine ⟨rfl, OldK.of_keep fun b o e => ?_, os, bare⟩
        cases q : H b with
        | none => exact un.keep b o e q (by intro z; exact absurd (show b ∈ ([] : List Addr) from z) (by simp)) (by simp)
        | some u =>
          rcases hO b with z | ⟨ob, xs, z⟩
          · rw [q] at z; cases z
          · have z2 := un.frzs b ob _ z
            obtain ⟨e1, _⟩ := hok b _ z
            obtain ⟨e2, _⟩ := hok' b _ z2
            rw [e] at e1; cases e1
            exact e2
  cases hk : K.lookup a with
  | some o =>
    -- the script is one of the module's own objects
    have e := KX a o hk
    rw [ha] at e
    cases e
    refine core (fun _ => none) (fun _ => .inl rfl) (.inr ⟨_, vs.toArray, _, hk, rfl, rfl, rfl, by rw [List.size_toArray, lenV]; exact hl, by simpa using rv⟩) (fun b u z => by have z' : (none : Option HO) = some u := z; cases z') (fun b z => absurd rfl z) fun z => absurd rfl z
  | none =>
    refine core (fun b => if b = a then some (.frz { cls := .type "list", data := .seq vs.toArray } (.lst (ns.map V.int))) else none) (fun b => ?_) (.inl (.inr ⟨{ cls := .type "list", data := .seq vs.toArray }, if_pos rfl⟩)) (fun b u z => ?_) (fun b z => ?_) fun _ => hk
    · by_cases hb : b = a
      · exact .inr ⟨_, _, if_pos hb⟩
      · exact .inl (if_neg hb)
    · by_cases hb : b = a
      · have z' := (if_pos hb).symm.trans z
        cases z'
        subst hb
        exact ⟨ha, by rw [List.length_map]; exact hl, vs, _, rv, ha⟩
      · have z' := (if_neg hb).symm.trans z
        cases z'
    · by_cases hb : b = a
      · exact hb
      · exact absurd (if_neg hb) z
end L2

namespace L2
open PySem PySem.Spec PyProof.Rows

/-- the goal that k_head leaves (case hc), from the law's promise. F gives the function object fd (K's own) once, then the promise over every base -/
theorem walk_of {l : PySem.W.OpenLaw} {n k : Nat} {q : Program} {loose : List Str} {XP : (Str → Option Value) → Heap → Prop} {YP : World → Heap → Prop} {d : DefRec} {K : Params → PySem.W.Frag} {CX : World → CXT} {sp : World → Sp} {x : Str}
    (hn : l.most = some n) (hn2 : n ≤ sizeLine) (hdf : d.params.defaults = []) (hr : Room k callerA)
    (hY : ∀ (w : World) (h : Heap), YP w h → (K w.params).In h)
    (F : ∀ (w : World) (mg : Str → Option Value) (fa : Addr) (h : Heap), (K w.params).In h → h.Ns mainGlobals mg → mg d.name = some (.ref fa) →
      ∃ fd : FuncData, (∀ (s : Shared) (u : Value), BindsTo s fd ⟨[u], []⟩ [(x, u)]) ∧
        ∀ base : Heap, (K w.params).In base → base.Ns mainGlobals mg → FnOk l.prog w (K w.params) mg base (CX w) k fa fd [x] (sp w))
    (hsp : ∀ (w : World) (H : Hp) (a : Addr) (ns : List Int), ns.length ≤ n → Only H → SqL (K w.params) H a (ns.map V.int) → sp w [.ref a] H (fun v _ => v = .bl true) fun _ _ _ => False)
    (hCX : ∀ (w : World) (H : Hp) (s : Shared) (e : Value) (s' : Shared), CX w [] H s (fun _ _ _ => False) e s' → False) :
    PySem.W.WalkO q loose XP YP l.row.toRowW d [] (fun f vs => PySem.call f vs) := by
  refine Att.attach_call hn hdf fun w s₀ s₁ mg mb fa o pm cd doc a vs ns G Y ho hd hcd hmg hobj hints hlen hg => ?_
  have KX := hY w _ Y
  obtain ⟨fd, hb, hF⟩ := F w mg fa _ KX G.T.g hmg
  exact law_call KX G.T.g G.T.b G.T.builtins G.T.nolimit hg hobj hints (Nat.le_trans hlen hn2) hr hF hb (fun H hO hS => hsp w H a ns hlen hO hS) fun H e s' => hCX w H s₁ e s'
end L2


/-! SHORT WORDS over the layer: a def of the text, its body, what a loop and a test want. -/
namespace L2
open PySem PySem.Spec PyProof.Rows

/-! ### the text by places -/
def defArgs (s : Stmt) : Arguments := match s with
  | .FunctionDef _ a _ _ _ _ _ _ _ _ => a
  | _ => { posonlyargs := [], args := [], vararg := none, kwonlyargs := [], kw_defaults := [], kwarg := none, defaults := [] }
def defBody (s : Stmt) : List Stmt := match s with
  | .FunctionDef _ _ b _ _ _ _ _ _ _ => b
  | _ => []
def defScope (s : Stmt) : Scope := match s with
  | .FunctionDef _ _ _ _ _ _ sc _ _ _ => sc
  | _ => { kind := .function, names := [], isGenerator := false, isCoroutine := false }

/-! ### no exception leaves a def -/
abbrev CX0 : CXT := fun _ _ _ _ _ _ => False
abbrev E0 : XK := fun _ _ _ => False
theorem pass0 {X : Cx} : Passes CX0 X E0 := fun _ _ _ _ _ _ _ h => h.elim

/-! ### a def (or method) of the text as it stands behind the top -/
structure Fun (K : PySem.W.Frag) (x qual : Str) (st : Stmt) (f : Addr) (fd : FuncData) : Prop where
  ex : ∃ (oc : Value) (od : Option Addr) (kV doc pm : Value) (an : Option Addr) (cdv ct : Value) (osl : Array (Option Value)),
    fd = PySem.W.fnOf x qual (defArgs st) (defBody st) (defScope st) .none kV doc pm an cdv ct ∧ K.lookup f = some ⟨oc, od, .func fd, osl⟩ ∧ PySem.W.codeIn K cdv qual = true
  kp : PySem.W.keepIn K (.ref f) = true
section
variable {P : Program} {w : World} {K : PySem.W.Frag} {mg : Str → Option Value} {base : Heap}
/-- THE RULE for a def: its body as a term of rules, and the reading of that term -/
theorem Fun.ok {x qual : Str} {st : Stmt} {f : Addr} {fd : FuncData} {N ps : List Str} {k : Nat} {sp : Sp} (F : Fun K x qual st f fd) (S : FnScope N ps (defScope st)) (len : ∀ vs H Q E, sp vs H Q E → vs.length = ps.length)
    (hbody : ∀ (cdv : Value) (A : Around) (outer : List Env) (s : Shared) (H : Hp) (vs : List V) (Q : VK) (E : XK), Room k (A.deeper (envOfC qual (defScope st) s.heap.objs.size f cdv)) → sp vs H Q E →
      ∃ t, PSs (cxOf CX0 P w K mg base N qual (defScope st) f cdv A outer s H E).nox (defBody st) t ∧ t { nx := fun _ H' => Q .non H', rt := Q } (start N vs) H) : FnOk P w K mg base CX0 (k + 1) f fd ps sp := by
  obtain ⟨oc, od, kV, doc, pm, an, cdv, ct, osl, rfl, lk, hcd⟩ := F.ex
  refine fn_of lk hcd S len fun A outer s H vs Q E hr hsp => ?_
  obtain ⟨t, h, q⟩ := hbody cdv A outer s H vs Q E hr hsp
  exact ⟨t, h.nox, q⟩
/-- how its arguments bind (no defaults): h is «fun _ _ _ _ _ _ us hl => match us, hl with | [_, _], _ => rfl», one _ a parameter -/
theorem Fun.binds {x qual : Str} {st : Stmt} {f : Addr} {fd : FuncData} {ps : List Str} (F : Fun K x qual st f fd)
    (h : ∀ (kV doc pm : Value) (an : Option Addr) (cdv ct : Value) (us : List Value), us.length = ps.length → bindArgs (PySem.W.fnOf x qual (defArgs st) (defBody st) (defScope st) .none kV doc pm an cdv ct) ⟨us, []⟩ = pure (ps.zip us)) : Binds K fd ps [] := by
  obtain ⟨oc, od, kV, doc, pm, an, cdv, ct, osl, rfl, lk, hcd⟩ := F.ex
  exact .all (h kV doc pm an cdv ct)
theorem fun_mk {x qual : Str} {st : Stmt} {f : Addr} {oc : Value} {od an : Option Addr} {osl : Array (Option Value)} {kV doc pm cdv ct : Value} (l : K.lookup f = some ⟨oc, od, .func (PySem.W.fnOf x qual (defArgs st) (defBody st) (defScope st) .none kV doc pm an cdv ct), osl⟩)
    (c : PySem.W.codeIn K cdv qual = true) (k : PySem.W.keepIn K (.ref f) = true) : Fun K x qual st f (PySem.W.fnOf x qual (defArgs st) (defBody st) (defScope st) .none kV doc pm an cdv ct) := ⟨⟨oc, od, kV, doc, pm, an, cdv, ct, osl, rfl, l, c⟩, k⟩
end
/-! ### expressions in short: the name that stands in the i-th slot -/
section
variable {X : Cx}
theorem pv (i : Nat) {x : Str} {pos : Pos} (hN : X.N[i]? = some x := by rfl) (hv : Vis X.env.scope x := by first | exact Or.inl rfl | exact Or.inr (Or.inl rfl) | exact Or.inr (Or.inr rfl)) (hd : (x == ("__debug__" : Str)) = false := by decide)
    (hcd : (x == ("__classdict__" : Str)) = false := by decide) : PE X (.Name x pos) (tVar i) := pe_var hN hv hd hcd
end

/-! ### tests -/
/-! ### heaps -/
/-- all that was tracked is as it was -/
def Same (H H' : Hp) : Prop := ∀ b o, H b = some o → H' b = some o
theorem Same.refl (H : Hp) : Same H H := fun _ _ h => h
theorem Same.trans {H H1 H2 : Hp} (a : Same H H1) (b : Same H1 H2) : Same H H2 := fun c o h => b c o (a c o h)
theorem Same.free {H H' : Hp} (e : Same H H') {l : Addr} (h : H' l = Option.none) : H l = Option.none := by
  cases q : H l with
  | none => rfl
  | some o =>
    rw [e l o q] at h
    cases h
theorem Same.seq {K : PySem.W.Frag} {H H' : Hp} {a : Addr} {xs : List V} (e : Same H H') (h : SqL K H a xs) : SqL K H' a xs := by
  rcases h with (h | ⟨o, h⟩) | h
  · exact .inl (.inl (e _ _ h))
  · exact .inl (.inr ⟨o, e _ _ h⟩)
  · exact .inr h

/-! ### a dict's pairs: keys that differ -/
section
variable {κ : Type} [DecidableEq κ]
end
end L2

set_option Elab.async false
set_option linter.all false
set_option maxRecDepth 100000
/-! reversed(a text), walked by join -/
namespace PySem
open Sem (wp)
open Builtin Builtin.Str Builtin.Int
namespace F
theorem owner_rvs : Manifest.owners.lookup "reversed" = some Manifest.sig_reversed := by kernel_rfl
theorem slot_rvs_next : Slot "reversed" "__next__" "reversed.__next__" :=
  .of (owner := "reversed") (n := "__next__") (by rw [typeLookup_type, builtinLookup_eq_fast]; kernel_rfl) (by decide +kernel) (by decide +kernel) (by decide +kernel)
    (by first | exact .inl (by decide +kernel) | exact .inr (by decide +kernel)) (by rw [isSubtype_type]; kernel_rfl)
theorem entry_rvs_next : entryFor table "reversed.__next__" = some Builtin.«reversed.__next__» := entryFor_of_tree (by kernel_rfl)
theorem slot_rvs_iter : Slot "reversed" "__iter__" "reversed.__iter__" :=
  .of (owner := "reversed") (n := "__iter__") (by rw [typeLookup_type, builtinLookup_eq_fast]; kernel_rfl) (by decide +kernel) (by decide +kernel) (by decide +kernel)
    (by first | exact .inl (by decide +kernel) | exact .inr (by decide +kernel)) (by rw [isSubtype_type]; kernel_rfl)
theorem args_rvs_next_1 (a : Value) : argsOk "reversed.__next__" ⟨[a], []⟩ := by
  unfold argsOk; rw [signature?_of (id := "reversed.__next__") (n := ['_', '_', 't', 'x', 'e', 'n', '_', '_']) (o := ['d', 'e', 's', 'r', 'e', 'v', 'e', 'r']) (by kernel_rfl) owner_rvs]; kernel_rfl
theorem args_rvs_iter_1 (a : Value) : argsOk "reversed.__iter__" ⟨[a], []⟩ := by
  unfold argsOk; rw [signature?_of (id := "reversed.__iter__") (n := ['_', '_', 'r', 'e', 't', 'i', '_', '_']) (o := ['d', 'e', 's', 'r', 'e', 'v', 'e', 'r']) (by kernel_rfl) owner_rvs]; kernel_rfl
theorem entry_rvs_iter : entryFor table "reversed.__iter__" = some Builtin.«dict_keyiterator.__iter__» :=
  entryFor_alias (id' := "dict_keyiterator.__iter__") (by kernel_rfl) (by first | rfl | decide +kernel | (unfold String.splitOn; simp +decide [String.splitOnAux])) (by decide +kernel) (by kernel_rfl)
end F

section
variable {prog : Program} {w : World} {A : Around} {E : Value → Shared → Prop} {s : Shared}
def Heap.IsRvs (h : Heap) (a : Addr) (x : Str) (t : Tok) (i : Int) : Prop := ∃ o, h.get? a = some o ∧ o.cls = .type "reversed" ∧ o.data = .fields #[.str x t, rawInt i]
theorem Heap.IsRvs.typeIs {a : Addr} {x : Str} {t : Tok} {i : Int} (y : s.heap.IsRvs a x t i) : s.TypeIs (.ref a) "reversed" := let ⟨o, ho, hc, _⟩ := y; ⟨o, ho, hc⟩
theorem Heap.IsRvs.at {h h' : Heap} {a : Addr} {x : Str} {t : Tok} {i : Int} (y : h.IsRvs a x t i) (e : ∀ o, h.get? a = some o → h'.get? a = some o) : h'.IsRvs a x t i := let ⟨o, ho, r⟩ := y; ⟨o, e _ ho, r⟩

theorem wpAny_pyNext_rvs_item {it : Addr} {x : Str} {t : Tok} {i c : Nat} {Q : Option Value → Shared → Prop} (hit : s.heap.IsRvs it x t (i : Int)) (hx : x.cps[i]? = some c) (hsz : i < 2 ^ 63)
    (hQ : ∀ h' tk tk', h'.IsRvs it x t ((i : Int) - 1) → Heap.SameBut it s.heap h' → Q (some (.str ⟨#[c]⟩ tk)) { s with heap := h', toks := tk' }) : wpAny (model prog w) A (pyNext (.ref it)) Q E s := by
  obtain ⟨o, ho, hc, hd⟩ := id hit
  have hlen : i < x.length := (Array.getElem?_eq_some_iff.mp hx).1
  unfold pyNext
  refine wpAny_bind (wpAny_attempt (wpAny_callSpecial?_slot (name := Str.ofString "__next__") hit.typeIs F.slot_rvs_next
    (wpAny_call_entry F.slot_rvs_next hit.typeIs F.entry_rvs_next ?_ (F.args_rvs_next_1 _))))
  unfold Builtin.«reversed.__next__»
  refine wpAny_bind (wpAny_of_eq (a := (Value.ref it, [])) rfl ?_)
  try dsimp only
  refine wpAny_bind (wpAny_field ho hd (x := .str x t) rfl ?_)
  refine wpAny_bind (wpAny_field ho hd (x := rawInt (i : Int)) rfl ?_)
  show wpAny _ _ (if (i : Int) < 0 then _ else _) _ _ s
  rw [if_neg (by omega)]
  refine wpAny_bind (wpAny_specialOf (typeIs_str s x t) F.slot_str_getitem.lookup ?_)
  try dsimp only
  first
  | rw [if_neg (show ¬ ((some (Value.builtin "str.__getitem__")).isNone = true) from Bool.false_ne_true)]
  | skip
  refine wpAny_bind (wpAny_mkInt ?_)
  refine wpAny_bind (wpAny_attempt ?_)
  have hb : (seqIndex? (i : Int) x.length).bind (x.cps[·]?) = some c := by
    have e : seqIndex? (i : Int) x.length = some i := by
      have hn : ¬ ((i : Int) < 0) := by omega
      unfold seqIndex?
      simp [hn, hlen]
    rw [e]
    exact hx
  refine P.getItem_str (c := c) (by simp; omega) hb ?_
  dsimp only
  refine wpAny_bind (wpAny_field ho hd (x := rawInt (i : Int)) rfl ?_)
  show wpAny _ _ (setField (Value.ref it) 1 (rawInt ((i : Int) - 1)) >>= fun _ => ret (Value.str ⟨#[c]⟩ _)) _ _ _
  refine wpAny_bind (wpAny_setField ho hd (by simp) ?_)
  refine wpAny_pure ⟨_, rfl, wpAny_pure (hQ _ _ _ ?_ (Heap.SameBut.update ..))⟩
  exact ⟨_, Heap.get?_update_self _ ho (Obj.isFreed_of_fields (Obj.data_mapFields hd _)), (Obj.cls_mapFields ..).trans hc, by
    rw [Obj.data_mapFields hd]; simp⟩

theorem wpAny_pyNext_rvs_end {it : Addr} {x : Str} {t : Tok} {Q : Option Value → Shared → Prop} (hh : A.handled = none) (hit : s.heap.IsRvs it x t (-1))
    (hQ : ∀ h', Heap.ExtBut it s.heap h' → Q none { s with heap := h' }) : wpAny (model prog w) A (pyNext (.ref it)) Q E s := by
  obtain ⟨o, ho, hc, hd⟩ := id hit
  unfold pyNext
  refine wpAny_bind (wpAny_attempt (wpAny_callSpecial?_slot (name := Str.ofString "__next__") hit.typeIs F.slot_rvs_next
    (wpAny_call_entry F.slot_rvs_next hit.typeIs F.entry_rvs_next ?_ (F.args_rvs_next_1 _))))
  unfold Builtin.«reversed.__next__»
  refine wpAny_bind (wpAny_of_eq (a := (Value.ref it, [])) rfl ?_)
  try dsimp only
  refine wpAny_bind (wpAny_field ho hd (x := .str x t) rfl ?_)
  refine wpAny_bind (wpAny_field ho hd (x := rawInt (-1)) rfl ?_)
  show wpAny _ _ (if (-1 : Int) < 0 then _ else _) _ _ s
  rw [if_pos (by decide)]
  refine wpAny_bind (wpAny_rule ?_)
  show wpAny _ _ ((setField (Value.ref it) 1 (rawInt (-1)) >>= fun _ => setField (Value.ref it) 0 .none) >>= _) _ _ _
  refine wpAny_bind (wpAny_bind (wpAny_setField ho hd (by simp) ?_))
  have ho1 := Heap.get?_update_self (Obj.mapFields (·.setIfInBounds 1 (rawInt (-1)))) ho (Obj.isFreed_of_fields (Obj.data_mapFields hd _))
  refine wpAny_setField ho1 (Obj.data_mapFields hd _) (by simp) ?_
  dsimp only
  show wpAny _ _ (SmallTypes.stopIteration >>= _) _ _ _
  refine wpAny_bind ?_
  unfold SmallTypes.stopIteration
  first
  | show wpAny _ _ (newExc (.type "StopIteration") [] >>= _) _ _ _
  | (refine wpAny_bind ?_; show wpAny _ _ (newExc (.type "StopIteration") [] >>= _) _ _ _)
  refine wpAny_bind ?_
  simp only [newExc, newTuple]
  refine wpAny_bind (wpAny_newObj_type ?_ (by size_fits))
  refine wpAny_bind (m := firstArgMember _ _) (wpAny_of_eq (a := Value.none) (by first | rfl | (simp only [firstArgMember]; rfl)) ?_)
  refine wpAny_newObj_type ?_ (by size_fits)
  simp only [raiseNew]
  refine wpAny_bind (wpAny_handled ?_)
  first | rw [show A.in1.handled = none from hh] | rw [hh]
  refine wpAny_bind (wpAny_pure (wpAny_throw ?_))
  refine wpAny_bind (wpAny_isInstance (T := "StopIteration") (b := true) ⟨_, Heap.get?_push_size _ rfl, rfl⟩ isSubtype_stop ?_)
  refine wpAny_pure (hQ _ ?_)
  intro b ob hb eb
  exact Heap.get?_push_of_some _ (Heap.get?_push_of_some _ ((Heap.get?_update_other _ _ (Ne.symm hb)).trans ((Heap.get?_update_other _ _ (Ne.symm hb)).trans eb)))

theorem wpAny_pyIter_rvs {it : Addr} {x : Str} {t : Tok} {i : Int} {Q : Value → Shared → Prop} (hit : s.heap.IsRvs it x t i) (h : Q (.ref it) s) : wpAny (model prog w) A (pyIter (.ref it)) Q E s := by
  refine wpAny_pyIter_slot hit.typeIs F.slot_rvs_iter (wpAny_call_entry F.slot_rvs_iter hit.typeIs F.entry_rvs_iter ?_ (F.args_rvs_iter_1 _))
  show wpAny _ _ (ret (.ref it)) _ _ s
  exact wpAny_pure ⟨_, rfl, "reversed", _, hit.typeIs, F.slot_rvs_next.lookup, h⟩

theorem Walks.rvs {A : Around} (hh : A.handled = none) (I : Addr) (x : Str) (t : Tok) (hz : x.length ≤ sizeLine) :
    Walks prog w A I [I] [I] x.length (fun i v => ∃ c tk, x.cps[x.length - 1 - i]? = some c ∧ v = .str ⟨#[c]⟩ tk) (fun i h => i ≤ x.length ∧ h.IsRvs I x t ((x.length : Int) - 1 - (i : Int))) where
  sub := fun b hb => hb
  frame := fun _ _ _ y hk => ⟨y.1, y.2.at fun o e => hk I (by simp) o e⟩
  item := fun i s Q E hi y hQ => by
    have e : (x.length : Int) - 1 - (i : Int) = ((x.length - 1 - i : Nat) : Int) := by omega
    have hit := y.2
    rw [e] at hit
    have hb : x.length - 1 - i < x.cps.size := by have : x.length = x.cps.size := rfl; omega
    have hx : x.cps[x.length - 1 - i]? = some (x.cps[x.length - 1 - i]'hb) := Array.getElem?_eq_getElem hb
    have hs : sizeLine = 16777216 := sizeLine_eq
    refine wpAny_pyNext_rvs_item hit hx (by omega) fun h' tk tk' hit' hs' => ?_
    have e2 : ((x.length - 1 - i : Nat) : Int) - 1 = (x.length : Int) - 1 - ((i + 1 : Nat) : Int) := by omega
    rw [e2] at hit'
    exact hQ _ h' tk' ⟨_, tk, hx, rfl⟩ ⟨hi, hit'⟩ fun b o hb eo => hs'.extBut b o (fun h => hb (by simp [h])) eo
  done := fun s Q E y hQ => by
    have e : (x.length : Int) - 1 - (x.length : Int) = -1 := by omega
    have hit := y.2
    rw [e] at hit
    exact wpAny_pyNext_rvs_end hh hit fun h' he' => hQ h' s.toks fun b o hb eo => he' b o (fun h => hb (by simp [h])) eo
  self := fun _ _ _ _ y hQ => wpAny_pyIter_rvs y.2 hQ

end

namespace F
end F
section
variable {prog : Program} {w : World} {A : Around} {E : Value → Shared → Prop} {s : Shared}
end
end PySem

set_option Elab.async false
set_option linter.all false
set_option maxRecDepth 100000
/-! Rules beyond the layer, 1: comprehensions. -/
namespace L2
open PySem PySem.Spec PyProof.Rows

/-! ### names that a comprehension captures -/
def capOf (env : Env) : List (Str × NameKind) → List (Str × Addr) → List (Str × Addr)
  | [], acc => acc
  | (n, k) :: r, acc => if k == .free then capOf env r ((n, (env.cells.lookup n).getD 0) :: acc) else capOf env r acc

theorem closure_cap {env : Env} : ∀ (ns : List (Str × NameKind)) (acc : List (Str × Addr)), (∀ x ∈ ns, x.2 = .free → ∃ c, env.cells.lookup x.1 = some c) →
    (forIn ns acc fun (x : Str × NameKind) (cs : List (Str × Addr)) => (if x.2 == .free then do
        let c ← cellOf env x.1
        pure (ForInStep.yield ((x.1, c) :: cs))
      else pure (ForInStep.yield cs) : Sem (ForInStep (List (Str × Addr))))) = pure (capOf env ns acc)
  | [], acc, _ => rfl
  | (n, k) :: r, acc, h => by
    have ih := fun a => closure_cap (env := env) r a fun x hx => h x (List.mem_cons_of_mem _ hx)
    rw [List.forIn_cons]
    by_cases hk : k = .free
    · subst hk
      obtain ⟨c, hc⟩ := h (n, .free) List.mem_cons_self rfl
      have hc' : env.cells.lookup n = some c := hc
      have e1 : cellOf env n = pure c := by unfold cellOf; rw [hc']
      simp only [capOf, hc', Option.getD_some]
      show ((do let c ← cellOf env n; pure (ForInStep.yield ((n, c) :: acc))) >>= _) = _
      rw [e1, pure_bind, pure_bind]
      exact ih _
    · have e2 : (k == NameKind.free) = false := by simpa using hk
      simp only [capOf, e2, Bool.false_eq_true, if_false]
      rw [pure_bind]
      exact ih _

theorem closureFor_cap {env : Env} {scope : Scope} (h : ∀ x ∈ scope.names, x.2 = .free → ∃ c, env.cells.lookup x.1 = some c) :
    closureFor scope env = pure (capOf env scope.names []) := by
  unfold closureFor
  have e := closure_cap (env := env) scope.names [] h
  have e2 : (forIn scope.names ([] : List (Str × Addr)) fun x cs => (match x with
      | (name, kind) => if kind == .free then do
          let c ← cellOf env name
          pure (ForInStep.yield ((name, c) :: cs))
        else pure (ForInStep.yield cs) : Sem (ForInStep (List (Str × Addr))))) = pure (capOf env scope.names []) := e
  simp only [] at e2 ⊢
  first
    | (rw [e2]; rfl)
    | (erw [e2]; rfl)

theorem cap_lookup {env : Env} : ∀ {ns : List (Str × NameKind)} {acc : List (Str × Addr)} {x : Str} {c : Addr}, (∀ y ∈ ns, y.2 = .free → ∃ c, env.cells.lookup y.1 = some c) →
    (∀ y c, acc.lookup y = some c → env.cells.lookup y = some c) → (capOf env ns acc).lookup x = some c → env.cells.lookup x = some c
  | [], _, _, _, _, ha, e => ha _ _ e
  | (n, k) :: r, acc, x, c, h, ha, e => by
    have hr : ∀ y ∈ r, y.2 = .free → ∃ c, env.cells.lookup y.1 = some c := fun y hy => h y (List.mem_cons_of_mem _ hy)
    unfold capOf at e
    by_cases hk : k = .free
    · subst hk
      rw [if_pos (by simp)] at e
      obtain ⟨c', hc⟩ := h (n, .free) List.mem_cons_self rfl
      have hc' : env.cells.lookup n = some c' := hc
      refine cap_lookup hr (fun y d z => ?_) e
      rw [hc', Option.getD_some, List.lookup_cons] at z
      by_cases q : y = n
      · subst q
        simp at z
        subst z
        exact hc'
      · have q' : (y == n) = false := by simpa using q
        rw [q'] at z
        exact ha y d z
    · rw [if_neg (by simpa using hk)] at e
      exact cap_lookup hr ha e

theorem cap_has {env : Env} : ∀ {ns : List (Str × NameKind)} {acc : List (Str × Addr)} {x : Str}, ((∃ c, acc.lookup x = some c) ∨ (x, NameKind.free) ∈ ns) → ∃ c, (capOf env ns acc).lookup x = some c
  | [], _, _, h => by
    rcases h with h | h
    · exact h
    · exact nomatch h
  | (n, k) :: r, acc, x, h => by
    unfold capOf
    by_cases hk : k = .free
    · subst hk
      rw [if_pos (by simp)]
      refine cap_has ?_
      by_cases q : x = n
      · subst q
        left
        simp [List.lookup_cons]
      · have q' : (x == n) = false := by simpa using q
        rcases h with ⟨c, h⟩ | h
        · exact .inl ⟨c, by rw [List.lookup_cons, q']; exact h⟩
        · rcases List.mem_cons.mp h with z | z
          · cases z
            exact absurd rfl q
          · exact .inr z
    · rw [if_neg (by simpa using hk)]
      refine cap_has ?_
      rcases h with h | h
      · exact .inl h
      · rcases List.mem_cons.mp h with z | z
        · cases z
          exact absurd rfl hk
        · exact .inr z

/-- relabel, by the scopes alone -/
def relabelS (scope osc : Scope) : Scope :=
  { scope with names := scope.names.map fun (n, k) => if (k == .free && osc.kind == .function && osc.names.lookup n == some .cell) then (n, .cell) else (n, k) }
/-- what a comprehension's scope must be, seen from the scope around it -/
def compOk (scope osc : Scope) : Bool :=
  (scope.kind == .function) && (osc.kind == .function) && scope.names.all fun (n, k) => (k != .cell) && (k != .local || scope.names.lookup n == some .local) &&
    (k != .free || osc.names.lookup n == some .cell || osc.names.lookup n == some .free) && (k != .free || (relabelS scope osc).names.lookup n != some .local)

structure CompOk (scope osc : Scope) : Prop where
  kind : scope.kind = .function
  cell : ∀ x ∈ scope.names, x.2 ≠ .cell
  loc : ∀ x ∈ scope.names, x.2 = .local → scope.names.lookup x.1 = some .local
  free : ∀ x ∈ scope.names, x.2 = .free → osc.names.lookup x.1 = some .cell ∨ osc.names.lookup x.1 = some .free
  nl : ∀ x ∈ scope.names, x.2 = .free → (relabelS scope osc).names.lookup x.1 ≠ some .local
theorem CompOk.of {scope osc : Scope} (h : compOk scope osc = true) : CompOk scope osc := by
  unfold compOk at h
  rw [Bool.and_eq_true, Bool.and_eq_true, List.all_eq_true] at h
  obtain ⟨⟨h1, h0⟩, h2⟩ := h
  refine ⟨by simpa using h1, fun x hx => ?_, fun x hx e => ?_, fun x hx e => ?_, fun x hx e => ?_⟩
  all_goals
    obtain ⟨n, k⟩ := x
    have q := h2 (n, k) hx
    simp only [Bool.and_eq_true, Bool.or_eq_true, bne_iff_ne, beq_iff_eq] at q
  · exact q.1.1.1
  · exact q.1.1.2.resolve_left (fun z => z e)
  · rcases q.1.2 with (z | z) | z
    · exact absurd e z
    · exact .inl z
    · exact .inr z
  · exact q.2.resolve_left (fun z => z e)

theorem lookup_relabel {osc : Scope} : ∀ {ns : List (Str × NameKind)} {x : Str} {k' : NameKind},
    (ns.map fun (n, k) => if (k == NameKind.free && osc.kind == .function && osc.names.lookup n == some .cell) then (n, NameKind.cell) else (n, k)).lookup x = some k' →
    (k' = .cell ∨ k' = .free) → (∀ y ∈ ns, y.2 ≠ .cell) → (x, NameKind.free) ∈ ns
  | [], _, _, h, _, _ => by simp at h
  | (n, k) :: r, x, k', h, hk', hc => by
    have hr : ∀ y ∈ r, y.2 ≠ .cell := fun y hy => hc y (List.mem_cons_of_mem _ hy)
    have hn : k ≠ .cell := hc (n, k) List.mem_cons_self
    rw [List.map_cons] at h
    by_cases q : x = n
    · subst q
      by_cases z : (k == NameKind.free && osc.kind == .function && osc.names.lookup x == some .cell) = true
      · have : k = .free := by
          simp only [Bool.and_eq_true, beq_iff_eq] at z
          exact z.1.1
        subst this
        exact List.mem_cons_self
      · simp only [z, Bool.false_eq_true, if_false] at h
        rw [List.lookup_cons] at h
        simp at h
        subst h
        rcases hk' with e | e
        · exact absurd e hn
        · subst e; exact List.mem_cons_self
    · have q' : (x == n) = false := by simpa using q
      refine List.mem_cons_of_mem _ (lookup_relabel (osc := osc) (k' := k') ?_ hk' hr)
      by_cases z : (k == NameKind.free && osc.kind == .function && osc.names.lookup n == some .cell) = true
      · simp only [z, if_true] at h
        rw [List.lookup_cons, q'] at h
        exact h
      · simp only [z, Bool.false_eq_true, if_false] at h
        rw [List.lookup_cons, q'] at h
        exact h

/-! ### the block's context -/
def Cx.blk (X : Cx) (N' : List Str) (s₂ : Shared) (H₂ : Hp) (scope : Scope) (fp : List Addr) (C : Addr) : Cx where
  prog := X.prog
  w := X.w
  K := X.K
  mg := X.mg
  base := X.base
  A := X.A
  N := N'
  s₀ := s₂
  H₀ := H₂
  env := compEnvC scope (capOf X.env scope.names []) C X.env
  outer := X.stack
  stack := X.stack
  ex := fp
  fn := fun _ => false
  calm := X.calm
  pn := []
  xe := fun _ _ => False

/-- the slots of a block: its own names (nothing yet), then the captured ones by their places outside -/
def blkSt (k : Nat) (js : List Nat) (σ : St) : St := List.replicate k none ++ js.map fun j => (σ[j]?).join
def blkN (own : List Str) (js : List Nat) (N : List Str) : List Str := own ++ js.map fun j => N.getD j Str.empty

section
variable {X : Cx}
theorem Inv.capFree {pins : List (Addr × Obj)} {σ : St} {H : Hp} {s : Shared} {scope : Scope} (I : Inv X pins σ H s) (hk : CompOk scope X.env.scope) : ∀ x ∈ scope.names, x.2 = .free → ∃ c, X.env.cells.lookup x.1 = some c :=
  fun x hx e => I.ok.has x.1 (hk.free x hx e)

theorem Inv.capL {pins : List (Addr × Obj)} {σ : St} {H : Hp} {s : Shared} {scope : Scope} {x : Str} {c : Addr} (I : Inv X pins σ H s) (hk : CompOk scope X.env.scope) (e : (capOf X.env scope.names []).lookup x = some c) : X.env.cells.lookup x = some c :=
  cap_lookup (I.capFree hk) (fun _ _ z => by simp at z) e
theorem blk_ok {pins : List (Addr × Obj)} {σ : St} {H : Hp} {s : Shared} {N' : List Str} {scope : Scope} {fp : List Addr} {C : Addr} (I : Inv X pins σ H s) (hk : CompOk scope X.env.scope) (hC : s.heap.objs.size ≤ C)
    (hf : ∀ b ∈ fp, FpOk X pins H b) (ho : ∀ b ∈ fp, ∃ o, s.heap.get? b = some o) : (X.blk N' s H scope fp C).Ok where
  mod := I.ok.mod
  kind := hk.kind
  glob := I.ok.glob
  blt := I.ok.blt
  above := hC
  inj := fun x y c e1 e2 => I.ok.inj x y c (cap_lookup (I.capFree hk) (fun _ _ z => by simp at z) e1) (cap_lookup (I.capFree hk) (fun _ _ z => by simp at z) e2)
  has := fun x h => by
    refine cap_has (.inr ?_)
    rcases h with h | h
    · exact lookup_relabel (osc := X.env.scope) h (.inl rfl) hk.cell
    · exact lookup_relabel (osc := X.env.scope) h (.inr rfl) hk.cell
  cab := fun _ _ z => nomatch z
  hd := I.ok.hd
  frames := I.ok.frames
  stk := .inl rfl
  exf := fun b hb => ⟨fun e => by
    obtain ⟨o, q⟩ := ho b hb
    have e' : b = C := e
    rw [e'] at q
    exact absurd (Heap.lt_size q) (Nat.not_lt.mpr hC), fun x c e => (hf b hb).2.2.2.2.1 x c (cap_lookup (I.capFree hk) (fun _ _ z => by simp at z) e)⟩
  bs := I.bs
  bsz := Nat.le_trans I.ok.bsz I.sz
  noex := fun b o e hb => by
    rcases (hf b hb).2.2.2.1 with z | z
    · exact I.ok.noex b o e z
    · exact absurd (Heap.lt_size (I.ok.bs b o e).1) (Nat.not_lt.mpr z)
  exfs := fun b hb hs => by
    rcases List.mem_cons.mp (I.stkSub b hs) with z | z
    · exact (hf b hb).2.1 z
    · exact (hf b hb).2.2.1 z
  funs := I.stack
  frf := I.stkFree

/-- the block's entry -/
theorem blk_start {pins : List (Addr × Obj)} {σ : St} {H : Hp} {s s1 : Shared} {own : List Str} {js : List Nat} {scope : Scope} {fp : List Addr} {C : Addr} {m : Str → Option Value} (I : Inv X pins σ H s) (hk : CompOk scope X.env.scope) (hC : s.heap.objs.size ≤ C)
    (hf : ∀ b ∈ fp, FpOk X pins H b) (ho : ∀ b ∈ fp, ∃ o, s.heap.get? b = some o) (hos : s1.os = s.os) (hg : s1.gens = s.gens) (hn : s1.heap.Ns C m) (keep : ∀ b o, s.heap.get? b = some o → s1.heap.get? b = some o)
    (hcap : (js.all fun j => scope.names.contains (X.N.getD j Str.empty, NameKind.free)) = true) :
    Inv (X.blk (blkN own js X.N) s H scope fp C) [] (blkSt own.length js σ) H s1 := by
  have cl := fun {x : Str} {c : Addr} (e : (capOf X.env scope.names []).lookup x = some c) => cap_lookup (I.capFree hk) (fun _ _ z => by simp at z) e
  refine ⟨blk_ok I hk hC hf ho, hos, hg ▸ I.bare, Un.kept keep, ⟨m, hn, fun i x v e1 e2 e3 => ?_⟩, fun x c e => ?_, I.hok.fresh hC, fun x c e => I.freeC x c (cl e), fun p hp => (nomatch hp), I.hok.kept keep, ?_⟩
  · have e1' : (own ++ js.map fun j => X.N.getD j Str.empty)[i]? = some x := e1
    have e2' : (List.replicate own.length none ++ js.map fun j => (σ[j]?).join)[i]? = some (some v) := e2
    by_cases hi : i < own.length
    · rw [List.getElem?_append_left (by rw [List.length_replicate]; exact hi), List.getElem?_replicate, if_pos hi] at e2'
      cases e2'
    · have hi' : own.length ≤ i := Nat.le_of_not_lt hi
      rw [List.getElem?_append_right (by rw [List.length_replicate]; exact hi'), List.length_replicate, List.getElem?_map] at e2'
      rw [List.getElem?_append_right hi', List.getElem?_map] at e1'
      cases ej : js[i - own.length]? with
      | none => rw [ej] at e1'; cases e1'
      | some j =>
        rw [ej] at e1' e2'
        have ex : X.N.getD j Str.empty = x := Option.some.inj e1'
        have ev : (σ[j]?).join = some v := Option.some.inj e2'
        have hj : σ[j]? = some (some v) := by
          cases q : σ[j]? with
          | none => rw [q] at ev; cases ev
          | some z => rw [q] at ev; simp at ev; rw [ev]
        have hjl : j < X.N.length := by rw [← I.len]; exact (List.getElem?_eq_some_iff.mp hj).1
        have hN : X.N[j]? = some x := by rw [← ex, List.getD_eq_getElem?_getD, List.getElem?_eq_getElem hjl]; rfl
        have hx : (x, NameKind.free) ∈ scope.names := by
          have q := List.all_eq_true.mp hcap j (List.mem_of_getElem? ej)
          rw [ex] at q
          simpa using q
        have ko := hk.free _ hx rfl
        obtain ⟨mo, hno, hl⟩ := I.loc
        obtain ⟨u, ru, lk⟩ := hl j x v hN hj (ko.elim (fun z => .inr (.inl z)) fun z => .inr (.inr z))
        refine ⟨u, ru, ?_⟩
        rcases lk with ⟨kk, _⟩ | ⟨kk, c, ec, hc⟩
        · rcases ko with z | z
          · rw [show X.env.kindOf x = X.env.scope.names.lookup x from rfl, z] at kk; cases kk
          · rw [show X.env.kindOf x = X.env.scope.names.lookup x from rfl, z] at kk; cases kk
        · obtain ⟨c', hc'⟩ := cap_has (env := X.env) (ns := scope.names) (acc := []) (x := x) (.inr hx)
          have := cl hc'
          rw [ec] at this
          cases this
          refine .inr ⟨?_, c, hc', hc.keeps keep⟩
          -- its kind within the block
          rcases e3 with z | z | z
          · exact absurd z (hk.nl _ hx rfl)
          · exact .inl z
          · exact .inr z
  · obtain ⟨v, z⟩ := I.cell x c (cl e)
    exact ⟨v, z.keeps keep⟩
  · show (List.replicate own.length none ++ js.map fun j => (σ[j]?).join).length = (own ++ js.map fun j => X.N.getD j Str.empty).length
    simp

/-! ### the loop -/
def ifsOf (env : Env) (ifs : List Expr) : Sem Bool := forIn ifs true fun c r => if r = true then do let ok ← isTrue c env (eval c env); pure (ForInStep.yield ok) else pure (ForInStep.yield r)

theorem compLoop_any {prog : Program} {w : World} {A : Around} {R : Result → Shared → Prop} {s : Shared} {elt target iter : Expr} {ifs : List Expr} {scope : Scope} {pos : Pos} {it acc : Value} {env : Env} (I : Nat → Shared → Prop)
    (turn : ∀ n s, I n s → wpAny (model prog w) A (pyNext it) (fun r s₁ => match r with
      | none => R (.ok .next) s₁
      | some v => wpAny (model prog w) A (letOwnedTupleGo target it v) (fun _ s₁' => wpAny (model prog w) A (assign target env v) (fun _ s₂ =>
          wpAny (model prog w) A (ifsOf env ifs) (fun ok s₃ =>
            if ok = true then wpAny (model prog w) A (eval elt env) (fun x s₄ =>
              wpAny (model prog w) A (call (.builtin "list.append") [acc, x]) (fun _ s₅ => ∃ m, m < n ∧ I m s₅) (fun _ _ => False) s₄) (fun _ _ => False) s₃
            else ∃ m, m < n ∧ I m s₃) (fun _ _ => False) s₂) (fun _ _ => False) s₁') (fun _ _ => False) s₁) (fun _ _ => False) s)
    (n : Nat) (h : I n s) :
    codeAny (model prog w) A (.compLoop (.ListComp elt [⟨target, iter, ifs, 0⟩] scope pos) 0 it acc env) R s := by
  refine codeAny_loop rfl I (fun n s hI => ?_) n h
  show wpAny _ A ((compTurn (.ListComp elt [⟨target, iter, ifs, 0⟩] scope pos) 0 it acc env).onRaise (fun x => do noteFrame x env; theTreesLotGoes x)) _ _ s
  refine wpAny_noted ?_
  rw [compTurn_list]
  have up : ∀ {α : Type} {t : Sem α} {Q Q' : α → Shared → Prop} {E' : Value → Shared → Prop} {s : Shared}, wpAny (model prog w) A t Q (fun _ _ => False) s → (∀ a s, Q a s → Q' a s) → wpAny (model prog w) A t Q' E' s :=
    fun h hQ => wpAny_mono h hQ fun _ _ f => f.elim
  refine wpAny_bind (wpAny_standAt (wpAny_bind (up (turn n s hI) fun r s₁ h₁ => ?_)))
  cases r with
  | none => exact wpAny_pure h₁
  | some v =>
    refine wpAny_bind (up h₁ fun _ s₁' h₁' => wpAny_bind (up h₁' fun _ s₂ h₂ => wpAny_bind (up h₂ fun ok s₃ h₃ => ?_)))
    cases ok with
    | false => exact wpAny_pure ⟨rfl, h₃⟩
    | true =>
      exact wpAny_bind (wpAny_bind (up h₃ fun x s₄ h₄ => wpAny_bind (up h₄ fun _ s₅ h₅ => wpAny_pure (wpAny_pure ⟨rfl, h₅⟩))))

/-- the tests of a comprehension -/
def PIf (X : Cx) (ifs : List Expr) (t : TT) : Prop :=
  ∀ (pins : List (Addr × Obj)) (s : Shared) (σ : St) (H : Hp) (Q : Bool → Hp → Prop), Inv X pins σ H s → t σ H Q → wpAny (model X.prog X.w) X.A (ifsOf X.env ifs) (TP X pins σ Q) X.xe s
def tNoIf : TT := fun _ H Q => Q true H
theorem pif_nil {X : Cx} : PIf X [] tNoIf := fun pins s σ H Q I h => wpAny_tests_nil ⟨H, I, h⟩
/-- a comprehension's turns: W by the turn, a measure, what is gathered, the block's slots, the heap -/
def CompW (J : It) (g : TG) (ti : TT) (te : TE) (σ : St) (H : Hp) (Q : List V → Hp → Prop) : Prop :=
  ∃ W : Nat → Nat → List V → St → Hp → Prop, (∃ m, W 0 m [] σ H) ∧ ∀ i m acc σ' H', W i m acc σ' H' →
    acc.length < sizeLine ∧ ((J.stop i H' ∧ Q acc H') ∨
      (J.go i H' ∧ ∃ N : List V → St → Hp → Prop, (∀ acc' σ2 H2, N acc' σ2 H2 → ∃ m', m' < m ∧ W (i + 1) m' acc' σ2 H2) ∧
        ∀ x H2, J.yld i H' x H2 → g x σ' H2 fun σ2 H3 => ti σ2 H3 fun b H4 => if b = true then te σ2 H4 fun v H5 => N (acc ++ [v]) σ2 H5 else N acc σ2 H4))
/-- [elt for tg in iter if ..] -/
def tComp (k : Nat) (js : List Nat) (wi : TI) (g : TG) (ti : TT) (te : TE) : TE := fun σ H Q => wi σ H fun J H1 => CompW J g ti te (blkSt k js σ) H1 fun acc H' => ∀ l, H' l = none → Q (.ref l) (upd H' l (.lst acc))

/-- the object of a list -/
abbrev lstObj (its : List Value) (n : Nat) : Obj := { cls := .type "list", data := .seq its.toArray n }

theorem comp_core {pins : List (Addr × Obj)} {σ : St} {H : Hp} {s : Shared} {elt tg iter : Expr} {ifs : List Expr} {scope : Scope} {pos : Pos} {own : List Str} {js : List Nat} {g : TG} {ti : TT} {te : TE} {J : It} {fp : List Addr} {it : Addr} {tn : Nat → Heap → Prop} {Q : List V → Hp → Prop} {E : Value → Shared → Prop}
    {RR : Value → Addr → Result → Shared → Prop} (hc : X.calm = true) (hk : CompOk scope X.env.scope) (hcap : (js.all fun j => scope.names.contains (X.N.getD j Str.empty, NameKind.free)) = true)
    (hg : ∀ s H fp C, PG (X.blk (blkN own js X.N) s H scope fp C) tg g) (hi : ∀ s H fp C, PIf (X.blk (blkN own js X.N) s H scope fp C) ifs ti) (he : ∀ s H fp C, PE (X.blk (blkN own js X.N) s H scope fp C) elt te)
    (I : Inv X pins σ H s) (T : Turn X.prog X.w X.K tg J fp it tn) (st : tn 0 s.heap) (hf : ∀ b ∈ fp, FpOk X pins H b)
    (hW : CompW J g ti te (blkSt own.length js σ) H Q)
    (hRR : ∀ (D C : Addr) (s' : Shared) (H' : Hp) (acc : List V) (m : Str → Option Value), Q acc H' → H' D = none → Inv X pins σ (upd H' D (.lst acc)) s' → s'.heap.Ns C m → upd H' D (.lst acc) C = none → C ≠ X.env.locals → X.s₀.heap.objs.size ≤ C →
      (∀ x c, X.env.cells.lookup x = some c → c ≠ C) → (∀ p ∈ X.pn ++ pins, p.1 ≠ C) → RR (.ref D) C (.ok .next) s') :
    wpAny (model X.prog X.w) X.A (newList []) (fun acc s₃ => wpAny (model X.prog X.w) X.A (newFunctionEnv scope X.env.globals (capOf X.env scope.names []) [] X.env.qual none .none (some X.env)) (fun cenv s₄ =>
      codeAny (model X.prog X.w) X.A (.compStart (.ListComp elt [⟨tg, iter, ifs, 0⟩] scope pos) 0 (.ref it) acc { cenv with scope := relabel scope X.env }) (RR acc cenv.locals) s₄) E s₃) E s := by
  obtain ⟨W, ⟨m0, w0⟩, turn⟩ := hW
  refine wpAny_newObj_type (wpAny_newFunctionEnv hk.cell (by intro y hy; simp at hy) (fun h₁ hns₁ hsb₁ => ?_) hk.kind)
  dsimp only at hns₁ hsb₁ ⊢
  generalize hH2 : s.heap.push { cls := .type "list", dict := none, data := .seq ([] : List Value).toArray } = H2 at hns₁ hsb₁ ⊢
  have hC : H2.objs.size = s.heap.objs.size + 1 := by rw [← hH2, Heap.size_push]
  have hDC : s.heap.objs.size ≠ H2.objs.size := by rw [hC]; exact Nat.ne_of_lt (Nat.lt_succ_self _)
  have hCle : s.heap.objs.size ≤ H2.objs.size := by rw [hC]; exact Nat.le_succ _
  have below : ∀ b, b < s.heap.objs.size → b ≠ H2.objs.size ∧ b ≠ s.heap.objs.size := fun b hb => ⟨by rw [hC]; exact Nat.ne_of_lt (Nat.lt_succ_of_lt hb), Nat.ne_of_lt hb⟩
  have old : ∀ b o, s.heap.get? b = some o → h₁.get? b = some o := fun b o e => hsb₁.extBut b o (below b (Heap.lt_size e)).1 (Heap.get?_push_of_some _ (hH2 ▸ Heap.get?_push_of_some _ e))
  have hacc : h₁.get? s.heap.objs.size = some (lstObj [] 0) := hsb₁.extBut _ _ hDC (Heap.get?_push_of_some _ (hH2 ▸ Heap.get?_push_size _ rfl))
  have hob : ∀ b ∈ fp, ∃ o, s.heap.get? b = some o := fun b hb => let ⟨o, e, _⟩ := T.obj 0 _ st b hb; ⟨o, e⟩
  have st₁ : tn 0 h₁ := T.keep 0 _ _ st fun b _ o e => old b o e
  generalize hXb : X.blk (blkN own js X.N) s H scope fp H2.objs.size = Xb
  have I₁ : Inv Xb [] (blkSt own.length js σ) H { s with heap := h₁, toks := s.toks + ([] : List (Str × Value)).length } := hXb ▸ blk_start I hk hCle hf hob rfl rfl hns₁ old hcap
  have eP : Xb.prog = X.prog := by rw [← hXb]; rfl
  have ew : Xb.w = X.w := by rw [← hXb]; rfl
  have eK : Xb.K = X.K := by rw [← hXb]; rfl
  have eA : Xb.A = X.A := by rw [← hXb]; rfl
  have ec : Xb.calm = true := by rw [← hXb]; exact hc
  have eE : Xb.env = compEnvC scope (capOf X.env scope.names []) H2.objs.size X.env := by rw [← hXb]; rfl
  have ex : Xb.xe = fun _ _ => False := by rw [← hXb]; rfl
  have es : Xb.s₀ = s := by rw [← hXb]; rfl
  have eh : Xb.H₀ = H := by rw [← hXb]; rfl
  have ef : Xb.fs = frs X.stack := by rw [← hXb]; rfl
  have exx : Xb.ex = fp := by rw [← hXb]; rfl
  have ep : Xb.pn = [] := by rw [← hXb]; rfl
  have eL : Xb.env.locals = H2.objs.size := by rw [eE]; rfl
  have hD0 : H s.heap.objs.size = none := I.hok.fresh (Nat.le_refl _)
  -- D is no iterator's, no frame's
  have hDf : ∀ b ∈ fp, b ≠ s.heap.objs.size := fun b hb e => by
    obtain ⟨o, q⟩ := hob b hb
    rw [e] at q
    exact absurd (Heap.lt_size q) (Nat.lt_irrefl _)
  have hDs : s.heap.objs.size ∉ Xb.fs := fun z => by
    rw [ef] at z
    rcases List.mem_cons.mp (I.stkSub _ z) with q | q
    · exact absurd I.lt (by rw [← q]; exact Nat.lt_irrefl _)
    · exact I.nofs (Nat.le_refl _) q
  have hDcell : ∀ x c, Xb.env.cells.lookup x = some c → c ≠ s.heap.objs.size := fun x c e q => by
    obtain ⟨v, o, ho, _⟩ := I.cell x c (I.capL hk (by rw [eE] at e; exact e))
    rw [q] at ho
    exact absurd (Heap.lt_size ho) (Nat.lt_irrefl _)
  have stat : ∀ {pl : List (Addr × Obj)} {H' : Hp}, (∀ b ∈ fp, H' b = none) → (∀ p ∈ pl, p.1 = s.heap.objs.size) → ∀ b ∈ fp, FpOk Xb pl H' b := fun hn hp b hb => by
    refine ⟨hn b hb, ?_, ?_, .inl (by rw [exx]; exact hb), fun x c e => ?_, fun p hpp => ?_⟩
    · rw [eL]; exact (below b (let ⟨o, q⟩ := hob b hb; Heap.lt_size q)).1
    · rw [ef]; intro z
      rcases List.mem_cons.mp (I.stkSub b z) with q | q
      · exact (hf b hb).2.1 q
      · exact (hf b hb).2.2.1 q
    · exact (hf b hb).2.2.2.2.1 x c (I.capL hk (by rw [eE] at e; exact e))
    · rw [ep, List.nil_append] at hpp
      rw [hp p hpp]
      exact (hDf b hb).symm
  have loop : ∀ s₃ : Shared, s₃ = { s with heap := h₁, toks := s.toks + ([] : List (Str × Value)).length } →
      codeAny (model X.prog X.w) X.A (.compLoop (.ListComp elt [⟨tg, iter, ifs, 0⟩] scope pos) 0 (.ref it) (.ref s.heap.objs.size) (compEnvC scope (capOf X.env scope.names []) H2.objs.size X.env))
        (RR (.ref s.heap.objs.size) H2.objs.size) s₃ := by
    rintro s₃ rfl
    refine compLoop_any (fun n s' => ∃ (i : Nat) (acc : List V) (its : List Value) (k : Nat) (σ' : St) (H' : Hp), Inv Xb [] σ' H' s' ∧ tn i s'.heap ∧ (∀ b ∈ fp, H' b = none) ∧ H' s.heap.objs.size = none ∧ s'.heap.get? s.heap.objs.size = some (lstObj its k) ∧ Vals acc its ∧ W i n acc σ' H')
      ?_ m0 ⟨0, [], [], 0, _, H, I₁, st₁, fun b hb => (hf b hb).1, hD0, hacc, .nil, w0⟩
    rintro n s' ⟨i, acc, its, k, σ', H', I', st', fr', hD', oD', rv', w'⟩
    obtain ⟨hlen, tt⟩ := turn i n acc σ' H' w'
    -- the gathered list, pinned
    have Ip : Inv Xb [(s.heap.objs.size, lstObj its k)] σ' H' s' := I'.pins_of fun p hp => by
      have e : p = (s.heap.objs.size, lstObj its k) := by simpa using hp
      subst e
      exact ⟨oD', hD', by rw [eL]; exact hDC, hDs, fun v z => by cases z⟩
    have hpl : ∀ p ∈ [(s.heap.objs.size, lstObj its k)], p.1 = s.heap.objs.size := fun p hp => by
      have e : p = (s.heap.objs.size, lstObj its k) := by simpa using hp
      rw [e]
    rcases tt with ⟨stop, q⟩ | ⟨go, N, hN, step⟩
    · have d := T.done Xb eP ew eK ec i _ s' σ' H' (fun _ _ => False) Ip (stat fr' hpl) st' stop
      rw [eA] at d
      refine wpAny_mono d (fun r s1 hr => ?_) fun _ _ z => z
      obtain ⟨rfl, I1⟩ := hr
      have oD1 : s1.heap.get? s.heap.objs.size = some (lstObj its k) := (I1.pin _ (List.mem_append_right _ (List.mem_singleton.mpr rfl))).1
      obtain ⟨mC, hnC, _⟩ := I1.loc
      rw [eL] at hnC
      obtain ⟨oC, _, _, hoC, _⟩ := id hnC
      have hCH : H' H2.objs.size = none := by have := I1.free; rwa [eL] at this
      have ub : Un (frs X.stack) fp H H' s.heap s1.heap := by have := I1.base; rwa [ef, exx, eh, es] at this
      refine hRR _ _ s1 H' acc mC q hD' ?_ hnC ?_ ?_ ?_ ?_ ?_
      · -- back outside
        refine I.call' (ch := fp) (by have := I1.os; rwa [es] at this) ⟨fun b o e n1 h1 h2 => ub.keep b o e n1 h1 h2, fun b o e n1 h1 h2 => ub.slot b o e n1 h1 h2, fun b o e n1 h1 => ?_, ub.there, fun b xs e => ?_, fun b o u e => ?_, fun b ps e => ?_⟩ ?_ (by have := I1.bare; exact this) fun b hb => ?_
        · rw [upd_ne (fun z => by rw [z] at e; exact absurd (Heap.lt_size e) (Nat.lt_irrefl _))]
          exact ub.free b o e n1 h1
        · rw [upd_ne (ne_of_none (ub.tups b xs e) hD')]
          exact ub.tups b xs e
        · rw [upd_ne (ne_of_none (ub.frzs b o u e) hD')]
          exact ub.frzs b o u e
        · obtain ⟨more, z⟩ := ub.tbls b ps e
          exact ⟨more, by rw [upd_ne (ne_of_none z hD')]; exact z⟩
        · intro b u e
          have hokb := I1.hok
          rw [eP, ew] at hokb
          by_cases hb : b = s.heap.objs.size
          · subst hb
            rw [upd_same] at e
            cases e
            exact ⟨Nat.le_of_lt hlen, its, k, rv', oD1⟩
          · rw [upd_ne hb] at e
            refine (hokb b u e).stay (fun c v _ z => z) (fun c z => ?_) fun c xs z => ?_
            · rw [upd_ne (ne_of_none z hD')]; exact z
            · rw [upd_ne (ne_of_none z hD')]; exact z
        · exact ⟨(hf b hb).2.2.2.1, (hf b hb).2.1, (hf b hb).2.2.2.2.1, (hf b hb).2.2.2.2.2⟩
      · rw [upd_ne hDC.symm]; exact hCH
      · intro z; have := I.lt; rw [← z] at this; exact absurd this (Nat.not_lt.mpr hCle)
      · exact Nat.le_trans I.sz hCle
      · intro x c e z
        obtain ⟨v, o, ho, _⟩ := I.cell x c e
        rw [z] at ho
        exact absurd (Heap.lt_size ho) (Nat.not_lt.mpr hCle)
      · intro p hp z
        have := (I.pin p hp).1
        rw [z] at this
        exact absurd (Heap.lt_size this) (Nat.not_lt.mpr hCle)
    · have d := T.item Xb eP ew eK ec i _ s' σ' H' (fun _ _ => False) Ip (stat fr' hpl) st' go
      rw [eA] at d
      refine wpAny_mono d (fun r s1 hr => ?_) fun _ _ z => z
      obtain ⟨u, rfl, d2⟩ := hr
      refine wpAny_mono d2 (fun _ s2 hr2 => ?_) fun _ _ z => z
      obtain ⟨x, H2', I2, r2, y2, st2, fr2⟩ := hr2
      have I2' := I2.pinned (stat fr2 hpl) (T.obj _ _ st2)
      have G := hXb ▸ hg s H fp H2.objs.size
      have d3 := G _ s2 σ' H2' x u _ I2' r2 (step x H2' y2)
      rw [eP, ew, eA, ex, eE] at d3
      refine wpAny_mono d3 (fun _ s3 hr3 => ?_) fun _ _ z => z
      obtain ⟨σ3, H3, I3, q3⟩ := hr3
      have Gi := hXb ▸ hi s H fp H2.objs.size
      have d4 := Gi _ s3 σ3 H3 _ I3 q3
      rw [eP, ew, eA, ex, eE] at d4
      refine wpAny_mono d4 (fun b s4 hr4 => ?_) fun _ _ z => z
      obtain ⟨H4, I4, q4⟩ := hr4
      have again : ∀ {s5 : Shared} {H5 : Hp} {σ5 : St}, Inv Xb ([(s.heap.objs.size, lstObj its k)] ++ pinsAt fp s2.heap) σ5 H5 s5 → s5.heap.get? s.heap.objs.size = some (lstObj its k) ∧ H5 s.heap.objs.size = none ∧ tn (i + 1) s5.heap ∧ ∀ b ∈ fp, H5 b = none := fun {s5 H5 σ5} I5 => by
        have pD := I5.pin (s.heap.objs.size, lstObj its k) (List.mem_append_right _ (List.mem_append_left _ (List.mem_singleton.mpr rfl)))
        refine ⟨pD.1, pD.2.1, T.keep _ _ _ st2 fun b hb o e => (I5.pin (b, o) (List.mem_append_right _ (List.mem_append_right _ (mem_pinsAt hb e)))).1, fun b hb => ?_⟩
        obtain ⟨o, e, _⟩ := T.obj _ _ st2 b hb
        exact (I5.pin (b, o) (List.mem_append_right _ (List.mem_append_right _ (mem_pinsAt hb e)))).2.1
      have bare : ∀ {s5 : Shared} {H5 : Hp} {σ5 : St} {pl : List (Addr × Obj)}, Inv Xb pl σ5 H5 s5 → Inv Xb [] σ5 H5 s5 := fun I5 => I5.pins_of fun p hp => nomatch hp
      cases b with
      | false =>
        obtain ⟨m', hm, w5⟩ := hN _ _ _ q4
        obtain ⟨a1, a2, a3, a4⟩ := again I4
        exact ⟨m', hm, i + 1, acc, its, k, σ3, H4, bare I4, a3, a4, a2, a1, rv', w5⟩
      | true =>
        have Ge := hXb ▸ he s H fp H2.objs.size
        have d5 := Ge _ s4 σ3 H4 _ I4 q4
        rw [eP, ew, eA, ex, eE] at d5
        refine wpAny_mono d5 (fun y s5 hr5 => ?_) fun _ _ z => z
        obtain ⟨v, H5, I5, r5, q5⟩ := hr5
        obtain ⟨m', hm, w5⟩ := hN _ _ _ q5
        obtain ⟨a1, a2, a3, a4⟩ := again I5
        have hl := rv'.length
        refine call_meets F.slot_list_append ⟨_, a1, rfl⟩ F.entry_list_append (F.args_list_append_2 _ _) (PySem.list_append s.heap.objs.size its.toArray k y (by rw [List.size_toArray]; omega)) ⟨a1, ?_⟩
        have qu := PySem.IsL.update a1 (fun x_1 => x_1.push y)
        have qe : (its.toArray.push y) = (its ++ [y]).toArray := by simp
        rw [qe] at qu
        have I6 : Inv Xb [] σ3 H5 { s5 with heap := s5.heap.update s.heap.objs.size (Obj.mapSeq fun x_1 => x_1.push y), toks := s5.toks } :=
          (bare I5).turned (fun b o hb e => (Heap.get?_update_other s5.heap _ (Ne.symm hb)).trans e) a2 (by rw [eL]; exact hDC) (.inr (by rw [es]; exact Nat.le_refl _)) hDcell (by rw [ep]; intro p hp; exact nomatch hp)
        refine ⟨m', hm, i + 1, acc ++ [v], its ++ [y], _, σ3, H5, I6, T.keep _ _ _ a3 (fun b hb o e => (Heap.get?_update_other s5.heap _ (hDf b hb).symm).trans e), a4, a2, qu, rv'.append (.cons r5 .nil), w5⟩
  refine codeAny_compStart_list (loop _ rfl) ?_
  exact T.self _ 0 _ _ _ st₁ (loop _ rfl)

/-- a list comprehension of one clause -/
theorem pe_comp {elt tg iter : Expr} {ifs : List Expr} {scope : Scope} {pos : Pos} (own : List Str) (js : List Nat) {wi : TI} {g : TG} {ti : TT} {te : TE} (hc : X.calm = true) (hk : CompOk scope X.env.scope)
    (hcap : (js.all fun j => scope.names.contains (X.N.getD j Str.empty, NameKind.free)) = true) (hw : PI X tg iter wi)
    (hg : ∀ s H fp C, PG (X.blk (blkN own js X.N) s H scope fp C) tg g) (hi : ∀ s H fp C, PIf (X.blk (blkN own js X.N) s H scope fp C) ifs ti) (he : ∀ s H fp C, PE (X.blk (blkN own js X.N) s H scope fp C) elt te)
    (hs : ∀ x, foldedSetIterable iter X.env x = pure x := by intro _; rfl) : PE X (.ListComp elt [⟨tg, iter, ifs, 0⟩] scope pos) (tComp own.length js wi g ti te) := by
  intro pins s σ H Q I h
  rw [eval_ListComp]
  refine wpAny_comprehension_free (use := none) rfl hs (closureFor_cap (I.capFree hk)) hk.kind hk.loc (thn (hw pins s σ H _ I h) fun v s1 h1 => thn h1 fun itv s2 h2 => ?_)
  obtain ⟨it, fp, tn, J, H2, rfl, I2, T, st2, f2, hW⟩ := h2
  refine comp_core (RR := fun acc C => compPost (model X.prog X.w) X.A X.xe none (EP X pins σ Q) acc C) (Q := fun acc H' => ∀ l, H' l = none → Q (.ref l) (upd H' l (.lst acc))) hc hk hcap hg hi he I2 T st2 f2 hW ?_
  intro D C s' H' acc m q hD I' hn hC0 hCL hCs hCc hCp
  refine ⟨m, hn, fun h' sb => ?_⟩
  exact ⟨.ref D, _, I'.turned (t' := s'.toks) (fun b o hb e => (sb.2 b hb).trans e) hC0 hCL (.inr hCs) hCc hCp, rfl, q D hD⟩

end

/-! ### the forms one uses: Pv by the turn, what is gathered, the block's slots, the heap -/
section
variable {K : PySem.W.Frag} {g : TG} {ti : TT} {te : TE} {σ : St} {H : Hp} {Q : List V → Hp → Prop}
theorem comp_by {J : It} {n : Nat} (Pv : Nat → List V → St → Hp → Prop) (h0 : Pv 0 [] σ H) (hz : ∀ i acc σ H, Pv i acc σ H → acc.length < sizeLine) (hi : ∀ i acc σ H, Pv i acc σ H → i ≤ n)
    (stop : ∀ acc σ H, Pv n acc σ H → J.stop n H) (go : ∀ i acc σ H, i < n → Pv i acc σ H → J.go i H)
    (hs : ∀ i x acc σ H H2, i < n → Pv i acc σ H → J.yld i H x H2 → g x σ H2 fun σ2 H3 => ti σ2 H3 fun b H4 => if b = true then te σ2 H4 fun v H5 => Pv (i + 1) (acc ++ [v]) σ2 H5 else Pv (i + 1) acc σ2 H4)
    (he : ∀ acc σ H, Pv n acc σ H → Q acc H) :
    CompW J g ti te σ H Q := by
  refine ⟨fun i m acc σ H => Pv i acc σ H ∧ m = n + 1 - i, ⟨n + 1, h0, rfl⟩, ?_⟩
  rintro i m acc σ' H' ⟨w, rfl⟩
  refine ⟨hz i acc σ' H' w, ?_⟩
  have hle := hi i acc σ' H' w
  rcases Nat.lt_or_ge i n with hlt | hge
  · refine .inr ⟨go i acc σ' H' hlt w, fun acc' σ2 H2 => Pv (i + 1) acc' σ2 H2, fun acc' σ2 H2 w2 => ⟨n + 1 - (i + 1), ?_, w2, rfl⟩, fun x H2 y => hs i x acc σ' H' H2 hlt w y⟩
    have := hi (i + 1) acc' σ2 H2 w2
    omega
  · have e : i = n := by omega
    subst e
    exact .inl ⟨stop acc σ' H' w, he acc σ' H' w⟩
theorem comp_list {a : Addr} {xs : List V} (Pv : Nat → List V → St → Hp → Prop) (h0 : Pv 0 [] σ H) (hz : ∀ i acc σ H, Pv i acc σ H → acc.length < sizeLine) (hi : ∀ i acc σ H, Pv i acc σ H → i ≤ xs.length)
    (hl : ∀ i acc σ H, Pv i acc σ H → SqL K H a xs)
    (hs : ∀ i x acc σ H, xs[i]? = some x → Pv i acc σ H → g x σ H fun σ2 H3 => ti σ2 H3 fun b H4 => if b = true then te σ2 H4 fun v H5 => Pv (i + 1) (acc ++ [v]) σ2 H5 else Pv (i + 1) acc σ2 H4)
    (he : ∀ acc σ H, Pv xs.length acc σ H → Q acc H) : CompW (Itl K a) g ti te σ H Q := by
  exact comp_by (J := Itl K a) (g := g) (ti := ti) (te := te) (Q := Q) (n := xs.length) Pv h0 hz hi (fun acc σ H w => ⟨xs, hl _ _ _ _ w, Nat.le_refl _⟩)
    (fun i acc σ H hlt w => ⟨xs, xs[i], hl _ _ _ _ w, List.getElem?_eq_getElem hlt⟩) (fun i x acc σ H H2 hlt w y => by obtain ⟨rfl, hx⟩ := y; exact hs i x acc σ H2 (hx xs (hl _ _ _ _ w)) w) he
theorem comp_range {lo : Int} {n : Nat} (Pv : Nat → List V → St → Hp → Prop) (h0 : Pv 0 [] σ H) (hz : ∀ i acc σ H, Pv i acc σ H → acc.length < sizeLine) (hi : ∀ i acc σ H, Pv i acc σ H → i ≤ n)
    (hs : ∀ i acc σ H, i < n → Pv i acc σ H → g (.int (lo + i)) σ H fun σ2 H3 => ti σ2 H3 fun b H4 => if b = true then te σ2 H4 fun v H5 => Pv (i + 1) (acc ++ [v]) σ2 H5 else Pv (i + 1) acc σ2 H4)
    (he : ∀ acc σ H, Pv n acc σ H → Q acc H) : CompW (Itr lo n) g ti te σ H Q := by
  exact comp_by (J := Itr lo n) (g := g) (ti := ti) (te := te) (Q := Q) (n := n) Pv h0 hz hi (fun acc σ H w => Nat.le_refl _) (fun i acc σ H hlt w => hlt) (fun i x acc σ H H2 hlt w y => by obtain ⟨rfl, rfl⟩ := y; exact hs i acc σ H2 hlt w) he
end
end L2

set_option Elab.async false
set_option linter.all false
set_option maxRecDepth 100000
/-! Rules beyond the layer, 2: texts, reversed, isinstance, equality of data, calls in short. -/
namespace L2
open PySem PySem.Spec PyProof.Rows

/-! ### calls of the text's own defs, in short -/
structure Cal (P : Program) (w : World) (K : PySem.W.Frag) (mg : Str → Option Value) (base : Heap) (CX : CXT) (k : Nat) (x : Str) (ps : List Str) (sp : Sp) : Prop where
  ex : ∃ (f : Addr) (fd : FuncData), FnOk P w K mg base CX k f fd ps sp ∧ mg x = some (.ref f) ∧ PySem.W.keepIn K (.ref f) = true ∧ Binds K fd ps []
/-- the built-in names that the text leaves as they are -/
structure NB (mg : Str → Option Value) : Prop where
  len : mg "len" = none
  range : mg "range" = none
  list : mg "list" = none
  tuple : mg "tuple" = none
  isinstance : mg "isinstance" = none
  int : mg "int" = none
  bool : mg "bool" = none
  str : mg "str" = none
  reversed : mg "reversed" = none
  all : mg "all" = none
  enumerate : mg "enumerate" = none
  zip : mg "zip" = none
  sorted : mg "sorted" = none
  set : mg "set" = none
  dict : mg "dict" = none
  min : mg "min" = none
  max : mg "max" = none
  sum : mg "sum" = none
  ValueError : mg "ValueError" = none

section
variable {X : Cx} {CX : CXT} {k : Nat} {x : Str} {ps : List Str} {sp : Sp} {E : XK} {p pos : Pos} {e : Expr} {es : List Expr} {t : TA}
theorem pe_cal (C : Cal X.prog X.w X.K X.mg X.base CX k x ps sp) (hr : Room k X.A) (hg : Gl X x) (hx : Passes CX X E) (ha : PA X (e :: es) t) (hdb : (x == ("__debug__" : Str)) = false := by decide +kernel)
    (hst : starEach (e :: es) X.env = (false, eval e X.env) :: starEach es X.env := by rfl) (hpl : (backTo pos (starEach es X.env)).any (·.1) = false := by rfl) : PE X (.Call (.Name x p) (e :: es) [] pos) (tCall sp [] E t) := by
  obtain ⟨f, fd, F, hm, hk, hb⟩ := C.ex
  exact pe_call F hr hg hm hk hb .nil hx ha hdb hst hpl
end

section
variable {X : Cx} {tg : Expr}
/-! ### // by a positive number below 2^64 -/
def CDivP (_ j : Int) : Prop := 0 < j ∧ j < 18446744073709551616
theorem op_fdivP : OpR X (binaryOp .FloorDiv) (rI CDivP fun i j => .int (i / j)) := opI fun i j _ _ _ _ _ hc q => by
  have h1 : (0 : Int) < j := hc.1
  have h2 : j < 18446744073709551616 := hc.2
  refine floordiv_int (by omega) (by rw [Int.fdiv_eq_ediv_of_nonneg i (by omega)]; exact q) (.inl (PyProof.noPylong_of_log2 ?_))
  have h64 : j.natAbs.log2 < 64 := (Nat.log2_lt (by omega)).mpr (by omega)
  omega

/-! ### sep.join(xs) -/
theorem strsAre_of : ∀ {ys : List Str} {us : List Value}, Vals (ys.map V.str) us → StrsAre us ys
  | [], _, .nil => .nil
  | y :: ys, _, .cons r t => by
    obtain ⟨tk, rfl⟩ := r
    exact .cons y tk (strsAre_of t)
def rJoin (K : PySem.W.Frag) : V → List V → Hp → VK → Prop := fun x xs H Q => ∃ z p ys, x = .str z ∧ xs = [.ref p] ∧ (SqL K H p (ys.map V.str) ∨ SqT K H p (ys.map V.str)) ∧ (ys.map (·.length)).sum + ys.length * z.length ≤ 16777216 ∧ Q (.str (Txt.join z ys)) H
theorem mt_join : MtR X "str.join" (rJoin X.K) := by
  intro pins s σ H x xs v us Q I rx rv h
  obtain ⟨z, p, ys, rfl, rfl, hs, hz, q⟩ := h
  obtain ⟨t, rfl⟩ := rx
  obtain ⟨u, rfl, ru⟩ := rv.one
  cases ru
  rcases hs with hs | hs
  · obtain ⟨its, r, pl, _⟩ := I.list hs
    exact join_list pl.isList (by simpa using strsAre_of r) hz fun t' k => ⟨.str _, H, I.tok k, ⟨t', rfl⟩, q⟩
  · obtain ⟨its, r, pl, _⟩ := I.tuple hs
    exact join_tuple pl (by simpa using strsAre_of r) hz fun t' k => ⟨.str _, H, I.tok k, ⟨t', rfl⟩, q⟩

/-! ### for c in a text -/
def Its (x : Str) : It := ⟨fun i _ => i < x.cps.size, fun i H v H' => H' = H ∧ ∃ c, x.cps[i]? = some c ∧ v = .str ⟨#[c]⟩, fun i _ => x.cps.size ≤ i⟩
theorem turn_str {P : Program} {w : World} {K : PySem.W.Frag} {tg : Expr} (x : Str) (t : Tok) (it : Addr) : Turn P w K tg (Its x) [it] it (fun i h => h.IsStrIter it (strIterType x) x t i) where
  mem := by simp
  obj := fun i h st b hb => by
    have e : b = it := by simpa using hb
    subst e
    obtain ⟨o, e, c, d⟩ := st
    exact ⟨o, e, fun v z => by rw [d] at z; cases z⟩
  keep := fun i h h' st k => by
    obtain ⟨o, e, c, d⟩ := st
    exact ⟨o, k it (by simp) o e, c, d⟩
  item := by
    intro X hP hw hK hc i pins s σ H E I hf st hg
    subst hP hw hK
    obtain ⟨f0, f1, f2, f3, f4, f5⟩ := hf it (by simp)
    have hi : i < x.cps.size := hg
    have hx : x.cps[i]? = some x.cps[i] := Array.getElem?_eq_getElem hi
    have fin : ∀ h', h'.IsStrIter it (strIterType x) x t (i + 1) → Heap.SameBut it s.heap h' → ∃ u, (some (Value.str ⟨#[x.cps[i]]⟩ s.toks)) = some u ∧
        wpAny (model X.prog X.w) X.A (letOwnedTupleGo tg (.ref it) u) (fun _ s2 => ∃ v H', Inv X pins σ H' s2 ∧ RelV v u ∧ (Its x).yld i H v H' ∧ s2.heap.IsStrIter it (strIterType x) x t (i + 1) ∧ ∀ b ∈ [it], H' b = none) E { s with heap := h', toks := s.toks + 1 } := fun h' st' sb => by
      have I1 : Inv X pins σ H { s with heap := h', toks := s.toks + 1 } := I.turned (fun b o hb e => (sb.2 b hb).trans e) f0 f1 f3 f4 f5
      obtain ⟨o, e, c, d⟩ := id st'
      refine ⟨_, rfl, go_of (s := { s with heap := h', toks := s.toks + 1 }) e c d ?_ ⟨.str ⟨#[x.cps[i]]⟩, H, I1, ⟨_, rfl⟩, ⟨rfl, _, hx, rfl⟩, st', fun b hb => (hf b hb).1⟩⟩
      unfold strIterType
      split <;> decide
    cases ha : x.cps.all (· < 128) with
    | true =>
      have ety : strIterType x = "str_ascii_iterator" := by unfold strIterType; rw [ha]; rfl
      rw [ety] at st fin ⊢
      exact wpAny_pyNext_ascii_item st hx fin
    | false =>
      have ety : strIterType x = "str_iterator" := by unfold strIterType; rw [ha]; rfl
      rw [ety] at st fin ⊢
      exact wpAny_pyNext_wide_item st hx fin
  done := by
    intro X hP hw hK hc i pins s σ H E I hf st hg
    subst hP hw hK
    obtain ⟨f0, f1, f2, f3, f4, f5⟩ := hf it (by simp)
    have hi : x.cps.size ≤ i := hg
    have hx : x.cps[i]? = none := Array.getElem?_eq_none hi
    cases ha : x.cps.all (· < 128) with
    | true =>
      have ety : strIterType x = "str_ascii_iterator" := by unfold strIterType; rw [ha]; rfl
      rw [ety] at st
      exact wpAny_pyNext_ascii_end (I.ok.hd hc) st hx fun h' eb => ⟨rfl, I.turned (t' := s.toks) (fun b o hb e => eb b o hb e) f0 f1 f3 f4 f5⟩
    | false =>
      have ety : strIterType x = "str_iterator" := by unfold strIterType; rw [ha]; rfl
      rw [ety] at st
      exact wpAny_pyNext_wide_end (I.ok.hd hc) st hx fun h' eb => ⟨rfl, I.turned (t' := s.toks) (fun b o hb e => eb b o hb e) f0 f1 f3 f4 f5⟩
  self := fun A i s Q E st h => by
    cases ha : x.cps.all (· < 128) with
    | true =>
      have ety : strIterType x = "str_ascii_iterator" := by unfold strIterType; rw [ha]; rfl
      rw [ety] at st
      exact wpAny_pyIter_striter_ascii st h
    | false =>
      have ety : strIterType x = "str_iterator" := by unfold strIterType; rw [ha]; rfl
      rw [ety] at st
      exact wpAny_pyIter_striter_wide st h
def iStr (tl : TE) : TI := fun σ H R => tl σ H fun v H1 => ∃ x, v = .str x ∧ R (Its x) H1
theorem pi_str {l : Expr} {tl : TE} (hl : PE X l tl) : PI X tg l (iStr tl) := by
  intro pins s σ H R I h
  refine thn (hl pins s σ H _ I h) fun v s1 ⟨x, H1, I1, r1, q1⟩ => ?_
  obtain ⟨x, rfl, q⟩ := q1
  obtain ⟨t, rfl⟩ := r1
  refine wpAny_pyIter_strU ?_
  refine ⟨s1.heap.objs.size, [s1.heap.objs.size], _, _, H1, rfl, I1.kept (t' := s1.toks) fun b o e => Heap.get?_push_of_some _ e, turn_str x t _, ⟨_, Heap.get?_push_size _ rfl, rfl, rfl⟩, fun b hb => ?_, q⟩
  have e : b = s1.heap.objs.size := by simpa using hb
  subst e
  exact I1.fpOk (Nat.le_refl _) (I1.hok.fresh (Nat.le_refl _))

/-! ### for x in reversed(a list) -/
def Itv (K : PySem.W.Frag) (a : Addr) (n : Nat) : It :=
  ⟨fun i H => ∃ xs x, SqL K H a xs ∧ i < n ∧ xs[n - 1 - i]? = some x, fun i H x H' => H' = H ∧ ∀ xs, SqL K H a xs → xs[n - 1 - i]? = some x, fun i _ => i = n⟩
def iRev (K : PySem.W.Frag) (ta : TA) : TI := fun σ H R => ta σ H fun vs H1 => ∃ a xs, vs = [.ref a] ∧ SqL K H1 a xs ∧ R (Itv K a xs.length) H1
/-! ### a slice of a text -/
def rSlS : V → Option Int → Option Int → Hp → VK → Prop := fun x lo hi H Q => ∃ z, x = .str z ∧ z.length ≤ sizeLine ∧ Q (.str (Txt.slice z lo hi)) H
theorem sl_str : SlR X rSlS := by
  intro pins s σ H x v vl vu lo hi sl Q I rx hs pl pu h
  obtain ⟨z, rfl, hz, q⟩ := h
  obtain ⟨t, rfl⟩ := rx
  have fin : ∀ t' k, EP X pins σ Q (.str (Txt.slice z lo hi) t') { s with toks := k } := fun t' k => ⟨.str _, H, I.tok k, ⟨t', rfl⟩, q⟩
  refine ⟨"str", _, F.slot_str_getitem.lookup, typeIs_str _ _ _, ?_⟩
  cases pl with
  | none =>
    cases pu with
    | none => exact wpAny_getItem_str_slice (l := none) (u := none) (st := none) hs rfl (post_val_or_str ⟨Nat.le_trans (Txt.slice_le z _ _) hz, fin⟩)
    | int j uj => exact wpAny_getItem_str_slice (l := none) (u := some (j, uj)) (st := none) hs rfl (post_val_or_str ⟨Nat.le_trans (Txt.slice_le z _ _) hz, fin⟩)
  | int i ui =>
    cases pu with
    | none => exact wpAny_getItem_str_slice (l := some (i, ui)) (u := none) (st := none) hs rfl (post_val_or_str ⟨Nat.le_trans (Txt.slice_le z _ _) hz, fin⟩)
    | int j uj => exact wpAny_getItem_str_slice (l := some (i, ui)) (u := some (j, uj)) (st := none) hs rfl (post_val_or_str ⟨Nat.le_trans (Txt.slice_le z _ _) hz, fin⟩)

/-! ### sep.join(reversed(text)) -/
def tJR (sep : Str) (ta : TA) : TE := fun σ H Q => ta σ H fun vs H1 => ∃ x, vs = [.str x] ∧ x.length ≤ 1000 ∧ sep.length ≤ 1000 ∧ Q (.str (Txt.join sep (x.cps.toList.reverse.map fun c => (⟨#[c]⟩ : Str)))) H1
/-! ### isinstance -/
def clsV : V → Value
  | .ty n => .type n
  | .ref a => .ref a
  | _ => .none
def isClsV : V → Bool
  | .ty _ => true
  | .ref _ => true
  | _ => false
theorem clsV_of {c : V} {u : Value} (r : RelV c u) (h : isClsV c = true) : u = clsV c := by
  cases c with
  | ty n => exact r
  | ref a => exact r
  | _ => cases h
/-- isinstance(x, c) of one class -/
def rIsi (K : PySem.W.Frag) : List V → Hp → VK → Prop := fun xs H Q => ∃ x c t b, xs = [x, c] ∧ isClsV c = true ∧ TyOf K H x t ∧ PySem.W.kitOne K t (clsV c) = some b ∧ Q (.bl b) H
theorem call_isinstance : CallR X (.builtin "isinstance") (rIsi X.K) := by
  intro pins s σ H xs us Q I r h
  obtain ⟨x, c, t, b, rfl, hc, ty, e, q⟩ := h
  obtain ⟨u, v, rfl, ru, rv⟩ := r.two
  rw [clsV_of rv hc]
  exact isinst_ok I ru ty e fun tk => ⟨.bl b, H, I.tok tk, rfl, q⟩
theorem kit_same (K : PySem.W.Frag) (n : String) : PySem.W.kitOne K (.type n) (.type n) = some true := by
  unfold PySem.W.kitOne
  rw [if_pos (beq_self_eq_true _)]

/-! ### == of data -/
inductive Dt where
  | non | bl (b : Bool) | int (i : Int) | str (x : Str) | lst (ds : List Dt) | tup (ds : List Dt)
mutual
def RdD (K : PySem.W.Frag) (H : Hp) : Dt → V → Prop
  | .non, v => v = .non
  | .bl b, v => v = .bl b
  | .int i, v => v = .int i
  | .str x, v => v = .str x
  | .lst ds, v => ∃ a xs, v = .ref a ∧ SqL K H a xs ∧ RdDs K H ds xs
  | .tup ds, v => ∃ a xs, v = .ref a ∧ SqT K H a xs ∧ RdDs K H ds xs
def RdDs (K : PySem.W.Frag) (H : Hp) : List Dt → List V → Prop
  | [], xs => xs = []
  | d :: ds, xs => ∃ x r, xs = x :: r ∧ RdD K H d x ∧ RdDs K H ds r
end
mutual
def Dt.dep : Dt → Nat
  | .lst ds => Dt.deps ds + 1
  | .tup ds => Dt.deps ds + 1
  | _ => 0
def Dt.deps : List Dt → Nat
  | [] => 0
  | d :: ds => max (Dt.dep d) (Dt.deps ds)
end
theorem RdDs.length {K : PySem.W.Frag} {H : Hp} : ∀ {ds : List Dt} {xs : List V}, RdDs K H ds xs → xs.length = ds.length
  | [], _, h => by unfold RdDs at h; rw [h]; rfl
  | d :: ds, xs, h => by
    unfold RdDs at h
    obtain ⟨x, r, rfl, _, h2⟩ := h
    simp [RdDs.length h2]
theorem RdDs.get {K : PySem.W.Frag} {H : Hp} : ∀ {ds : List Dt} {xs : List V} {j : Nat} {x : V}, RdDs K H ds xs → xs[j]? = some x → ∃ d, ds[j]? = some d ∧ RdD K H d x
  | [], _, _, _, h, e => by unfold RdDs at h; rw [h] at e; simp at e
  | d :: ds, xs, j, x, h, e => by
    unfold RdDs at h
    obtain ⟨y, r, rfl, h1, h2⟩ := h
    cases j with
    | zero => simp at e; subst e; exact ⟨d, rfl, h1⟩
    | succ j =>
      obtain ⟨d', e1, e2⟩ := RdDs.get (j := j) h2 (by simpa using e)
      exact ⟨d', by simpa using e1, e2⟩
theorem deps_get : ∀ {ds : List Dt} {j : Nat} {d : Dt}, ds[j]? = some d → d.dep ≤ Dt.deps ds
  | [], _, _, e => by simp at e
  | d' :: ds, 0, d, e => by simp at e; subst e; unfold Dt.deps; omega
  | d' :: ds, j + 1, d, e => by
    have := deps_get (ds := ds) (j := j) (by simpa using e)
    unfold Dt.deps; omega
theorem all_true (n : Nat) : (List.range n).all (fun _ => true) = true := by simp

theorem eqSame {pins : List (Addr × Obj)} {σ : St} {H : Hp} {s : Shared} (I : Inv X pins σ H s) : ∀ (n : Nat) (d : Dt) (A : Around) {v u : V} {vv uu : Value}, d.dep ≤ n → A.units + n < cLine → RdD X.K H d v → RdD X.K H d u → RelV v vv → RelV u uu → SeqAt.EqAt A s vv uu true := by
  intro n
  induction n with
  | zero =>
    intro d A v u vv uu hd hA h1 h2 r1 r2
    cases d with
    | non => unfold RdD at h1 h2; subst h1 h2; have := eqAt_V (A := A) (s := s) r1 r2 rfl rfl; exact this
    | bl b => unfold RdD at h1 h2; subst h1 h2; have := eqAt_V (A := A) (s := s) r1 r2 rfl rfl; simpa [eqV] using this
    | int i => unfold RdD at h1 h2; subst h1 h2; have := eqAt_V (A := A) (s := s) r1 r2 rfl rfl; simpa [eqV] using this
    | str x => unfold RdD at h1 h2; subst h1 h2; have := eqAt_V (A := A) (s := s) r1 r2 rfl rfl; simpa [eqV] using this
    | lst ds => unfold Dt.dep at hd; omega
    | tup ds => unfold Dt.dep at hd; omega
  | succ n ih =>
    intro d A v u vv uu hd hA h1 h2 r1 r2
    cases d with
    | non => unfold RdD at h1 h2; subst h1 h2; have := eqAt_V (A := A) (s := s) r1 r2 rfl rfl; exact this
    | bl b => unfold RdD at h1 h2; subst h1 h2; have := eqAt_V (A := A) (s := s) r1 r2 rfl rfl; simpa [eqV] using this
    | int i => unfold RdD at h1 h2; subst h1 h2; have := eqAt_V (A := A) (s := s) r1 r2 rfl rfl; simpa [eqV] using this
    | str x => unfold RdD at h1 h2; subst h1 h2; have := eqAt_V (A := A) (s := s) r1 r2 rfl rfl; simpa [eqV] using this
    | lst ds =>
      unfold RdD at h1 h2
      obtain ⟨a, xs, rfl, ha, hxs⟩ := h1
      obtain ⟨b, ys, rfl, hb, hys⟩ := h2
      cases r1; cases r2
      by_cases hab : a = b
      · subst hab; exact SeqAt.EqAt.same _
      · unfold Dt.dep at hd
        obtain ⟨its, ra, pa, _⟩ := I.list ha
        obtain ⟨its2, rb, pb, _⟩ := I.list hb
        have l1 := ra.length; have l2 := rb.length; have l3 := hxs.length; have l4 := hys.length
        have hsz : its.toArray.size = its2.toArray.size := by simp; omega
        have q := SeqAt.RcAt.lists (A := A) (s := s) (e := fun _ => true) pa.isList pb.isList hsz (by omega) fun j g1 g2 => by
          have g1' : j < its.length := by simpa using g1
          have g2' : j < its2.length := by simpa using g2
          have x1 : xs[j]? = some xs[j] := List.getElem?_eq_getElem (by omega)
          have y1 : ys[j]? = some ys[j] := List.getElem?_eq_getElem (by omega)
          obtain ⟨d, e1, rd1⟩ := hxs.get x1
          obtain ⟨d', e2, rd2⟩ := hys.get y1
          rw [e1] at e2; cases e2
          obtain ⟨w1, f1, rr1⟩ := ra.get x1
          obtain ⟨w2, f2, rr2⟩ := rb.get y1
          rw [List.getElem?_eq_getElem g1'] at f1
          rw [List.getElem?_eq_getElem g2'] at f2
          cases f1; cases f2
          have hdep := deps_get e1
          simp only [List.getElem_toArray]
          exact ih d A.in1 (by omega) (by show A.units + 1 + n < cLine; omega) rd1 rd2 rr1 rr2
        rw [all_true] at q
        exact SeqAt.EqAt.of_refs hab q
    | tup ds =>
      unfold RdD at h1 h2
      obtain ⟨a, xs, rfl, ha, hxs⟩ := h1
      obtain ⟨b, ys, rfl, hb, hys⟩ := h2
      cases r1; cases r2
      by_cases hab : a = b
      · subst hab; exact SeqAt.EqAt.same _
      · unfold Dt.dep at hd
        obtain ⟨its, ra, pa, _⟩ := I.tuple ha
        obtain ⟨its2, rb, pb, _⟩ := I.tuple hb
        have l1 := ra.length; have l2 := rb.length; have l3 := hxs.length; have l4 := hys.length
        have q := SeqAt.RcAt.tuples (A := A) (s := s) (e := fun _ => true) (show s.heap.IsTuple a its.toArray from pa) (show s.heap.IsTuple b its2.toArray from pb) (by omega) fun j g1 g2 => by
          have g1' : j < its.length := by simpa using g1
          have g2' : j < its2.length := by simpa using g2
          have x1 : xs[j]? = some xs[j] := List.getElem?_eq_getElem (by omega)
          have y1 : ys[j]? = some ys[j] := List.getElem?_eq_getElem (by omega)
          obtain ⟨d, e1, rd1⟩ := hxs.get x1
          obtain ⟨d', e2, rd2⟩ := hys.get y1
          rw [e1] at e2; cases e2
          obtain ⟨w1, f1, rr1⟩ := ra.get x1
          obtain ⟨w2, f2, rr2⟩ := rb.get y1
          rw [List.getElem?_eq_getElem g1'] at f1
          rw [List.getElem?_eq_getElem g2'] at f2
          cases f1; cases f2
          have hdep := deps_get e1
          simp only [List.getElem_toArray]
          exact ih d A.in1 (by omega) (by show A.units + 1 + n < cLine; omega) rd1 rd2 rr1 rr2
        have e0 : ((List.range (min its.toArray.size its2.toArray.size)).all (fun _ => true) && its.toArray.size == its2.toArray.size) = true := by
          rw [all_true, Bool.true_and]; simp; omega
        rw [e0] at q
        exact SeqAt.EqAt.of_refs hab q

/-- the same data on both sides; or two lists of unlike lengths -/
def rEqD (K : PySem.W.Frag) (neg : Bool) : R2 := fun x y H Q =>
  (∃ ds, Dt.deps ds ≤ 40 ∧ ((RdD K H (.lst ds) x ∧ RdD K H (.lst ds) y) ∨ (RdD K H (.tup ds) x ∧ RdD K H (.tup ds) y)) ∧ Q (.bl (!neg)) H) ∨
  (∃ a b xs ys, x = .ref a ∧ y = .ref b ∧ SqL K H a xs ∧ SqL K H b ys ∧ xs.length ≠ ys.length ∧ Q (.bl neg) H)
theorem op_eqD (hu : X.A.units + 64 < cLine) : OpR X (compareOp .Eq) (rEqD X.K false) := by
  intro pins s σ H x y v u Q I rx ry h
  rcases h with ⟨ds, hd, h, q⟩ | ⟨a, b, xs, ys, rfl, rfl, ha, hb, hne, q⟩
  · have fin : EP X pins σ Q (.bool true) s := ⟨.bl true, H, I, rfl, q⟩
    have item : ∀ {xs ys : List V} {its its2 : List Value}, RdDs X.K H ds xs → RdDs X.K H ds ys → Vals xs its → Vals ys its2 → ∀ j (h1 : j < its.toArray.size) (h2 : j < its2.toArray.size), SeqAt.EqAt X.A.in1 s its.toArray[j] its2.toArray[j] true := fun {xs ys its its2} hxs hys ra rb j g1 g2 => by
      have l1 := ra.length; have l2 := rb.length; have l3 := hxs.length; have l4 := hys.length
      have g1' : j < its.length := by simpa using g1
      have g2' : j < its2.length := by simpa using g2
      have x1 : xs[j]? = some xs[j] := List.getElem?_eq_getElem (by omega)
      have y1 : ys[j]? = some ys[j] := List.getElem?_eq_getElem (by omega)
      obtain ⟨d, e1, rd1⟩ := hxs.get x1
      obtain ⟨d', e2, rd2⟩ := hys.get y1
      rw [e1] at e2; cases e2
      obtain ⟨w1, f1, rr1⟩ := ra.get x1
      obtain ⟨w2, f2, rr2⟩ := rb.get y1
      rw [List.getElem?_eq_getElem g1'] at f1
      rw [List.getElem?_eq_getElem g2'] at f2
      cases f1; cases f2
      have hdep := deps_get e1
      simp only [List.getElem_toArray]
      exact eqSame I 40 d X.A.in1 (by omega) (by show X.A.units + 1 + 40 < cLine; omega) rd1 rd2 rr1 rr2
    rcases h with ⟨h1, h2⟩ | ⟨h1, h2⟩
    · unfold RdD at h1 h2
      obtain ⟨a, xs, rfl, ha, hxs⟩ := h1
      obtain ⟨b, ys, rfl, hb, hys⟩ := h2
      cases rx; cases ry
      obtain ⟨its, ra, pa, _⟩ := I.list ha
      obtain ⟨its2, rb, pb, _⟩ := I.list hb
      have l1 := ra.length; have l2 := rb.length; have l3 := hxs.length; have l4 := hys.length
      have q := SeqAt.RcAt.lists (A := X.A) (s := s) (e := fun _ => true) pa.isList pb.isList (by simp; omega) (by omega) (item hxs hys ra rb)
      rw [all_true] at q
      exact q _ _ _ _ fin
    · unfold RdD at h1 h2
      obtain ⟨a, xs, rfl, ha, hxs⟩ := h1
      obtain ⟨b, ys, rfl, hb, hys⟩ := h2
      cases rx; cases ry
      obtain ⟨its, ra, pa, _⟩ := I.tuple ha
      obtain ⟨its2, rb, pb, _⟩ := I.tuple hb
      have l1 := ra.length; have l2 := rb.length; have l3 := hxs.length; have l4 := hys.length
      have q := SeqAt.RcAt.tuples (A := X.A) (s := s) (e := fun _ => true) (show s.heap.IsTuple a its.toArray from pa) (show s.heap.IsTuple b its2.toArray from pb) (by omega) (item hxs hys ra rb)
      have e0 : ((List.range (min its.toArray.size its2.toArray.size)).all (fun _ => true) && its.toArray.size == its2.toArray.size) = true := by
        rw [all_true, Bool.true_and]; simp; omega
      rw [e0] at q
      exact q _ _ _ _ fin
  · cases rx; cases ry
    obtain ⟨its, ra, pa, _⟩ := I.list ha
    obtain ⟨its2, rb, pb, _⟩ := I.list hb
    have l1 := ra.length; have l2 := rb.length
    exact SeqAt.RcAt.lists_lengths pa.isList pb.isList (by simp; omega) (by omega) _ _ _ _ ⟨.bl false, H, I, rfl, q⟩
theorem op_neD (hu : X.A.units + 64 < cLine) : OpR X (compareOp .NotEq) (rEqD X.K true) := by
  intro pins s σ H x y v u Q I rx ry h
  rcases h with ⟨ds, hd, h, q⟩ | ⟨a, b, xs, ys, rfl, rfl, ha, hb, hne, q⟩
  · have fin : EP X pins σ Q (.bool false) s := ⟨.bl false, H, I, rfl, q⟩
    have item : ∀ {xs ys : List V} {its its2 : List Value}, RdDs X.K H ds xs → RdDs X.K H ds ys → Vals xs its → Vals ys its2 → ∀ j (h1 : j < its.toArray.size) (h2 : j < its2.toArray.size), SeqAt.EqAt X.A.in1 s its.toArray[j] its2.toArray[j] true := fun {xs ys its its2} hxs hys ra rb j g1 g2 => by
      have l1 := ra.length; have l2 := rb.length; have l3 := hxs.length; have l4 := hys.length
      have g1' : j < its.length := by simpa using g1
      have g2' : j < its2.length := by simpa using g2
      have x1 : xs[j]? = some xs[j] := List.getElem?_eq_getElem (by omega)
      have y1 : ys[j]? = some ys[j] := List.getElem?_eq_getElem (by omega)
      obtain ⟨d, e1, rd1⟩ := hxs.get x1
      obtain ⟨d', e2, rd2⟩ := hys.get y1
      rw [e1] at e2; cases e2
      obtain ⟨w1, f1, rr1⟩ := ra.get x1
      obtain ⟨w2, f2, rr2⟩ := rb.get y1
      rw [List.getElem?_eq_getElem g1'] at f1
      rw [List.getElem?_eq_getElem g2'] at f2
      cases f1; cases f2
      have hdep := deps_get e1
      simp only [List.getElem_toArray]
      exact eqSame I 40 d X.A.in1 (by omega) (by show X.A.units + 1 + 40 < cLine; omega) rd1 rd2 rr1 rr2
    rcases h with ⟨h1, h2⟩ | ⟨h1, h2⟩
    · unfold RdD at h1 h2
      obtain ⟨a, xs, rfl, ha, hxs⟩ := h1
      obtain ⟨b, ys, rfl, hb, hys⟩ := h2
      cases rx; cases ry
      obtain ⟨its, ra, pa, _⟩ := I.list ha
      obtain ⟨its2, rb, pb, _⟩ := I.list hb
      have l1 := ra.length; have l2 := rb.length; have l3 := hxs.length; have l4 := hys.length
      have q := SeqAt.RcNeAt.lists (A := X.A) (s := s) (e := fun _ => true) pa.isList pb.isList (by simp; omega) (by omega) (item hxs hys ra rb)
      rw [all_true] at q
      exact q _ _ _ _ fin
    · unfold RdD at h1 h2
      obtain ⟨a, xs, rfl, ha, hxs⟩ := h1
      obtain ⟨b, ys, rfl, hb, hys⟩ := h2
      cases rx; cases ry
      obtain ⟨its, ra, pa, _⟩ := I.tuple ha
      obtain ⟨its2, rb, pb, _⟩ := I.tuple hb
      have l1 := ra.length; have l2 := rb.length; have l3 := hxs.length; have l4 := hys.length
      have q := SeqAt.RcNeAt.tuples (A := X.A) (s := s) (e := fun _ => true) (show s.heap.IsTuple a its.toArray from pa) (show s.heap.IsTuple b its2.toArray from pb) (by omega) (item hxs hys ra rb)
      have e0 : ((List.range (min its.toArray.size its2.toArray.size)).all (fun _ => true) && its.toArray.size == its2.toArray.size) = true := by
        rw [all_true, Bool.true_and]; simp; omega
      rw [e0] at q
      exact q _ _ _ _ fin
  · cases rx; cases ry
    obtain ⟨its, ra, pa, _⟩ := I.list ha
    obtain ⟨its2, rb, pb, _⟩ := I.list hb
    have l1 := ra.length; have l2 := rb.length
    exact SeqAt.RcNeAt.lists_lengths pa.isList pb.isList (by simp; omega) (by omega) _ _ _ _ ⟨.bl true, H, I, rfl, q⟩
/-- two lists of texts, alike -/
theorem rd_strs {K : PySem.W.Frag} {H : Hp} {ys : List Str} : RdDs K H (ys.map Dt.str) (ys.map V.str) := by
  induction ys with
  | nil => unfold RdDs; rfl
  | cons y ys ih =>
    show RdDs K H (Dt.str y :: ys.map Dt.str) (V.str y :: ys.map V.str)
    unfold RdDs
    exact ⟨_, _, rfl, by unfold RdD; rfl, ih⟩
theorem deps_strs (ys : List Str) : Dt.deps (ys.map Dt.str) = 0 := by
  induction ys with
  | nil => rfl
  | cons y ys ih => show max (Dt.dep (.str y)) (Dt.deps (ys.map Dt.str)) = 0; rw [ih]; rfl
end
end L2

/-! Pictures as lists of rows of codes: the mathematics. -/
namespace Pic
abbrev Row := List Nat
abbrev Pic := List Row
def rect (p : Pic) (r c : Nat) : Prop := p.length = r ∧ ∀ x ∈ p, x.length = c
def mirror (p : Pic) : Pic := p.map List.reverse
def col (p : Pic) (i : Nat) : Row := p.reverse.map fun x => x.getD i 0
def quarter (p : Pic) : Pic := (List.range (p.headD []).length).map (col p)
def quarters : Nat → Pic → Pic
  | 0, p => p
  | n + 1, p => quarters n (quarter p)
def turned (p : Pic) (t : Nat) : Pic := quarters (t % 4) (if 4 ≤ t then mirror p else p)

def after (t u : Nat) : Nat := if u < 4 then t / 4 * 4 + (t + u) % 4 else (1 - t / 4) * 4 + (u + 8 - t) % 4
def back (t : Nat) : Nat := if t < 4 then (4 - t) % 4 else t
end Pic

set_option Elab.async false
set_option linter.all false
set_option maxRecDepth 100000
/-! Pictures as the program holds them: lists of texts. -/
namespace QL
open PySem L2 Pic
def tx (r : List Nat) : Str := ⟨r.toArray⟩
def rowsV (p : Pic) : List V := p.map fun r => V.str (tx r)
theorem tx_length (r : List Nat) : (tx r).length = r.length := by show r.toArray.size = r.length; simp
theorem tx_list (r : List Nat) : (tx r).cps.toList = r := by show r.toArray.toList = r; simp
theorem rowsV_length (p : Pic) : (rowsV p).length = p.length := by unfold rowsV; simp
theorem rowsV_strs (p : Pic) : rowsV p = (p.map tx).map V.str := by unfold rowsV; rw [List.map_map]; rfl
theorem rowsV_get {p : Pic} {i : Nat} (h : i < p.length) : (rowsV p)[i]? = some (V.str (tx p[i])) := by unfold rowsV; rw [List.getElem?_map, List.getElem?_eq_getElem h]; rfl
theorem rowsV_append (p : Pic) (r : List Nat) : rowsV (p ++ [r]) = rowsV p ++ [V.str (tx r)] := by unfold rowsV; simp
/-- joined with nothing between -/
theorem join_nil : ∀ (ys : List (List Nat)), Txt.join (Str.ofString "") (ys.map tx) = tx ys.flatten
  | [] => rfl
  | y :: ys => by
    have key : ∀ (zs : List (List Nat)) (a : List Nat), (zs.map tx).foldl (fun acc (p : Str) => acc ++ (Str.ofString "").cps ++ p.cps) a.toArray = (a ++ zs.flatten).toArray := by
      intro zs
      induction zs with
      | nil => intro a; simp
      | cons z zs ih =>
        intro a
        rw [List.map_cons, List.foldl_cons]
        have e : a.toArray ++ (Str.ofString "").cps ++ (tx z).cps = (a ++ z).toArray := by
          have e0 : (Str.ofString "").cps = #[] := rfl
          rw [e0]
          show a.toArray ++ #[] ++ z.toArray = _
          simp
        rw [e, ih]
        simp
    show (⟨(ys.map tx).foldl (fun acc (p : Str) => acc ++ (Str.ofString "").cps ++ p.cps) (tx y).cps⟩ : Str) = _
    show (⟨(ys.map tx).foldl (fun acc (p : Str) => acc ++ (Str.ofString "").cps ++ p.cps) y.toArray⟩ : Str) = _
    rw [key]
    rfl
theorem join_ones (r : List Nat) : Txt.join (Str.ofString "") (r.map fun c => (⟨#[c]⟩ : Str)) = tx r := by
  have e : (r.map fun c => (⟨#[c]⟩ : Str)) = (r.map fun c => [c]).map tx := by rw [List.map_map]; rfl
  rw [e, join_nil]
  congr 1
  clear e
  induction r with
  | nil => rfl
  | cons c r ih => simp [ih]
/-- what is small enough for every bound of the model -/
def Small (p : Pic) : Prop := p.length ≤ 64 ∧ ∀ r ∈ p, r.length ≤ 64
theorem Small.of {p : Pic} {r c : Nat} (h : rect p r c) (hr : r ≤ 64) (hc : c ≤ 64) : Small p := ⟨by rw [h.1]; exact hr, fun x hx => by rw [h.2 x hx]; exact hc⟩
theorem line_big {n : Nat} (h : n ≤ 1000000) : n < sizeLine := by have := sizeLine_eq; omega
theorem line_le {n : Nat} (h : n ≤ 1000000) : n ≤ sizeLine := by have := sizeLine_eq; omega
theorem same_upd {H : Hp} {l : Addr} {o : HO} (h : H l = none) : Same H (upd H l o) := fun b u e => by rw [upd_ne (ne_of_none e h)]; exact e
/-- a new list with these rows, all else as it was -/
def GivesPic (H : Hp) (p : Pic) (Q : VK) : Prop := ∀ (l : Addr) (H' : Hp), H l = none → H' l = some (.lst (rowsV p)) → Same H H' → Q (.ref l) H'
theorem atI_in {α : Type} {xs : List α} {i : Int} (h0 : 0 ≤ i) (h1 : i < xs.length) : ∃ v, v ∈ xs ∧ atI xs i = some v := by
  have hb : i.toNat < xs.length := by omega
  obtain ⟨j, hj⟩ : ∃ j : Nat, i = (j : Int) := ⟨i.toNat, by omega⟩
  subst hj
  exact ⟨xs[j]'(by omega), List.getElem_mem _, atI_nat (List.getElem?_eq_getElem (by omega))⟩
theorem rEqD_rows {K : PySem.W.Frag} {neg : Bool} {a b : Addr} {p : Pic} {H : Hp} {Q : VK} (ha : SqL K H a (rowsV p)) (hb : SqL K H b (rowsV p)) (q : Q (.bl (!neg)) H) : rEqD K neg (.ref a) (.ref b) H Q := by
  refine .inl ⟨(p.map tx).map Dt.str, by rw [deps_strs]; omega, .inl ⟨?_, ?_⟩, q⟩
  · unfold RdD; exact ⟨a, _, rfl, ha, by rw [rowsV_strs]; exact rd_strs⟩
  · unfold RdD; exact ⟨b, _, rfl, hb, by rw [rowsV_strs]; exact rd_strs⟩
/-- the cells that the laws draw from a script -/
def cellAt (ns : List Int) (k : Nat) : Int := ns.getD k 0 / 2147483647 * 2147483647 + (((ns.getD k 0 % 2147483647 + 7919 * (k : Int) + 1) * 48271 % 2147483647) * 69621 + (k : Int)) % 2147483647
theorem kit_int_bool (K : PySem.W.Frag) : PySem.W.kitOne K (.type "int") (.type "bool") = some false := by kernel_rfl
end QL
namespace L2
open PySem PySem.Spec PyProof.Rows
section
variable {X : Cx}
theorem call_lenL : CallR X (.builtin "len") (fun xs H Q => ∃ p ys, xs = [.ref p] ∧ SqL X.K H p ys ∧ Q (.int ys.length) H) := fun pins s σ H xs us Q I r ⟨p, ys, e, h, q⟩ => call_len_seq pins s σ H xs us Q I r ⟨p, ys, e, .inl h, q⟩
theorem scal_ii (i j : Int) : (scal (.int i) (.int j) = true) = True := by simp [scal]
theorem scal_ss (i j : Str) : (scal (.str i) (.str j) = true) = True := by simp [scal]
theorem scal_bb (i j : Bool) : (scal (.bl i) (.bl j) = true) = True := by simp [scal]
/-- an expression that is True or False, as a test -/
theorem pt_tb {a : Expr} {ta : TE} (ha : PE X a ta) (he : ∀ whole, isTrue a X.env whole = (do let v ← whole; standAt a.pos; holding [v] (truthy v))) : PT X a (tTest ta) := by
  intro pins s σ H Q I h
  rw [he]
  refine wpAny_bind (thn (ha pins s σ H _ I h) fun v s1 ⟨x, H1, I1, r1, k, e, q⟩ => ?_)
  subst e
  cases r1
  exact wpAny_bind (wpAny_standAt (wpAny_holding (wpAny_truthy_bool ⟨H1, I1, q⟩)))
/-! ### for, the loop's wish kept whole -/
def ForW (J : It) (g : TG) (tb : TS) (D : Ends) (σ : St) (H : Hp) : Prop := ∃ W : Nat → Nat → St → Hp → Prop, (∃ m, W 0 m σ H) ∧ ∀ i m σ H, W i m σ H →
  (J.stop i H ∧ D.nx σ H) ∨ (J.go i H ∧ ∃ N : St → Hp → Prop, (∀ σ' H', N σ' H' → ∃ m', m' < m ∧ W (i + 1) m' σ' H') ∧ ∀ x H', J.yld i H x H' → g x σ H' fun σ2 H2 => tb { D with nx := N, ct := N, bk := D.nx } σ2 H2)
def tForw (wi : TI) (g : TG) (tb : TS) : TS := fun D σ H => wi σ H fun J H1 => ForW J g tb D σ H1
theorem ps_forw {tg iter : Expr} {body : List Stmt} {wi : TI} {g : TG} {tb : TS} {pos : Pos} (hp : PassesOwn (model X.prog X.w) X.A X.env X.xe) (hc : X.calm = true) (hi : PI X tg iter wi) (hg : PG X tg g) (hb : PSs X body tb)
    (hs : ∀ x, foldedSetIterable iter X.env x = pure x := by intro _; rfl) : PS X (.For tg iter body [] pos) (tForw wi g tb) := ps_for hp hc hi hg hb hs
section
variable {K : PySem.W.Frag} {g : TG} {tb : TS} {D : Ends} {σ : St} {H : Hp}
theorem forw_list {a : Addr} {xs : List V} (Pv : Nat → St → Hp → Prop) (h0 : Pv 0 σ H) (hl : ∀ i σ H, i ≤ xs.length → Pv i σ H → SqL K H a xs)
    (hs : ∀ i x σ H, xs[i]? = some x → Pv i σ H → g x σ H fun σ2 H2 => tb { D with nx := Pv (i + 1), ct := Pv (i + 1), bk := D.nx } σ2 H2) (hd : ∀ σ H, Pv xs.length σ H → D.nx σ H) : ForW (Itl K a) g tb D σ H := for_list Pv h0 hl hs hd
theorem forw_range {lo : Int} {n : Nat} (Pv : Nat → St → Hp → Prop) (h0 : Pv 0 σ H)
    (hs : ∀ i σ H, i < n → Pv i σ H → g (.int (lo + i)) σ H fun σ2 H2 => tb { D with nx := Pv (i + 1), ct := Pv (i + 1), bk := D.nx } σ2 H2) (hd : ∀ σ H, Pv n σ H → D.nx σ H) : ForW (Itr lo n) g tb D σ H := for_range Pv h0 hs hd
end
end
theorem bt_len : bootBuiltins "len" = some (.builtin "len") := by decide +kernel
theorem bt_list : bootBuiltins "list" = some (.type "list") := by decide +kernel
theorem bt_tuple : bootBuiltins "tuple" = some (.type "tuple") := by decide +kernel
theorem bt_int : bootBuiltins "int" = some (.type "int") := by decide +kernel
theorem bt_bool : bootBuiltins "bool" = some (.type "bool") := by decide +kernel
theorem bt_str : bootBuiltins "str" = some (.type "str") := by decide +kernel
theorem bt_isinstance : bootBuiltins "isinstance" = some (.builtin "isinstance") := by decide +kernel
theorem bt_all : bootBuiltins "all" = some (.builtin "all") := by decide +kernel
end L2

set_option Elab.async false
set_option linter.all false
set_option maxRecDepth 100000
/-! Rules beyond the layer, 4: all, chains of three, comprehensions over a tuple. -/
namespace L2
open PySem PySem.Spec PyProof.Rows
section
variable {X : Cx} {a b c d : Expr} {ta tb tc td : TE} {pos : Pos}
/-- all(a list of truths) -/
def rAll (K : PySem.W.Frag) : List V → Hp → VK → Prop := fun xs H Q => ∃ (p : Addr) (bs : List Bool), xs = [.ref p] ∧ SqL K H p (bs.map V.bl) ∧ Q (.bl (bs.all id)) H
theorem vals_bl : ∀ {bs : List Bool} {us : List Value} {i : Nat} {u : Value}, Vals (bs.map V.bl) us → us[i]? = some u → ∃ k, bs[i]? = some k ∧ u = .bool k
  | [], _, _, _, .nil, e => by simp at e
  | k :: bs, _, 0, u, .cons r _, e => by simp at e; subst e; exact ⟨k, rfl, r⟩
  | k :: bs, _, i + 1, u, .cons _ t, e => by
    obtain ⟨k', h1, h2⟩ := vals_bl (i := i) t (by simpa using e)
    exact ⟨k', by simpa using h1, h2⟩
theorem all_range (bs : List Bool) : ((List.range bs.length).all fun i => (bs[i]?).getD true) = bs.all id := by
  rw [Bool.eq_iff_iff, List.all_eq_true, List.all_eq_true]
  constructor
  · intro h x hx
    obtain ⟨i, hi, e⟩ := List.getElem_of_mem hx
    have q := h i (List.mem_range.mpr hi)
    rw [List.getElem?_eq_getElem hi, Option.getD_some, e] at q
    exact q
  · intro h i hi
    have hi' := List.mem_range.mp hi
    rw [List.getElem?_eq_getElem hi', Option.getD_some]
    exact h _ (List.getElem_mem hi')
theorem call_all (hc : X.calm = true) : CallR X (.builtin "all") (rAll X.K) := by
  intro pins s σ H xs us Q I r h
  obtain ⟨p, bs, rfl, hs, q⟩ := h
  obtain ⟨u, rfl, ru⟩ := r.one
  cases ru
  obtain ⟨its, rv, pl, _⟩ := I.list hs
  have hlt : p < s.heap.objs.size := by obtain ⟨_, e, _⟩ := pl.isList; exact Heap.lt_size e
  have hlen : its.length = bs.length := by rw [← rv.length, List.length_map]
  refine call_all_walk (wpAny_pyIter_list pl.isList ?_)
  refine ⟨s.heap.objs.size, [s.heap.objs.size, p], [s.heap.objs.size], its.toArray.size, _, _, fun i => (bs[i]?).getD true, rfl, Walks.list (A := X.A.in1) (I.ok.hd hc) _ p (Nat.ne_of_lt hlt) its.toArray,
    ⟨⟨_, Heap.get?_push_size _ rfl, rfl, rfl⟩, pl.isList.push _⟩, fun i v s' Q' E' hP hQ => ?_, fun h' tk hk => ?_⟩
  · obtain ⟨k, e, rfl⟩ := vals_bl (i := i) rv (by simpa using hP)
    dsimp only at hQ
    rw [e, Option.getD_some] at hQ
    exact wpAny_truthy_bool hQ
  · have e : ((List.range its.toArray.size).all fun i => (bs[i]?).getD true) = bs.all id := by rw [List.size_toArray, hlen]; exact all_range bs
    rw [e]
    exact ⟨.bl _, H, I.kept (t' := tk) fun b o eo => hk b o (fun hm => by rw [List.mem_singleton.mp hm] at eo; exact Nat.lt_irrefl _ (Heap.lt_size eo)) (Heap.get?_push_of_some _ eo), rfl, q⟩
/-- a op1 b op2 c op3 d -/
def tChain3 (r r' r'' : R2) (ta tb tc td : TE) : TE := fun σ H Q => ta σ H fun x H1 => tb σ H1 fun y H2 => r x y H2 fun z H3 => ∃ k, z = .bl k ∧
  (if k = true then tc σ H3 fun u H4 => r' y u H4 fun z' H5 => ∃ k', z' = .bl k' ∧ (if k' = true then td σ H5 fun v H6 => r'' u v H6 Q else Q (.bl false) H5) else Q (.bl false) H3)
end
section
variable {K : PySem.W.Frag} {g : TG} {ti : TT} {te : TE} {σ : St} {H : Hp} {Q : List V → Hp → Prop}
theorem comp_tup {a : Addr} {xs : List V} (Pv : Nat → List V → St → Hp → Prop) (h0 : Pv 0 [] σ H) (hz : ∀ i acc σ H, Pv i acc σ H → acc.length < sizeLine) (hi : ∀ i acc σ H, Pv i acc σ H → i ≤ xs.length)
    (hl : ∀ i acc σ H, Pv i acc σ H → SqT K H a xs)
    (hs : ∀ i x acc σ H, xs[i]? = some x → Pv i acc σ H → g x σ H fun σ2 H3 => ti σ2 H3 fun b H4 => if b = true then te σ2 H4 fun v H5 => Pv (i + 1) (acc ++ [v]) σ2 H5 else Pv (i + 1) acc σ2 H4)
    (he : ∀ acc σ H, Pv xs.length acc σ H → Q acc H) : CompW (Itt K a) g ti te σ H Q := by
  exact comp_by (J := Itt K a) (g := g) (ti := ti) (te := te) (Q := Q) (n := xs.length) Pv h0 hz hi (fun acc σ H w => ⟨xs, hl _ _ _ _ w, Nat.le_refl _⟩)
    (fun i acc σ H hlt w => ⟨xs, xs[i], hl _ _ _ _ w, List.getElem?_eq_getElem hlt⟩) (fun i x acc σ H H2 hlt w y => by obtain ⟨rfl, hx⟩ := y; exact hs i x acc σ H2 (hx xs (hl _ _ _ _ w)) w) he
end
end L2

set_option Elab.async false
set_option linter.all false
set_option maxRecDepth 100000
/-! Slices of texts, by places. -/
namespace QL
open PySem L2 Pic PySem.Builtin PySem.Builtin.Str
theorem slice_pick (row : List Nat) (i k : Nat) (h : i + k ≤ row.length) : ((List.range k).map fun m => i + m).filterMap (fun j => row[j]?) = (row.drop i).take k := by
  rw [List.filterMap_map]
  induction k with
  | zero => simp
  | succ k ih =>
    rw [List.range_succ, List.filterMap_append, ih (by omega), List.take_add_one, List.getElem?_drop]
    have e : i + k < row.length := by omega
    simp [List.getElem?_eq_getElem e]
def trues (n : Nat) : List Bool := List.replicate n true
theorem trues_succ (n : Nat) : (trues n).map V.bl ++ [V.bl true] = (trues (n + 1)).map V.bl := by unfold trues; rw [List.replicate_succ', List.map_append]; rfl
theorem trues_all (n : Nat) : (trues n).all id = true := by unfold trues; simp
theorem trues_length (n : Nat) : ((trues n).map V.bl).length = n := by unfold trues; simp
def clipI (n : Nat) (d : Int) : Option Int → Int
  | none => d
  | some i => max 0 (min (if i < 0 then i + (n : Int) else i) (n : Int))
theorem clipI_eq (n d : Nat) (v : Option Int) : clipI n (d : Int) v = ((HT.sIx n d v : Nat) : Int) := by
  cases v with
  | none => rfl
  | some v =>
    show max 0 (min (if v < 0 then v + (n : Int) else v) (n : Int)) = (((if v < 0 then (v + (n : Int)).toNat else min v.toNat n : Nat)) : Int)
    by_cases hv : v < 0
    · rw [if_pos hv, if_pos hv, Int.max_def, Int.min_def]
      split <;> split at * <;> omega
    · rw [if_neg hv, if_neg hv, Int.max_def, Int.min_def]
      split <;> split at * <;> omega
theorem indices_eq (lo hi : Option Int) (n : Nat) : strSliceIndices lo hi 1 n = sliceRange (clipI n ((0 : Nat) : Int) lo) (clipI n (n : Int) hi) 1 := by cases lo <;> cases hi <;> rfl
theorem slice_any (row : List Nat) (lo hi : Option Int) : Txt.slice (tx row) lo hi = tx ((row.drop (HT.sIx row.length 0 lo)).take (HT.sIx row.length row.length hi - HT.sIx row.length 0 lo)) := by
  have hl := HT.sIx_le row.length 0 (Nat.zero_le _) lo
  have hh := HT.sIx_le row.length row.length (Nat.le_refl _) hi
  have key : strSliceIndices lo hi 1 (tx row).length = (List.range (HT.sIx row.length row.length hi - HT.sIx row.length 0 lo)).map fun m => HT.sIx row.length 0 lo + m := by
    rw [tx_length, indices_eq, clipI_eq, clipI_eq]
    generalize HT.sIx row.length 0 lo = a
    generalize HT.sIx row.length row.length hi = b
    unfold sliceRange
    have en : (if (1 : Int) > 0 then (if (a : Int) < (b : Int) then ((b : Int) - (a : Int) + 1 - 1) / 1 else 0) else (if (a : Int) > (b : Int) then ((a : Int) - (b : Int) - 1 - 1) / (-1) else 0)).toNat = b - a := by
      rw [if_pos (by decide)]
      split <;> omega
    show (List.range (if (1 : Int) > 0 then (if (a : Int) < (b : Int) then ((b : Int) - (a : Int) + 1 - 1) / 1 else 0) else (if (a : Int) > (b : Int) then ((a : Int) - (b : Int) - 1 - 1) / (-1) else 0)).toNat).map (fun (k : Nat) => ((a : Int) + 1 * (k : Int)).toNat) = _
    rw [en]
    refine List.map_congr_left fun m _ => ?_
    omega
  unfold Txt.slice
  rw [key]
  generalize HT.sIx row.length 0 lo = a at hl ⊢
  generalize HT.sIx row.length row.length hi = b at hh ⊢
  by_cases hab : a + (b - a) ≤ row.length
  · have e : (((List.range (b - a)).map fun m => a + m).filterMap fun j => (tx row).cps[j]?) = (row.drop a).take (b - a) := by
      rw [← slice_pick row a (b - a) hab]
      congr 1
      funext j
      show row.toArray[j]? = row[j]?
      simp
    rw [e]
    split
    · rename_i hw
      simp at hw
      rw [tx_length] at hw
      have ha0 : a = 0 := by omega
      have hb0 : b - a = row.length := by omega
      rw [ha0, List.drop_zero]
      rw [ha0] at hb0
      rw [hb0, List.take_length]
    · rfl
  · exact absurd hab (by omega)
end QL
/-! ### within a comprehension's block: the written part named -/
namespace L2
open PySem PySem.Spec PyProof.Rows
section
variable {X : Cx} {K : PySem.W.Frag} {tg : Expr}
theorem call_isinstanceK (hK : X.K = K) : CallR X (.builtin "isinstance") (rIsi K) := hK ▸ call_isinstance
end
end L2

set_option Elab.async false
set_option linter.all false
set_option maxRecDepth 100000
/-! An exception on its way, with its class and its dict: what noting a frame, landing and leaving do to it. -/
namespace PySem
open Sem (wp)
/-- the exception at e, of class cls, its dict at od, noted with the flight mark fl -/
def TrD (h base : Heap) (e : Addr) (cls : Value) (od : Option Addr) (fl : Value) : Prop :=
  ∃ oe vs T oT ts, h.get? e = some oe ∧ oe.cls = cls ∧ oe.dict = od ∧ oe.data = .fields vs ∧ vs[1]? = some (.ref T) ∧ base.get? T = none ∧ T ≠ e ∧ h.get? T = some oT ∧ oT.data = .fields ts ∧ ts[3]? = some fl
structure FlyD (base : Heap) (l : List Env) (e : Addr) (cls : Value) (od : Option Addr) (fl : Value) (h : Heap) : Prop where
  st : base.StaysIn h
  new : base.get? e = none
  ff : h.FunFrames base l
  tr : TrD h base e cls od fl
theorem FlyD.there {base h : Heap} {l : List Env} {e : Addr} {cls fl : Value} {od : Option Addr} (x : FlyD base l e cls od fl h) : ∃ oe vs, h.get? e = some oe ∧ oe.cls = cls ∧ oe.dict = od ∧ oe.data = .fields vs := by
  obtain ⟨oe, vs, _, _, _, a, b, c, d, _⟩ := x.tr
  exact ⟨oe, vs, a, b, c, d⟩
theorem dict_mapFields (o : Obj) (f : Array Value → Array Value) : (Obj.mapFields f o).dict = o.dict := by unfold Obj.mapFields; split <;> rfl
section
variable {M : Model} {A : Around} {E : Value → Shared → Prop} {s : Shared} {base : Heap} {env : Env} {outer : List Env} {L e : Addr} {Q : Unit → Shared → Prop}
/-- the flight mark is taken off -/
theorem flightD {cls fl : Value} {od : Option Addr} {l : List Env} (x : FlyD base l e cls od fl s.heap) (h : ∀ h', FlyD base l e cls od .none h' → s.heap.UpToSlots h' → Q () { s with heap := h' }) : wpAny M A (setFlight (.ref e) none) Q E s := by
  obtain ⟨oe, vs, T, oT, ts, he, hc, ho, hd, h1, hnT, hTe, hT, hdT, h3⟩ := x.tr
  have hsz : 3 < ts.size := (Array.getElem?_eq_some_iff.mp h3).1
  have oth : ∀ b, b ≠ T → (s.heap.update T (Obj.mapFields (·.setIfInBounds 3 Value.none))).get? b = s.heap.get? b := fun b hb => Heap.get?_update_other _ _ (Ne.symm hb)
  have nrec : ∀ b o, s.heap.get? b = some o → (∀ vs, o.data ≠ .fields vs) → b ≠ T := fun b o hb hnf q => by rw [q, hT] at hb; injection hb with hb; subst hb; exact hnf ts hdT
  unfold setFlight
  refine wpAny_bind (wpAny_field he hd h1 ?_)
  rw [if_pos (show (Value.ref T != Value.none) = true from by simp)]
  refine wpAny_setField hT hdT hsz (h _ ⟨fun b o hb => (oth b fun q => by rw [q, hnT] at hb; cases hb).trans (x.st b o hb), x.new, x.ff.of_keeps fun b o hb hnf => ⟨o, (oth b (nrec b o hb hnf)).trans hb, rfl⟩, ?_⟩ fun b o hb hnf => ⟨o.slots, (oth b (nrec b o hb hnf)).trans hb⟩)
  exact ⟨oe, vs, T, _, _, (oth e (Ne.symm hTe)).trans he, hc, ho, hd, h1, hnT, hTe, Heap.get?_update_self _ hT (Obj.isFreed_of_fields (Obj.data_mapFields hdT _)), Obj.data_mapFields hdT _, by simp [hsz]⟩
/-- a frame's record is laid at the exception -/
theorem entryD {oe : Obj} {vs : Array Value} {head : Value} {hadNext : Bool} (hfr : A.frames = some (env :: outer)) (hl : s.heap.FunFrames base (env :: outer)) (hf : env.frame = some L)
    (he : s.heap.get? e = some oe) (hkb : base.StaysIn s.heap) (hen : base.get? e = none) (hd : oe.data = .fields vs) (hsz : 1 < vs.size)
    (h : ∀ h', FlyD base (env :: outer) e oe.cls oe.dict (rawInt L) h' → s.heap.UpToSlots h' → Q () { s with heap := h' }) :
    wpAny M A (do let a ← frameOf env; let pl ← entryPlaceOf L hadNext; let b ← EntryCells.newEntry head a .none (rawInt L) .none pl; setField (.ref e) 1 b) Q E s := by
  have hene : e ∉ (env :: outer).filterMap (·.frame) := fun hm => by
    obtain ⟨_, o, ho, hnf⟩ := hl.mem hm
    rw [he] at ho; injection ho with ho; subst ho; exact hnf vs hd
  refine wpAny_bind (wpAny_frameOf_fun hfr hl hf fun h₁ hs₁ => ?_)
  refine wpAny_bind (wpAny_entryPlaceOf fun pl hpl => ?_)
  unfold EntryCells.newEntry newFields
  refine wpAny_bind (wpAny_newObj_type ?_ (hpl.sizeOk5 _ _ _ _ _))
  have he₁ : h₁.get? e = some oe := (hs₁.2.1 e hene).trans he
  have kb₁ : base.StaysIn h₁ := fun b o hb => (hs₁.2.1 b fun hm => by rw [(hl.mem hm).1] at hb; cases hb).trans (hkb b o hb)
  generalize hT0 : ({ cls := .type "traceback", dict := none, data := .fields ([head, .ref L, .none, rawInt L, .none] ++ (if pl.isEmpty then List.replicate 6 Value.none else pl)).toArray } : Obj) = To
  have dTo : To.data = .fields ([head, .ref L, .none, rawInt L, .none] ++ (if pl.isEmpty then List.replicate 6 Value.none else pl)).toArray := by rw [← hT0]
  have he₂ := Heap.get?_push_of_some (h := h₁) To he₁
  have hTe : h₁.objs.size ≠ e := Nat.ne_of_gt (Heap.lt_size he₁)
  have keep : ∀ b o, b ≠ e → h₁.get? b = some o → ((h₁.push To).update e (Obj.mapFields (·.setIfInBounds 1 (Value.ref h₁.objs.size)))).get? b = some o := fun b o hbe hb => by
    rw [Heap.get?_update_other _ _ (Ne.symm hbe)]
    exact Heap.get?_push_of_some _ hb
  have nrec : ∀ b o, s.heap.get? b = some o → (∀ vs, o.data ≠ .fields vs) → b ≠ e := fun b o hb hnf q => by
    rw [q, he] at hb
    injection hb with hb
    subst hb
    exact hnf vs hd
  refine wpAny_setField he₂ hd hsz (h _ ?_ ?_)
  · have hd₃ := Obj.data_mapFields hd (·.setIfInBounds 1 (Value.ref h₁.objs.size))
    refine ⟨fun b o hb => keep b o (fun q => by rw [q, hen] at hb; cases hb) (kb₁ b o hb), hen, hl.of_keeps fun b o hb hnf => ?_, ?_⟩
    · obtain ⟨sl, hs⟩ := hs₁.2.2 b o hb
      exact ⟨_, keep b _ (nrec b o hb hnf) hs, rfl⟩
    · refine ⟨_, _, h₁.objs.size, To, _, Heap.get?_update_self _ he₂ (Obj.isFreed_of_fields hd₃), Obj.cls_mapFields _ _, dict_mapFields _ _, hd₃, by simp [hsz], kb₁.fresh, hTe, ?_, dTo, ?_⟩
      · rw [Heap.get?_update_other _ _ (Ne.symm hTe)]
        refine Heap.get?_push_size _ ?_
        rw [← hT0]; rfl
      · first | (simp; done) | (rcases hpl with rfl | ⟨_, _, _, _, _, _, _, rfl⟩ <;> simp)
  · intro b o hb hnf
    obtain ⟨sl, hs⟩ := hs₁.2.2 b o hb
    exact ⟨sl, keep b _ (nrec b o hb hnf) hs⟩
/-- a frame is noted at an exception that was noted before and is not in flight here -/
theorem noteD {cls : Value} {od : Option Addr} (hfr : A.frames = some (env :: outer)) (hf : env.frame = some L) (x : FlyD base (env :: outer) e cls od .none s.heap)
    (h : ∀ h', FlyD base (env :: outer) e cls od (rawInt L) h' → s.heap.UpToSlots h' → Q () { s with heap := h' }) : wpAny M A (noteFrame (.ref e) env) Q E s := by
  obtain ⟨oe, vs, T, oT, ts, he, hc, ho, hd, h1, hnT, hTe, hT, hdT, h3⟩ := x.tr
  subst hc ho
  unfold noteFrame
  simp only [hf]
  refine wpAny_bind (wpAny_field he hd h1 ?_)
  rw [if_pos (show (Value.ref T != Value.none) = true from by simp)]
  refine wpAny_bind (wpAny_field hT hdT h3 ?_)
  rw [if_neg (show ¬ ((Value.none == rawInt L) = true) from by simp [rawInt])]
  refine wpAny_bind (wpAny_setField hT hdT (Array.getElem?_eq_some_iff.mp h3).1 ?_)
  have oth : ∀ b, b ≠ T → (s.heap.update T (Obj.mapFields (·.setIfInBounds 3 Value.none))).get? b = s.heap.get? b := fun b hb => Heap.get?_update_other _ _ (Ne.symm hb)
  have nrec : ∀ b o, s.heap.get? b = some o → (∀ vs, o.data ≠ .fields vs) → b ≠ T := fun b o hb hnf q => by rw [q, hT] at hb; injection hb with hb; subst hb; exact hnf ts hdT
  refine entryD hfr (x.ff.of_keeps fun b o hb hnf => ⟨o, (oth b (nrec b o hb hnf)).trans hb, rfl⟩) hf ((oth e (Ne.symm hTe)).trans he) (fun b o hb => (oth b fun q => by rw [q, hnT] at hb; cases hb).trans (x.st b o hb)) x.new hd (Array.getElem?_eq_some_iff.mp h1).1 fun h' y up => h h' y fun b o hb hnf => up b o ((oth b (nrec b o hb hnf)).trans hb) hnf
/-- the first frame at an exception that was just made -/
theorem noteD0 {oe : Obj} {vs : Array Value} (hfr : A.frames = some (env :: outer)) (hl : s.heap.FunFrames base (env :: outer)) (hf : env.frame = some L) (he : s.heap.get? e = some oe) (hkb : base.StaysIn s.heap) (hen : base.get? e = none) (hd : oe.data = .fields vs) (h1 : vs[1]? = some .none)
    (h : ∀ h', FlyD base (env :: outer) e oe.cls oe.dict (rawInt L) h' → s.heap.UpToSlots h' → Q () { s with heap := h' }) : wpAny M A (noteFrame (.ref e) env) Q E s := by
  unfold noteFrame
  simp only [hf]
  refine wpAny_bind (wpAny_field he hd h1 ?_)
  rw [if_neg (by decide)]
  exact entryD hfr hl hf he hkb hen hd (Array.getElem?_eq_some_iff.mp h1).1 h
theorem FlyD.drop {cls fl : Value} {od : Option Addr} {h : Heap} (x : FlyD base (env :: outer) e cls od fl h) : FlyD base outer e cls od fl h := ⟨x.st, x.new, x.ff.2.2, x.tr⟩
theorem leaveD {cls : Value} {od : Option Addr} (hfr : A.frames = some (env :: outer)) (hf : env.frame = some L) (x : FlyD base (env :: outer) e cls od .none s.heap)
    (h : ∀ h', FlyD base outer e cls od .none h' → s.heap.UpToSlots h' → Q () { s with heap := h' }) : wpAny M A (leaving env (.ref e)) Q E s := by
  unfold leaving
  exact wpAny_bind (noteD hfr hf x fun h1 y1 u1 => flightD y1 fun h2 y2 u2 => h h2 y2.drop (u1.trans u2))
theorem leaveD0 {oe : Obj} {vs : Array Value} (hfr : A.frames = some (env :: outer)) (hl : s.heap.FunFrames base (env :: outer)) (hf : env.frame = some L) (he : s.heap.get? e = some oe) (hkb : base.StaysIn s.heap) (hen : base.get? e = none) (hd : oe.data = .fields vs) (h1 : vs[1]? = some .none)
    (h : ∀ h', FlyD base outer e oe.cls oe.dict .none h' → s.heap.UpToSlots h' → Q () { s with heap := h' }) : wpAny M A (leaving env (.ref e)) Q E s := by
  unfold leaving
  exact wpAny_bind (noteD0 hfr hl hf he hkb hen hd h1 fun h1 y1 u1 => flightD y1 fun h2 y2 u2 => h h2 y2.drop (u1.trans u2))
end
end PySem

set_option Elab.async false
set_option linter.all false
set_option maxRecDepth 100000
/-! Exceptions of one's own classes: how one lies behind a call; a raise; a call that passes one on. -/
namespace L2
open PySem PySem.Spec PyProof.Rows
/-- an exception at ea flies: B holds all that stands, but the frames, the exception and its records -/
structure Fly0 (P : Program) (w : World) (outer : List Env) (H : Hp) (s : Shared) (B : Heap) (H' : Hp) (s' : Shared) : Prop where
  st : B.StaysIn s'.heap
  ff : s'.heap.FunFrames B outer
  un : Un (frs outer) [] H H' s.heap s'.heap
  hok : HOk P w H' s'.heap
  cov : ∀ b o, H' b = some o → ∃ ob, B.get? b = some ob
  old : ∀ b o, s.heap.get? b = some o → b ∉ frs outer → ∃ o', B.get? b = some o'
  os : s'.os = s.os
  bare : AllBare s'.gens
structure Fly (P : Program) (w : World) (outer : List Env) (H : Hp) (s : Shared) (B : Heap) (H' : Hp) (s' : Shared) (ea : Addr) (cls : Value) (od : Option Addr) : Prop extends Fly0 P w outer H s B H' s' where
  fl : FlyD B outer ea cls od .none s'.heap
def CX1 (P : Program) (w : World) : CXT := fun outer H s E e s' => ∃ ea cls od B H', e = .ref ea ∧ Fly P w outer H s B H' s' ea cls od ∧ H' ea = none ∧ E cls od H'
theorem hok_stays {P : Program} {w : World} {H : Hp} {B h h' : Heap} (ok : HOk P w H h) (cov : ∀ b o, H b = some o → ∃ ob, B.get? b = some ob) (k : B.StaysIn h) (k' : B.StaysIn h') : HOk P w H h' := fun a o e =>
  (ok a o e).stay (fun b u hb q => by
    have hb' : ∃ ob, B.get? b = some ob := by
      rcases hb with rfl | hb
      · exact cov _ _ e
      · exact cov _ _ hb
    obtain ⟨ob, hB⟩ := hb'
    have := k b ob hB
    rw [q] at this
    cases this
    exact k' b _ hB) (fun _ q => q) fun _ _ q => q
theorem ObjOk.there {P : Program} {w : World} {H : Hp} {h : Heap} {a : Addr} {o : HO} (x : ObjOk P w H h a o) : ∃ ob, h.get? a = some ob := by
  cases o with
  | lst xs => obtain ⟨_, _, _, _, e⟩ := x; exact ⟨_, e⟩
  | tup xs => obtain ⟨_, _, _, ob, e, _⟩ := x; exact ⟨_, e⟩
  | dK kvs => obtain ⟨_, _, _, _, o, _, _, e, _⟩ := x; exact ⟨_, e⟩
  | dT kvs => obtain ⟨_, _, _, _, o, _, _, e, _⟩ := x; exact ⟨_, e⟩
  | set S n => obtain ⟨o, _, _, _, e, _⟩ := x; exact ⟨_, e⟩
  | ins C dx fs => obtain ⟨_, _, _, e, _⟩ := x; exact ⟨_, e⟩
  | own y => exact x
  | xd fs => obtain ⟨_, ⟨_, _, _, e, _⟩, _⟩ := x; exact ⟨_, e⟩
  | rng lo hi => obtain ⟨_, _, _, e⟩ := x; exact ⟨_, e⟩
  | frz ob u => obtain ⟨e, _⟩ := x; exact ⟨_, e⟩
  | tbl ps => exact ⟨_, show h.get? a = some _ from x⟩
  | met f y => exact ⟨_, show h.get? a = some _ from x⟩
  | ext φ => obtain ⟨_, e, _⟩ := x; exact e
section
variable {P : Program} {w : World} {K : PySem.W.Frag} {mg : Str → Option Value} {base : Heap} {N : List Str} {qual : Str} {scope : Scope} {f : Addr} {cd : Value} {A : Around} {outer : List Env} {s : Shared} {H : Hp} {E E1 : XK} {CX : CXT}
/-- the state behind the callee's exception, seen from the caller's own entry -/
theorem Fly0.up {X : Cx} {pins : List (Addr × Obj)} {σ : St} {H1 H' : Hp} {s1 s' : Shared} {B h' : Heap} {ea : Addr} {cls : Value} {od : Option Addr} (I : Inv X pins σ H1 s1) (hex : X.ex = []) (hst : X.stack = X.env :: X.outer) (hfr : X.env.frame = some X.env.locals) (hP : X.prog = P) (hw : X.w = w)
    (x : Fly0 P w X.stack H1 s1 B H' s') (fl2 : FlyD B X.outer ea cls od .none h') (up : s'.heap.UpToSlots h') :
    Fly P w X.outer X.H₀ X.s₀ B H' { s' with heap := h' } ea cls od := by
  have nex : ∀ b, b ∉ X.ex := fun b => by rw [hex]; simp
  have nfr : ∀ b o, X.s₀.heap.get? b = some o → b ∉ X.fs → b ∉ frs X.stack := fun b o e hb hm => by
    rw [hst] at hm
    unfold frs at hm
    rw [List.filterMap_cons, hfr] at hm
    rcases List.mem_cons.mp hm with z | z
    · exact absurd (Heap.lt_size e) (by rw [z]; exact Nat.not_lt.mpr I.ok.above)
    · exact hb z
  have sub : ∀ b, b ∈ X.fs → b ∈ frs X.stack := fun b hb => by
    rw [hst]
    unfold frs
    rw [List.filterMap_cons, hfr]
    exact List.mem_cons_of_mem _ hb
  have kB : ∀ b o, X.s₀.heap.get? b = some o → b ∉ X.fs → ∃ o', B.get? b = some o' := fun b o e hb => by
    obtain ⟨o1, e1⟩ := I.base.there b o e (nex b)
    exact x.old b o1 e1 (nfr b o e hb)
  have fr0 : ∀ b ∈ X.fs, X.H₀ b = none := I.ok.frf
  have sl : ∀ b o, X.s₀.heap.get? b = some o → X.H₀ b = none → b ∈ X.fs → ∃ sl, h'.get? b = some { o with slots := sl } := fun b o e hn hb => by
    obtain ⟨sl1, e1⟩ := I.base.slot b o e hn hb (nex b)
    have n1 := I.base.free b o e hn (nex b)
    obtain ⟨sl2, e2⟩ := x.un.slot b _ e1 n1 (sub b hb) (by simp)
    obtain ⟨_, o3, e3, nf⟩ := x.ff.mem (sub b hb)
    rw [e2] at e3
    cases e3
    obtain ⟨sl3, e4⟩ := up b _ e2 nf
    exact ⟨sl3, e4⟩
  refine ⟨⟨fl2.st, fl2.ff, ⟨fun b o e hn hb _ => ?_, fun b o e hn hb _ => sl b o e hn hb, fun b o e hn _ => ?_, fun b o e _ => ?_, fun b xs q => x.un.tups b xs (I.base.tups b xs q), fun b o u q => x.un.frzs b o u (I.base.frzs b o u q), fun b ps q => ?_⟩, hok_stays x.hok x.cov x.st fl2.st, x.cov, kB, x.os.trans I.os, x.bare⟩, fl2⟩
  · have e1 := I.base.keep b o e hn hb (nex b)
    have n1 := I.base.free b o e hn (nex b)
    have e2 := x.un.keep b o e1 n1 (nfr b o e hb) (by simp)
    obtain ⟨o', eB⟩ := kB b o e hb
    have := x.st b o' eB
    rw [e2] at this
    cases this
    exact fl2.st b _ eB
  · obtain ⟨o1, e1⟩ := I.base.there b o e (nex b)
    exact x.un.free b o1 e1 (I.base.free b o e hn (nex b)) (by simp)
  · by_cases hb : b ∈ X.fs
    · obtain ⟨z, ez⟩ := sl b o e (fr0 b hb) hb
      exact ⟨_, ez⟩
    · obtain ⟨o', eB⟩ := kB b o e hb
      exact ⟨_, fl2.st b _ eB⟩
  · obtain ⟨m1, e1⟩ := I.base.tbls b ps q
    obtain ⟨m2, e2⟩ := x.un.tbls b _ e1
    exact ⟨m1 ++ m2, by rw [e2, Array.append_assoc]⟩
/-- a call's exception leaves a def's body -/
theorem passes_up (hE : ∀ c d H', E1 c d H' → E c d H') : Passes (CX1 P w) (cxOf (CX1 P w) P w K mg base N qual scope f cd A outer s H E) E1 := by
  intro pins σ H1 s1 e s' I x
  obtain ⟨ea, cls, od, B, H', rfl, fly, hn, q⟩ := x
  refine leaveD I.ok.frames rfl fly.fl fun h' fl2 up => ?_
  exact ⟨ea, cls, od, B, H', rfl, Fly0.up I rfl rfl rfl rfl rfl fly.toFly0 fl2 up, hn, hE _ _ _ q⟩
end
end L2

set_option Elab.async false
set_option linter.all false
set_option maxRecDepth 100000
namespace L2
open PySem PySem.Spec PyProof.Rows
/-- the class at C, an exception class of one's own without an __init__, by the fragment -/
structure XCls (K : PySem.W.Frag) (C : Addr) (bmB : List Value) (newId : String) : Prop where
  exc : PySem.W.excIn K C bmB newId = true
theorem XCls.obj {K : PySem.W.Frag} {C : Addr} {bmB : List Value} {newId : String} {h : Heap} (c : XCls K C bmB newId) (X : K.In h) : ∃ bm N nm q bs hdct sn sub ab col dd k0 k1 k2 k3 k5 mN,
    h.get? C = some (excClassObj nm q C N bs bm hdct sn sub ab col dd k0 k1 k2 k3 k5 newId) ∧ h.Ns N mN ∧ mN "__init__" = none ∧ OwnTail h bmB bm ∧ ∃ dd' cd sl, K.lookup C = some ⟨.type "type", dd', .cls cd, sl⟩ ∧ cd.mro = .ref C :: bm := by
  have q := c.exc
  unfold PySem.W.excIn at q
  cases hl : K.lookup C with
  | none => rw [hl] at q; cases q
  | some ob =>
    rw [hl] at q
    split at q
    · rename_i dd cd sl e
      cases e
      split at q
      · rename_i C' bm k0 k1 k2 k3 n k5 hm hs
        simp only [Bool.and_eq_true, beq_iff_eq, Bool.not_eq_true'] at q
        obtain ⟨⟨⟨⟨⟨rfl, rfl⟩, hdel⟩, ht⟩, hok⟩, hni⟩ := q
        have ho := X _ _ hl
        have hsl : sl = #[k0, k1, k2, k3, some (.builtin n), k5] := Array.toList_inj.mp hs
        subst hsl
        obtain ⟨nm, bs, mro, ns, qn, hd, sn, sub, ab, col, del⟩ := cd
        dsimp only at hm hdel hok hni ho
        subst hm hdel
        exact ⟨bm, ns, nm, qn, bs, hd, sn, sub, ab, col, dd, k0, k1, k2, k3, k5, _, ho, .of_isNs (PySem.W.isNs_of_in X hok), PySem.W.nsMap_none_of_in X hok hni, PySem.W.tail_of_in X ht, dd, _, _, rfl, rfl⟩
      · cases q
    · cases q
section
variable {X : Cx} {x : Str} {np cpos pos : Pos} {e₀ : Expr} {rest : List Expr} {t : TA} {C : Addr} {B Bn newId nid initId inN : String} {bm bmN : List Value} {E : XK}
/-- raise C(e, ..) -/
def tRaise (C : Addr) (E : XK) (t : TA) : TS := fun _ σ H => t σ H fun vs H1 => vs.length ≤ sizeLine ∧ E (.ref C) none H1
end
/-- an expression that may raise: E is what is wanted of the exception -/
abbrev TX := St → Hp → VK → XK → Prop
def PX (CX : CXT) (X : Cx) (e : Expr) (t : TX) : Prop :=
  ∀ (pins : List (Addr × Obj)) (s : Shared) (σ : St) (H : Hp) (Q : VK) (E : XK) (Ex : Value → Shared → Prop), Inv X pins σ H s → t σ H Q E → (∀ H1 s1 ev s', Inv X pins σ H1 s1 → CX X.stack H1 s1 E ev s' → Ex ev s') →
    wpAny (model X.prog X.w) X.A (eval e X.env) (EP X pins σ Q) Ex s
section
variable {X : Cx} {CX : CXT} {k : Nat} {ps : List Str} {sp : Sp} {x : Str} {p pos : Pos} {e : Expr} {es : List Expr} {t : TA}
def tCallX (sp : Sp) (t : TA) : TX := fun σ H Q E => t σ H fun vs H1 => sp vs H1 Q E
/-- f(..) where f may raise; the arguments do not -/
theorem px_cal (c : Cal X.prog X.w X.K X.mg X.base CX k x ps sp) (hr : Room k X.A) (hg : Gl X x) (ha : PA X.nox (e :: es) t) (hdb : (x == ("__debug__" : Str)) = false := by decide +kernel)
    (hst : starEach (e :: es) X.env = (false, eval e X.env) :: starEach es X.env := by rfl) (hpl : (backTo pos (starEach es X.env)).any (·.1) = false := by rfl) : PX CX X (.Call (.Name x p) (e :: es) [] pos) (tCallX sp t) := by
  intro pins s σ H Q E Ex I h hEx
  obtain ⟨f, fd, F, hm, hk, hb⟩ := c.ex
  refine wpAny_Call_Name_kw (ld_glob I hg hm ?_ hdb)
  refine PySem.W.callWith_K (h₀ := X.base) I.ok.mod.kin hk (wpAny_mono (ha pos pins s σ H _ (I.wish _) h) (fun us s1 ⟨vs, H1, I1, r, q⟩ => ⟨I1.kIn, ?_⟩) fun _ _ f => f.elim) hst hpl
  have I2 : Inv X pins σ H1 s1 := I1.unwish
  have hl : (us ++ []).length = ps.length := by rw [List.append_nil, ← r.length]; exact F.len _ _ _ _ q
  have hb1 := hb s1 us I2.kIn hl
  rw [List.append_nil] at hb1
  refine wpAny_call (codeAny_mono (F.run X.A X.stack s1 H1 ⟨us, []⟩ us vs Q E hr I2.env0 hb1 r q) fun rr s' hq => ?_)
  cases rr with
  | error ev => exact hEx H1 s1 ev s' I2 hq
  | ok fl =>
    cases fl with
    | ret u => exact I2.after hq
    | next => exact False.elim hq
    | brk => exact False.elim hq
    | cont => exact False.elim hq
end
/-- from a call's entry to any state behind that keeps what stands -/
theorem Fly0.un2 {P : Program} {w : World} {outer : List Env} {H H' : Hp} {s s' : Shared} {B h6 : Heap} (x : Fly0 P w outer H s B H' s') (k6 : B.StaysIn h6) (up : s'.heap.UpToSlots h6) (fr0 : ∀ b ∈ frs outer, H b = none) : Un (frs outer) [] H H' s.heap h6 := by
  have sl : ∀ b o, s.heap.get? b = some o → H b = none → b ∈ frs outer → ∃ sl, h6.get? b = some { o with slots := sl } := fun b o e hn hb => by
    obtain ⟨sl2, e2⟩ := x.un.slot b _ e hn hb (by simp)
    obtain ⟨_, o3, e3, nf⟩ := x.ff.mem hb
    rw [e2] at e3
    cases e3
    obtain ⟨sl3, e4⟩ := up b _ e2 nf
    exact ⟨sl3, e4⟩
  refine ⟨fun b o e hn hb _ => ?_, fun b o e hn hb _ => sl b o e hn hb, fun b o e hn _ => x.un.free b o e hn (by simp), fun b o e _ => ?_, x.un.tups, x.un.frzs, x.un.tbls⟩
  · obtain ⟨o', eB⟩ := x.old b o e hb
    have := x.st b o' eB
    rw [x.un.keep b o e hn hb (by simp)] at this
    cases this
    exact k6 b _ eB
  · by_cases hb : b ∈ frs outer
    · obtain ⟨z, ez⟩ := sl b o e (fr0 b hb) hb
      exact ⟨_, ez⟩
    · obtain ⟨o', eB⟩ := x.old b o e hb
      exact ⟨_, k6 b _ eB⟩
/-- what stands at an exception's address -/
def ExcAt (ea : Addr) (cls : Value) (od : Option Addr) (h : Heap) : Prop := ∃ o vs, h.get? ea = some o ∧ o.cls = cls ∧ o.dict = od ∧ o.data = .fields vs
abbrev xo (ea : Addr) (cls : Value) (od : Option Addr) : HO := .ext (ExcAt ea cls od)
/-- caught: the state at the call goes on, with the exception -/
theorem Inv.caught {X : Cx} {pins : List (Addr × Obj)} {σ : St} {H H' : Hp} {s s' : Shared} {B h6 : Heap} {ea : Addr} {cls : Value} {od : Option Addr} (I : Inv X pins σ H s) (x : Fly0 X.prog X.w X.stack H s B H' s') (fl : FlyD B X.stack ea cls od .none h6) (up : s'.heap.UpToSlots h6) (hn : H' ea = none) :
    Inv X pins σ (upd H' ea (xo ea cls od)) { s' with heap := h6 } := by
  obtain ⟨oe, vs, he, hc, hod, hd⟩ := fl.there
  have newB : B.get? ea = none := fl.new
  have nfr : ea ∉ frs X.stack := fun hm => by
    obtain ⟨_, o, ho, nf⟩ := fl.ff.mem hm
    rw [he] at ho
    cases ho
    exact nf _ hd
  have nold : s.heap.get? ea = none := by
    cases z : s.heap.get? ea with
    | none => rfl
    | some o =>
      obtain ⟨o', eB⟩ := x.old ea o z nfr
      rw [newB] at eB
      cases eB
  have u := x.un2 fl.st up I.stkFree
  have ok6 := hok_stays x.hok x.cov x.st fl.st
  have nq : ∀ b o, H' b = some o → b ≠ ea := fun b o e z => by rw [z, hn] at e; cases e
  refine I.call' (ch := []) x.os ⟨u.keep, u.slot, fun b o e n hx => ?_, u.there, fun b xs q => ?_, fun b o y q => ?_, fun b qs q => ?_⟩ (fun b o e => ?_) x.bare (fun b z => absurd z (by simp))
  · have nb : b ≠ ea := fun z => by rw [z, nold] at e; cases e
    rw [upd_ne nb]
    exact u.free b o e n hx
  · have q' := u.tups b xs q
    rw [upd_ne (nq _ _ q')]
    exact q'
  · have q' := u.frzs b o y q
    rw [upd_ne (nq _ _ q')]
    exact q'
  · obtain ⟨more, q'⟩ := u.tbls b qs q
    exact ⟨more, by rw [upd_ne (nq _ _ q')]; exact q'⟩
  · by_cases hb : b = ea
    · subst hb
      rw [upd_same] at e
      cases e
      exact ⟨⟨oe, vs, he, hc, hod, hd⟩, ⟨oe, he⟩, fun h1 h2 ⟨o, ws, e1, e2, e3, e4⟩ k => ⟨o, ws, k o e1, e2, e3, e4⟩⟩
    · rw [upd_ne hb] at e
      exact (ok6 b o e).stay (fun _ _ _ q => q) (fun c q => by rw [upd_ne (nq _ _ q)]; exact q) fun c xs q => by rw [upd_ne (nq _ _ q)]; exact q
end L2

set_option Elab.async false
set_option linter.all false
set_option maxRecDepth 100000
namespace PySem
open Sem (wp)
section
variable {M : Model} {A : Around} {E : Value → Shared → Prop}
variable {nm q nm' q' : Str} {C N D N' : Addr} {bs bm bs' bm' : List Value} {hdct hdct' : Bool} {sn sn' : List Str} {sub sub' : List Value} {ab ab' : Bool} {col col' : Option Bool} {dd dd' : Option Addr} {k0 k1 k2 k3 k5 k0' k1' k2' k3' k5' : Option Value} {newId newId' : String}
/-- an exception of the class C against a class D of one's own that C stands under -/
theorem excMatches_under {h : Heap} {g : Array GenState} {d : Drawn} {t : Nat} {os : OsState} {e : Addr} {oe : Obj} {Q : Bool → Shared → Prop}
    (hC : h.get? C = some (excClassObj nm q C N bs bm hdct sn sub ab col dd k0 k1 k2 k3 k5 newId)) (hD : h.get? D = some (excClassObj nm' q' D N' bs' bm' hdct' sn' sub' ab' col' dd' k0' k1' k2' k3' k5' newId')) (he : h.get? e = some oe) (hcls : oe.cls = .ref C)
    (hbase : bm'.contains (.type "BaseException") = true) (hsub : (Value.ref C :: bm).contains (.ref D) = true)
    (hq : Q true ⟨h, g, d, t, os⟩) : wpAny M A (excMatches (.ref e) (.ref D)) Q E ⟨h, g, d, t, os⟩ := by
  have hcB : (Value.ref D :: bm').contains (.type "BaseException") = true := by rw [List.contains_cons, hbase, Bool.or_true]
  have f := tc_notTuple
  unfold excMatches
  repeat (first | (with_reducible refine wpAny_loadPart_at he ?_; rw [hcls]) | with_reducible refine wpAny_loadPart_at hD ?_ | (with_reducible refine wpAny_isSubtype_exc hD ?_; rw [hcB]) | (with_reducible refine wpAny_isSubtype_exc hC ?_; rw [hsub]) | wp_step)
  exact hq
end
end PySem
namespace L2
open PySem PySem.Spec PyProof.Rows
section
variable {X : Cx} {pins : List (Addr × Obj)} {σ : St} {H : Hp} {s : Shared}
/-- the name behind an except suite is unbound -/
theorem unbind_ok {M : Model} {A : Around} {E : Value → Shared → Prop} {i : Nat} {x : Str} {v : V} {pos : Pos} {Q : Unit → Shared → Prop} (I : Inv X pins σ H s) (hN : X.N.Nodup) (hi : X.N[i]? = some x) (hk : X.env.kindOf x = some .local)
    (h : ∀ s', Inv X pins (σ.set i none) H s' → Q () s') : wpAny M A (do bindName X.env x .none; unbindBehindTheSuite X.env x pos) Q E s := by
  have hloc : X.env.scope.names.lookup x = some .local := hk
  refine wpAny_bind (wpAny_bindName (store_ok (v := .non) I hN hi (.inl hloc) rfl (fun s1 I1 => ?_) (.inr hloc)))
  unfold unbindBehindTheSuite
  have hiσ : i < σ.length := by rw [I.len]; exact (List.getElem?_eq_some_iff.mp hi).1
  obtain ⟨m, hn, hl⟩ := id I1.loc
  obtain ⟨u, ru, lk⟩ := hl i x .non hi (List.getElem?_set_self hiσ) (.inl hloc)
  have hm : m x = some u := by
    rcases lk with ⟨_, e⟩ | ⟨z, _⟩
    · exact e
    · rw [hk] at z; rcases z with z | z <;> cases z
  have hcls : (X.env.scope.kind == .class || (X.env.scope.kind == .module && X.env.locals != X.env.globals)) = false := by rw [I.ok.kind]; rfl
  refine wpAny_onRaise (wpAny_unbindName_local hk hn hm hcls fun h' u' hn' hs => ?_)
  have cne := I1.cne
  obtain ⟨oL, _, _, hoL, _⟩ := id hn
  refine h _ ⟨I1.ok, I1.os, I1.bare, ⟨fun b o e n hb hx => ?_, fun b o e n hb hx => ?_, I1.base.free, fun b o e hx => ?_, I1.base.tups, I1.base.frzs, I1.base.tbls⟩, ⟨_, hn', fun j y v' e1 e2 e3 => ?_⟩, fun y c e => ?_, I1.free, I1.freeC, fun p hp => ?_, fun b ob e => ?_, by rw [List.length_set]; exact I.len⟩
  · exact (hs.2 b (Nat.ne_of_lt (Nat.lt_of_lt_of_le (Heap.lt_size e) I1.ok.above))).trans (I1.base.keep b o e n hb hx)
  · obtain ⟨sl, e1⟩ := I1.base.slot b o e n hb hx
    exact ⟨sl, (hs.2 b (Nat.ne_of_lt (Nat.lt_of_lt_of_le (Heap.lt_size e) I1.ok.above))).trans e1⟩
  · obtain ⟨o', e1⟩ := I1.base.there b o e hx
    exact ⟨o', (hs.2 b (Nat.ne_of_lt (Nat.lt_of_lt_of_le (Heap.lt_size e) I1.ok.above))).trans e1⟩
  · by_cases hj : j = i
    · subst hj
      rw [List.getElem?_set_self hiσ] at e2
      cases e2
    · rw [List.getElem?_set_ne (Ne.symm hj)] at e2
      obtain ⟨u', r', q⟩ := hl j y v' e1 (by rw [List.getElem?_set_ne (Ne.symm hj)]; exact e2) e3
      refine ⟨u', r', ?_⟩
      rcases q with ⟨k, e⟩ | ⟨k, c, e, z⟩
      · refine .inl ⟨k, ?_⟩
        have : y ≠ x := fun e => hj (nodup_ix hN e1 (e ▸ hi))
        simp [this, e]
      · exact .inr ⟨k, c, e, z.sameBut hs (cne y c e)⟩
  · obtain ⟨w', z⟩ := I1.cell y c e
    exact ⟨w', z.sameBut hs (cne y c e)⟩
  · obtain ⟨e, n, ne, nf, d⟩ := I1.pin p hp
    exact ⟨(hs.2 p.1 ne).trans e, n, ne, nf, d⟩
  · refine (I1.hok b ob e).stay (fun c w' hc q => (hs.2 c ?_).trans q) (fun _ q => q) fun _ _ q => q
    rintro rfl
    rcases hc with rfl | hc
    · rw [I1.free] at e; cases e
    · rw [I1.free] at hc; cases hc
/-- within an except suite that raises nothing -/
abbrev Cx.held (X : Cx) (ea : Addr) : Cx := { X with A := X.A.mark (some (.ref ea)), calm := false, xe := fun _ _ => False }
theorem Inv.held (I : Inv X pins σ H s) (ea : Addr) : Inv (X.held ea) pins σ H s :=
  ⟨⟨I.ok.mod, I.ok.kind, I.ok.glob, I.ok.blt, I.ok.above, I.ok.inj, I.ok.has, I.ok.cab, (fun z => by cases z), I.ok.frames, I.ok.stk, I.ok.exf, I.ok.bs, I.ok.bsz, I.ok.noex, I.ok.exfs, I.ok.funs, I.ok.frf⟩, I.os, I.bare, I.base, I.loc, I.cell, I.free, I.freeC, I.pin, I.hok, I.len⟩
theorem Inv.unheld {ea : Addr} (hd : X.calm = true → X.A.handled = none) (I : Inv (X.held ea) pins σ H s) : Inv X pins σ H s :=
  ⟨⟨I.ok.mod, I.ok.kind, I.ok.glob, I.ok.blt, I.ok.above, I.ok.inj, I.ok.has, I.ok.cab, hd, I.ok.frames, I.ok.stk, I.ok.exf, I.ok.bs, I.ok.bsz, I.ok.noex, I.ok.exfs, I.ok.funs, I.ok.frf⟩, I.os, I.bare, I.base, I.loc, I.cell, I.free, I.freeC, I.pin, I.hok, I.len⟩
end
/-- the class C stands under the class D -/
def Under (K : PySem.W.Frag) (C D : Addr) : Prop := ∃ dd cd sl, K.lookup C = some ⟨.type "type", dd, .cls cd, sl⟩ ∧ cd.mro.contains (.ref D) = true
section
variable {X : Cx} {P : Program} {w : World} {e tg : Expr} {tx : TX} {g : TG} {i : Nat} {n x : Str} {D : Addr} {bmD : List Value} {nD : String} {b₀ : Stmt} {suite : List Stmt} {apos pos hpos np : Pos} {ts : Addr → TS}
def tTryAs (K : PySem.W.Frag) (D : Addr) (tx : TX) (g : TG) (i : Nat) (ts : Addr → TS) : TS := fun De σ H =>
  tx σ H (fun v H1 => g v σ H1 De.nx) (fun cls od H' => ∃ C bm nid, cls = .ref C ∧ XCls K C bm nid ∧ Under K C D ∧ ∀ ea, H' ea = none →
    ts ea { nx := fun σ2 H2 => De.nx (σ2.set i none) H2, rt := De.rt, bk := fun σ2 H2 => De.bk (σ2.set i none) H2, ct := fun σ2 H2 => De.ct (σ2.set i none) H2 } (σ.set i (some (.ref ea))) (upd H' ea (xo ea (.ref C) od)))
end
end L2

set_option Elab.async false
set_option linter.all false
set_option maxRecDepth 100000
/-! zip of two lists, walked with a tuple target. -/
namespace L2
open PySem PySem.Spec PyProof.Rows
section
variable {X : Cx} {pins : List (Addr × Obj)} {σ : St} {H : Hp} {s : Shared}
/-- an iterator's own objects have turned -/
theorem Inv.moved {ch : List Addr} {h' : Heap} {tk : Nat} (I : Inv X pins σ H s) (hf : ∀ b ∈ ch, FpOk X pins H b) (k : ∀ b o, b ∉ ch → s.heap.get? b = some o → h'.get? b = some o) : Inv X pins σ H { s with heap := h', toks := tk } := by
  have nH : ∀ b o, H b = some o → b ∉ ch := fun b o e z => by rw [(hf b z).1] at e; cases e
  refine I.call' (s' := { s with heap := h', toks := tk }) (ch := ch) rfl ⟨fun b o e _ _ hc => k b o hc e, fun b o e _ _ hc => ⟨o.slots, k b o hc e⟩, fun b o e n hc => n, fun b o e hc => ⟨o, k b o hc e⟩, fun b xs q => q, fun b o y q => q, fun b qs q => ⟨#[], by rw [q]; simp⟩⟩
    (fun b o e => (I.hok b o e).stay (fun c u hc q => k c u (by
      rcases hc with rfl | hc
      · exact nH _ _ e
      · exact nH _ _ hc) q) (fun _ q => q) fun _ _ q => q) I.bare fun b hb => ?_
  obtain ⟨f0, f1, f2, f3, f4, f5⟩ := hf b hb
  exact ⟨f3, f1, f4, f5⟩
/-- they have turned, and a new object is tracked -/
theorem Inv.movedT {ch : List Addr} {h' : Heap} {tk : Nat} {T : Addr} {ob : HO} (I : Inv X pins σ H s) (hf : ∀ b ∈ ch, FpOk X pins H b) (k : ∀ b o, b ∉ ch → s.heap.get? b = some o → h'.get? b = some o) (hT : s.heap.objs.size ≤ T) (new : ObjOk X.prog X.w (upd H T ob) h' T ob) :
    Inv X pins σ (upd H T ob) { s with heap := h', toks := tk } := by
  have nH : ∀ b o, H b = some o → b ∉ ch := fun b o e z => by rw [(hf b z).1] at e; cases e
  have hn : H T = none := I.hok.fresh hT
  have nT : ∀ b o, s.heap.get? b = some o → b ≠ T := fun b o e z => by rw [z] at e; exact absurd (Heap.lt_size e) (Nat.not_lt.mpr hT)
  refine I.call' (s' := { s with heap := h', toks := tk }) (ch := ch) rfl ⟨fun b o e _ _ hc => k b o hc e, fun b o e _ _ hc => ⟨o.slots, k b o hc e⟩, fun b o e n hc => by rw [upd_ne (nT b o e)]; exact n, fun b o e hc => ⟨o, k b o hc e⟩, fun b xs q => by rw [upd_ne (ne_of_none q hn)]; exact q, fun b o y q => by rw [upd_ne (ne_of_none q hn)]; exact q, fun b qs q => ⟨#[], by rw [upd_ne (ne_of_none q hn), q]; simp⟩⟩
    (fun b o e => ?_) I.bare fun b hb => ?_
  · by_cases hb : b = T
    · subst hb
      rw [upd_same] at e
      cases e
      exact new
    · rw [upd_ne hb] at e
      exact (I.hok b o e).stay (fun c u hc q => k c u (by
        rcases hc with rfl | hc
        · exact nH _ _ e
        · exact nH _ _ hc) q) (fun c q => by rw [upd_ne (ne_of_none q hn)]; exact q) fun c xs q => by rw [upd_ne (ne_of_none q hn)]; exact q
  · obtain ⟨f0, f1, f2, f3, f4, f5⟩ := hf b hb
    exact ⟨f3, f1, f4, f5⟩
end
/-- at turn i a new pair of the two lists' items -/
def Itz (K : PySem.W.Frag) (a b : Addr) : It :=
  ⟨fun i H => ∃ xs ys x y, SqL K H a xs ∧ SqL K H b ys ∧ xs[i]? = some x ∧ ys[i]? = some y, fun i H v H' => ∃ T x y, v = .ref T ∧ H T = none ∧ H' = upd H T (.tup [x, y]) ∧ (∀ xs, SqL K H a xs → xs[i]? = some x) ∧ ∀ ys, SqL K H b ys → ys[i]? = some y,
    fun i H => ∃ xs ys, SqL K H a xs ∧ SqL K H b ys ∧ (xs.length ≤ i ∨ ys.length ≤ i)⟩
section
variable {X : Cx} {elts : List Expr} {x1 : Nat} {tp : Pos}
def iZip (K : PySem.W.Frag) (ta : TA) : TI := fun σ H R => ta σ H fun vs H1 => ∃ a b xs ys, vs = [.ref a, .ref b] ∧ SqL K H1 a xs ∧ SqL K H1 b ys ∧ R (Itz K a b) H1
end
end L2

set_option Elab.async false
set_option linter.all false
set_option maxRecDepth 100000
/-! attributes of an exception of one's own class; isinstance of it -/
namespace PySem.W
open PySem PySem.Spec PySem.Calls PyProof.Rows
section
variable {prog : Program} {w : World} {A : Around} {E : Value → Shared → Prop} {s : Shared} {K : Frag} {x D : Addr} {ox : Obj} {odo : Option Obj} {name : Str}
theorem ga_bind (self : Value) : bindSpecial (.builtin "BaseException.__getattribute__") self = pure (.builtin "BaseException.__getattribute__", [self]) := F.excAttr_ValueError.ga.bind self
theorem ga_check {tk : Tok} {Q : Unit → Shared → Prop} (X : K.In s.heap) (I : InstAt s.heap x ox D odo) (hb : mroIn K D (.type "BaseException") = some true) (h : Q () s) :
    wpAny (model prog w) A (checkBuiltinCall "BaseException.__getattribute__" ⟨[.ref x, .str name tk], []⟩) Q E s := by
  have L0 := I.type (M := model prog w)
  have L1 := looks_mroIn (M := model prog w) X hb
  have LI : Looks (model prog w) s.heap (isInstance (.ref x) (.type "BaseException")) true := L0.andThen L1
  have hk : builtinKind "BaseException.__getattribute__" = some .slot := by decide +kernel
  have hs : splitId "BaseException.__getattribute__" = some ("BaseException", "__getattribute__") := by decide +kernel
  have ha := F.args_bexc_ga (.ref x) (.str name tk)
  simp only [checkBuiltinCall, hk, hs]
  refine wpAny_bind (LI.at ?_)
  simp only [Bool.not_true, Bool.false_eq_true, if_false]
  cases hsig : Manifest.signature? "BaseException.__getattribute__" with
  | none => exact wpAny_pure h
  | some sig =>
    simp only [argsOk, hsig] at ha
    show wpAny _ _ (Bind.checkArgs _ sig _) Q E s
    rw [ha]
    exact wpAny_pure h
/-- o.name of such an exception, where it is found bound -/
theorem exc_bound {g a v : Value} {Q : Option Value → Shared → Prop} (X : K.In s.heap) (I : InstAt s.heap x ox D odo) (hga : findIn K (.ref D) "__getattribute__" = some (some (.builtin "BaseException.__getattribute__"))) (hgh : findIn K (.ref D) "__getattr__" = some none)
    (hb : mroIn K D (.type "BaseException") = some true) (hf : findObj K D odo name = some (.bind g a))
    (hc : ∀ (A' : Around) (R : Result → Shared → Prop), R (.ok (.ret v)) { s with toks := s.toks + 1 } → codeAny (model prog w) A' (.call g ⟨[a, .ref x, .ref D], []⟩) R { s with toks := s.toks + 1 }) (hv : handedIn v = true) (h : Q (some v) { s with toks := s.toks + 1 }) :
    wpAny (model prog w) A (getAttr? (.ref x) name) Q E s := by
  obtain ⟨hh, gg, d, t, os⟩ := s
  have L0 := I.type (M := model prog w)
  have L1 := looks_findIn (M := model prog w) X hga
  have L2 := looks_findIn (M := model prog w) X hgh
  have L3 := looks_find (M := model prog w) X I hf
  unfold getAttr? getAttrBy? getAttrBy
  refine wpAny_bind (wpAny_mkText (wpAny_bind (wpAny_attempt (wpAny_holding (wpAny_bind (L0.at (wpAny_bind (L1.at ?_))))))))
  show wpAny _ _ (getAttrByItsOwn _ _ _ _ _ _) _ _ _
  unfold getAttrByItsOwn hookBefore
  refine wpAny_bind (L2.at ?_)
  refine wpAny_bind (wpAny_attempt (wpAny_holding ?_))
  unfold callGetattribute boundAndCalled
  show wpAny _ _ (bindSpecial _ _ >>= _) _ _ _
  rw [ga_bind]
  refine wpAny_bind (wpAny_pure ?_)
  refine wpAny_call (codeAny_call_builtin F.excAttr_ValueError.ga.plain F.entry_bexc_ga (ga_check X I hb ?_))
  have e1 : slotArgs "__getattribute__" 1 ⟨[.ref x, .str name t], []⟩ = pure (.ref x, [.str name t]) := rfl
  unfold Builtin.«object.__getattribute__»
  show wpAny _ _ (slotArgs "__getattribute__" 1 ⟨[.ref x, .str name t], []⟩ >>= _) _ _ _
  rw [e1]
  refine wpAny_bind (wpAny_pure ?_)
  refine wpAny_bind (wpAny_pure (wpAny_bind (L0.at (wpAny_bind (L3.at ?_)))))
  show wpAny _ _ (holding [a] (call g [a, .ref x, .ref D]) >>= ret) _ _ _
  refine wpAny_bind (wpAny_holding (wpAny_call (hc _ _ (wpAny_pure ?_))))
  exact handed_on hv (wpAny_pure h)
theorem exc_class {Q : Option Value → Shared → Prop} (X : K.In s.heap) (I : InstAt s.heap x ox D odo) (hga : findIn K (.ref D) "__getattribute__" = some (some (.builtin "BaseException.__getattribute__"))) (hgh : findIn K (.ref D) "__getattr__" = some none)
    (hb : mroIn K D (.type "BaseException") = some true) (hm : mroIn K D (.type "object") = some true) (hf : findObj K D odo "__class__" = some (.bind (.builtin "getset_descriptor.__get__") (.builtin "object.__class__"))) (h : Q (some (.ref D)) { s with toks := s.toks + 1 }) :
    wpAny (model prog w) A (getAttr? (.ref x) "__class__") Q E s :=
  exc_bound (v := .ref D) X I hga hgh hb hf (fun A' R hR => class_get (s := { s with toks := s.toks + 1 }) (ox := ox) (od := odo) X I hm hR) rfl h
/-- what the fragment says of an exception class of one's own, for isinstance -/
structure XTy (K : Frag) (D : Addr) : Prop where
  ga : findIn K (.ref D) "__getattribute__" = some (some (.builtin "BaseException.__getattribute__"))
  gh : findIn K (.ref D) "__getattr__" = some none
  mb : mroIn K D (.type "BaseException") = some true
  mo : mroIn K D (.type "object") = some true
  ha : findIn K (.ref D) "__class__" = some (some (.builtin "object.__class__"))
  hn : specialIn K (.builtin "object.__class__") "__get__" = some (some (.builtin "getset_descriptor.__get__"))
  tk : takesIn K (.builtin "object.__class__") = some true
  cl : ∃ dd cd sl, K.lookup D = some ⟨.type "type", dd, .cls cd, sl⟩
theorem XTy.find (c : XTy K D) : findObj K D odo "__class__" = some (.bind (.builtin "getset_descriptor.__get__") (.builtin "object.__class__")) := by
  obtain ⟨dd, cd, sl, hl⟩ := c.cl
  have hc : clsIn K D = some cd := by unfold clsIn; rw [hl]
  unfold findObj
  rw [hc, Option.bind_some, c.ha, Option.bind_some]
  simp [c.hn, c.tk]
theorem kitx_exc (c : XTy K D) : KitX K (.ref x) (.ref D) (fun h => ∃ ox, InstAt h x ox D odo) where
  ty := fun _ _ _ ⟨_, I⟩ => I.type
  it := fun _ _ X _ => by
    obtain ⟨dd, cd, sl, hl⟩ := c.cl
    intro A' Q' E' s' k q
    unfold isType loadHead
    exact wpAny_bind (wpAny_loadPart (k _ _ (X _ _ hl)) (wpAny_pure q))
  ne := fun h tp dd its n sl X htp => by
    obtain ⟨dd, cd, sl, hl⟩ := c.cl
    refine Bool.eq_false_iff.mpr fun q => ?_
    have e : D = tp := Value.ref.inj (beq_iff_eq.mp q)
    subst e
    have z := congrArg (fun o => o.map Obj.cls) ((X _ _ hl).symm.trans htp)
    simp at z
  ca := fun X ⟨_, I⟩ k => exc_class X I c.ga c.gh c.mb c.mo c.find k
end
end PySem.W
namespace L2
open PySem PySem.Spec PyProof.Rows
section
variable {X : Cx}
theorem exc_inst {h : Heap} {a C : Addr} (e : ExcAt a (.ref C) none h) : ∃ ox, PySem.W.InstAt h a ox C none := by
  obtain ⟨o, vs, e1, e2, e3, e4⟩ := e
  exact ⟨o, e1, e2, by unfold PySem.W.notCls; rw [e4], by rw [e3]; trivial⟩
theorem vals_cls : ∀ {cs : List V} {us : List Value}, Vals cs us → (∀ c ∈ cs, isClsV c = true) → us = cs.map clsV
  | [], _, .nil, _ => rfl
  | c :: cs, _, .cons r t, h => by rw [List.map_cons, clsV_of r (h c (by simp)), vals_cls t fun z hz => h z (by simp [hz])]
end
end L2

set_option Elab.async false
set_option linter.all false
set_option maxRecDepth 100000
namespace L2
open PySem PySem.Spec PyProof.Rows
/-- a class that may be raised: an exception class of one's own without an __init__ -/
structure XR (K : PySem.W.Frag) (C : Addr) : Prop where
  ex : ∃ (bm bmN : List Value) (newId Bn inN B nid initId : String), XCls K C bm newId ∧ ExcBaseFacts Bn newId inN bmN ∧ bm.contains (.type Bn) = true ∧ ExcBaseFacts B nid initId bm
section
variable {P : Program} {w : World} {K : PySem.W.Frag} {mg : Str → Option Value} {base : Heap}
/-- a def that may raise -/
theorem Fun.okX {x qual : Str} {st : Stmt} {f : Addr} {fd : FuncData} {N ps : List Str} {k : Nat} {sp : Sp} (F : Fun K x qual st f fd) (S : FnScope N ps (defScope st)) (len : ∀ vs H Q E, sp vs H Q E → vs.length = ps.length)
    (hbody : ∀ (cdv : Value) (A : Around) (outer : List Env) (s : Shared) (H : Hp) (vs : List V) (Q : VK) (E : XK), Room k (A.deeper (envOfC qual (defScope st) s.heap.objs.size f cdv)) → sp vs H Q E →
      ∃ t, PSs (cxOf (CX1 P w) P w K mg base N qual (defScope st) f cdv A outer s H E) (defBody st) t ∧ t { nx := fun _ H' => Q .non H', rt := Q } (start N vs) H) : FnOk P w K mg base (CX1 P w) (k + 1) f fd ps sp := by
  obtain ⟨oc, od, kV, doc, pm, an, cdv, ct, osl, rfl, lk, hcd⟩ := F.ex
  exact fn_of lk hcd S len fun A outer s H vs Q E hr hsp => hbody cdv A outer s H vs Q E hr hsp
end
section
variable {K : PySem.W.Frag} {g : TG} {ti : TT} {te : TE} {σ : St} {H : Hp} {Q : List V → Hp → Prop}
end
end L2
namespace QL
open PySem
theorem bt_ValueError : bootBuiltins "ValueError" = some (.type "ValueError") := by decide +kernel
end QL

set_option Elab.async false
set_option linter.all false
set_option maxRecDepth 100000
/-! enumerate of a list and of a text, walked with a tuple target. -/
namespace L2
open PySem PySem.Spec PyProof.Rows
/-- at turn i a new pair of i and the list's item -/
def Ite (K : PySem.W.Frag) (a : Addr) : It :=
  ⟨fun i H => ∃ xs x, SqL K H a xs ∧ xs[i]? = some x, fun i H v H' => ∃ T x, v = .ref T ∧ H T = none ∧ H' = upd H T (.tup [.int (i : Int), x]) ∧ ∀ xs, SqL K H a xs → xs[i]? = some x, fun i H => ∃ xs, SqL K H a xs ∧ xs.length ≤ i⟩
/-- at turn i a new pair of i and the text's sign -/
def Itse (x : Str) : It :=
  ⟨fun i _ => i < x.cps.size, fun i H v H' => ∃ T c, v = .ref T ∧ H T = none ∧ H' = upd H T (.tup [.int (i : Int), .str ⟨#[c]⟩]) ∧ x.cps[i]? = some c, fun i _ => i = x.cps.size⟩
theorem turn_enum {P : Program} {w : World} {K : PySem.W.Frag} {elts : List Expr} {x1 : Nat} {tp : Pos} {e it l : Addr} (hei : e ≠ it) :
    Turn P w K (.Tuple elts x1 tp) (Ite K l) [e, it] e (fun i h => (∃ old, IsEnum h e it i old) ∧ h.IsListIter it l i) where
  mem := by simp
  obj := fun i h st b hb => by
    obtain ⟨⟨old, he⟩, ⟨o1, e1, c1, d1⟩⟩ := st
    simp only [List.mem_cons, List.not_mem_nil, or_false] at hb
    rcases hb with rfl | rfl
    · exact ⟨_, he, fun v q => by cases q⟩
    · exact ⟨_, e1, fun v q => by rw [d1] at q; cases q⟩
  keep := fun i h h' st hk => by
    obtain ⟨⟨old, he⟩, h1⟩ := st
    exact ⟨⟨old, hk e (by simp) _ he⟩, h1.at fun o e' => hk it (by simp) o e'⟩
  item := by
    intro X hP hw hK hc i pins s σ H E I hf st hg
    subst hP hw hK
    obtain ⟨xs, x, hq, hx⟩ := hg
    obtain ⟨its, rv, p, hz⟩ := I.list hq
    obtain ⟨u, hu, ru⟩ := rv.get hx
    obtain ⟨⟨old, he⟩, h1⟩ := st
    obtain ⟨o1, e1, _⟩ := id h1
    refine wpAny_pyNext_enum_item he h1 p.isList (x := u) (by simpa using hu) hei fun h' a1 a2 a3 a4 hk => ?_
    refine ⟨_, rfl, wpAny_letOwnedTupleGo_enum a1 fun h2 he2 hs2 => ?_⟩
    have hfree : H s.heap.objs.size = none := I.hok.fresh (Nat.le_refl _)
    have lt : ∀ {c o}, s.heap.get? c = some o → s.heap.objs.size ≠ c := fun e => Nat.ne_of_gt (Heap.lt_size e)
    have kk : ∀ c o, c ∉ [e, it] → s.heap.get? c = some o → h2.get? c = some o := fun c o hc q =>
      hs2.extBut _ _ (fun z => hc (by simp [z])) (hk c o (fun z => hc (by simp [z])) (fun z => hc (by simp [z])) q)
    have hT : h2.get? s.heap.objs.size = some { cls := .type "tuple", data := .seq #[.int i s.toks, u] } := hs2.extBut _ _ (lt he) a3
    refine ⟨.ref s.heap.objs.size, upd H s.heap.objs.size (.tup [.int i, x]), I.movedT (tk := s.toks + 1) hf kk (Nat.le_refl _) ⟨show 2 ≤ sizeLine from by decide +kernel, [.int i s.toks, u], .cons ⟨_, rfl⟩ (.cons ru .nil), _, hT, rfl, _, rfl⟩, rfl,
      ⟨_, x, rfl, hfree, rfl, fun zs hzs => by rw [I.list_inj hzs hq]; exact hx⟩, ⟨⟨u, by simpa using he2⟩, a2.extBut hs2.extBut (Ne.symm hei)⟩, fun b hb => ?_⟩
    have hlt : b ≠ s.heap.objs.size := by
      simp only [List.mem_cons, List.not_mem_nil, or_false] at hb
      rcases hb with rfl | rfl
      · exact (lt he).symm
      · exact (lt e1).symm
    rw [upd_ne hlt]
    exact (hf b hb).1
  done := by
    intro X hP hw hK hc i pins s σ H E I hf st hg
    subst hP hw hK
    obtain ⟨xs, hq, hx⟩ := hg
    obtain ⟨its, rv, p, hz⟩ := I.list hq
    obtain ⟨⟨old, he⟩, h1⟩ := st
    have l1' := rv.length
    refine wpAny_pyNext_enum_end (I.ok.hd hc) he h1 p.isList (by simp; omega) fun h' hk => ⟨rfl, I.moved (tk := s.toks) hf fun c o hc e => hk c o (fun q => hc (by simp [q])) e⟩
  self := fun _ _ _ _ _ st h => let ⟨⟨_, he⟩, _⟩ := st; wpAny_pyIter_enum he h
theorem draws_str {prog : Program} {w : World} {A : Around} (hh : A.handled = none) (it : Addr) (x : Str) (t : Tok) :
    Draws prog w A it [it] x.cps.size (fun i v => ∃ c u, x.cps[i]? = some c ∧ v = .str ⟨#[c]⟩ u) (fun i h => h.IsStrIter it (strIterType x) x t i) := by
  unfold strIterType
  split
  · exact Draws.strAscii hh it x t
  · exact Draws.strWide hh it x t
theorem turn_enumS {P : Program} {w : World} {K : PySem.W.Frag} {elts : List Expr} {x1 : Nat} {tp : Pos} {e it : Addr} {x : Str} {t : Tok} (hei : e ≠ it) :
    Turn P w K (.Tuple elts x1 tp) (Itse x) [e, it] e (fun i h => (∃ old, IsEnum h e it i old) ∧ h.IsStrIter it (strIterType x) x t i) where
  mem := by simp
  obj := fun i h st b hb => by
    obtain ⟨⟨old, he⟩, ⟨o1, e1, c1, d1⟩⟩ := st
    simp only [List.mem_cons, List.not_mem_nil, or_false] at hb
    rcases hb with rfl | rfl
    · exact ⟨_, he, fun v q => by cases q⟩
    · exact ⟨_, e1, fun v q => by rw [d1] at q; cases q⟩
  keep := fun i h h' st hk => by
    obtain ⟨⟨old, he⟩, ⟨o1, e1, r⟩⟩ := st
    exact ⟨⟨old, hk e (by simp) _ he⟩, ⟨o1, hk it (by simp) _ e1, r⟩⟩
  item := by
    intro X hP hw hK hc i pins s σ H E I hf st hg
    subst hP hw hK
    obtain ⟨⟨old, he⟩, h1⟩ := st
    obtain ⟨o1, e1, _⟩ := id h1
    have D := draws_str (prog := X.prog) (w := X.w) (A := X.A.in1) (I.ok.hd hc) it x t
    refine wpAny_pyNext_enum_itemD D he h1 hg hei (by simpa using hei) fun v h' tk hv a1 a2 a3 a4 hk => ?_
    obtain ⟨c, u, hcx, rfl⟩ := hv
    refine ⟨_, rfl, wpAny_letOwnedTupleGo_enum a1 fun h2 he2 hs2 => ?_⟩
    have hfree : H s.heap.objs.size = none := I.hok.fresh (Nat.le_refl _)
    have lt : ∀ {c o}, s.heap.get? c = some o → s.heap.objs.size ≠ c := fun e => Nat.ne_of_gt (Heap.lt_size e)
    have kk : ∀ c o, c ∉ [e, it] → s.heap.get? c = some o → h2.get? c = some o := fun c o hc q =>
      hs2.extBut _ _ (fun z => hc (by simp [z])) (hk c o (fun z => hc (by simp [z])) (fun z => hc (by simp [z])) q)
    have hT : h2.get? s.heap.objs.size = some { cls := .type "tuple", data := .seq #[.int i tk, .str ⟨#[c]⟩ u] } := hs2.extBut _ _ (lt he) a3
    refine ⟨.ref s.heap.objs.size, upd H s.heap.objs.size (.tup [.int i, .str ⟨#[c]⟩]), I.movedT (tk := tk + 1) hf kk (Nat.le_refl _) ⟨show 2 ≤ sizeLine from by decide +kernel, [.int i tk, .str ⟨#[c]⟩ u], .cons ⟨_, rfl⟩ (.cons ⟨_, rfl⟩ .nil), _, hT, rfl, _, rfl⟩, rfl,
      ⟨_, c, rfl, hfree, rfl, hcx⟩, ⟨⟨_, by simpa using he2⟩, ?_⟩, fun b hb => ?_⟩
    · obtain ⟨o2, e2, r⟩ := a2
      exact ⟨o2, hs2.extBut _ _ (Ne.symm hei) e2, r⟩
    have hlt : b ≠ s.heap.objs.size := by
      simp only [List.mem_cons, List.not_mem_nil, or_false] at hb
      rcases hb with rfl | rfl
      · exact (lt he).symm
      · exact (lt e1).symm
    rw [upd_ne hlt]
    exact (hf b hb).1
  done := by
    intro X hP hw hK hc i pins s σ H E I hf st hg
    subst hP hw hK
    obtain ⟨⟨old, he⟩, h1⟩ := st
    have D := draws_str (prog := X.prog) (w := X.w) (A := X.A.in1) (I.ok.hd hc) it x t
    have hi : i = x.cps.size := hg
    subst hi
    exact wpAny_pyNext_enum_endD D he h1 fun h' hk => ⟨rfl, I.moved (tk := s.toks) hf fun c o hc e => hk c o (fun q => hc (by simp [q])) e⟩
  self := fun _ _ _ _ _ st h => let ⟨⟨_, he⟩, _⟩ := st; wpAny_pyIter_enum he h
section
variable {X : Cx} {elts : List Expr} {x1 : Nat} {tp : Pos}
def iEnum (K : PySem.W.Frag) (ta : TA) : TI := fun σ H R => ta σ H fun vs H1 => ∃ a xs, vs = [.ref a] ∧ SqL K H1 a xs ∧ R (Ite K a) H1
theorem pi_enum {a : Expr} {ta : TA} {p pos : Pos} (hg : Gl X "enumerate") (hm : X.mg "enumerate" = none) (ha : PA X [a] ta) (hs : starEach [a] X.env = [(false, eval a X.env)] := by rfl) : PI X (.Tuple elts x1 tp) (.Call (.Name "enumerate" p) [a] [] pos) (iEnum X.K ta) := by
  intro pins s σ H R I h
  refine Call_ (ld_blt I hg hm boot_enumerate (PyProof.Rows.callWith_type1 (thn (ha pos pins s σ H _ I h) fun us s1 ⟨vs, H1, I1, r1, q1⟩ => ?_) (by rw [hs]; rfl) (by rfl)))
  obtain ⟨l, xs, rfl, hq, q⟩ := q1
  obtain ⟨u, rfl, ru⟩ := r1.one
  cases ru
  obtain ⟨its, rv, p1, _⟩ := I1.list hq
  refine call_enumerate_list p1.isList fun h' z1 z2 z3 hk => ?_
  have I2 : Inv X pins σ H1 { s1 with heap := h' } := I1.kept (t' := s1.toks) hk
  refine wpAny_pyIter_enum z1 ?_
  refine ⟨s1.heap.objs.size + 1, [s1.heap.objs.size + 1, s1.heap.objs.size], _, _, H1, rfl, I2, turn_enum (l := l) (Nat.ne_of_gt (Nat.lt_succ_self _)), ⟨⟨_, z1⟩, z2⟩, fun b hb => ?_, q⟩
  have hb' : s1.heap.objs.size ≤ b := by
    simp only [List.mem_cons, List.not_mem_nil, or_false] at hb
    rcases hb with e | e <;> (rw [e]; first | exact Nat.le_refl _ | exact Nat.le_add_right _ _)
  exact I1.fpOk hb' (I1.hok.fresh hb')
def iEnumS (ta : TA) : TI := fun σ H R => ta σ H fun vs H1 => ∃ x, vs = [.str x] ∧ R (Itse x) H1
theorem pi_enumS {a : Expr} {ta : TA} {p pos : Pos} (hg : Gl X "enumerate") (hm : X.mg "enumerate" = none) (ha : PA X [a] ta) (hs : starEach [a] X.env = [(false, eval a X.env)] := by rfl) : PI X (.Tuple elts x1 tp) (.Call (.Name "enumerate" p) [a] [] pos) (iEnumS ta) := by
  intro pins s σ H R I h
  refine Call_ (ld_blt I hg hm boot_enumerate (PyProof.Rows.callWith_type1 (thn (ha pos pins s σ H _ I h) fun us s1 ⟨vs, H1, I1, r1, q1⟩ => ?_) (by rw [hs]; rfl) (by rfl)))
  obtain ⟨x, rfl, q⟩ := q1
  obtain ⟨u, rfl, ru⟩ := r1.one
  obtain ⟨t, rfl⟩ := (show ∃ t, u = Value.str x t from ru)
  refine call_enumerate_str fun h' z1 z2 z3 hk => ?_
  have I2 : Inv X pins σ H1 { s1 with heap := h' } := I1.kept (t' := s1.toks) hk
  refine wpAny_pyIter_enum z1 ?_
  refine ⟨s1.heap.objs.size + 1, [s1.heap.objs.size + 1, s1.heap.objs.size], _, _, H1, rfl, I2, turn_enumS (x := x) (t := t) (Nat.ne_of_gt (Nat.lt_succ_self _)), ⟨⟨_, z1⟩, z2⟩, fun b hb => ?_, q⟩
  have hb' : s1.heap.objs.size ≤ b := by
    simp only [List.mem_cons, List.not_mem_nil, or_false] at hb
    rcases hb with e | e <;> (rw [e]; first | exact Nat.le_refl _ | exact Nat.le_add_right _ _)
  exact I1.fpOk hb' (I1.hok.fresh hb')
end
section
variable {K : PySem.W.Frag} {g : TG} {tb : TS} {D : Ends} {σ : St} {H : Hp}
theorem forw_enum {a : Addr} {xs : List V} (Pv : Nat → St → Hp → Prop) (h0 : Pv 0 σ H) (hl : ∀ i σ H, i ≤ xs.length → Pv i σ H → SqL K H a xs)
    (hs : ∀ (i : Nat) x σ H T, xs[i]? = some x → Pv i σ H → H T = none → g (.ref T) σ (upd H T (.tup [.int (i : Int), x])) fun σ2 H2 => tb { D with nx := Pv (i + 1), ct := Pv (i + 1), bk := D.nx } σ2 H2) (hd : ∀ σ H, Pv xs.length σ H → D.nx σ H) : ForW (Ite K a) g tb D σ H := by
  refine ⟨fun i m σ H => m = xs.length - i ∧ i ≤ xs.length ∧ Pv i σ H, ⟨xs.length, by simp, Nat.zero_le _, h0⟩, ?_⟩
  rintro i m σ H ⟨rfl, hi, p⟩
  have q := hl i σ H hi p
  by_cases hlt : i < xs.length
  · refine .inr ⟨⟨xs, xs[i], q, by simp [hlt]⟩, Pv (i + 1), fun σ' H' p' => ⟨xs.length - (i + 1), by omega, rfl, hlt, p'⟩, fun x H' y => ?_⟩
    obtain ⟨T, x, rfl, hT, rfl, y⟩ := y
    exact hs i x σ _ T (y xs q) p hT
  · have e : i = xs.length := by omega
    subst e
    exact .inl ⟨⟨xs, q, Nat.le_refl _⟩, hd σ H p⟩
theorem forw_enumS {x : Str} (Pv : Nat → St → Hp → Prop) (h0 : Pv 0 σ H)
    (hs : ∀ (i : Nat) c σ H T, x.cps[i]? = some c → Pv i σ H → H T = none → g (.ref T) σ (upd H T (.tup [.int (i : Int), .str ⟨#[c]⟩])) fun σ2 H2 => tb { D with nx := Pv (i + 1), ct := Pv (i + 1), bk := D.nx } σ2 H2) (hd : ∀ σ H, Pv x.cps.size σ H → D.nx σ H) : ForW (Itse x) g tb D σ H := by
  refine ⟨fun i m σ H => m = x.cps.size - i ∧ i ≤ x.cps.size ∧ Pv i σ H, ⟨x.cps.size, by simp, Nat.zero_le _, h0⟩, ?_⟩
  rintro i m σ H ⟨rfl, hi, p⟩
  by_cases hlt : i < x.cps.size
  · refine .inr ⟨hlt, Pv (i + 1), fun σ' H' p' => ⟨x.cps.size - (i + 1), by omega, rfl, hlt, p'⟩, fun v H' y => ?_⟩
    obtain ⟨T, c, rfl, hT, rfl, y⟩ := y
    exact hs i c σ _ T y p hT
  · have e : i = x.cps.size := by omega
    subst e
    exact .inl ⟨rfl, hd σ H p⟩
end
end L2

set_option Elab.async false
set_option linter.all false
set_option maxRecDepth 100000
/-! Exceptions of one's own classes with an __init__ of their own. -/
namespace PySem
open Sem (wp)
section
variable {M : Model} {A : Around} {E : Value → Shared → Prop} {env : Env}
variable {nm q : Str} {C N : Addr} {bs bm : List Value} {hdct : Bool} {sn : List Str} {sub : List Value} {ab : Bool} {col : Option Bool} {dd : Option Addr} {k0 k1 k2 k3 k5 : Option Value} {newId : String}
theorem raiseStmt_exc {s : Shared} {x : Sem Value} {Q : Flow → Shared → Prop} (hbase : bm.contains (.type "BaseException") = true) (hh : A.handled = none)
    (h : wpAny M A x (fun v s₁ => ∃ e oe vs, v = .ref e ∧ s₁.heap.get? C = some (excClassObj nm q C N bs bm hdct sn sub ab col dd k0 k1 k2 k3 k5 newId) ∧ s₁.heap.get? e = some oe ∧ oe.cls = .ref C ∧ oe.data = .fields vs ∧ vs[1]? = some .none ∧ E (.ref e) s₁) E s) :
    wpAny M A (raiseStmt env (some x) none) Q E s := by
  have hcB : (Value.ref C :: bm).contains (.type "BaseException") = true := by rw [List.contains_cons, hbase, Bool.or_true]
  unfold raiseStmt
  refine wpAny_bind (wpAny_mono h (fun v s₁ h₁ => ?_) fun _ _ x => x)
  obtain ⟨e, ⟨oc, od, dt, sl⟩, vs, rfl, hC, he, hc, hd, hv, hE⟩ := h₁
  dsimp only at hc hd
  subst hc hd
  obtain ⟨hp, g, d, tk, os⟩ := s₁
  repeat (first | with_reducible refine wpAny_loadPart_at he ?_ | with_reducible refine wpAny_loadPart_at hC ?_ | (with_reducible refine wpAny_isSubtype_exc hC ?_; rw [hcB]) | wp_step)
  rw [hv]
  refine wpAny_pure ?_
  rw [if_neg (by decide)]
  exact wpAny_pure (wpAny_raiseNew_none hh hE)
end
section
variable {prog : Program} {w : World} {A : Around} {E : Value → Shared → Prop} {h : Heap} {g : Array GenState} {d : Drawn} {t : Nat} {os : OsState}
variable {nm q : Str} {C N : Addr} {bs bm bmB : List Value} {hdct : Bool} {sn : List Str} {sub : List Value} {ab : Bool} {col : Option Bool} {dd : Option Addr} {k0 k1 k2 k3 k5 : Option Value} {B Bn newId nid initId inN : String} {bmN : List Value} {K : PySem.W.Frag}
theorem type_call_exc_initU (Fn : ExcBaseFacts Bn newId inN bmN) (hBn : bmB.contains (.type Bn) = true) (F : ExcBaseFacts B nid initId bmB) (T : OwnTail h bmB bm) (X : K.In h) {rest : List Value} {fI : Addr} {Q : Fin → Shared → Prop}
    (hC : h.get? C = some (excClassObj nm q C N bs bm hdct sn sub ab col dd k0 k1 k2 k3 k5 newId)) (hi : PySem.W.findIn K (.ref C) "__init__" = some (some (.ref fI))) (hf : PySem.W.typeIn K (.ref fI) = some (.type "function"))
    (hq : ∀ h' e, Heap.MadeExcOf h h' e (.ref C) rest →
      wpAny (model prog w) A (call (.ref fI) (.ref e :: rest)) (fun r s' => r = .none ∧ Q (.done (.ret (.ref e))) s') E ⟨h', g, d, t, os⟩) (hrest : rest.length ≤ sizeLine) :
    wpAny (model prog w) A (Builtin.«type.__call__» ⟨.ref C :: rest, []⟩) Q E ⟨h, g, d, t, os⟩ := by
  repeat (first | with_reducible refine wpAny_loadPart_at hC ?_ | with_reducible refine wpAny_madeBy_exc hC ?_ | wp_step)
  refine codeAny_call_builtin_code (Code.quiet_builtin _ Fn.quiet) (wpAny_check_new_subU Fn hBn T hC ?_)
  refine codeAny_exc_new_subU Fn hBn F T hC ?_ hrest
  show wpAny _ _ _ _ _ _
  have hC₁ := Heap.get?_push_of_some { cls := .ref C, data := .fields #[.ref h.objs.size, .none, .none, .none, .bool false, .none] }
    (Heap.get?_push_of_some { cls := .type "tuple", data := .seq rest.toArray } hC)
  have hget : ((h.push { cls := .type "tuple", data := .seq rest.toArray }).push
      { cls := .ref C, data := .fields #[.ref h.objs.size, .none, .none, .none, .bool false, .none] }).get? (h.objs.size + 1) = some
      { cls := .ref C, data := .fields #[.ref h.objs.size, .none, .none, .none, .bool false, .none] } := by heap_get
  have hcC : (Value.ref C :: bm).contains (.ref C) = true := by simp
  have X₁ : K.In ((h.push { cls := .type "tuple", data := .seq rest.toArray }).push { cls := .ref C, data := .fields #[.ref h.objs.size, .none, .none, .none, .bool false, .none] }) :=
    X.keeps fun b o e => Heap.get?_push_of_some _ (Heap.get?_push_of_some _ e)
  unfold isInstance
  repeat (first | with_reducible refine wpAny_loadPart_at hget ?_ | (with_reducible refine wpAny_isSubtype_exc hC₁ ?_; rw [hcC]) | wp_step)
  show wpAny _ _ (typeLookup (.ref C) _) _ _ _
  refine (PySem.W.looks_findIn X₁ hi).at ?_
  refine wpAny_holding (wpAny_bind ((PySem.W.bind_fn X₁ _ hf).at ?_))
  refine wpAny_bind (wpAny_mono (hq _ (h.objs.size + 1) ⟨fun b o hb => Heap.get?_push_of_some _ (Heap.get?_push_of_some _ hb), Heap.get?_none_of_le (Nat.le_succ _), h.objs.size, hget, Heap.get?_none_of_le (Nat.le_refl _), ?_⟩) (fun r s' hr => ?_) fun _ _ x => x)
  · exact Heap.get?_push_of_some _ (Heap.get?_push_at rfl rfl)
  · obtain ⟨rfl, hQ⟩ := hr
    wp_walk
    exact hQ
theorem call_exc_initU (Fn : ExcBaseFacts Bn newId inN bmN) (hBn : bmB.contains (.type Bn) = true) (F : ExcBaseFacts B nid initId bmB) (T : OwnTail h bmB bm) (X : K.In h) {rest : List Value} {fI : Addr} {Q : Value → Shared → Prop}
    (hC : h.get? C = some (excClassObj nm q C N bs bm hdct sn sub ab col dd k0 k1 k2 k3 k5 newId)) (hi : PySem.W.findIn K (.ref C) "__init__" = some (some (.ref fI))) (hf : PySem.W.typeIn K (.ref fI) = some (.type "function"))
    (hq : ∀ h' e, Heap.MadeExcOf h h' e (.ref C) rest →
      wpAny (model prog w) (A.under (.builtin "type.__call__" ⟨.ref C :: rest, []⟩)) (call (.ref fI) (.ref e :: rest)) (fun r s' => r = .none ∧ Q (.ref e) s') E ⟨h', g, d, t, os⟩) (hrest : rest.length ≤ sizeLine) :
    wpAny (model prog w) A (call (.ref C) rest) Q E ⟨h, g, d, t, os⟩ := by
  have f1 := tc_lookup
  have f2 := tc_bind (.ref C)
  have hT : (⟨h, g, d, t, os⟩ : Shared).TypeIs (.ref C) "type" := ⟨_, hC, rfl⟩
  refine wpAny_call (codeAny_of_tree ?_)
  show wpAny _ _ (callAny (.ref C) _) _ _ _
  repeat (any_goals (first | assumption | with_reducible refine wpAny_loadPart_at hC ?_ | wp_step))
  refine ⟨rfl, ?_⟩
  refine codeAny_call_builtin_at (Code.quiet_builtin _ (by decide +kernel)) entry_typeCall (wpAny_check_type_call_sub hC (type_call_exc_initU (hrest := hrest) Fn hBn F T X hC hi hf fun h' e hm => ?_))
  exact hq h' e hm
end
section
variable {prog : Program} {w : World} {A : Around} {E : Value → Shared → Prop} {s : Shared} {env : Env}
variable {nm q : Str} {C N : Addr} {bs bm bmB : List Value} {hdct : Bool} {sn : List Str} {sub : List Value} {ab : Bool} {col : Option Bool} {dd : Option Addr} {k0 k1 k2 k3 k5 : Option Value} {B Bn newId nid initId inN : String} {bmN : List Value} {K : PySem.W.Frag}
theorem Raise_call_initU (Fn : ExcBaseFacts Bn newId inN bmN) (hBn : bmB.contains (.type Bn) = true) (F : ExcBaseFacts B nid initId bmB) {x : Str} {np cpos pos : Pos} {args : List Expr} {fI : Addr} {Q : Flow → Shared → Prop}
    (hbase : bm.contains (.type "BaseException") = true) (hh : A.handled = none) (hplain : (backTo cpos (starEach args env)).any (·.1) = false) (hi : PySem.W.findIn K (.ref C) "__init__" = some (some (.ref fI))) (hf : PySem.W.typeIn K (.ref fI) = some (.type "function"))
    (h : wpAny (model prog w) A (eval (.Name x np) env) (fun f s₁ => f = .ref C ∧ wpAny (model prog w) A (evalArgs (.ref C) true (backTo cpos (starEach args env)) [])
      (fun a s₂ => a.kw = [] ∧ a.pos.length ≤ sizeLine ∧ s₂.heap.get? C = some (excClassObj nm q C N bs bm hdct sn sub ab col dd k0 k1 k2 k3 k5 newId) ∧ K.In s₂.heap ∧ OwnTail s₂.heap bmB bm ∧
        ∀ h' e, Heap.MadeExcOf s₂.heap h' e (.ref C) a.pos → wpAny (model prog w) (A.under (.builtin "type.__call__" ⟨.ref C :: a.pos, []⟩)) (call (.ref fI) (.ref e :: a.pos))
          (fun r s' => r = .none ∧ ∃ oe vs, s'.heap.get? C = some (excClassObj nm q C N bs bm hdct sn sub ab col dd k0 k1 k2 k3 k5 newId) ∧ s'.heap.get? e = some oe ∧ oe.cls = .ref C ∧ oe.data = .fields vs ∧ vs[1]? = some .none ∧ E (.ref e) s') E { s₂ with heap := h' }) E s₁) E s) :
    wpAny (model prog w) A (exec (.Raise (some (.Call (.Name x np) args [] cpos)) none pos) env) Q E s := by
  rw [arm_exec_Raise]
  simp only [evalOpt, Option.map]
  refine wpAny_bind (wpAny_standAt (raiseStmt_exc (C := C) (nm := nm) (q := q) (N := N) (bs := bs) (bm := bm) (hdct := hdct) (sn := sn) (sub := sub) (ab := ab) (col := col) (dd := dd) (k0 := k0) (k1 := k1) (k2 := k2) (k3 := k3) (k5 := k5) (newId := newId) hbase hh (wpAny_bind (wpAny_mono (wpAny_Call_ofName (wpAny_mono h (fun f s₁ h₁ => ?_) fun _ _ x => x)) (fun v s₃ h₃ => wpAny_bind (wpAny_standAt (wpAny_pure h₃))) fun _ _ x => x))))
  obtain ⟨rfl, h₁⟩ := h₁
  unfold callWith
  refine wpAny_bind (wpAny_holding (wpAny_mono h₁ (fun a s₂ h₂ => wpAny_bind (wpAny_standAt ?_)) fun _ _ x => x))
  obtain ⟨apos, akw⟩ := a
  obtain ⟨hkw, hlen, hC, hX, T, h₂⟩ := h₂
  obtain rfl : akw = [] := hkw
  obtain ⟨hp, g, d, tk, os⟩ := s₂
  simp only [hplain]
  refine wpAny_bind (wpAny_keeperOf_exc hC ?_)
  refine wpAny_bind (call_exc_initU (hrest := hlen) Fn hBn F T hX hC hi hf fun h' e hm => wpAny_mono (h₂ h' e hm) (fun r s' hr => ⟨hr.1, wpAny_bind (wpAny_holding (wpAny_point (wpAny_pure ?_)))⟩) fun _ _ x => x)
  obtain ⟨_, oe, vs, a1, a2, a3, a4, a5, a6⟩ := hr
  exact ⟨e, oe, vs, rfl, a1, a2, a3, a4, a5, a6⟩
end
end PySem
namespace PySem.W
open PySem PySem.Spec PySem.Calls PyProof.Rows
open Builtin Builtin.ObjectAttr
/-- the class at C, an exception class of one's own, whatever its __init__ is -/
def excOut (K : Frag) (C : Addr) (bmB : List Value) (newId : String) : Bool := match K.lookup C with
  | some ⟨.type "type", _, .cls cd, sl⟩ => (match cd.mro, sl.toList with
    | .ref C' :: bm, [_, _, _, _, some (.builtin n), _] => C' == C && n == newId && !cd.hasDel && tailIn K bmB bm && nsOkIn K cd.ns
    | _, _ => false)
  | _ => false
/-- what a class has whose objects take a new attribute -/
def strip : List Value → List Value
  | .ref _ :: r => strip r
  | l => l
theorem refuse_strip (self : Value) : ∀ {l bm : List Value}, strip l = bm → refuseLoop self "__setattr__" bm = pure () → refuseLoop self "__setattr__" l = pure ()
  | [], _, e, h => by rw [show ([] : List Value) = _ from e]; exact h
  | .ref c :: r, _, e, h => by rw [refuseLoop_ref]; exact refuse_strip self (l := r) e h
  | .type n :: r, _, e, h => by rw [show (Value.type n :: r) = _ from e]; exact h
  | .none :: r, _, e, h => by rw [show (Value.none :: r) = _ from e]; exact h
  | .bool b :: r, _, e, h => by rw [show (Value.bool b :: r) = _ from e]; exact h
  | .int i t :: r, _, e, h => by rw [show (Value.int i t :: r) = _ from e]; exact h
  | .float i t :: r, _, e, h => by rw [show (Value.float i t :: r) = _ from e]; exact h
  | .str i t :: r, _, e, h => by rw [show (Value.str i t :: r) = _ from e]; exact h
  | .bytes i t :: r, _, e, h => by rw [show (Value.bytes i t :: r) = _ from e]; exact h
  | .builtin n :: r, _, e, h => by rw [show (Value.builtin n :: r) = _ from e]; exact h
  | .ellipsis :: r, _, e, h => by rw [show (Value.ellipsis :: r) = _ from e]; exact h
  | .notImplemented :: r, _, e, h => by rw [show (Value.notImplemented :: r) = _ from e]; exact h
structure XSt (K : Frag) (C : Addr) (f : Str) : Prop where
  sa : findIn K (.ref C) "__setattr__" = some (some (.builtin "object.__setattr__"))
  st : ∃ cd, clsIn K C = some cd ∧ strip cd.mro = [.type "ValueError", .type "Exception", .type "BaseException", .type "object"] ∧ cd.hasDict = true ∧ cd.mro.contains (.type "object") = true ∧ cd.mro.isEmpty = false
  no : findIn K (.ref C) f = some none
section
variable {prog : Program} {w : World} {A : Around} {E : Value → Shared → Prop} {s : Shared} {K : Frag} {x C : Addr} {ox : Obj} {vs : Array Value} {name : Str} {v : Value}
/-- o.name = v of an exception that has no dict yet -/
theorem set_new {Q : Unit → Shared → Prop} (X : K.In s.heap) (c : XSt K C name) (hx : s.heap.get? x = some ox) (hcl : ox.cls = .ref C) (hdn : ox.dict = none) (hdt : ox.data = .fields vs)
    (h : ∀ h' t', (∀ b o, b ≠ x → s.heap.get? b = some o → h'.get? b = some o) → h'.get? x = some { ox with dict := some s.heap.objs.size } → h'.Ns1 s.heap.objs.size (fun y => if y = name then some v else none) → Q () { s with heap := h', toks := t' }) :
    wpAny (model prog w) A (setAttr (.ref x) name v) Q E s := by
  obtain ⟨cd, hc, hst, hhd, hob, hne⟩ := c.st
  obtain ⟨oc, od, dt, sl⟩ := ox
  dsimp only at hcl hdn hdt
  subst hcl hdn hdt
  have J : InstAt s.heap x ⟨.ref C, none, .fields vs, sl⟩ C none := ⟨hx, rfl, rfl, trivial⟩
  obtain ⟨hh, g, d, t, os⟩ := s
  have SF := PySem.F.store_object
  refine set_plain X J c.sa ?_
  have sub : Looks (model prog w) hh (isInstance (.ref x) (.type "object")) true := J.type.andThen (looks_mroIn X (by unfold mroIn; rw [hc, Option.bind_some, if_neg (by rw [hne]; decide), hob]))
  refine codeAny_call_builtin SF.slot.plain SF.entry (@check_slot (model prog w) _ _ _ "object.__setattr__" "object" "__setattr__" (.ref x) [.str name t, v] [] _ SF.kind SF.split sub (SF.args (.ref x) (.str name t) v) ?_)
  have hm : Looks (model prog w) hh (mroOf (.ref C)) cd.mro := (looks_clsIn X hc).andThen .now
  rw [osa_eq, refuse_eq]
  refine wpAny_bind (wpAny_bind (J.type.at (wpAny_bind (hm.at ?_))))
  rw [refuse_strip _ hst (PySem.F.store_ValueError.passes _)]
  refine wpAny_pure (wpAny_bind (J.type.at (wpAny_bind ((looks_findIn X c.no).at (wpAny_bind (wpAny_pure ?_))))))
  have hx₁ : (hh.push { cls := .type "dict", data := .dict #[] }).get? x = some ⟨.ref C, none, .fields vs, sl⟩ := Heap.get?_push_of_some _ hx
  have hxs : x ≠ hh.objs.size := Nat.ne_of_lt (Heap.lt_size hx)
  show wpAny _ _ (storeInOwnDict (.ref x) (.ref C) (.str name t) name v false) _ _ _
  refine wpAny_bind (wpAny_pure (wpAny_bind (wpAny_bind (wpAny_loadPart hx ?_))))
  refine wpAny_bind ((looks_clsIn X hc).at ?_)
  rw [if_neg (by rw [hhd]; decide)]
  dsimp only
  rw [if_neg (by simp [typeHasDict])]
  refine wpAny_bind (wpAny_alloc' ?_)
  refine wpAny_bind (wpAny_update' hx₁ ?_)
  refine wpAny_pure ?_
  have hgd : ((hh.push { cls := .type "dict", data := .dict #[] }).update x fun o => { cls := o.cls, dict := some hh.objs.size, data := o.data, slots := o.slots }).get? hh.objs.size
      = some { cls := .type "dict", data := .dict #[] } :=
    (Heap.get?_update_ne _ _ _ _ hxs.symm).trans (Heap.get?_push_at rfl rfl)
  have hnd : ((hh.push { cls := .type "dict", data := .dict #[] }).update x fun o => { cls := o.cls, dict := some hh.objs.size, data := o.data, slots := o.slots }).Ns hh.objs.size (fun _ => none) :=
    ⟨_, #[], _, hgd, rfl, fun e he => absurd he (by simp), fun _ => rfl⟩
  show wpAny _ _ (storeInDict hh.objs.size (.str name t) name v) _ _ _
  unfold storeInDict newKeyGuard
  refine wpAny_bind (wpAny_pure (wpAny_bind (wpAny_nsSet1 (Heap.Ns1.of_empty hnd) fun h' hn' hs => ?_)))
  obtain ⟨oD, esD, epD, hoD, hdD, hcD⟩ := hn'.count (Within.cons name v Within.nil)
  refine wpAny_bind (wpAny_lookBehind hoD (by rw [hdD]; exact pastItsLine_dict (Nat.le_trans hcD (by rw [List.length_cons, List.length_nil, sizeLine_eq]; omega))) ?_)
  refine wpAny_pure (h h' _ (fun b o hb e => (hs.2 b (Nat.ne_of_lt (Heap.lt_size e))).trans ((Heap.get?_update_ne _ _ _ _ hb).trans (Heap.get?_push_of_some _ e))) ?_ hn')
  exact (hs.2 x hxs).trans (Heap.get?_update_self _ hx₁ rfl)
end
end PySem.W

set_option Elab.async false
set_option linter.all false
set_option maxRecDepth 100000
namespace L2
open PySem PySem.Spec PyProof.Rows
/-- the class at C, an exception class of one's own, whatever its __init__ is -/
structure XOut (K : PySem.W.Frag) (C : Addr) (bmB : List Value) (newId : String) : Prop where
  exc : PySem.W.excOut K C bmB newId = true
theorem XOut.obj {K : PySem.W.Frag} {C : Addr} {bmB : List Value} {newId : String} {h : Heap} (c : XOut K C bmB newId) (X : K.In h) : ∃ bm N nm q bs hdct sn sub ab col dd k0 k1 k2 k3 k5,
    h.get? C = some (excClassObj nm q C N bs bm hdct sn sub ab col dd k0 k1 k2 k3 k5 newId) ∧ OwnTail h bmB bm ∧ ∃ dd' cd sl, K.lookup C = some ⟨.type "type", dd', .cls cd, sl⟩ ∧ cd.mro = .ref C :: bm := by
  have q := c.exc
  unfold PySem.W.excOut at q
  cases hl : K.lookup C with
  | none => rw [hl] at q; cases q
  | some ob =>
    rw [hl] at q
    split at q
    · rename_i dd cd sl e
      cases e
      split at q
      · rename_i C' bm k0 k1 k2 k3 n k5 hm hs
        simp only [Bool.and_eq_true, beq_iff_eq, Bool.not_eq_true'] at q
        obtain ⟨⟨⟨⟨rfl, rfl⟩, hdel⟩, ht⟩, hok⟩ := q
        have ho := X _ _ hl
        have hsl : sl = #[k0, k1, k2, k3, some (.builtin n), k5] := Array.toList_inj.mp hs
        subst hsl
        obtain ⟨nm, bs, mro, ns, qn, hd, sn, sub, ab, col, del⟩ := cd
        dsimp only at hm hdel hok ho
        subst hm hdel
        exact ⟨bm, ns, nm, qn, bs, hd, sn, sub, ab, col, dd, k0, k1, k2, k3, k5, ho, PySem.W.tail_of_in X ht, dd, _, _, rfl, rfl⟩
      · cases q
    · cases q
/-- an exception that was made here and has not been raised yet -/
def FrAt (ea : Addr) (cls : Value) (od : Option Addr) (h : Heap) : Prop := ∃ o vs, h.get? ea = some o ∧ o.cls = cls ∧ o.dict = od ∧ o.data = .fields vs ∧ vs[1]? = some .none
abbrev xn (ea : Addr) (cls : Value) (od : Option Addr) : HO := .ext (FrAt ea cls od)
theorem frAt_stay {ea : Addr} {cls : Value} {od : Option Addr} : ∀ h1 h2 : Heap, FrAt ea cls od h1 → (∀ o, h1.get? ea = some o → h2.get? ea = some o) → FrAt ea cls od h2 :=
  fun h1 h2 ⟨o, ws, e1, e2, e3, e4, e5⟩ k => ⟨o, ws, k o e1, e2, e3, e4, e5⟩
section
variable {X : Cx} {o value : Expr} {f : Str} {pos pos' : Pos} {ta tv : TE}
/-- o.f = value, o an exception in its __init__ -/
def sXSet (K : PySem.W.Frag) (ta tv : TE) (f : Str) : TS := fun D σ H => tv σ H fun y H1 => ta σ H1 fun x H2 => ∃ a C, x = .ref a ∧ H2 a = some (xn a (.ref C) none) ∧ PySem.W.XSt K C f ∧
  ∀ d, H2 d = none → D.nx σ (upd (upd H2 d (.xd [(f, y)])) a (xn a (.ref C) (some d)))
theorem ps_xset (ha : PE X o ta) (hv : PE X value tv) (hs : swapsWith value (some (.Attribute o f pos')) pos.line X.env = pure false) : PS X (.Assign [.Attribute o f pos'] value pos) (sXSet X.K ta tv f) := by
  intro pins s σ H D I h
  refine plainObj_wpAny_Assign_Attribute (thn (hv pins s σ H _ I h) fun u s1 ⟨y, H1, I1, ry, q⟩ => thn (ha pins s1 σ H1 _ I1 q) fun ov s2 ⟨x, H2, I2, rx, a, C, ex, ea, c, q2⟩ => ?_) hs
  subst ex
  obtain rfl : ov = Value.ref a := rx
  obtain ⟨⟨ob, ws, e1, e2, e3, e4, e5⟩, _, _⟩ := (show ObjOk X.prog X.w H2 s2.heap a (xn a (.ref C) none) from I2.hok a _ ea)
  refine PySem.W.set_new I2.kIn c e1 e2 e3 e4 fun h' t' hk hx hn => ?_
  have hfr : H2 s2.heap.objs.size = none := I2.hok.fresh (Nat.le_refl _)
  have hne : s2.heap.objs.size ≠ a := Nat.ne_of_gt (Heap.lt_size e1)
  have oa : (h'.update a fun _ => ob).get? a = some ob := Heap.get?_update_self _ hx (Obj.isFreed_of_fields e4)
  have oo : ∀ b, b ≠ a → (h'.update a fun _ => ob).get? b = h'.get? b := fun b hb => Heap.get?_update_other _ _ (Ne.symm hb)
  have I3 : Inv X pins σ (upd H2 s2.heap.objs.size (.xd [(f, y)])) { s2 with heap := h'.update a fun _ => ob, toks := t' } := I2.laid (fun b u z => by
      by_cases hb : b = a
      · subst hb; rw [e1] at z; cases z; exact oa
      · rw [oo b hb]; exact hk b u hb z) (Nat.le_refl _) ⟨_, hn.at fun o z => (oo _ hne).trans z, fun g => ?_⟩
  · have I4 := I3.write (x := a) (e := a) (o := xn a (.ref C) (some s2.heap.objs.size)) (h' := h') (t' := t') (by rw [upd_ne (Ne.symm hne), ea]; exact True.intro) (.inl rfl) (fun b u hb z => by rw [← oo b hb]; exact z) ⟨_, hx⟩ ⟨⟨_, ws, hx, e2, rfl, e4, e5⟩, ⟨_, hx⟩, frAt_stay⟩
    exact ⟨σ, _, I4, q2 _ hfr⟩
  · show RelO (List.lookup g [(f, y)]) (if g = f then some u else none)
    by_cases z : g = f
    · have hb : (g == f) = true := beq_iff_eq.mpr z
      simp only [List.lookup, hb, if_pos z]
      exact ry
    · have hb : (g == f) = false := beq_eq_false_iff_ne.mpr z
      simp only [List.lookup, hb, if_neg z]
      exact True.intro
end
/-- what an __init__ that keeps its one argument does -/
def sp_init (C : Addr) (fn : Str) : Sp := fun vs H Q _ => ∃ a v, vs = [.ref a, v] ∧ H a = some (xn a (.ref C) none) ∧ ∀ d, H d = none → Q .non (upd (upd H d (.xd [(fn, v)])) a (xn a (.ref C) (some d)))
def delH (H : Hp) (e : Addr) : Hp := fun b => if b = e then none else H b
theorem delH_ne {H : Hp} {e b : Addr} (h : b ≠ e) : delH H e b = H b := by unfold delH; rw [if_neg h]
theorem delH_same {H : Hp} {e : Addr} : delH H e e = none := by unfold delH; rw [if_pos rfl]
/-- what an exception that is made here by an __init__ is to be -/
def MakesI (X : Cx) (E : XK) : Prop := ∀ (pins : List (Addr × Obj)) (σ : St) (H2 : Hp) (s2 : Shared) (hm : Heap) (H3 : Hp) (s3 : Shared) (e C : Addr) (od : Option Addr), Inv X pins σ H2 s2 → Inv X pins σ H3 s3 → s2.heap.get? e = none →
  (∀ b o, s2.heap.get? b = some o → hm.get? b = some o) → Un (frs X.stack) [] (upd H2 e (xn e (.ref C) none)) H3 hm s3.heap → s3.os = s2.os → H3 e = some (xn e (.ref C) od) → E (.ref C) od (delH H3 e) → X.xe (.ref e) s3
section
variable {P : Program} {w : World} {K : PySem.W.Frag} {mg : Str → Option Value} {base : Heap} {N : List Str} {qual : Str} {scope : Scope} {f : Addr} {cd : Value} {A : Around} {outer : List Env} {s : Shared} {H : Hp} {E E1 : XK}
theorem makesI_up (hE : ∀ c d H', E1 c d H' → E c d H') : MakesI (cxOf (CX1 P w) P w K mg base N qual scope f cd A outer s H E) E1 := by
  intro pins σ H2 s2 hm H3 s3 e C od I2 I3 new keep un os3 he3 q
  obtain ⟨⟨oe, vs, g1, g2, g3, g4, g5⟩, _, _⟩ := (show ObjOk P w H3 s3.heap e (xn e (.ref C) od) from I3.hok e _ he3)
  have ne : ∀ b o, s2.heap.get? b = some o → b ≠ e := fun b o z y => by rw [y, new] at z; cases z
  have h2e : H2 e = none := by
    cases z : H2 e with
    | none => rfl
    | some o =>
      obtain ⟨ob, hob⟩ := (I2.hok e o z).there
      rw [new] at hob
      cases hob
  have hin : ∀ env ∈ (cxOf (CX1 P w) P w K mg base N qual scope f cd A outer s H E).stack, ∀ b, env.frame = some b → b ∈ e :: frs (cxOf (CX1 P w) P w K mg base N qual scope f cd A outer s H E).stack := fun env he b hb => .tail _ (List.mem_filterMap.mpr ⟨env, he, hb⟩)
  have hff := PySem.W.funFrames_hide I3.stack hin
  have u0 : ∀ b, b ≠ e → H2 b = none → upd H2 e (xn e (.ref C) none) b = none := fun b hb n => by rw [upd_ne hb]; exact n
  have fly0 : Fly0 P w (cxOf (CX1 P w) P w K mg base N qual scope f cd A outer s H E).stack H2 s2 (PySem.W.hideAll s3.heap (e :: frs (cxOf (CX1 P w) P w K mg base N qual scope f cd A outer s H E).stack)) (delH H3 e) s3 := by
    refine ⟨fun b o z => PySem.W.of_hideAll _ z, hff, ⟨fun b o z n hb _ => un.keep b o (keep b o z) (u0 b (ne b o z) n) hb (by simp), fun b o z n hb _ => un.slot b o (keep b o z) (u0 b (ne b o z) n) hb (by simp), fun b o z n _ => ?_, fun b o z _ => un.there b o (keep b o z) (by simp), fun b xs z => ?_, fun b o y z => ?_, fun b ps z => ?_⟩, fun b o z => ?_, fun b o z => ?_, fun b o z hb => ?_, os3, I3.bare⟩
    · rw [delH_ne (ne b o z)]
      exact un.free b o (keep b o z) (u0 b (ne b o z) n) (by simp)
    · have hb : b ≠ e := ne_of_none z h2e
      rw [delH_ne hb]
      exact un.tups b xs (by rw [upd_ne hb]; exact z)
    · have hb : b ≠ e := ne_of_none z h2e
      rw [delH_ne hb]
      exact un.frzs b o y (by rw [upd_ne hb]; exact z)
    · have hb : b ≠ e := ne_of_none z h2e
      rw [delH_ne hb]
      exact un.tbls b ps (by rw [upd_ne hb]; exact z)
    · have hb : b ≠ e := fun y => by rw [y, delH_same] at z; cases z
      rw [delH_ne hb] at z
      exact (I3.hok b o z).stay (fun _ _ _ y => y) (fun c y => by rw [delH_ne (fun x => by rw [x, he3] at y; cases y)]; exact y) fun c xs y => by rw [delH_ne (fun x => by rw [x, he3] at y; cases y)]; exact y
    · have hb : b ≠ e := fun y => by rw [y, delH_same] at z; cases z
      rw [delH_ne hb] at z
      obtain ⟨ob, hob⟩ := (I3.hok b o z).there
      refine ⟨ob, PySem.W.hideAll_get _ hob fun hm => ?_⟩
      rcases List.mem_cons.mp hm with y | y
      · exact hb y
      · rw [I3.stkFree b y] at z; cases z
    · obtain ⟨o', z'⟩ := un.there b o (keep b o z) (by simp)
      refine ⟨o', PySem.W.hideAll_get _ z' fun hm => ?_⟩
      rcases List.mem_cons.mp hm with y | y
      · exact ne b o z y
      · exact hb y
  have newB : (PySem.W.hideAll s3.heap (e :: frs (cxOf (CX1 P w) P w K mg base N qual scope f cd A outer s H E).stack)).get? e = none := PySem.W.hideAll_none _ (List.mem_cons_self ..)
  refine leaveD0 (s := s3) I3.ok.frames fly0.ff rfl g1 fly0.st newB g4 g5 fun h' fl2 up => ?_
  rw [g2, g3] at fl2
  exact ⟨e, .ref C, od, _, delH H3 e, rfl, Fly0.up I2 rfl rfl rfl rfl rfl fly0 fl2 up, delH_same, hE _ _ _ q⟩
end
/-- a class that may be raised, its __init__ keeping its one argument as fn -/
structure XI (P : Program) (w : World) (K : PySem.W.Frag) (mg : Str → Option Value) (base : Heap) (k : Nat) (C : Addr) (fn : Str) : Prop where
  ex : ∃ (bm bmN : List Value) (newId Bn inN B nid initId : String) (fI : Addr) (fd : FuncData) (ps : List Str), XOut K C bm newId ∧ ExcBaseFacts Bn newId inN bmN ∧ bm.contains (.type Bn) = true ∧ ExcBaseFacts B nid initId bm ∧
    PySem.W.findIn K (.ref C) "__init__" = some (some (.ref fI)) ∧ PySem.W.typeIn K (.ref fI) = some (.type "function") ∧ FnOk P w K mg base CX0 k fI fd ps (sp_init C fn) ∧ Binds K fd ps []
section
variable {X : Cx} {x : Str} {np cpos pos : Pos} {e₀ : Expr} {t : TA} {C : Addr} {fn : Str} {k : Nat} {E : XK}
/-- raise C(e) -/
def tRaiseI (C : Addr) (fn : Str) (E : XK) (t : TA) : TS := fun _ σ H => t σ H fun vs H1 => vs.length ≤ sizeLine ∧ ∃ v, vs = [v] ∧ ∀ d, H1 d = none → E (.ref C) (some d) (upd H1 d (.xd [(fn, v)]))
theorem ps_raiseI (c : XI X.prog X.w X.K X.mg X.base k C fn) (hr : Room (k + 1) X.A) (hc : X.calm = true) (hg : Gl X x) (hm : X.mg x = some (.ref C)) (hx : MakesI X E) (ha : PA X [e₀] t)
    (hd : (x == ("__debug__" : Str)) = false := by decide +kernel) (he : starEach [e₀] X.env = (false, eval e₀ X.env) :: starEach [] X.env := by rfl) (hpl : (backTo cpos (starEach [] X.env)).any (·.1) = false := by rfl) :
    PS X (.Raise (some (.Call (.Name x np) [e₀] [] cpos)) none pos) (tRaiseI C fn E t) := by
  obtain ⟨bmB, bmN, newId, Bn, inN, B, nid, initId, fI, fd, ps, c1, c2, c3, c4, hi, hf, F, hb⟩ := c.ex
  intro pins s σ H D I h
  obtain ⟨tl, N, nm, q, bs, hdct, sn, sub, ab, col, dd, k0, k1, k2, k3, k5, hC, T, _⟩ := c1.obj I.mod.kin
  refine Raise_call_initU (K := X.K) (fI := fI) (C := C) (nm := nm) (q := q) (N := N) (bs := bs) (bm := tl) (hdct := hdct) (sn := sn) (sub := sub) (ab := ab) (col := col) (dd := dd) (k0 := k0) (k1 := k1) (k2 := k2) (k3 := k3) (k5 := k5)
    c2 c3 c4 (T.hasType c4.hasBase) (I.ok.hd hc) (by rw [he]; show (false || (backTo cpos (starEach [] X.env)).any (·.1)) = false; rw [hpl]; rfl) hi hf (ld_glob I hg hm ⟨rfl, ?_⟩ hd)
  rw [he]
  have ha' := ha cpos pins s σ H _ I h
  rw [he] at ha'
  refine Calls.evalArgs_plain (wpAny_mono ha' (fun us s₂ ⟨vs, H1, I1, r1, z, v, ev, q1⟩ => ⟨rfl, by rw [← r1.length]; exact z, I1.bk _ _ hC, I1.kIn, T.keeps I1.bk, fun h' e hx' => ?_⟩) fun _ _ y => y)
  subst ev
  obtain ⟨u, rfl, ru⟩ := r1.one
  obtain ⟨t0, he0, ht0, htt⟩ := hx'.there
  have ne : ∀ b o, s₂.heap.get? b = some o → b ≠ e := fun b o z y => by rw [y, hx'.new] at z; cases z
  have h1e : H1 e = none := by
    cases z : H1 e with
    | none => rfl
    | some o =>
      obtain ⟨ob, hob⟩ := (I1.hok e o z).there
      rw [hx'.new] at hob
      cases hob
  have Im : Inv X pins σ (upd H1 e (xn e (.ref C) none)) { s₂ with heap := h' } := by
    refine I1.call' (s' := { s₂ with heap := h' }) (ch := []) rfl ⟨fun b o z _ _ _ => hx'.keeps b o z, fun b o z _ _ _ => ⟨o.slots, hx'.keeps b o z⟩, fun b o z n _ => by rw [upd_ne (ne b o z)]; exact n, fun b o z _ => ⟨o, hx'.keeps b o z⟩, fun b xs z => by rw [upd_ne (ne_of_none z h1e)]; exact z, fun b o y z => by rw [upd_ne (ne_of_none z h1e)]; exact z, fun b ps z => ⟨#[], by rw [upd_ne (ne_of_none z h1e), z]; simp⟩⟩ (fun b o z => ?_) I1.bare (fun b z => absurd z (by simp))
    by_cases hb : b = e
    · subst hb
      rw [upd_same] at z
      cases z
      exact ⟨⟨_, _, he0, rfl, rfl, rfl, rfl⟩, ⟨_, he0⟩, frAt_stay⟩
    · rw [upd_ne hb] at z
      exact (I1.hok b o z).stay (fun c u _ y => hx'.keeps c u y) (fun c y => by rw [upd_ne (ne_of_none y h1e)]; exact y) fun c xs y => by rw [upd_ne (ne_of_none y h1e)]; exact y
  have hsp : sp_init C fn [.ref e, v] (upd H1 e (xn e (.ref C) none)) (fun r H3 => r = .non ∧ ∃ d, H3 e = some (xn e (.ref C) (some d)) ∧ E (.ref C) (some d) (delH H3 e)) (fun _ _ _ => False) := by
    refine ⟨e, v, rfl, upd_same, fun d hd' => ⟨rfl, d, upd_same, ?_⟩⟩
    have hde : d ≠ e := fun y => by rw [y, upd_same] at hd'; cases hd'
    rw [upd_ne hde] at hd'
    have ee : delH (upd (upd (upd H1 e (xn e (.ref C) none)) d (.xd [(fn, v)])) e (xn e (.ref C) (some d))) e = upd H1 d (.xd [(fn, v)]) := by
      funext b
      by_cases hb : b = e
      · rw [hb, delH_same, upd_ne (Ne.symm hde)]; exact h1e.symm
      · rw [delH_ne hb, upd_ne hb]
        by_cases hbd : b = d
        · rw [hbd, upd_same, upd_same]
        · rw [upd_ne hbd, upd_ne hb, upd_ne hbd]
    rw [ee]
    exact q1 d hd'
  have hl : ([Value.ref e, u] ++ []).length = ps.length := (F.len _ _ _ _ hsp : [V.ref e, v].length = ps.length)
  have r2 : Vals [V.ref e, v] [Value.ref e, u] := .cons rfl (.cons ru .nil)
  refine wpAny_call (codeAny_mono (F.run _ X.stack _ _ ⟨[.ref e, u], []⟩ [.ref e, u] _ _ _ (hr.make C [u] []) (Im.env0.make C [u] []) (hb _ [Value.ref e, u] Im.kIn hl) r2 hsp) fun r s' hq' => ?_)
  cases r with
  | error ev => exact False.elim hq'
  | ok fl =>
    cases fl with
    | ret u' =>
      obtain ⟨v', H3, os3, bare3, un3, hok3, rv, ev, d, he3, qE⟩ := hq'
      subst ev
      have I3 := Im.call' (ch := []) os3 un3 hok3 bare3 (fun b z => absurd z (by simp))
      obtain ⟨⟨oe, ws, g1, g2, g3, g4, g5⟩, _, _⟩ := (show ObjOk X.prog X.w H3 s'.heap e (xn e (.ref C) (some d)) from I3.hok e _ he3)
      exact ⟨rv, oe, ws, I3.bk _ _ hC, g1, g2, g4, g5, hx pins σ H1 s₂ h' H3 s' e C (some d) I1 I3 hx'.new hx'.keeps un3 os3 he3 qE⟩
    | next => exact False.elim hq'
    | brk => exact False.elim hq'
    | cont => exact False.elim hq'
end
section
variable {X : Cx} {P : Program} {w : World} {e tg : Expr} {tx : TX} {g : TG} {i : Nat} {n x : Str} {D : Addr} {bmD : List Value} {nD : String} {b₀ : Stmt} {suite : List Stmt} {apos pos hpos np : Pos} {ts : Addr → TS}
def tTryAsO (K : PySem.W.Frag) (D : Addr) (tx : TX) (g : TG) (i : Nat) (ts : Addr → TS) : TS := fun De σ H =>
  tx σ H (fun v H1 => g v σ H1 De.nx) (fun cls od H' => ∃ C bm nid, cls = .ref C ∧ XOut K C bm nid ∧ Under K C D ∧ ∀ ea, H' ea = none →
    ts ea { nx := fun σ2 H2 => De.nx (σ2.set i none) H2, rt := De.rt, bk := fun σ2 H2 => De.bk (σ2.set i none) H2, ct := fun σ2 H2 => De.ct (σ2.set i none) H2 } (σ.set i (some (.ref ea))) (upd H' ea (xo ea (.ref C) od)))
/-- try: tg = e  except D as n: suite -/
theorem ps_try_asO (hN : X.N.Nodup) (hst : X.stack = X.env :: X.outer) (hfr : X.env.frame = some X.env.locals) (he : PX (CX1 X.prog X.w) X e tx) (hg : PG X.nox tg g) (hi : X.N[i]? = some n) (hk : X.env.kindOf n = some .local) (hgl : Gl X x) (hm : X.mg x = some (.ref D)) (cD : XCls X.K D bmD nD)
    (hbase : bmD.contains (.type "BaseException") = true) (hs : ∀ ea, PSs (X.held ea) (b₀ :: suite) (ts ea))
    (hd : (x == ("__debug__" : Str)) = false := by decide +kernel) (hsw : swapsWithSole [tg] e apos.line X.env = pure false := by rfl) (hw : swappedStores [tg] e X.env = pure none := by rfl)
    (h1 : (assignEach [tg] X.env).map (·.2) = [assign tg X.env] := by rfl) :
    PS X (.Try [.Assign [tg] e apos] [.ExceptHandler (some (.Name x np)) (some n) (b₀ :: suite) hpos] [] [] pos) (tTryAsO X.K D tx g i ts) := by
  intro pins s σ H De I h
  refine wpAny_Try_except ?_
  refine wpAny_execs_cons (wpAny_Assign_stores ?_ hsw hw)
  refine thn (he pins s σ H _ _ _ I h ?_) fun v s1 ⟨y, H1, I1, r1, q1⟩ => ?_
  · rintro H1 s1 ev s' I1 ⟨ea, cls, od, B, H', rfl, fly, hn, C, bm, nid, rfl, cC, un, hsu⟩
    have hfl : FlyD B (X.env :: X.outer) ea (.ref C) od .none s'.heap := by rw [← hst]; exact fly.fl
    refine noteD (by rw [I.ok.frames, hst]) hfr hfl fun h4 held4 up4 => ?_
    refine flightD held4 fun h5 fl5 up5 => ?_
    have J5 := I1.caught fly.toFly0 (by rw [hst]; exact fl5) (up4.trans up5) hn
    refine wpAny_handleBy_cons (codeAny_handlers_test ?_) (by intro q; cases q)
    refine ld_glob (J5.held ea) hgl hm ?_ hd
    obtain ⟨tl, N, nm, q, bs, hdct, sn, sub, ab, col, dd, k0, k1, k2, k3, k5, hC, T, dd1, cd1, sl1, hlk, hmro⟩ := cC.obj J5.kIn
    obtain ⟨tl', N', nm', q', bs', hdct', sn', sub', ab', col', dd', k0', k1', k2', k3', k5', mN', hD, _, _, TD, _⟩ := cD.obj J5.kIn
    obtain ⟨dd2, cd2, sl2, hlk2, hsub⟩ := un
    rw [hlk] at hlk2
    cases hlk2
    rw [hmro] at hsub
    obtain ⟨ob, _, hob, hobc, _⟩ := fl5.there
    refine excMatches_under hC hD hob hobc (TD.hasType hbase) hsub (codeAny_handlers_suite_as ?_)
    refine flightD fl5 fun h6 fl6 up6 => ?_
    have J6 := I1.caught fly.toFly0 (by rw [hst]; exact fl6) ((up4.trans up5).trans up6) hn
    refine store_ok (v := .ref ea) J6 hN hi (.inl hk) rfl (fun s7 J7 => ?_) (.inr hk)
    refine wpAny_mono (hs ea pins s7 _ _ _ (J7.held ea) (hsu ea hn)) (fun fl s8 q8 => ?_) fun _ _ f => f.elim
    cases fl with
    | next => obtain ⟨σ', H2, I8, q⟩ := q8; exact unbind_ok (v := .non) (I8.unheld I.ok.hd) hN hi hk fun s9 I9 => ⟨_, _, I9, q⟩
    | brk => obtain ⟨σ', H2, I8, q⟩ := q8; exact unbind_ok (v := .non) (I8.unheld I.ok.hd) hN hi hk fun s9 I9 => ⟨_, _, I9, q⟩
    | cont => obtain ⟨σ', H2, I8, q⟩ := q8; exact unbind_ok (v := .non) (I8.unheld I.ok.hd) hN hi hk fun s9 I9 => ⟨_, _, I9, q⟩
    | ret u => obtain ⟨v, σ', H2, I8, rv, q⟩ := q8; exact unbind_ok (v := .non) (I8.unheld I.ok.hd) hN hi hk fun s9 I9 => ⟨v, _, _, I9, rv, q⟩
  · rw [h1]
    exact wpAny_mono (hg pins s1 σ H1 y v _ (I1.wish _) r1 q1) (fun _ s2 ⟨σ', H', I', q'⟩ => wpAny_execs_nil (wpAny_execs_nil ⟨σ', H', I'.unwish, q'⟩)) fun _ _ f => f.elim
end
/-- a caught exception of the class C, with or without a dict -/
def XRd (H : Hp) (a C : Addr) : Prop := H a = some (xo a (.ref C) none) ∨ ∃ d fs, H a = some (xo a (.ref C) (some d)) ∧ H d = some (.xd fs)
section
variable {X : Cx} {pins : List (Addr × Obj)} {σ : St} {H : Hp} {s : Shared}
theorem XRd.inst {a C : Addr} (I : Inv X pins σ H s) (r : XRd H a C) : ∃ odo ox, PySem.W.InstAt s.heap a ox C odo := by
  rcases r with r | ⟨d, fs, r, rd⟩
  · obtain ⟨hx, _⟩ := (show ObjOk X.prog X.w H s.heap a (xo a (.ref C) none) from I.hok a _ r)
    obtain ⟨ox, z⟩ := exc_inst hx
    exact ⟨none, ox, z⟩
  · obtain ⟨⟨o, vs, e1, e2, e3, e4⟩, _⟩ := (show ObjOk X.prog X.w H s.heap a (xo a (.ref C) (some d)) from I.hok a _ r)
    obtain ⟨mA, n, _⟩ := (show ObjOk X.prog X.w H s.heap d (.xd fs) from I.hok d _ rd)
    obtain ⟨od, ho, _⟩ := lookIn_ns n
    exact ⟨some od, o, e1, e2, by unfold PySem.W.notCls; rw [e4], by rw [e3]; exact ho⟩
/-- isinstance: of one class, of a value or of a caught exception; of a tuple of classes, of such an exception -/
def rIsiY (K : PySem.W.Frag) : List V → Hp → VK → Prop := fun xs H Q => rIsi K xs H Q ∨
  (∃ a C c b, xs = [.ref a, c] ∧ isClsV c = true ∧ XRd H a C ∧ PySem.W.XTy K C ∧ PySem.W.kitOne K (.ref C) (clsV c) = some b ∧ Q (.bl b) H) ∨
  (∃ a C tp cs b, xs = [.ref a, .ref tp] ∧ H tp = some (.tup cs) ∧ (∀ c ∈ cs, isClsV c = true) ∧ XRd H a C ∧ PySem.W.XTy K C ∧ PySem.W.kitAny K (.ref C) (cs.map clsV) = some b ∧ Q (.bl b) H)
theorem call_isinstanceY : CallR X (.builtin "isinstance") (rIsiY X.K) := by
  intro pins s σ H xs us Q I r h
  rcases h with h | ⟨a, C, c, b, rfl, hc, ha, ty, e, q⟩ | ⟨a, C, tp, cs, b, rfl, ht, hc, ha, ty, e, q⟩
  · exact call_isinstance pins s σ H xs us Q I r h
  · obtain ⟨u, v, rfl, ru, rv⟩ := r.two
    cases ru
    rw [clsV_of rv hc]
    obtain ⟨odo, hx⟩ := ha.inst I
    exact PySem.W.kia_one (PySem.W.kitx_exc (odo := odo) ty) I.kIn hx e (fun z => nomatch z) fun tk => ⟨.bl b, H, I.tok tk, rfl, q⟩
  · obtain ⟨u, v, rfl, ru, rv⟩ := r.two
    cases ru
    cases rv
    obtain ⟨odo, hx⟩ := ha.inst I
    obtain ⟨_, its, rvs, o, h1, h2, n, h3⟩ := (show ObjOk X.prog X.w H s.heap tp (.tup cs) from I.hok tp _ ht)
    obtain ⟨oc, odd, odt, osl⟩ := o
    dsimp only at h2 h3
    subst h2 h3
    have ei := vals_cls rvs hc
    subst ei
    exact PySem.W.kia_tup (PySem.W.kitx_exc (odo := odo) ty) I.kIn hx h1 e (fun z => nomatch z) fun tk => ⟨.bl b, H, I.tok tk, rfl, q⟩
end
end L2
namespace PySem.W
open PySem PySem.Spec PySem.Calls PyProof.Rows
section
variable {prog : Program} {w : World} {A : Around} {E : Value → Shared → Prop} {s : Shared} {K : Frag} {x D : Addr} {ox : Obj} {odo : Option Obj} {name : Str}
theorem exc_value {v : Value} {Q : Value → Shared → Prop} (X : K.In s.heap) (I : InstAt s.heap x ox D odo) (c : XTy K D) (hf : findObj K D odo name = some (.value v)) (hv : handedIn v = true) (h : Q v { s with toks := s.toks + 1 }) :
    wpAny (model prog w) A (getAttr (.ref x) name true) Q E s := by
  obtain ⟨hh, gg, d, t, os⟩ := s
  have L0 := I.type (M := model prog w)
  have L1 := looks_findIn (M := model prog w) X c.ga
  have L2 := looks_findIn (M := model prog w) X c.gh
  have L3 := looks_find (M := model prog w) X I hf
  unfold getAttr getAttrBy
  refine wpAny_bind (wpAny_mkText (wpAny_holding (wpAny_bind (L0.at (wpAny_bind (L1.at ?_))))))
  show wpAny _ _ (getAttrByItsOwn _ _ _ _ _ _) _ _ _
  unfold getAttrByItsOwn hookBefore
  refine wpAny_bind (L2.at ?_)
  refine wpAny_bind (wpAny_attempt (wpAny_holding ?_))
  unfold callGetattribute boundAndCalled
  show wpAny _ _ (bindSpecial _ _ >>= _) _ _ _
  rw [ga_bind]
  refine wpAny_bind (wpAny_pure ?_)
  refine wpAny_call (codeAny_call_builtin F.excAttr_ValueError.ga.plain F.entry_bexc_ga (ga_check X I c.mb ?_))
  have e1 : slotArgs "__getattribute__" 1 ⟨[.ref x, .str name t], []⟩ = pure (.ref x, [.str name t]) := rfl
  unfold Builtin.«object.__getattribute__»
  show wpAny _ _ (slotArgs "__getattribute__" 1 ⟨[.ref x, .str name t], []⟩ >>= _) _ _ _
  rw [e1]
  refine wpAny_bind (wpAny_pure ?_)
  refine wpAny_bind (wpAny_pure (wpAny_bind (L0.at (wpAny_bind (L3.at ?_)))))
  refine wpAny_pure ?_
  exact handed_on hv h
end
end PySem.W
namespace L2
open PySem PySem.Spec PyProof.Rows
section
variable {X : Cx} {e : Expr} {ta : TE} {f : Str} {pos : Pos}
/-- e.f of a caught exception -/
def tXFld (K : PySem.W.Frag) (ta : TE) (f : Str) : TE := fun σ H Q => ta σ H fun x H1 => ∃ a C d fs v, x = .ref a ∧ H1 a = some (xo a (.ref C) (some d)) ∧ H1 d = some (.xd fs) ∧ fs.lookup f = some v ∧ PySem.W.XTy K C ∧ PySem.W.hasDictIn K C = true ∧ NoAttr K C f ∧ Q v H1
theorem pe_xfld (he : PE X e ta) (hb : attributeBase e f X.env (eval e X.env) = eval e X.env) : PE X (.Attribute e f pos) (tXFld X.K ta f) := by
  intro pins s σ H Q I h
  refine attr_of hb (thn (he pins s σ H _ I h) fun u s1 ⟨x, H1, I1, rx, a, C, d, fs, v, ex, ea, ed, l, c, hd, n, q⟩ => ?_)
  subst ex
  obtain rfl : u = Value.ref a := rx
  obtain ⟨⟨o, vs, e1, e2, e3, e4⟩, _⟩ := (show ObjOk X.prog X.w H1 s1.heap a (xo a (.ref C) (some d)) from I1.hok a _ ea)
  obtain ⟨mA, ns, rel⟩ := (show ObjOk X.prog X.w H1 s1.heap d (.xd fs) from I1.hok d _ ed)
  obtain ⟨od, ho, hl⟩ := lookIn_ns ns
  obtain ⟨u, hu, ru⟩ := RelO.some_of (v := v) (o := mA f) (by rw [← l]; exact rel f)
  have J : PySem.W.InstAt s1.heap a o C (some od) := ⟨e1, e2, by unfold PySem.W.notCls; rw [e4], by rw [e3]; exact ho⟩
  exact PySem.W.exc_value I1.kIn J c (PySem.W.findObj_own hd n rfl (by rw [hl, hu])) (handed_of ru) ⟨v, H1, I1.tok _, ru, q⟩
end
end L2

set_option Elab.async false
set_option linter.all false
set_option maxRecDepth 100000
/-! A text split at a sign: its parts put together are the text, and no part has the sign; there is one such list. -/
namespace SpM
open PySem
/-- the parts, with the sign between -/
def glue (c : Nat) : List (List Nat) → List Nat
  | [] => []
  | [p] => p
  | p :: q :: r => p ++ c :: glue c (q :: r)
/-- parted one by one, as the law does it -/
def step (c : Nat) (rows : List (List Nat)) (d : Nat) : List (List Nat) := if d = c then rows ++ [[]] else rows.dropLast ++ [rows.getLastD [] ++ [d]]
def parts (c : Nat) (x : List Nat) : List (List Nat) := x.foldl (step c) [[]]
theorem glue_snoc (c : Nat) : ∀ {rows : List (List Nat)}, rows ≠ [] → glue c (rows ++ [[]]) = glue c rows ++ [c]
  | [p], _ => by simp [glue]
  | p :: q :: r, _ => by
    have := glue_snoc c (rows := q :: r) (by simp)
    show p ++ c :: glue c ((q :: r) ++ [[]]) = (p ++ c :: glue c (q :: r)) ++ [c]
    rw [this]; simp
theorem glue_last (c d : Nat) : ∀ {rows : List (List Nat)}, rows ≠ [] → glue c (rows.dropLast ++ [rows.getLastD [] ++ [d]]) = glue c rows ++ [d]
  | [p], _ => by simp [glue]
  | p :: q :: r, _ => by
    have := glue_last c d (rows := q :: r) (by simp)
    have e : (p :: q :: r).dropLast ++ [(p :: q :: r).getLastD [] ++ [d]] = p :: ((q :: r).dropLast ++ [(q :: r).getLastD [] ++ [d]]) := by simp
    rw [e]
    obtain ⟨u, v, e2⟩ : ∃ u v, (q :: r).dropLast ++ [(q :: r).getLastD [] ++ [d]] = u :: v := by
      cases h : (q :: r).dropLast with
      | nil => exact ⟨_, [], rfl⟩
      | cons u v => exact ⟨u, v ++ _, rfl⟩
    rw [e2] at this ⊢
    show p ++ c :: glue c (u :: v) = (p ++ c :: glue c (q :: r)) ++ [d]
    rw [this]; simp
theorem fold_spec (c : Nat) : ∀ (x : List Nat) (rows : List (List Nat)), rows ≠ [] → (∀ p ∈ rows, c ∉ p) → x.foldl (step c) rows ≠ [] ∧ (∀ p ∈ x.foldl (step c) rows, c ∉ p) ∧ glue c (x.foldl (step c) rows) = glue c rows ++ x
  | [], rows, h, hf => ⟨h, hf, by simp⟩
  | d :: x, rows, h, hf => by
    have h1 : step c rows d ≠ [] := by unfold step; split <;> simp
    have h2 : ∀ p ∈ step c rows d, c ∉ p := by
      intro p hp
      unfold step at hp
      split at hp
      · rcases List.mem_append.mp hp with q | q
        · exact hf p q
        · rw [List.mem_singleton.mp q]; simp
      · rename_i hd
        rcases List.mem_append.mp hp with q | q
        · exact hf p (List.dropLast_subset _ q)
        · rw [List.mem_singleton.mp q]
          intro z
          rcases List.mem_append.mp z with z | z
          · have hl : rows.getLastD [] ∈ rows := by
              rw [List.getLastD_eq_getLast?, List.getLast?_eq_some_getLast h]
              exact List.getLast_mem h
            exact hf _ hl z
          · exact hd (List.mem_singleton.mp z).symm
    have h3 : glue c (step c rows d) = glue c rows ++ [d] := by
      unfold step
      split
      · rename_i e; rw [e]; exact glue_snoc c h
      · exact glue_last c d h
    obtain ⟨g1, g2, g3⟩ := fold_spec c x (step c rows d) h1 h2
    exact ⟨g1, g2, by rw [List.foldl_cons, g3, h3]; simp⟩
theorem app_inj {c : Nat} : ∀ {p q a b : List Nat}, c ∉ p → c ∉ q → p ++ c :: a = q ++ c :: b → p = q ∧ a = b
  | [], [], a, b, _, _, e => ⟨rfl, by simpa using e⟩
  | [], y :: q, a, b, _, hq, e => by simp at e; exact absurd e.1 (fun z => hq (by simp [z]))
  | x :: p, [], a, b, hp, _, e => by simp at e; exact absurd e.1.symm (fun z => hp (by simp [z]))
  | x :: p, y :: q, a, b, hp, hq, e => by
    simp at e
    obtain ⟨e1, e2⟩ := app_inj (p := p) (q := q) (fun z => hp (by simp [z])) (fun z => hq (by simp [z])) e.2
    exact ⟨by rw [e.1, e1], e2⟩
theorem glue_inj (c : Nat) : ∀ {rows rows' : List (List Nat)}, rows ≠ [] → rows' ≠ [] → (∀ p ∈ rows, c ∉ p) → (∀ p ∈ rows', c ∉ p) → glue c rows = glue c rows' → rows = rows'
  | [p], [q], _, _, _, _, e => by simpa [glue] using e
  | [p], q :: q' :: r, _, _, hf, _, e => by
    have : c ∈ p := by rw [show p = q ++ c :: glue c (q' :: r) from e]; simp
    exact absurd this (hf p (by simp))
  | p :: p' :: r, [q], _, _, _, hf, e => by
    have : c ∈ q := by rw [show q = p ++ c :: glue c (p' :: r) from e.symm]; simp
    exact absurd this (hf q (by simp))
  | p :: p' :: r, q :: q' :: r', _, _, h1, h2, e => by
    obtain ⟨e1, e2⟩ := app_inj (h1 p (by simp)) (h2 q (by simp)) (show p ++ c :: glue c (p' :: r) = q ++ c :: glue c (q' :: r') from e)
    have := glue_inj c (rows := p' :: r) (rows' := q' :: r') (by simp) (by simp) (fun z hz => h1 z (by simp [hz])) (fun z hz => h2 z (by simp [hz])) e2
    rw [e1, this]
theorem join_glue (c : Nat) : ∀ (ys : List Str), (Builtin.Str.glued ⟨#[c]⟩ ys).cps.toList = glue c (ys.map fun y => y.cps.toList)
  | [] => rfl
  | y :: ys => by
    have key : ∀ (zs : List Str) (a : Array Nat), (zs.foldl (fun acc (p : Str) => acc ++ (⟨#[c]⟩ : Str).cps ++ p.cps) a).toList = glue c (a.toList :: zs.map fun y => y.cps.toList) := by
      intro zs
      induction zs with
      | nil => intro a; rfl
      | cons z zs ih =>
        intro a
        rw [List.foldl_cons, ih]
        show glue c ((a ++ #[c] ++ z.cps).toList :: _) = a.toList ++ c :: glue c (z.cps.toList :: _)
        have e : (a ++ #[c] ++ z.cps).toList = a.toList ++ c :: z.cps.toList := by simp
        rw [e]
        cases zs with
        | nil => simp [glue]
        | cons w ws => simp [glue]
    exact key ys y.cps
theorem split_parts (x : Str) (c : Nat) : (Txt.split x ⟨#[c]⟩).map (fun y => y.cps.toList) = parts c x.cps.toList := by
  obtain ⟨g1, g2, g3⟩ := fold_spec c x.cps.toList [[]] (by simp) (by simp)
  have hne : (Txt.split x ⟨#[c]⟩).map (fun y => y.cps.toList) ≠ [] := by
    intro h
    have h0 : Txt.split x ⟨#[c]⟩ = [] := by simpa using h
    unfold Txt.split at h0
    split at h0
    · cases h0
    · split at h0
      · cases h0
      · simp [Builtin.Str.partsBetween] at h0
  refine glue_inj c hne g1 (fun p hp => ?_) g2 ?_
  · obtain ⟨y, hy, rfl⟩ := List.mem_map.mp hp
    exact StrLaws.split_free x c y hy
  · have h := StrLaws.join_split x ⟨#[c]⟩
    have e : glue c ((Txt.split x ⟨#[c]⟩).map fun y => y.cps.toList) = x.cps.toList := by
      rw [← join_glue, StrLaws.glued_eq_join, h]
    rw [e]
    unfold parts
    rw [g3]
    simp [glue]
end SpM

set_option Elab.async false
set_option linter.all false
namespace SpM
theorem step_len (c : Nat) {n : Nat} {rows : List (List Nat)} (h : ∀ r ∈ rows, r.length ≤ n) (d : Nat) : ∀ r ∈ step c rows d, r.length ≤ n + 1 := by
  intro r hr
  unfold step at hr
  split at hr
  · rcases List.mem_append.mp hr with q | q
    · exact Nat.le_succ_of_le (h r q)
    · rw [List.mem_singleton.mp q]; simp
  · rcases List.mem_append.mp hr with q | q
    · exact Nat.le_succ_of_le (h r (List.dropLast_subset _ q))
    · rw [List.mem_singleton.mp q, List.length_append]
      have : (rows.getLastD []).length ≤ n := by
        by_cases e : rows = []
        · rw [e]; simp
        · have hl : rows.getLastD [] ∈ rows := by
            rw [List.getLastD_eq_getLast?, List.getLast?_eq_some_getLast e]
            exact List.getLast_mem e
          exact h _ hl
      simpa using this
theorem step_many (c : Nat) (rows : List (List Nat)) (d : Nat) : (step c rows d).length ≤ rows.length + 1 := by
  unfold step
  split
  · simp
  · rw [List.length_append, List.length_dropLast]; simp
theorem fold_len (c : Nat) : ∀ (x : List Nat) (rows : List (List Nat)) (n : Nat), (∀ r ∈ rows, r.length ≤ n) → (∀ r ∈ x.foldl (step c) rows, r.length ≤ n + x.length) ∧ (x.foldl (step c) rows).length ≤ rows.length + x.length
  | [], rows, n, h => ⟨by simpa using h, by simp⟩
  | d :: x, rows, n, h => by
    obtain ⟨h1, h2⟩ := fold_len c x (step c rows d) (n + 1) (step_len c h d)
    have h3 := step_many c rows d
    refine ⟨fun r hr => ?_, ?_⟩
    · have := h1 r hr; simp only [List.length_cons]; omega
    · rw [List.foldl_cons]; simp only [List.length_cons]; omega
theorem parts_len (c : Nat) (x : List Nat) : (∀ r ∈ parts c x, r.length ≤ x.length) ∧ (parts c x).length ≤ 1 + x.length := by
  have := fold_len c x [[]] 0 (by simp)
  unfold parts; simpa using this
/-- the parts one behind the other, the sign behind each, but for the last -/
theorem glue_flat (c : Nat) : ∀ {rows : List (List Nat)}, rows ≠ [] → (rows.flatMap fun r => r ++ [c]) = glue c rows ++ [c]
  | [p], _ => by simp [glue]
  | p :: q :: r, _ => by
    have := glue_flat c (rows := q :: r) (by simp)
    rw [List.flatMap_cons, this]
    show p ++ [c] ++ (glue c (q :: r) ++ [c]) = p ++ c :: glue c (q :: r) ++ [c]
    simp
theorem glue_len (c : Nat) : ∀ {rows : List (List Nat)} {n : Nat}, (∀ r ∈ rows, r.length ≤ n) → (glue c rows).length ≤ rows.length * (n + 1)
  | [], _, _ => by simp [glue]
  | [p], n, h => by have := h p (by simp); simp [glue]; omega
  | p :: q :: r, n, h => by
    have h1 := h p (by simp)
    have h2 := glue_len c (rows := q :: r) (n := n) fun x hx => h x (by simp [hx])
    show (p ++ c :: glue c (q :: r)).length ≤ _
    rw [List.length_append, List.length_cons, List.length_cons, Nat.succ_mul]
    omega
end SpM

set_option Elab.async false
set_option linter.all false
set_option maxRecDepth 100000
/-! text.split(a sign) -/
namespace PyProof.Rows
open PySem PySem.Spec PySem.Builtin PySem.Builtin.Str
section
variable {prog : Program} {w : World} {A : Around} {E : Value → Shared → Prop} {s : Shared} {x y : Str} {t u : Tok} {Q : Value → Shared → Prop}
theorem split_push (hy : (y.length == 0) = false)
    (h : ∀ (l : List (Str × Tok)) (k : Nat), l.map (·.1) = Txt.split x y → Q (.ref s.heap.objs.size) { s with heap := s.heap.push { cls := .type "list", data := .seq (strValues l).toArray }, toks := k })
    (hsz : x.length + 2 ≤ sizeLine) : wpAny (model prog w) A (call (.builtin "str.split") [.str x t, .str y u]) Q E s := by
  have hn : (partsBetween x (occurrences x y 0 x.length (x.length + 1)) y.length).length ≤ sizeLine := by
    have e1 := StrLaws.occ_length_le x y 0 x.length (x.length + 1)
    rw [length_partsBetween]; omega
  cases h1 : (decide (x.length < y.length) || decide (Builtin.Str.strKind x < Builtin.Str.strKind y))
  · cases hf : (occurrences x y 0 x.length (x.length + 1)).isEmpty
    · refine call_meets F.slot_str_split (typeIs_str _ _ _) F.entry_str_split (F.args_str_split_2 _ _) (meets_str_split_sep x y t u h1 hy hf (by omega) hn) ?_
      show wants Q E _ { s with toks := _, heap := s.heap.push { cls := .type "list", data := .seq (strsFrom s.toks (partsBetween x (occurrences x y 0 x.length (x.length + 1)) y.length)).toArray } }
      rw [strsFrom_eq]
      exact h (numbered s.toks _) _ ((numbered_texts _ _).trans ((if_neg (ne_true_of_eq_false h1)).trans (if_neg (ne_true_of_eq_false hf))).symm)
    · exact call_meets F.slot_str_split (typeIs_str _ _ _) F.entry_str_split (F.args_str_split_2 _ _) (meets_str_split_not_found x y t u h1 hy hf)
        (h [(x, t)] s.toks ((if_neg (ne_true_of_eq_false h1)).trans (if_pos hf)).symm)
  · exact call_meets F.slot_str_split (typeIs_str _ _ _) F.entry_str_split (F.args_str_split_2 _ _) (meets_str_split_cannot_occur x y t u h1)
      (h [(x, t)] s.toks (if_pos h1).symm)
end
end PyProof.Rows
namespace L2
open PySem PySem.Spec PyProof.Rows QL
theorem vals_strs : ∀ (l : List (Str × Tok)), Vals ((l.map (·.1)).map V.str) (strValues l)
  | [] => .nil
  | (a, t) :: l => .cons ⟨t, rfl⟩ (vals_strs l)
theorem rowsV_parts (z : List Nat) (c : Nat) : (Txt.split (tx z) ⟨#[c]⟩).map V.str = rowsV (SpM.parts c z) := by
  have e := SpM.split_parts (tx z) c
  rw [tx_list] at e
  rw [← e]
  unfold rowsV
  rw [List.map_map]
  refine List.map_congr_left fun y _ => ?_
  show V.str y = V.str (tx y.cps.toList)
  unfold tx
  simp
section
variable {X : Cx}
def rSplit : V → List V → Hp → VK → Prop := fun x xs H Q => ∃ z c, x = .str (tx z) ∧ xs = [.str ⟨#[c]⟩] ∧ z.length ≤ 1000 ∧ ∀ p, H p = none → Q (.ref p) (upd H p (.lst (rowsV (SpM.parts c z))))
theorem mt_split : MtR X "str.split" rSplit := by
  intro pins s σ H x xs v us Q I rx rv h
  obtain ⟨z, c, rfl, rfl, hz, q⟩ := h
  obtain ⟨t, rfl⟩ := rx
  obtain ⟨u, rfl, ru⟩ := rv.one
  obtain ⟨t', rfl⟩ := ru
  refine split_push (by rfl) (fun l k hl => ?_) (by rw [tx_length]; exact line_le (by omega))
  have hfr : H s.heap.objs.size = none := I.hok.fresh (Nat.le_refl _)
  have hv := vals_strs l
  rw [hl, rowsV_parts] at hv
  have hlen : (rowsV (SpM.parts c z)).length ≤ sizeLine := by
    have e := fact_split (tx z) ⟨#[c]⟩
    rw [← rowsV_parts, List.length_map]
    have e2 := e.2
    rw [tx_length] at e2
    exact line_le (by omega)
  refine ⟨.ref s.heap.objs.size, upd H s.heap.objs.size (.lst (rowsV (SpM.parts c z))), I.laid (t' := k) (fun b u e => Heap.get?_push_of_some _ e) (Nat.le_refl _) ⟨hlen, _, 0, hv, Heap.get?_push_size _ rfl⟩, rfl, q _ hfr⟩
end
end L2

set_option Elab.async false
set_option linter.all false
set_option maxRecDepth 100000
namespace Q2
open PySem L2 Pic QL
local macro_rules | `(tactic| walk_at "wp") => `(tactic| simp only [tSeq, tNext, tDrop, tRet, tRetN, tIfS, tBreak, tCont, tAsg, gName, gSub, gTup, gCons, gNil, tC, tVar, tOp, tUn, tTest, tNot, tAnd, tOr, tAndV, tOrV, tNotV, tChain, tChain3, tRaise, tTryAs, tRaiseI, tTryAsO, iEnum, iEnumS, tXFld, sXSet, tCallX, iZip, rSlT, rSplit, rSplit, rCat, rAll, rLtT, tCB, tCons, tNil, tCall, tPar, tIf, tLst, tTup, rI0, rI, rU, rEq, rNe, rIxL, rIxT, rIxS, tSl, tNoPart, tPart, rSlL, rSlS, tBM, tJR, rJoin, rAppend, rIsi, rSetL, iRng1, iRng2, iList, iTup, iRev, iStr, tComp, tForw, blkSt, tNoIf,
  L2.start, List.map_cons, List.map_nil, List.length_cons, List.length_nil, List.replicate, List.cons_append, List.nil_append, List.append_nil, Nat.reduceAdd, Nat.reduceSub, List.getElem?_cons_zero, List.getElem?_cons_succ, List.set_cons_zero, List.set_cons_succ, Option.some.injEq, V.int.injEq, V.str.injEq, V.ref.injEq, V.bl.injEq, List.cons.injEq, and_true, true_and, exists_and_left, exists_eq_left', exists_eq_left, decide_eq_true_eq, Bool.not_eq_true', decide_eq_false_iff_not, cxOf, Cx.blk, scal_ii, scal_ss, scal_bb, isClsV, clsV, Option.join_some, Nat.succ_eq_add_one, Nat.zero_add, exists_const, and_assoc, exists_eq, exists_eq', CMul, CDivP, Int.reducePow, Int.reduceNeg, Int.reduceLT, or_true, true_or, reduceCtorEq, Int.zero_add, ↓reduceIte, Bool.false_eq_true, Bool.not_true, Bool.not_false, Cx.wish, Cx.nox])
def top (i : Nat) : Stmt := PySem.Challenge.pw_quiltlaw_k02_pictures_as_texts.main.body.getD i (.Pass ⟨0, 0, 0, 0⟩)
section
variable {P : Program} {w : World} {K : PySem.W.Frag} {mg : Str → Option Value} {base : Heap}
/-! the first fault of rows, as a name and whole numbers -/
abbrev inT (z : Str) (c : Nat) : Bool := !(Builtin.Str.occurrences z ⟨#[c]⟩ 0 z.length 1).isEmpty
def badFrom (z : Str) : List Nat → Nat → Option Nat
  | [], _ => none
  | c :: cs, j => if inT z c = true then badFrom z cs (j + 1) else some j
theorem badFrom_nil (z : Str) (j : Nat) : badFrom z [] j = none := rfl
theorem badFrom_cons (z : Str) (c : Nat) (cs : List Nat) (j : Nat) : badFrom z (c :: cs) j = if inT z c = true then badFrom z cs (j + 1) else some j := rfl
def whyFrom (z : Str) (n0 : Nat) : Pic → Nat → Option (Str × List Int)
  | [], _ => none
  | r :: rs, k => if r.length = 0 ∨ 6 < r.length ∨ r.length ≠ n0 then some ("row", [(k : Int)]) else match badFrom z r 0 with
    | some j => some ("sign", [(k : Int), (j : Int)])
    | none => whyFrom z n0 rs (k + 1)
def whyOf (z : Str) (rows : Pic) : Option (Str × List Int) := if rows.length = 0 ∨ 6 < rows.length then some ("rows", [(rows.length : Int)]) else whyFrom z (rows.headD []).length rows 0
theorem whyFrom_cons (z : Str) (n0 : Nat) (r : List Nat) (rs : Pic) (k : Nat) : whyFrom z n0 (r :: rs) k = if r.length = 0 ∨ 6 < r.length ∨ r.length ≠ n0 then some (("row" : Str), [(k : Int)]) else match badFrom z r 0 with | some j => some (("sign" : Str), [(k : Int), (j : Int)]) | none => whyFrom z n0 rs (k + 1) := rfl
theorem whyFrom_len (z : Str) (n0 : Nat) : ∀ (rows : Pic) (k : Nat) {y : Str × List Int}, whyFrom z n0 rows k = some y → 0 < y.2.length ∧ y.2.length ≤ 2
  | [], _, _, h => by cases h
  | r :: rs, k, y, h => by
    unfold whyFrom at h
    split at h
    · cases h; exact ⟨by simp, by simp⟩
    · split at h
      · cases h; exact ⟨by simp, by simp⟩
      · exact whyFrom_len z n0 rs (k + 1) h
theorem whyOf_len {z : Str} {rows : Pic} {y : Str × List Int} (h : whyOf z rows = some y) : 0 < y.2.length ∧ y.2.length ≤ 2 := by
  unfold whyOf at h
  split at h
  · cases h; exact ⟨by simp, by simp⟩
  · exact whyFrom_len _ _ _ _ h
def wyV (y : Str × List Int) : List V := .str y.1 :: y.2.map V.int
def wyD (y : Str × List Int) : List Dt := .str y.1 :: y.2.map Dt.int
theorem rd_ints {H : Hp} : ∀ {is : List Int}, RdDs K H (is.map Dt.int) (is.map V.int)
  | [] => by rw [List.map_nil, List.map_nil]; unfold RdDs; rfl
  | i :: is => by
    rw [List.map_cons, List.map_cons]
    unfold RdDs
    exact ⟨_, _, rfl, by unfold RdD; rfl, rd_ints⟩
theorem deps_ints : ∀ (is : List Int), Dt.deps (is.map Dt.int) = 0
  | [] => by rw [List.map_nil]; unfold Dt.deps; rfl
  | i :: is => by
    rw [List.map_cons]
    unfold Dt.deps
    rw [deps_ints is]
    unfold Dt.dep
    rfl
theorem rd_wy {H : Hp} {t : Addr} {y : Str × List Int} (h : H t = some (.tup (wyV y))) : RdD K H (.tup (wyD y)) (.ref t) := by
  unfold RdD
  refine ⟨t, _, rfl, SqT.of h, ?_⟩
  unfold wyD wyV RdDs
  exact ⟨_, _, rfl, by unfold RdD; rfl, rd_ints⟩
theorem deps_wy (y : Str × List Int) : Dt.deps (wyD y) ≤ 40 := by
  unfold wyD Dt.deps
  rw [deps_ints]
  unfold Dt.dep
  decide
theorem drop_get {α : Type} {l : List α} {i : Nat} {x : α} (h : l[i]? = some x) : l.drop i = x :: l.drop (i + 1) := by
  obtain ⟨hi, e⟩ := List.getElem?_eq_some_iff.mp h
  rw [List.drop_eq_getElem_cons hi, e]
theorem tx_get {r : List Nat} {i c : Nat} (h : (tx r).cps[i]? = some c) : r[i]? = some c := by
  rw [← h]
  show r[i]? = r.toArray[i]?
  simp
theorem tx_size (r : List Nat) : (tx r).cps.size = r.length := by show r.toArray.size = _; simp
/-- the exception that is made for a fault -/
def Faulty (C : Addr) (H : Hp) (y : Str × List Int) (E : XK) : Prop := ∀ (t d : Addr) (H' : Hp), Same H H' → H' t = some (.tup (wyV y)) → H' d = some (.xd [("why", .ref t)]) → E (.ref C) (some d) H'
theorem Faulty.made {C : Addr} {H H' : Hp} {y : Str × List Int} {E : XK} (b : Faulty C H y E) (sm : Same H H') {p d : Addr} (hp : H' p = none) (hd : upd H' p (.tup (wyV y)) d = none) : E (.ref C) (some d) (upd (upd H' p (.tup (wyV y))) d (.xd [("why", .ref p)])) := by
  have hdp : p ≠ d := fun x => by rw [← x, upd_same] at hd; cases hd
  exact b p d _ ((sm.trans (same_upd hp)).trans (same_upd hd)) (by rw [upd_ne hdp, upd_same]) upd_same
/-- the j-th statement within the class at i -/
def clsBody : Stmt → List Stmt
  | .ClassDef (body := b) .. => b
  | _ => []
abbrev s_init : Stmt := (clsBody (top 2)).getD 0 (.Pass ⟨0, 0, 0, 0⟩)
theorem sc_init : FnScope ["self", "why"] ["self", "why"] (defScope s_init) := ⟨rfl, rfl, rfl, by decide +kernel, rfl, by decide +kernel, by decide +kernel⟩
theorem ok_init {f C : Addr} {fd : FuncData} (F : Fun K "__init__" "NoPicture.__init__" s_init f fd) (xs : PySem.W.XSt K C "why") : FnOk P w K mg base CX0 1 f fd ["self", "why"] (sp_init C "why") := by
  have sc := sc_init
  refine F.ok sc (fun vs H Q E h => ?_) (fun cdv A outer s H vs Q E hr h => ?_)
  · obtain ⟨a, v, rfl, _⟩ := h; rfl
  · obtain ⟨a, v, rfl, ha, q⟩ := h
    refine ⟨_, (pss_one (ps_xset (pv 0) (pv 1) rfl)), ?_⟩
    walk_at "wp"
    exact ⟨C, ha, xs, fun d hd => q d hd⟩
abbrev s_check_signs : Stmt := top 16
def sp_check_signs (C : Addr) : Sp := fun vs H Q E => ∃ (k : Int) (r : List Nat) (z : Str), vs = [.int k, .str (tx r), .str z] ∧ (badFrom z r 0 = none → ∀ H', Same H H' → Q .non H') ∧ ∀ j : Nat, badFrom z r 0 = some j → Faulty C H ("sign", [k, (j : Int)]) E
theorem sc_check_signs : FnScope ["k", "row", "signs", "j", "sign"] ["k", "row", "signs"] (defScope s_check_signs) := ⟨rfl, rfl, rfl, by decide +kernel, rfl, by decide +kernel, by decide +kernel⟩
set_option maxHeartbeats 4000000 in
theorem ok_check_signs {f C_NoPicture : Addr} {fd : FuncData} (F : Fun K "check_signs" "check_signs" s_check_signs f fd) (nb : NB mg) (m_NoPicture : mg "NoPicture" = some (.ref C_NoPicture)) (xi_NoPicture : XI P w K mg base 1 C_NoPicture "why") : FnOk P w K mg base (CX1 P w) 3 f fd ["k", "row", "signs"] (sp_check_signs C_NoPicture) := by
  have sc := sc_check_signs
  refine F.okX sc (fun vs H Q E h => ?_) (fun cdv A outer s H vs Q E hr h => ?_)
  · obtain ⟨k, r, z, rfl, _⟩ := h; rfl
  · obtain ⟨k, r, z, rfl, good, bad⟩ := h
    refine ⟨_, (pss_one (ps_forw PassesOwn.leaving rfl (pi_enumS rfl nb.enumerate (pa_cons (pv 1) pa_nil)) (pg_tup (n := 2) rfl (pgs_cons (pg_name (i := 3) sc.nd rfl (Or.inl rfl)) (pgs_cons (pg_name (i := 4) sc.nd rfl (Or.inl rfl)) pgs_nil)))
      (pss_one (ps_if (pt_cmpR op_notin_str (pv 4) (pv 2) (by with_unfolding_all rfl))
      (pss_one (ps_raiseI xi_NoPicture (hr.mono (by decide)) rfl rfl m_NoPicture (makesI_up fun _ _ _ h => h) (pa_cons (pe_tup (pa_cons pe_str (pa_cons (pv 0) (pa_cons (pv 3) pa_nil)))) pa_nil)))
      pss_nil)))), ?_⟩
    walk_at "wp"
    refine forw_enumS (x := tx r) (fun i σ H' => Same H H' ∧ badFrom z (r.drop i) i = badFrom z r 0 ∧ ∃ x y, σ = [some (.int k), some (.str (tx r)), some (.str z), x, y]) ⟨fun _ _ e => e, rfl, _, _, rfl⟩ ?_ ?_
    · rintro i c σ H' T hc ⟨sm, hb, x, y, rfl⟩ hT
      rw [drop_get (tx_get hc), badFrom_cons] at hb
      have smT : Same H (upd H' T (.tup [.int (i : Int), .str ⟨#[c]⟩])) := sm.trans (same_upd hT)
      have hTT : upd H' T (.tup [.int (i : Int), .str ⟨#[c]⟩]) T = some (.tup [.int (i : Int), .str ⟨#[c]⟩]) := upd_same
      generalize upd H' T (.tup [.int (i : Int), .str ⟨#[c]⟩]) = H1 at smT hTT ⊢
      walk_at "wp"
      refine ⟨_, SqT.of hTT, rfl, _, _, rfl, _, _, rfl, rfl, ?_⟩
      refine ⟨_, rfl, ?_⟩
      show (if inT z c = false then _ else _)
      cases hin : inT z c
      · rw [if_pos rfl]
        rw [hin, if_neg (by decide)] at hb
        exact ⟨line_le (by omega), fun p hp => ⟨line_le (by omega), fun d hd => (bad i hb.symm).made smT hp hd⟩⟩
      · rw [if_neg (by decide)]
        rw [hin, if_pos rfl] at hb
        exact ⟨smT, hb⟩
    · rintro σ H' ⟨sm, hb, x, y, rfl⟩
      walk_at "wp"
      rw [tx_size, List.drop_of_length_le (Nat.le_refl _), badFrom_nil] at hb
      exact good hb.symm H' sm
end
end Q2

set_option Elab.async false
set_option linter.all false
set_option maxRecDepth 100000
namespace Q2
open PySem L2 Pic QL
local macro_rules | `(tactic| walk_at "wp") => `(tactic| simp only [tSeq, tNext, tDrop, tRet, tRetN, tIfS, tBreak, tCont, tAsg, gName, gSub, gTup, gCons, gNil, tC, tVar, tOp, tUn, tTest, tNot, tAnd, tOr, tAndV, tOrV, tNotV, tChain, tChain3, tRaise, tTryAs, tRaiseI, tTryAsO, iEnum, iEnumS, tXFld, sXSet, tCallX, iZip, rSlT, rSplit, rSplit, rCat, rAll, rLtT, tCB, tCons, tNil, tCall, tPar, tIf, tLst, tTup, rI0, rI, rU, rEq, rNe, rIxL, rIxT, rIxS, tSl, tNoPart, tPart, rSlL, rSlS, tBM, tJR, rJoin, rAppend, rIsi, rSetL, iRng1, iRng2, iList, iTup, iRev, iStr, tComp, tForw, blkSt, tNoIf,
  L2.start, List.map_cons, List.map_nil, List.length_cons, List.length_nil, List.replicate, List.cons_append, List.nil_append, List.append_nil, Nat.reduceAdd, Nat.reduceSub, List.getElem?_cons_zero, List.getElem?_cons_succ, List.set_cons_zero, List.set_cons_succ, Option.some.injEq, V.int.injEq, V.str.injEq, V.ref.injEq, V.bl.injEq, List.cons.injEq, and_true, true_and, exists_and_left, exists_eq_left', exists_eq_left, decide_eq_true_eq, Bool.not_eq_true', decide_eq_false_iff_not, cxOf, Cx.blk, scal_ii, scal_ss, scal_bb, isClsV, clsV, Option.join_some, Nat.succ_eq_add_one, Nat.zero_add, exists_const, and_assoc, exists_eq, exists_eq', CMul, CDivP, Int.reducePow, Int.reduceNeg, Int.reduceLT, or_true, true_or, reduceCtorEq, Int.zero_add, ↓reduceIte, Bool.false_eq_true, Bool.not_true, Bool.not_false, Cx.wish, Cx.nox])
section
variable {P : Program} {w : World} {K : PySem.W.Frag} {mg : Str → Option Value} {base : Heap}
abbrev s_checked : Stmt := top 15
def SmallR (rows : Pic) : Prop := rows.length ≤ 1000 ∧ ∀ r ∈ rows, r.length ≤ 100000
def sp_checked (K : PySem.W.Frag) (C : Addr) : Sp := fun vs H Q E => ∃ (a : Addr) (rows : Pic) (z : Str), vs = [.ref a, .str z] ∧ H a = some (.lst (rowsV rows)) ∧ SmallR rows ∧
  (whyOf z rows = none → ∀ (l : Addr) (H' : Hp), H l = none → H' l = some (.lst (rowsV rows)) → Same H H' → Q (.ref l) H') ∧ ∀ y, whyOf z rows = some y → Faulty C H y E
theorem sc_checked : FnScope ["rows", "signs", "k", "row"] ["rows", "signs"] (defScope s_checked) := ⟨rfl, rfl, rfl, by decide +kernel, rfl, by decide +kernel, by decide +kernel⟩
set_option maxHeartbeats 4000000 in
theorem ok_checked {f C_NoPicture : Addr} {fd : FuncData} {tk : Tok} (F : Fun K "checked" "checked" s_checked f fd) (nb : NB mg) (m_MOST : mg "MOST" = some (.int 6 tk)) (m_NoPicture : mg "NoPicture" = some (.ref C_NoPicture)) (xi_NoPicture : XI P w K mg base 1 C_NoPicture "why")
    (c_check_signs : Cal P w K mg base (CX1 P w) 3 "check_signs" ["k", "row", "signs"] (sp_check_signs C_NoPicture)) : FnOk P w K mg base (CX1 P w) 4 f fd ["rows", "signs"] (sp_checked K C_NoPicture) := by
  have sc := sc_checked
  refine F.okX sc (fun vs H Q E h => ?_) (fun cdv A outer s H vs Q E hr h => ?_)
  · obtain ⟨a, rows, z, rfl, _⟩ := h; rfl
  · obtain ⟨a, rows, z, rfl, ha, ⟨hs1, hs2⟩, good, bad⟩ := h
    refine ⟨_, (pss_cons (ps_if (PW.pt (pw_or (pt_cmpR op_eq (pe_callB call_lenL rfl nb.len bt_len (pa_cons (pv 0) pa_nil)) pe_int (nomark _)) (pw_or1 (pt_cmpR op_gt (pe_callB call_lenL rfl nb.len bt_len (pa_cons (pv 0) pa_nil)) (pe_glob (v := .int 6) rfl m_MOST ⟨_, rfl⟩) (nomark _)))))
      (pss_one (ps_raiseI xi_NoPicture (hr.mono (by decide)) rfl rfl m_NoPicture (makesI_up fun _ _ _ h => h) (pa_cons (pe_tup (pa_cons pe_str (pa_cons (pe_callB call_lenL rfl nb.len bt_len (pa_cons (pv 0) pa_nil)) pa_nil))) pa_nil)))
      pss_nil)
      (pss_cons (ps_forw PassesOwn.leaving rfl (pi_enum rfl nb.enumerate (pa_cons (pv 0) pa_nil)) (pg_tup (n := 2) rfl (pgs_cons (pg_name (i := 2) sc.nd rfl (Or.inl rfl)) (pgs_cons (pg_name (i := 3) sc.nd rfl (Or.inl rfl)) pgs_nil)))
      (pss_cons (ps_if (PW.pt (pw_or (pt_cmpR op_eq (pe_callB call_len_str rfl nb.len bt_len (pa_cons (pv 3) pa_nil)) pe_int (nomark _)) (pw_or (pt_cmpR op_gt (pe_callB call_len_str rfl nb.len bt_len (pa_cons (pv 3) pa_nil)) (pe_glob (v := .int 6) rfl m_MOST ⟨_, rfl⟩) (nomark _)) (pw_or1 (pt_cmpR op_ne (pe_callB call_len_str rfl nb.len bt_len (pa_cons (pv 3) pa_nil)) (pe_callB call_len_str rfl nb.len bt_len (pa_cons (pe_ix ix_list (pv 0) pe_int (fun _ _ => rfl)) pa_nil)) (nomark _))))))
      (pss_one (ps_raiseI xi_NoPicture (hr.mono (by decide)) rfl rfl m_NoPicture (makesI_up fun _ _ _ h => h) (pa_cons (pe_tup (pa_cons pe_str (pa_cons (pv 2) pa_nil))) pa_nil)))
      pss_nil)
      (pss_one (ps_expr (pe_cal (E := E) c_check_signs (hr.mono (by decide)) rfl (passes_up fun _ _ _ h => h) (pa_cons (pv 2) (pa_cons (pv 3) (pa_cons (pv 1) pa_nil))))))))
      (pss_one (ps_ret (pe_callTy call_list_of rfl nb.list bt_list (pa_cons (pv 0) pa_nil)))))), ?_⟩
    walk_at "wp"
    refine ⟨_, SqL.of ha, ?_⟩
    rw [rowsV_length]
    have tupw : ∀ (H' : Hp) (y : Str × List Int), Same H H' → whyOf z rows = some y → ∀ p, H' p = none → 1 ≤ sizeLine ∧ ∀ d, upd H' p (.tup (wyV y)) d = none → E (.ref C_NoPicture) (some d) (upd (upd H' p (.tup (wyV y))) d (.xd [("why", .ref p)])) :=
      fun H' y sm hy p hp => ⟨line_le (by omega), fun d hd => (bad y hy).made sm hp hd⟩
    by_cases h0 : (rows.length : Int) = 0
    · rw [if_pos h0]
      have hy : whyOf z rows = some (("rows" : Str), [(rows.length : Int)]) := by unfold whyOf; rw [if_pos (by omega)]
      refine ⟨_, SqL.of ha, line_le (by omega), ?_⟩
      rw [rowsV_length]
      exact tupw H _ (fun _ _ e => e) hy
    · rw [if_neg h0]
      refine ⟨_, SqL.of ha, ?_⟩
      rw [rowsV_length]
      by_cases h6 : 6 < (rows.length : Int)
      · rw [if_pos h6]
        have hy : whyOf z rows = some (("rows" : Str), [(rows.length : Int)]) := by unfold whyOf; rw [if_pos (by omega)]
        refine ⟨_, SqL.of ha, line_le (by omega), ?_⟩
        rw [rowsV_length]
        exact tupw H _ (fun _ _ e => e) hy
      · rw [if_neg h6]
        refine ⟨_, SqL.of ha, ?_⟩
        have hw : whyOf z rows = whyFrom z (rows.headD []).length rows 0 := by unfold whyOf; rw [if_neg (by omega)]
        refine forw_enum (xs := rowsV rows) (fun i σ H' => Same H H' ∧ whyFrom z (rows.headD []).length (rows.drop i) i = whyOf z rows ∧ ∃ x y, σ = [some (.ref a), some (.str z), x, y]) ⟨fun _ _ e => e, by rw [hw]; rfl, _, _, rfl⟩ (fun i σ H' _ h => SqL.of (h.1 _ _ ha)) ?_ ?_
        · rintro i v σ H' T hv ⟨sm, hb, x, y, rfl⟩ hT
          have hi : i < rows.length := by have := (List.getElem?_eq_some_iff.mp hv).1; rwa [rowsV_length] at this
          have h00 : 0 < rows.length := by omega
          have hhead : rows.headD [] = rows[0] := by cases rows with | nil => simp at h00 | cons r rs => rfl
          rw [rowsV_get hi] at hv
          cases hv
          have hlr := hs2 _ (List.getElem_mem hi)
          have hl0 := hs2 _ (List.getElem_mem h00)
          rw [drop_get (List.getElem?_eq_getElem hi), whyFrom_cons, hhead] at hb
          have smT : Same H (upd H' T (.tup [.int (i : Int), .str (tx rows[i])])) := sm.trans (same_upd hT)
          have hTT : upd H' T (.tup [.int (i : Int), .str (tx rows[i])]) T = some (.tup [.int (i : Int), .str (tx rows[i])]) := upd_same
          generalize upd H' T (.tup [.int (i : Int), .str (tx rows[i])]) = H1 at smT hTT ⊢
          walk_at "wp"
          refine ⟨_, SqT.of hTT, rfl, _, _, rfl, _, _, rfl, rfl, ?_⟩
          have hz : ∀ r : List Nat, r.length ≤ 100000 → (tx r).length ≤ sizeLine := fun r h => by rw [tx_length]; exact line_le (by omega)
          have row : (List.length rows[i] = 0 ∨ 6 < List.length rows[i] ∨ List.length rows[i] ≠ List.length rows[0]) → (2 ≤ sizeLine ∧ ∀ p, H1 p = none → 1 ≤ sizeLine ∧ ∀ d, upd H1 p (.tup (wyV (("row" : Str), [(i : Int)]))) d = none → E (.ref C_NoPicture) (some d) (upd (upd H1 p (.tup (wyV (("row" : Str), [(i : Int)])))) d (.xd [("why", .ref p)]))) := fun hc => by
            rw [if_pos hc] at hb
            exact ⟨line_le (by omega), tupw H1 _ smT hb.symm⟩
          refine ⟨_, rfl, hz _ hlr, ?_⟩
          rw [tx_length]
          by_cases c1 : (List.length rows[i] : Int) = 0
          · rw [if_pos c1]; exact row (.inl (by omega))
          · rw [if_neg c1]
            refine ⟨_, rfl, hz _ hlr, ?_⟩
            rw [tx_length]
            by_cases c2 : 6 < (List.length rows[i] : Int)
            · rw [if_pos c2]; exact row (.inr (.inl (by omega)))
            · rw [if_neg c2]
              refine ⟨_, rfl, hz _ hlr, _, SqL.of (smT _ _ ha), _, atI_nat (rowsV_get h00), _, rfl, hz _ hl0, ?_⟩
              rw [tx_length, tx_length]
              by_cases c3 : (List.length rows[i] : Int) = (List.length rows[0] : Int)
              · rw [if_neg (fun h => h c3)]
                rw [if_neg (by omega)] at hb
                refine ⟨_, rows[i], z, rfl, fun hg H2 sm2 => ?_, fun j hj => ?_⟩
                · rw [hg] at hb
                  exact ⟨smT.trans sm2, by rw [hhead]; exact hb⟩
                · rw [hj] at hb
                  exact fun t d H2 sm2 ht hd => bad _ hb.symm t d H2 (smT.trans sm2) ht hd
              · rw [if_pos c3]; exact row (.inr (.inr (by omega)))
        · rintro σ H' ⟨sm, hb, x, y, rfl⟩
          walk_at "wp"
          rw [rowsV_length, List.drop_of_length_le (Nat.le_refl _)] at hb
          refine ⟨_, .inl (SqL.of (sm _ _ ha)), fun l hl => good hb.symm l _ (sm.free hl) upd_same (sm.trans (same_upd hl))⟩
end
end Q2

set_option Elab.async false
set_option linter.all false
set_option maxRecDepth 100000
namespace Q2
open PySem L2 Pic QL
local macro_rules | `(tactic| walk_at "wp") => `(tactic| simp only [tSeq, tNext, tDrop, tRet, tRetN, tIfS, tBreak, tCont, tAsg, gName, gSub, gTup, gCons, gNil, tC, tVar, tOp, tUn, tTest, tNot, tAnd, tOr, tAndV, tOrV, tNotV, tChain, tChain3, tRaise, tTryAs, tRaiseI, tTryAsO, iEnum, iEnumS, tXFld, sXSet, tCallX, iZip, rSlT, rSplit, rSplit, rCat, rAll, rLtT, tCB, tCons, tNil, tCall, tPar, tIf, tLst, tTup, rI0, rI, rU, rEq, rNe, rIxL, rIxT, rIxS, tSl, tNoPart, tPart, rSlL, rSlS, tBM, tJR, rJoin, rAppend, rIsi, rSetL, iRng1, iRng2, iList, iTup, iRev, iStr, tComp, tForw, blkSt, tNoIf,
  L2.start, List.map_cons, List.map_nil, List.length_cons, List.length_nil, List.replicate, List.cons_append, List.nil_append, List.append_nil, Nat.reduceAdd, Nat.reduceSub, List.getElem?_cons_zero, List.getElem?_cons_succ, List.set_cons_zero, List.set_cons_succ, Option.some.injEq, V.int.injEq, V.str.injEq, V.ref.injEq, V.bl.injEq, List.cons.injEq, and_true, true_and, exists_and_left, exists_eq_left', exists_eq_left, decide_eq_true_eq, Bool.not_eq_true', decide_eq_false_iff_not, cxOf, Cx.blk, scal_ii, scal_ss, scal_bb, isClsV, clsV, Option.join_some, Nat.succ_eq_add_one, Nat.zero_add, exists_const, and_assoc, exists_eq, exists_eq', CMul, CDivP, Int.reducePow, Int.reduceNeg, Int.reduceLT, or_true, true_or, reduceCtorEq, Int.zero_add, ↓reduceIte, Bool.false_eq_true, Bool.not_true, Bool.not_false, Cx.wish, Cx.nox])
section
variable {P : Program} {w : World} {K : PySem.W.Frag} {mg : Str → Option Value} {base : Heap}
abbrev s_l_cell : Stmt := top 20
def sp_l_cell (K : PySem.W.Frag) : Sp := fun vs H Q _ => ∃ (a : Addr) (ns : List Int) (k : Nat), vs = [.ref a, .int (k : Int)] ∧ SqL K H a (ns.map V.int) ∧ k ≤ 1000 ∧ Q (.int (cellAt ns k)) H
theorem sc_l_cell : FnScope ["_law_script", "_law_k", "_law_cell_here", "_law_mixed"] ["_law_script", "_law_k"] (defScope s_l_cell) := ⟨rfl, rfl, rfl, by decide +kernel, rfl, by decide +kernel, by decide +kernel⟩
set_option maxHeartbeats 4000000 in
theorem ok_l_cell {f : Addr} {fd : FuncData} (F : Fun K "_law_cell" "_law_cell" s_l_cell f fd) (nb : NB mg) : FnOk P w K mg base CX0 1 f fd ["_law_script", "_law_k"] (sp_l_cell K) := by
  have sc := sc_l_cell
  refine F.ok sc (fun vs H Q E h => ?_) (fun cdv A outer s H vs Q E hr h => ?_)
  · obtain ⟨a, ns, k, rfl, _⟩ := h; rfl
  · obtain ⟨a, ns, k, rfl, hS, hk, q⟩ := h
    refine ⟨_, (pss_cons (ps_set (i := 2) sc.nd rfl (Or.inl rfl) pe_int)
      (pss_cons (ps_if (pt_cmpR op_lt (pv 1) (pe_callB call_lenL rfl nb.len bt_len (pa_cons (pv 0) pa_nil)) (nomark _))
      (pss_one (ps_set (i := 2) sc.nd rfl (Or.inl rfl) (pe_ix ix_list (pv 0) (pv 1) (fun _ _ => rfl))))
      pss_nil)
      (pss_cons (ps_set (i := 3) sc.nd rfl (Or.inl rfl) (pe_op op_mod (pe_op op_mul (pe_op op_add (pe_op op_add (pe_op op_mod (pv 2) pe_int) (pe_op op_mul pe_int (pv 1))) pe_int) pe_int) pe_int))
      (pss_one (ps_ret (pe_op op_add (pe_op op_mul (pe_op op_fdivP (pv 2) pe_int) pe_int) (pe_op op_mod (pe_op op_add (pe_op op_mul (pv 3) pe_int) (pv 1)) pe_int))))))), ?_⟩
    walk_at "wp"
    refine ⟨_, hS, ?_⟩
    rw [List.length_map]
    unfold cellAt at q
    split
    · rename_i hlt
      have hlt' : k < ns.length := by omega
      rw [List.getD_eq_getElem?_getD, List.getElem?_eq_getElem hlt', Option.getD_some] at q
      refine ⟨_, hS, V.int ns[k], atI_nat (by rw [List.getElem?_map, List.getElem?_eq_getElem hlt']; rfl), ?_⟩
      walk_at "wp"
      exact q
    · rename_i hlt
      rw [List.getD_eq_getElem?_getD, List.getElem?_eq_none (by omega), Option.getD_none] at q
      exact q
abbrev s_l_signs : Stmt := top 22
def sp_l_signs : Sp := fun vs H Q _ => ∃ (c m : Int), vs = [.int c, .int m] ∧ 1 ≤ m ∧ m ≤ 64 ∧ ∀ (r : List Nat) (H' : Hp), 1 ≤ r.length → r.length ≤ 64 → Same H H' → Q (.str (tx r)) H'
theorem sc_l_signs : FnScope ["_law_cell_here", "_law_most", "_law_letters", "_law_step"] ["_law_cell_here", "_law_most"] (defScope s_l_signs) := ⟨rfl, rfl, rfl, by decide +kernel, rfl, by decide +kernel, by decide +kernel⟩
set_option maxHeartbeats 4000000 in
theorem ok_l_signs {f : Addr} {fd : FuncData} (F : Fun K "_law_signs" "_law_signs" s_l_signs f fd) (nb : NB mg) : FnOk P w K mg base CX0 1 f fd ["_law_cell_here", "_law_most"] sp_l_signs := by
  have sc := sc_l_signs
  refine F.ok sc (fun vs H Q E h => ?_) (fun cdv A outer s H vs Q E hr h => ?_)
  · obtain ⟨c, m, rfl, _⟩ := h; rfl
  · obtain ⟨c, m, rfl, hm1, hm2, q⟩ := h
    refine ⟨_, (pss_cons (ps_set (i := 2) sc.nd rfl (Or.inr rfl) pe_str)
      (pss_cons (ps_set (i := 3) sc.nd rfl (Or.inr rfl) (pe_ix ix_tup (pe_tup (pa_cons pe_int (pa_cons pe_int (pa_cons pe_int (pa_cons pe_int pa_nil))))) (pe_op op_mod (pe_op op_fdivP (pv 0) (pv 1)) pe_int) (fun _ _ => rfl)))
      (pss_one (ps_ret (pe_bm PySem.F.plainAttrs_str PySem.F.slot_str_join PySem.F.type_str_join mt_join pe_str (pa_cons (pe_comp ["_law_k"] [2, 0, 1, 3] rfl (CompOk.of (by kernel_rfl)) (by kernel_rfl) (pi_range1 rfl nb.range (pa_cons (pe_op op_add pe_int (pe_op op_mod (pv 0) (pv 1))) pa_nil))
        (fun _ _ _ _ => (pg_name (i := 0) (by show (["_law_k", "_law_letters", "_law_cell_here", "_law_most", "_law_step"] : List Str).Nodup; decide +kernel) rfl (Or.inl rfl))) (fun _ _ _ _ => pif_nil) (fun _ _ _ _ => (pe_ix ix_str (pv 1) (pe_op op_mod (pe_op op_add (pe_op op_fdivP (pe_op op_fdivP (pv 2) (pv 3)) pe_int) (pe_op op_mul (pv 0) (pv 4))) pe_int) (fun _ _ => rfl)))) pa_nil)))))), ?_⟩
    walk_at "wp"
    have hd1 : 0 ≤ c / m % 4 := Int.emod_nonneg _ (by omega)
    have hd2 : c / m % 4 < 4 := Int.emod_lt_of_pos _ (by omega)
    have hk1 : 0 ≤ c % m := Int.emod_nonneg _ (by omega)
    have hk2 : c % m < m := Int.emod_lt_of_pos _ (by omega)
    refine ⟨by decide, fun p hp => ⟨by omega, by omega, _, SqT.of upd_same, ?_⟩⟩
    obtain ⟨v, hv, hat⟩ := atI_in (xs := [V.int 1, V.int 3, V.int 5, V.int 7]) (i := c / m % 4) hd1 (by simpa using hd2)
    obtain ⟨st, rfl⟩ : ∃ st, v = V.int st := by
      simp at hv
      rcases hv with h | h | h | h <;> exact ⟨_, h⟩
    refine ⟨_, hat, rfl, by omega, by omega, by omega, ?_⟩
    have en : (1 + c % m).toNat = 1 + (c % m).toNat := by omega
    rw [en]
    have hsm : Same H (upd H p (.tup [V.int 1, V.int 3, V.int 5, V.int 7])) := same_upd hp
    refine comp_range (lo := 0) (n := 1 + (c % m).toNat) (fun i acc σ H' => H' = upd H p (.tup [V.int 1, V.int 3, V.int 5, V.int 7]) ∧ (∃ cs : List Nat, acc = (cs.map fun c => (⟨#[c]⟩ : Str)).map V.str ∧ cs.length = i) ∧ i ≤ 1 + (c % m).toNat ∧ ∃ x, σ = [x, some (.str "abcdefghijklmnopqrstuvwxyz"), some (.int c), some (.int m), some (.int st)]) ⟨rfl, ⟨[], rfl, rfl⟩, Nat.zero_le _, _, rfl⟩ ?_ ?_ ?_ ?_
    · rintro i acc σ H' ⟨_, ⟨cs, rfl, e⟩, hi, _⟩
      refine line_big ?_
      rw [List.length_map, List.length_map, e]
      omega
    · rintro i acc σ H' ⟨_, _, h, _⟩
      exact h
    · rintro i acc σ H' hi ⟨rfl, ⟨cs, rfl, e⟩, _, y, rfl⟩
      walk_at "wp"
      have hx1 : 0 ≤ (c / m / 4 + (i : Int) * st) % 26 := Int.emod_nonneg _ (by omega)
      have hx2 : (c / m / 4 + (i : Int) * st) % 26 < 26 := Int.emod_lt_of_pos _ (by omega)
      obtain ⟨ch, _, hch⟩ := atI_in (xs := (Str.ofString "abcdefghijklmnopqrstuvwxyz").cps.toList) hx1 (by show _ < (26 : Int); exact hx2)
      refine ⟨by omega, by omega, by omega, by decide, ch, hch, ⟨cs ++ [ch], ?_, ?_⟩, by omega⟩
      · rw [List.map_append, List.map_append]; rfl
      · rw [List.length_append, e]; rfl
    · rintro acc σ H' ⟨rfl, ⟨cs, rfl, e⟩, hi, _⟩ l hl
      refine ⟨_, .inl (SqL.of upd_same), ?_, ?_⟩
      · rw [List.map_map]
        have e1 : ((fun y : Str => y.length) ∘ fun c => (⟨#[c]⟩ : Str)) = fun _ => 1 := by funext c; rfl
        have e0 : (Str.ofString "").length = 0 := rfl
        rw [e1, List.map_const', List.sum_replicate_nat, List.length_map, e0]
        omega
      · rw [join_ones]
        exact q _ _ (by omega) (by omega) (hsm.trans (same_upd hl))
abbrev s_l_row : Stmt := top 23
def sp_l_row : Sp := fun vs H Q _ => ∃ (c : Int) (n : Nat) (z : List Nat), vs = [.int c, .int (n : Int), .str (tx z)] ∧ n ≤ 64 ∧ 1 ≤ z.length ∧ z.length ≤ 64 ∧ ∀ r : List Nat, r.length = n → Q (.str (tx r)) H
theorem sc_l_row : FnScope ["_law_cell_here", "_law_wide", "_law_signs_here", "_law_number", "_law_row_here", "_law_j"] ["_law_cell_here", "_law_wide", "_law_signs_here"] (defScope s_l_row) := ⟨rfl, rfl, rfl, by decide +kernel, rfl, by decide +kernel, by decide +kernel⟩
set_option maxHeartbeats 4000000 in
theorem ok_l_row {f : Addr} {fd : FuncData} (F : Fun K "_law_row" "_law_row" s_l_row f fd) (nb : NB mg) : FnOk P w K mg base CX0 1 f fd ["_law_cell_here", "_law_wide", "_law_signs_here"] sp_l_row := by
  have sc := sc_l_row
  refine F.ok sc (fun vs H Q E h => ?_) (fun cdv A outer s H vs Q E hr h => ?_)
  · obtain ⟨c, n, z, rfl, _⟩ := h; rfl
  · obtain ⟨c, n, z, rfl, hn, hz1, hz2, q⟩ := h
    refine ⟨_, (pss_cons (ps_set (i := 3) sc.nd rfl (Or.inl rfl) (pe_op op_mod (pv 0) pe_int))
      (pss_cons (ps_set (i := 4) sc.nd rfl (Or.inl rfl) pe_str)
      (pss_cons (ps_forw PassesOwn.never rfl (pi_range1 rfl nb.range (pa_cons (pv 1) pa_nil)) (pg_name (i := 5) sc.nd rfl (Or.inl rfl))
      (pss_cons (ps_set (i := 3) sc.nd rfl (Or.inl rfl) (pe_op op_mod (pe_op op_add (pe_op op_add (pe_op op_mul (pv 3) pe_int) (pe_op op_mul (pv 5) (pv 5))) pe_int) pe_int))
      (pss_one (ps_set (i := 4) sc.nd rfl (Or.inl rfl) (pe_op op_add_str (pv 4) (pe_ix ix_str (pv 2) (pe_op op_mod (pe_op op_fdivP (pv 3) pe_int) (pe_callB call_len_str rfl nb.len bt_len (pa_cons (pv 2) pa_nil))) (fun _ _ => rfl)))))))
      (pss_one (ps_ret (pv 4)))))), ?_⟩
    walk_at "wp"
    refine ⟨by omega, by omega, ?_⟩
    rw [Int.toNat_natCast]
    refine forw_range (lo := 0) (n := n) (fun j σ H' => H' = H ∧ ∃ (num : Int) (r : List Nat) (x : Option V), r.length = j ∧ σ = [some (.int c), some (.int n), some (.str (tx z)), some (.int num), some (.str (tx r)), x]) ⟨rfl, _, [], _, rfl, rfl⟩ ?_ ?_
    · rintro j σ H' hj ⟨rfl, num, r, x, hr, rfl⟩
      walk_at "wp"
      have hb : (((num * 48271 + (j : Int) * (j : Int) + 7) % 2147483647 / 5) % ((tx z).length : Int)) < ((tx z).length : Int) := Int.emod_lt_of_pos _ (by rw [tx_length]; omega)
      have hb0 : 0 ≤ (((num * 48271 + (j : Int) * (j : Int) + 7) % 2147483647 / 5) % ((tx z).length : Int)) := Int.emod_nonneg _ (by rw [tx_length]; omega)
      have hzl : (tx z).length ≤ sizeLine := by rw [tx_length]; exact line_le (by omega)
      obtain ⟨ch, _, hch⟩ := atI_in (xs := (tx z).cps.toList) hb0 (by rw [tx_list]; rw [tx_length] at hb ⊢; exact hb)
      refine ⟨by omega, hzl, by rw [tx_length]; omega, hzl, ch, hch, ?_, _, r ++ [ch], ?_, rfl, ?_⟩
      · rw [tx_length]
        show r.length + 1 ≤ sizeLine
        exact line_le (by omega)
      · rw [List.length_append, hr]; rfl
      · show (⟨r.toArray ++ #[ch]⟩ : Str) = ⟨(r ++ [ch]).toArray⟩
        simp
    · rintro σ H' ⟨rfl, num, r, x, hr, rfl⟩
      walk_at "wp"
      exact q r hr
abbrev s_l_any_sign : Stmt := top 24
def sp_l_any_sign : Sp := fun vs H Q _ => ∃ (n : Int), vs = [.int n] ∧ ∀ c : Nat, Q (.str ⟨#[c]⟩) H
theorem sc_l_any_sign : FnScope ["_law_number", "_law_some"] ["_law_number"] (defScope s_l_any_sign) := ⟨rfl, rfl, rfl, by decide +kernel, rfl, by decide +kernel, by decide +kernel⟩
set_option maxHeartbeats 4000000 in
theorem ok_l_any_sign {f : Addr} {fd : FuncData} (F : Fun K "_law_any_sign" "_law_any_sign" s_l_any_sign f fd) (nb : NB mg) : FnOk P w K mg base CX0 1 f fd ["_law_number"] sp_l_any_sign := by
  have sc := sc_l_any_sign
  refine F.ok sc (fun vs H Q E h => ?_) (fun cdv A outer s H vs Q E hr h => ?_)
  · obtain ⟨n, rfl, _⟩ := h; rfl
  · obtain ⟨n, rfl, q⟩ := h
    refine ⟨_, (pss_cons (ps_set (i := 1) sc.nd rfl (Or.inl rfl) pe_str)
      (pss_one (ps_ret (pe_ix ix_str (pv 1) (pe_op op_mod (pv 0) (pe_callB call_len_str rfl nb.len bt_len (pa_cons (pv 1) pa_nil))) (fun _ _ => rfl))))), ?_⟩
    walk_at "wp"
    generalize hS : Str.ofString _ = S
    have hl : 0 < S.length ∧ S.length ≤ 1000 := by rw [← hS]; decide +kernel
    have hn : S.cps.toList.length = S.length := by show S.cps.toList.length = S.cps.size; simp
    obtain ⟨ch, _, hch⟩ := atI_in (xs := S.cps.toList) (i := n % (S.length : Int)) (Int.emod_nonneg _ (by omega)) (by rw [hn]; exact Int.emod_lt_of_pos _ (by omega))
    exact ⟨line_le (by omega), by omega, line_le (by omega), ch, hch, q ch⟩
abbrev s_l_texts : Stmt := top 26
def sp_l_texts (K : PySem.W.Frag) : Sp := fun vs H Q _ => ∃ (b a : Addr) (p : Pic), vs = [.ref b, .ref a] ∧ H b = some (.lst (rowsV p)) ∧ SqL K H a (rowsV p) ∧ p.length ≤ 1000 ∧ ∀ H', Same H H' → Q (.bl true) H'
theorem sc_l_texts : FnScope ["_law_found", "_law_due"] ["_law_found", "_law_due"] (defScope s_l_texts) := ⟨rfl, rfl, rfl, by decide +kernel, rfl, by decide +kernel, by decide +kernel⟩
set_option maxHeartbeats 4000000 in
theorem ok_l_texts {f : Addr} {fd : FuncData} (F : Fun K "_law_texts" "_law_texts" s_l_texts f fd) (nb : NB mg) : FnOk P w K mg base CX0 1 f fd ["_law_found", "_law_due"] (sp_l_texts K) := by
  have sc := sc_l_texts
  refine F.ok sc (fun vs H Q E h => ?_) (fun cdv A outer s H vs Q E hr h => ?_)
  · obtain ⟨b, a, p, rfl, _⟩ := h; rfl
  · obtain ⟨b, a, p, rfl, hb, hS, hp, q⟩ := h
    have hu := hr.units
    refine ⟨_, (pss_cons (ps_if (PW.pt (pw_or (pt_not (pt_tb (pe_callB call_isinstance rfl nb.isinstance bt_isinstance (pa_cons (pv 0) (pa_cons (pe_bltn (v := .ty "list") rfl nb.list bt_list rfl) pa_nil))) fun _ => rfl)) (pw_or1 (pt_cmpR (op_neD hu) (pv 0) (pv 1) (nomark _)))))
      (pss_one (ps_ret pe_bl))
      pss_nil)
      (pss_one (ps_ret (pe_callB (call_all rfl) rfl nb.all bt_all (pa_cons (pe_comp ["_law_row_here"] [] rfl (CompOk.of (by kernel_rfl)) (by kernel_rfl) (pi_list (pv 0))
        (fun _ _ _ _ => (pg_name (i := 0) (by show (["_law_row_here"] : List Str).Nodup; decide +kernel) rfl (Or.inl rfl))) (fun _ _ _ _ => pif_nil) (fun _ _ _ _ => (pe_callB (call_isinstanceK (K := K) rfl) rfl nb.isinstance bt_isinstance (pa_cons (pv 0) (pa_cons (pe_bltn (v := .ty "str") rfl nb.str bt_str rfl) pa_nil))))) pa_nil))))), ?_⟩
    walk_at "wp"
    refine ⟨_, TyOf.lst hb, true, kit_same K _, ?_⟩
    rw [if_neg (by decide)]
    refine rEqD_rows (p := p) (SqL.of hb) hS ?_
    walk_at "wp"
    refine ⟨⟨_, SqL.of hb⟩, comp_list (xs := rowsV p) (fun i acc σ H' => H' = H ∧ acc = (trues i).map V.bl ∧ i ≤ p.length ∧ ∃ x, σ = [x]) ⟨rfl, rfl, Nat.zero_le _, _, rfl⟩ ?_ ?_ ?_ ?_ ?_⟩
    · rintro i acc σ H' ⟨_, rfl, hi, _⟩
      rw [trues_length]; exact line_big (by omega)
    · rintro i acc σ H' ⟨_, _, h, _⟩
      rw [rowsV_length]; exact h
    · rintro i acc σ H' ⟨rfl, _⟩
      exact SqL.of hb
    · rintro i x acc σ H' hx ⟨rfl, rfl, hi, y, rfl⟩
      have hl : i < p.length := by have := (List.getElem?_eq_some_iff.mp hx).1; rwa [rowsV_length] at this
      rw [rowsV_get hl] at hx
      cases hx
      walk_at "wp"
      exact ⟨_, TyOf.str _, true, kit_same K _, trues_succ i, hl⟩
    · rintro acc σ H' ⟨rfl, rfl, _⟩ l hl
      refine ⟨_, SqL.of upd_same, ?_⟩
      rw [trues_all]
      exact q _ (same_upd hl)
abbrev s_l_whole : Stmt := top 21
def sp_l_whole : Sp := fun vs H Q _ => ∃ (i : Int), vs = [.int i] ∧ Q (.bl true) H
theorem sc_l_whole : FnScope ["_law_found"] ["_law_found"] (defScope s_l_whole) := ⟨rfl, rfl, rfl, by decide +kernel, rfl, by decide +kernel, by decide +kernel⟩
set_option maxHeartbeats 4000000 in
theorem ok_l_whole {f : Addr} {fd : FuncData} (F : Fun K "_law_whole" "_law_whole" s_l_whole f fd) (nb : NB mg) : FnOk P w K mg base CX0 1 f fd ["_law_found"] sp_l_whole := by
  have sc := sc_l_whole
  refine F.ok sc (fun vs H Q E h => ?_) (fun cdv A outer s H vs Q E hr h => ?_)
  · obtain ⟨i, rfl, _⟩ := h; rfl
  · obtain ⟨i, rfl, q⟩ := h
    refine ⟨_, (pss_one (ps_ret (pe_and (pe_callB call_isinstance rfl nb.isinstance bt_isinstance (pa_cons (pv 0) (pa_cons (pe_bltn (v := .ty "int") rfl nb.int bt_int rfl) pa_nil))) (pe_one (pe_not (pe_callB call_isinstance rfl nb.isinstance bt_isinstance (pa_cons (pv 0) (pa_cons (pe_bltn (v := .ty "bool") rfl nb.bool bt_bool rfl) pa_nil)))))))), ?_⟩
    walk_at "wp"
    refine ⟨_, TyOf.int i, _, kit_same K _, ?_⟩
    walk_at "wp"
    refine ⟨_, TyOf.int i, _, kit_int_bool K, ?_⟩
    exact q
abbrev s_l_picture : Stmt := top 28
def sp_l_picture (K : PySem.W.Frag) : Sp := fun vs H Q _ => ∃ (a : Addr) (ns : List Int) (at0 r c : Nat) (z : List Nat), vs = [.ref a, .int (at0 : Int), .int (r : Int), .int (c : Int), .str (tx z)] ∧ SqL K H a (ns.map V.int) ∧ at0 ≤ 100 ∧ r ≤ 64 ∧ c ≤ 64 ∧ 1 ≤ z.length ∧ z.length ≤ 64 ∧
  ∀ p, rect p r c → GivesPic H p Q
theorem sc_l_picture : FnScope ["_law_script", "_law_at", "_law_rows", "_law_wide", "_law_signs_here"] ["_law_script", "_law_at", "_law_rows", "_law_wide", "_law_signs_here"] (defScope s_l_picture) := ⟨rfl, rfl, rfl, by decide +kernel, rfl, by decide +kernel, by decide +kernel⟩
set_option maxHeartbeats 4000000 in
theorem ok_l_picture {f : Addr} {fd : FuncData} (F : Fun K "_law_picture" "_law_picture" s_l_picture f fd) (nb : NB mg) (c_l_row : Cal P w K mg base CX0 1 "_law_row" ["_law_cell_here", "_law_wide", "_law_signs_here"] sp_l_row) (c_l_cell : Cal P w K mg base CX0 1 "_law_cell" ["_law_script", "_law_k"] (sp_l_cell K)) : FnOk P w K mg base CX0 2 f fd ["_law_script", "_law_at", "_law_rows", "_law_wide", "_law_signs_here"] (sp_l_picture K) := by
  have sc := sc_l_picture
  refine F.ok sc (fun vs H Q E h => ?_) (fun cdv A outer s H vs Q E hr h => ?_)
  · obtain ⟨a, ns, at0, r, c, z, rfl, _⟩ := h; rfl
  · obtain ⟨a, ns, at0, r, c, z, rfl, hS, hat, hr1, hc1, hz1, hz2, q⟩ := h
    refine ⟨_, (pss_one (ps_ret (pe_comp ["_law_k"] [0, 1, 3, 4] rfl (CompOk.of (by kernel_rfl)) (by kernel_rfl) (pi_range1 rfl nb.range (pa_cons (pv 2) pa_nil))
        (fun _ _ _ _ => (pg_name (i := 0) (by show (["_law_k", "_law_script", "_law_at", "_law_wide", "_law_signs_here"] : List Str).Nodup; decide +kernel) rfl (Or.inl rfl))) (fun _ _ _ _ => pif_nil) (fun _ _ _ _ => (pe_cal c_l_row (hr.mono (by decide)) rfl pass0 (pa_cons (pe_cal c_l_cell (hr.mono (by decide)) rfl pass0 (pa_cons (pv 1) (pa_cons (pe_op op_add (pv 2) (pv 0)) pa_nil))) (pa_cons (pv 3) (pa_cons (pv 4) pa_nil)))))))), ?_⟩
    walk_at "wp"
    refine ⟨by omega, by omega, ?_⟩
    rw [Int.toNat_natCast]
    refine comp_range (lo := 0) (n := r) (fun i acc σ H' => H' = H ∧ (∃ p : Pic, acc = rowsV p ∧ rect p i c) ∧ i ≤ r ∧ ∃ x, σ = [x, some (.ref a), some (.int at0), some (.int c), some (.str (tx z))]) ⟨rfl, ⟨[], rfl, rfl, fun x hx => nomatch hx⟩, Nat.zero_le _, _, rfl⟩ ?_ ?_ ?_ ?_
    · rintro i acc σ H' ⟨_, ⟨p, rfl, hp⟩, hi, _⟩
      refine line_big ?_
      rw [rowsV_length, hp.1]
      omega
    · rintro i acc σ H' ⟨_, _, h, _⟩
      exact h
    · rintro i acc σ H' hi ⟨rfl, ⟨p, rfl, hp⟩, _, y, rfl⟩
      walk_at "wp"
      refine ⟨a, ns, at0 + i, by simp, hS, by omega, ?_⟩
      refine ⟨_, c, z, rfl, hc1, hz1, hz2, fun row hrow => ⟨rfl, ⟨p ++ [row], (rowsV_append _ _).symm, ⟨?_, ?_⟩⟩, hi⟩⟩
      · rw [List.length_append, hp.1]; rfl
      · intro x hx
        rcases List.mem_append.mp hx with h | h
        · exact hp.2 x h
        · rw [List.mem_singleton.mp h]; exact hrow
    · rintro acc σ H' ⟨rfl, ⟨p, rfl, hp⟩, _⟩ l hl
      exact q p hp l _ hl upd_same (same_upd hl)
abbrev s_shown : Stmt := top 17
theorem str_tx (x : Str) : x = tx x.cps.toList := by unfold tx; simp
theorem join_tx (p : Pic) : Txt.join (Str.ofString "/") (p.map tx) = tx (SpM.glue 47 p) := by
  have e : (Txt.join (Str.ofString "/") (p.map tx)).cps.toList = SpM.glue 47 p := by
    have h := SpM.join_glue 47 (p.map tx)
    rw [List.map_map] at h
    have e2 : ((fun y : Str => y.cps.toList) ∘ tx) = id := by funext r; exact tx_list r
    rw [e2, List.map_id] at h
    exact h
  rw [← e]
  exact str_tx _
def sp_shown (K : PySem.W.Frag) : Sp := fun vs H Q _ => ∃ (a : Addr) (p : Pic), vs = [.ref a] ∧ H a = some (.lst (rowsV p)) ∧ Small p ∧ Q (.str (tx (SpM.glue 47 p))) H
theorem sc_shown : FnScope ["picture"] ["picture"] (defScope s_shown) := ⟨rfl, rfl, rfl, by decide +kernel, rfl, by decide +kernel, by decide +kernel⟩
theorem sum_small : ∀ {p : Pic} {n : Nat}, (∀ r ∈ p, r.length ≤ n) → ((p.map tx).map fun y : Str => y.length).sum ≤ p.length * n
  | [], n, _ => by simp
  | r :: p, n, h => by
    have h1 := h r (by simp)
    have h2 := sum_small (p := p) (n := n) fun x hx => h x (by simp [hx])
    simp only [List.map_cons, List.sum_cons, tx_length, List.length_cons]
    rw [Nat.succ_mul]
    omega
set_option maxHeartbeats 4000000 in
theorem ok_shown {f : Addr} {fd : FuncData} (F : Fun K "shown" "shown" s_shown f fd) : FnOk P w K mg base CX0 1 f fd ["picture"] (sp_shown K) := by
  have sc := sc_shown
  refine F.ok sc (fun vs H Q E h => ?_) (fun cdv A outer s H vs Q E hr h => ?_)
  · obtain ⟨a, p, rfl, _⟩ := h; rfl
  · obtain ⟨a, p, rfl, ha, hs, q⟩ := h
    refine ⟨_, (pss_one (ps_ret (pe_bm PySem.F.plainAttrs_str PySem.F.slot_str_join PySem.F.type_str_join mt_join pe_str (pa_cons (pv 0) pa_nil)))), ?_⟩
    walk_at "wp"
    refine ⟨rfl, p.map tx, .inl (by rw [← rowsV_strs]; exact SqL.of ha), ?_, ?_⟩
    · have := sum_small hs.2
      have h1 := hs.1
      have e0 : (Str.ofString "/").length = 1 := rfl
      rw [List.length_map, e0]
      have h2 : p.length * 64 ≤ 64 * 64 := Nat.mul_le_mul_right _ h1
      omega
    · rw [join_tx]; exact q
abbrev s_read_picture : Stmt := top 18
theorem parts_small {x : List Nat} (h : x.length ≤ 200) : SmallR (SpM.parts 47 x) := by
  have := SpM.parts_len 47 x
  exact ⟨by omega, fun r hr => by have := this.1 r hr; omega⟩
def sp_read_picture (C : Addr) : Sp := fun vs H Q E => ∃ (x : List Nat) (z : Str), vs = [.str (tx x), .str z] ∧ x.length ≤ 200 ∧
  (whyOf z (SpM.parts 47 x) = none → GivesPic H (SpM.parts 47 x) Q) ∧ ∀ y, whyOf z (SpM.parts 47 x) = some y → Faulty C H y E
theorem sc_read_picture : FnScope ["text", "signs"] ["text", "signs"] (defScope s_read_picture) := ⟨rfl, rfl, rfl, by decide +kernel, rfl, by decide +kernel, by decide +kernel⟩
set_option maxHeartbeats 4000000 in
theorem ok_read_picture {f C_NoPicture : Addr} {fd : FuncData} (F : Fun K "read_picture" "read_picture" s_read_picture f fd) (c_checked : Cal P w K mg base (CX1 P w) 4 "checked" ["rows", "signs"] (sp_checked K C_NoPicture)) : FnOk P w K mg base (CX1 P w) 5 f fd ["text", "signs"] (sp_read_picture C_NoPicture) := by
  have sc := sc_read_picture
  refine F.okX sc (fun vs H Q E h => ?_) (fun cdv A outer s H vs Q E hr h => ?_)
  · obtain ⟨x, z, rfl, _⟩ := h; rfl
  · obtain ⟨x, z, rfl, hx, good, bad⟩ := h
    refine ⟨_, (pss_one (ps_ret (pe_cal (E := E) c_checked (hr.mono (by decide)) rfl (passes_up fun _ _ _ h => h) (pa_cons (pe_bm PySem.F.plainAttrs_str PySem.F.slot_str_split PySem.F.type_str_split mt_split (pv 0) (pa_cons pe_str pa_nil)) (pa_cons (pv 1) pa_nil))))), ?_⟩
    walk_at "wp"
    refine ⟨rfl, ?_⟩
    refine ⟨x, rfl, 47, rfl, by omega, fun p hp => ?_⟩
    refine ⟨p, SpM.parts 47 x, z, rfl, upd_same, parts_small hx, fun hw l H' hl h' sm => ?_, fun y hy t d H' sm ht hd => ?_⟩
    · exact good hw l H' (by rw [upd_ne (fun e => by rw [e, upd_same] at hl; cases hl)] at hl; exact hl) h' ((same_upd hp).trans sm)
    · exact bad y hy t d H' ((same_upd hp).trans sm) ht hd
end
end Q2

set_option Elab.async false
set_option linter.all false
set_option maxRecDepth 100000
namespace Q2
open PySem L2 Pic QL
local macro_rules | `(tactic| walk_at "wp") => `(tactic| simp only [tSeq, tNext, tDrop, tRet, tRetN, tIfS, tBreak, tCont, tAsg, gName, gSub, gTup, gCons, gNil, tC, tVar, tOp, tUn, tTest, tNot, tAnd, tOr, tAndV, tOrV, tNotV, tChain, tChain3, tRaise, tTryAs, tRaiseI, tTryAsO, iEnum, iEnumS, tXFld, sXSet, tCallX, iZip, rSlT, rSplit, rSplit, rCat, rAll, rLtT, tCB, tCons, tNil, tCall, tPar, tIf, tLst, tTup, rI0, rI, rU, rEq, rNe, rIxL, rIxT, rIxS, tSl, tNoPart, tPart, rSlL, rSlS, tBM, tJR, rJoin, rAppend, rIsi, rSetL, iRng1, iRng2, iList, iTup, iRev, iStr, tComp, tForw, blkSt, tNoIf,
  L2.start, List.map_cons, List.map_nil, List.length_cons, List.length_nil, List.replicate, List.cons_append, List.nil_append, List.append_nil, Nat.reduceAdd, Nat.reduceSub, List.getElem?_cons_zero, List.getElem?_cons_succ, List.set_cons_zero, List.set_cons_succ, Option.some.injEq, V.int.injEq, V.str.injEq, V.ref.injEq, V.bl.injEq, List.cons.injEq, and_true, true_and, exists_and_left, exists_eq_left', exists_eq_left, decide_eq_true_eq, Bool.not_eq_true', decide_eq_false_iff_not, cxOf, Cx.blk, scal_ii, scal_ss, scal_bb, isClsV, clsV, Option.join_some, Nat.succ_eq_add_one, Nat.zero_add, exists_const, and_assoc, exists_eq, exists_eq', CMul, CDivP, Int.reducePow, Int.reduceNeg, Int.reduceLT, or_true, true_or, reduceCtorEq, Int.zero_add, ↓reduceIte, Bool.false_eq_true, Bool.not_true, Bool.not_false, Cx.wish, Cx.nox])
section
variable {P : Program} {w : World} {K : PySem.W.Frag} {mg : Str → Option Value} {base : Heap}
theorem forw_str {g : TG} {tb : TS} {D : Ends} {σ : St} {H : Hp} {x : Str} (Pv : Nat → St → Hp → Prop) (h0 : Pv 0 σ H)
    (hs : ∀ (i : Nat) c σ H, x.cps[i]? = some c → Pv i σ H → g (.str ⟨#[c]⟩) σ H fun σ2 H2 => tb { D with nx := Pv (i + 1), ct := Pv (i + 1), bk := D.nx } σ2 H2) (hd : ∀ σ H, Pv x.cps.size σ H → D.nx σ H) : ForW (Its x) g tb D σ H := by
  refine ⟨fun i m σ H => m = x.cps.size - i ∧ i ≤ x.cps.size ∧ Pv i σ H, ⟨x.cps.size, by simp, Nat.zero_le _, h0⟩, ?_⟩
  rintro i m σ H ⟨rfl, hi, p⟩
  by_cases hlt : i < x.cps.size
  · refine .inr ⟨hlt, Pv (i + 1), fun σ' H' p' => ⟨x.cps.size - (i + 1), by omega, rfl, hlt, p'⟩, fun v H' y => ?_⟩
    obtain ⟨rfl, c, hc, rfl⟩ := y
    exact hs i c σ _ hc p
  · have e : i = x.cps.size := by omega
    subst e
    exact .inl ⟨Nat.le_refl _, hd σ H p⟩
theorem last_rows {rows : Pic} (h : rows ≠ []) : atI (rowsV rows) (-1) = some (V.str (tx (rows.getLastD []))) ∧ ixN (rowsV rows).length (-1) = some (rows.length - 1) ∧ ∀ r, (rowsV rows).set (rows.length - 1) (V.str (tx r)) = rowsV (rows.dropLast ++ [r]) := by
  have hl : 0 < rows.length := List.length_pos_iff.mpr h
  have e : ixN (rowsV rows).length (-1) = some (rows.length - 1) := by
    unfold ixN
    rw [rowsV_length, if_neg (by omega), if_pos (by omega)]
    congr 1
    omega
  refine ⟨?_, e, fun r => ?_⟩
  · unfold atI
    rw [e, Option.bind_some, rowsV_get (by omega)]
    congr 3
    rw [List.getLastD_eq_getLast?, List.getLast?_eq_some_getLast h, Option.getD_some, List.getLast_eq_getElem]
  · obtain ⟨ys, y, rfl⟩ : ∃ ys y, rows = ys ++ [y] := ⟨_, _, (List.dropLast_concat_getLast h).symm⟩
    unfold rowsV
    simp
abbrev s_l_split : Stmt := top 29
def sp_l_split : Sp := fun vs H Q _ => ∃ (x : List Nat), vs = [.str (tx x)] ∧ x.length ≤ 200 ∧ GivesPic H (SpM.parts 47 x) Q
theorem sc_l_split : FnScope ["_law_text", "_law_rows", "_law_sign"] ["_law_text"] (defScope s_l_split) := ⟨rfl, rfl, rfl, by decide +kernel, rfl, by decide +kernel, by decide +kernel⟩
set_option maxHeartbeats 4000000 in
theorem ok_l_split {f : Addr} {fd : FuncData} (F : Fun K "_law_split" "_law_split" s_l_split f fd) (nb : NB mg) : FnOk P w K mg base CX0 1 f fd ["_law_text"] sp_l_split := by
  have sc := sc_l_split
  refine F.ok sc (fun vs H Q E h => ?_) (fun cdv A outer s H vs Q E hr h => ?_)
  · obtain ⟨x, rfl, _⟩ := h; rfl
  · obtain ⟨x, rfl, hx, q⟩ := h
    refine ⟨_, (pss_cons (ps_set (i := 1) sc.nd rfl (Or.inl rfl) (pe_lst (pa_cons pe_str pa_nil)))
      (pss_cons (ps_forw PassesOwn.never rfl (pi_str (pv 0)) (pg_name (i := 2) sc.nd rfl (Or.inl rfl))
      (pss_one (ps_if (pt_cmpR op_eq (pv 2) pe_str (nomark _))
      (pss_one (ps_expr (pe_bm PySem.F.plainAttrs_list PySem.F.slot_list_append PySem.F.type_list_append mt_append (pv 1) (pa_cons pe_str pa_nil))))
      (pss_one (ps_asg (pe_op op_add_str (pe_ix ix_list (pv 1) (pe_un un_neg pe_int) (fun _ _ => rfl)) (pv 2)) (pg_sub (pv 1) (pe_un un_neg pe_int) set_list))))))
      (pss_one (ps_ret (pv 1))))), ?_⟩
    walk_at "wp"
    refine ⟨line_le (by omega), fun p hp => ?_⟩
    have foldne : ∀ y : List Nat, y.foldl (SpM.step 47) [[]] ≠ [] := fun y => (SpM.fold_spec 47 y [[]] (by simp) (by simp)).1
    have folds : ∀ y : List Nat, (∀ r ∈ y.foldl (SpM.step 47) [[]], r.length ≤ y.length) ∧ (y.foldl (SpM.step 47) [[]]).length ≤ 1 + y.length := fun y => SpM.parts_len 47 y
    refine forw_str (x := tx x) (fun i σ H' => H' = upd H p (.lst (rowsV ((x.take i).foldl (SpM.step 47) [[]]))) ∧ ∃ y, σ = [some (.str (tx x)), some (.ref p), y]) ⟨rfl, _, rfl⟩ ?_ ?_
    · rintro i c σ H' hc ⟨rfl, y, rfl⟩
      have hc' := tx_get hc
      have hi : i < x.length := (List.getElem?_eq_some_iff.mp hc').1
      have et : x.take (i + 1) = x.take i ++ [c] := by rw [List.take_add_one, hc']; rfl
      have efold : (x.take (i + 1)).foldl (SpM.step 47) [[]] = SpM.step 47 ((x.take i).foldl (SpM.step 47) [[]]) c := by rw [et, List.foldl_append]; rfl
      rw [efold]
      have hne := foldne (x.take i)
      have hsm := folds (x.take i)
      have htl : (x.take i).length ≤ 200 := by rw [List.length_take]; omega
      generalize (x.take i).foldl (SpM.step 47) [[]] = rows at hne hsm ⊢
      walk_at "wp"
      by_cases h47 : c = 47
      · subst h47
        rw [if_pos (show (⟨#[47]⟩ : Str) = Str.ofString "/" from rfl)]
        refine ⟨.inl ⟨rfl, _, SqL.of upd_same⟩, _, upd_same, by rw [rowsV_length]; exact line_big (by omega), ?_⟩
        rw [upd_upd]
        have e : SpM.step 47 rows 47 = rows ++ [[]] := by unfold SpM.step; rw [if_pos rfl]
        rw [e]
        exact congrArg (fun v => upd H p (HO.lst v)) (rowsV_append rows []).symm
      · rw [if_neg (fun h => h47 (by
          have e : ([c] : List Nat) = [47] := congrArg (fun s : Str => s.cps.toList) h
          simpa using e))]
        obtain ⟨la, li, ls⟩ := last_rows hne
        have hll : (rows.getLastD []).length ≤ 200 := by
          have hm : rows.getLastD [] ∈ rows := by
            rw [List.getLastD_eq_getLast?, List.getLast?_eq_some_getLast hne]
            exact List.getLast_mem hne
          have := hsm.1 _ hm
          omega
        refine ⟨_, SqL.of upd_same, _, la, _, rfl, by rw [tx_length]; show _ + 1 ≤ sizeLine; exact line_le (by omega), _, upd_same, _, li, ?_⟩
        rw [upd_upd]
        have ea : tx (rows.getLastD []) ++ (⟨#[c]⟩ : Str) = tx (rows.getLastD [] ++ [c]) := by show (⟨_ ++ _⟩ : Str) = ⟨_⟩; simp [tx]
        have e : SpM.step 47 rows c = rows.dropLast ++ [rows.getLastD [] ++ [c]] := by unfold SpM.step; rw [if_neg h47]
        rw [ea, ls, e]
    · rintro σ H' ⟨rfl, y, rfl⟩
      walk_at "wp"
      rw [tx_size, List.take_length]
      exact q p _ hp upd_same (same_upd hp)
end
end Q2

set_option Elab.async false
set_option linter.all false
set_option maxRecDepth 100000
namespace Q2
open PySem L2 Pic QL
local macro_rules | `(tactic| walk_at "wp") => `(tactic| simp only [tSeq, tNext, tDrop, tRet, tRetN, tIfS, tBreak, tCont, tAsg, gName, gSub, gTup, gCons, gNil, tC, tVar, tOp, tUn, tTest, tNot, tAnd, tOr, tAndV, tOrV, tNotV, tChain, tChain3, tRaise, tTryAs, tRaiseI, tTryAsO, iEnum, iEnumS, tXFld, sXSet, tCallX, iZip, rSlT, rSplit, rSplit, rCat, rAll, rLtT, tCB, tCons, tNil, tCall, tPar, tIf, tLst, tTup, rI0, rI, rU, rEq, rNe, rIxL, rIxT, rIxS, tSl, tNoPart, tPart, rSlL, rSlS, tBM, tJR, rJoin, rAppend, rIsi, rSetL, iRng1, iRng2, iList, iTup, iRev, iStr, tComp, tForw, blkSt, tNoIf,
  L2.start, List.map_cons, List.map_nil, List.length_cons, List.length_nil, List.replicate, List.cons_append, List.nil_append, List.append_nil, Nat.reduceAdd, Nat.reduceSub, List.getElem?_cons_zero, List.getElem?_cons_succ, List.set_cons_zero, List.set_cons_succ, Option.some.injEq, V.int.injEq, V.str.injEq, V.ref.injEq, V.bl.injEq, List.cons.injEq, and_true, true_and, exists_and_left, exists_eq_left', exists_eq_left, decide_eq_true_eq, Bool.not_eq_true', decide_eq_false_iff_not, cxOf, Cx.blk, scal_ii, scal_ss, scal_bb, isClsV, clsV, Option.join_some, Nat.succ_eq_add_one, Nat.zero_add, exists_const, and_assoc, exists_eq, exists_eq', CMul, CDivP, Int.reducePow, Int.reduceNeg, Int.reduceLT, or_true, true_or, reduceCtorEq, Int.zero_add, ↓reduceIte, Bool.false_eq_true, Bool.not_true, Bool.not_false, Cx.wish, Cx.nox])
section
variable {P : Program} {w : World} {K : PySem.W.Frag} {mg : Str → Option Value} {base : Heap}
abbrev s_l_spoilt : Stmt := top 30
def sp_l_spoilt : Sp := fun vs H Q _ => ∃ (x : List Nat) (c : Int), vs = [.str (tx x), .int c] ∧ x.length ≤ 90 ∧ ∀ y : List Nat, y.length ≤ 2 * x.length + 1 → Q (.str (tx y)) H
theorem sc_l_spoilt : FnScope ["_law_text", "_law_cell_here", "_law_rest", "_law_at", "_law_sign"] ["_law_text", "_law_cell_here"] (defScope s_l_spoilt) := ⟨rfl, rfl, rfl, by decide +kernel, rfl, by decide +kernel, by decide +kernel⟩
theorem slice_len (row : List Nat) (lo hi : Option Int) : ∃ r', Txt.slice (tx row) lo hi = tx r' ∧ r'.length ≤ row.length := by
  rw [slice_any]
  refine ⟨_, rfl, ?_⟩
  rw [List.length_take, List.length_drop]
  omega
theorem tx_add (r s : List Nat) : tx r ++ tx s = tx (r ++ s) := by
  show (⟨_ ++ _⟩ : Str) = ⟨_⟩
  simp [tx]
set_option maxHeartbeats 4000000 in
theorem ok_l_spoilt {f : Addr} {fd : FuncData} (F : Fun K "_law_spoilt" "_law_spoilt" s_l_spoilt f fd) (nb : NB mg) (c_l_any_sign : Cal P w K mg base CX0 1 "_law_any_sign" ["_law_number"] sp_l_any_sign) : FnOk P w K mg base CX0 2 f fd ["_law_text", "_law_cell_here"] sp_l_spoilt := by
  have sc := sc_l_spoilt
  refine F.ok sc (fun vs H Q E h => ?_) (fun cdv A outer s H vs Q E hr h => ?_)
  · obtain ⟨x, c, rfl, _⟩ := h; rfl
  · obtain ⟨x, c, rfl, hx, q⟩ := h
    refine ⟨_, (pss_cons (ps_set (i := 2) sc.nd rfl (Or.inl rfl) (pe_op op_fdivP (pv 1) pe_int))
      (pss_cons (ps_set (i := 3) sc.nd rfl (Or.inl rfl) (pe_op op_mod (pv 2) (pe_op op_add (pe_callB call_len_str rfl nb.len bt_len (pa_cons (pv 0) pa_nil)) pe_int)))
      (pss_cons (ps_set (i := 4) sc.nd rfl (Or.inl rfl) pe_str)
      (pss_cons (ps_if (pt_cmpR op_eq (pe_op op_mod (pe_op op_fdivP (pv 2) pe_int) pe_int) pe_int (nomark _))
      (pss_one (ps_set (i := 4) sc.nd rfl (Or.inl rfl) (pe_cal c_l_any_sign (hr.mono (by decide)) rfl pass0 (pa_cons (pe_op op_fdivP (pv 2) pe_int) pa_nil))))
      pss_nil)
      (pss_cons (ps_if (pt_cmpR op_eq (pe_op op_mod (pv 1) pe_int) pe_int (nomark _))
      (pss_one (ps_ret (pe_op op_add_str (pe_op op_add_str (pe_slice sl_str (pv 0) po_none (po_some (pv 3))) (pv 4)) (pe_slice sl_str (pv 0) (po_some (pv 3)) po_none))))
      pss_nil)
      (pss_cons (ps_if (pt_cmpR op_eq (pe_op op_mod (pv 1) pe_int) pe_int (nomark _))
      (pss_one (ps_ret (pe_op op_add_str (pe_slice sl_str (pv 0) po_none (po_some (pv 3))) (pe_slice sl_str (pv 0) (po_some (pe_op op_add (pv 3) pe_int)) po_none))))
      pss_nil)
      (pss_cons (ps_if (pt_cmpR op_eq (pe_op op_mod (pv 1) pe_int) pe_int (nomark _))
      (pss_one (ps_ret (pe_op op_add_str (pe_op op_add_str (pe_slice sl_str (pv 0) po_none (po_some (pv 3))) (pv 4)) (pe_slice sl_str (pv 0) (po_some (pe_op op_add (pv 3) pe_int)) po_none))))
      pss_nil)
      (pss_one (ps_ret (pv 0)))))))))), ?_⟩
    walk_at "wp"
    have hzx : (tx x).length ≤ sizeLine := by rw [tx_length]; exact line_le (by omega)
    refine ⟨hzx, by omega, ?_⟩
    generalize c / 4 % (((tx x).length : Int) + 1) = j
    obtain ⟨r1, e1, l1⟩ := slice_len x none (some j)
    obtain ⟨r2, e2, l2⟩ := slice_len x (some j) none
    obtain ⟨r3, e3, l3⟩ := slice_len x (some (j + 1)) none
    simp only [e1, e2, e3]
    have es : Str.ofString "/" = tx [47] := rfl
    split
    · refine ⟨_, rfl, fun ch => ?_⟩
      have ec : (⟨#[ch]⟩ : Str) = tx [ch] := rfl
      dsimp only
      rw [ec]
      split
      · refine ⟨hzx, _, rfl, ?_⟩
        simp only [tx_add, tx_length, List.length_append, List.length_cons, List.length_nil]
        exact ⟨line_le (by omega), line_le (by omega), line_le (by omega), q _ (by simp only [List.length_append, List.length_cons, List.length_nil]; omega)⟩
      · split
        · simp only [tx_add, tx_length, List.length_append, List.length_cons, List.length_nil]
          exact ⟨line_le (by omega), line_le (by omega), line_le (by omega), q _ (by simp only [List.length_append]; omega)⟩
        · split
          · refine ⟨hzx, _, rfl, ?_⟩
            simp only [tx_add, tx_length, List.length_append, List.length_cons, List.length_nil]
            exact ⟨line_le (by omega), line_le (by omega), line_le (by omega), q _ (by simp only [List.length_append, List.length_cons, List.length_nil]; omega)⟩
          · exact q _ (by omega)
    · rw [es]
      simp only [tx_add, tx_length, List.length_append, List.length_cons, List.length_nil]
      split
      · exact ⟨line_le (by omega), line_le (by omega), line_le (by omega), line_le (by omega), q _ (by simp only [List.length_append, List.length_cons, List.length_nil]; omega)⟩
      · split
        · exact ⟨line_le (by omega), line_le (by omega), line_le (by omega), q _ (by simp only [List.length_append]; omega)⟩
        · split
          · exact ⟨line_le (by omega), line_le (by omega), line_le (by omega), line_le (by omega), q _ (by simp only [List.length_append, List.length_cons, List.length_nil]; omega)⟩
          · exact q _ (by omega)
end
end Q2

set_option Elab.async false
set_option linter.all false
set_option maxRecDepth 100000
namespace Q2
open PySem L2 Pic QL
local macro_rules | `(tactic| walk_at "wp") => `(tactic| simp only [tSeq, tNext, tDrop, tRet, tRetN, tIfS, tBreak, tCont, tAsg, gName, gSub, gTup, gCons, gNil, tC, tVar, tOp, tUn, tTest, tNot, tAnd, tOr, tAndV, tOrV, tNotV, tChain, tChain3, tRaise, tTryAs, tRaiseI, tTryAsO, iEnum, iEnumS, tXFld, sXSet, tCallX, iZip, rSlT, rSplit, rSplit, rCat, rAll, rLtT, tCB, tCons, tNil, tCall, tPar, tIf, tLst, tTup, rI0, rI, rU, rEq, rNe, rIxL, rIxT, rIxS, tSl, tNoPart, tPart, rSlL, rSlS, tBM, tJR, rJoin, rAppend, rIsi, rSetL, iRng1, iRng2, iList, iTup, iRev, iStr, tComp, tForw, blkSt, tNoIf,
  L2.start, List.map_cons, List.map_nil, List.length_cons, List.length_nil, List.replicate, List.cons_append, List.nil_append, List.append_nil, Nat.reduceAdd, Nat.reduceSub, List.getElem?_cons_zero, List.getElem?_cons_succ, List.set_cons_zero, List.set_cons_succ, Option.some.injEq, V.int.injEq, V.str.injEq, V.ref.injEq, V.bl.injEq, List.cons.injEq, and_true, true_and, exists_and_left, exists_eq_left', exists_eq_left, decide_eq_true_eq, Bool.not_eq_true', decide_eq_false_iff_not, cxOf, Cx.blk, scal_ii, scal_ss, scal_bb, isClsV, clsV, Option.join_some, Nat.succ_eq_add_one, Nat.zero_add, exists_const, and_assoc, exists_eq, exists_eq', CMul, CDivP, Int.reducePow, Int.reduceNeg, Int.reduceLT, or_true, true_or, reduceCtorEq, Int.zero_add, ↓reduceIte, Bool.false_eq_true, Bool.not_true, Bool.not_false, Cx.wish, Cx.nox])
section
variable {P : Program} {w : World} {K : PySem.W.Frag} {mg : Str → Option Value} {base : Heap}
abbrev s_l_why : Stmt := top 25
def sp_l_why (K : PySem.W.Frag) : Sp := fun vs H Q _ => ∃ (a : Addr) (rows : Pic) (z : Str), vs = [.ref a, .str z] ∧ H a = some (.lst (rowsV rows)) ∧ SmallR rows ∧
  (whyOf z rows = none → ∀ H' : Hp, Same H H' → Q .non H') ∧ ∀ y, whyOf z rows = some y → ∀ (t : Addr) (H' : Hp), Same H H' → H' t = some (.tup (wyV y)) → Q (.ref t) H'
theorem sc_l_why : FnScope ["_law_rows", "_law_signs_here", "_law_k", "_law_row_here", "_law_j", "_law_sign"] ["_law_rows", "_law_signs_here"] (defScope s_l_why) := ⟨rfl, rfl, rfl, by decide +kernel, rfl, by decide +kernel, by decide +kernel⟩
set_option maxHeartbeats 4000000 in
theorem ok_l_why {f : Addr} {fd : FuncData} (F : Fun K "_law_why" "_law_why" s_l_why f fd) (nb : NB mg) : FnOk P w K mg base CX0 1 f fd ["_law_rows", "_law_signs_here"] (sp_l_why K) := by
  have sc := sc_l_why
  refine F.ok sc (fun vs H Q E h => ?_) (fun cdv A outer s H vs Q E hr h => ?_)
  · obtain ⟨a, rows, z, rfl, _⟩ := h; rfl
  · obtain ⟨a, rows, z, rfl, ha, ⟨hs1, hs2⟩, good, bad⟩ := h
    refine ⟨_, (pss_cons (ps_if (PW.pt (pw_or (pt_cmpR op_lt (pe_callB call_lenL rfl nb.len bt_len (pa_cons (pv 0) pa_nil)) pe_int (nomark _)) (pw_or1 (pt_cmpR op_gt (pe_callB call_lenL rfl nb.len bt_len (pa_cons (pv 0) pa_nil)) pe_int (nomark _)))))
      (pss_one (ps_ret (pe_tup (pa_cons pe_str (pa_cons (pe_callB call_lenL rfl nb.len bt_len (pa_cons (pv 0) pa_nil)) pa_nil)))))
      pss_nil)
      (pss_cons (ps_forw PassesOwn.never rfl (pi_enum rfl nb.enumerate (pa_cons (pv 0) pa_nil)) (pg_tup (n := 2) rfl (pgs_cons (pg_name (i := 2) sc.nd rfl (Or.inl rfl)) (pgs_cons (pg_name (i := 3) sc.nd rfl (Or.inl rfl)) pgs_nil)))
      (pss_cons (ps_if (PW.pt (pw_or (pt_cmpR op_lt (pe_callB call_len_str rfl nb.len bt_len (pa_cons (pv 3) pa_nil)) pe_int (nomark _)) (pw_or (pt_cmpR op_gt (pe_callB call_len_str rfl nb.len bt_len (pa_cons (pv 3) pa_nil)) pe_int (nomark _)) (pw_or1 (pt_cmpR op_ne (pe_callB call_len_str rfl nb.len bt_len (pa_cons (pv 3) pa_nil)) (pe_callB call_len_str rfl nb.len bt_len (pa_cons (pe_ix ix_list (pv 0) pe_int (fun _ _ => rfl)) pa_nil)) (nomark _))))))
      (pss_one (ps_ret (pe_tup (pa_cons pe_str (pa_cons (pv 2) pa_nil)))))
      pss_nil)
      (pss_one (ps_forw PassesOwn.never rfl (pi_enumS rfl nb.enumerate (pa_cons (pv 3) pa_nil)) (pg_tup (n := 2) rfl (pgs_cons (pg_name (i := 4) sc.nd rfl (Or.inl rfl)) (pgs_cons (pg_name (i := 5) sc.nd rfl (Or.inl rfl)) pgs_nil)))
      (pss_one (ps_if (pt_cmpR op_notin_str (pv 5) (pv 1) (by with_unfolding_all rfl))
      (pss_one (ps_ret (pe_tup (pa_cons pe_str (pa_cons (pv 2) (pa_cons (pv 4) pa_nil))))))
      pss_nil))))))
      (pss_one (ps_ret pe_non)))), ?_⟩
    walk_at "wp"
    have tupw : ∀ (H' : Hp) (y : Str × List Int), Same H H' → whyOf z rows = some y → ∀ p, H' p = none → Q (.ref p) (upd H' p (.tup (wyV y))) :=
      fun H' y sm hy p hp => bad y hy p _ (sm.trans (same_upd hp)) upd_same
    refine ⟨_, SqL.of ha, ?_⟩
    rw [rowsV_length]
    by_cases h0 : (rows.length : Int) < 1
    · rw [if_pos h0]
      have hy : whyOf z rows = some (("rows" : Str), [(rows.length : Int)]) := by unfold whyOf; rw [if_pos (by omega)]
      refine ⟨_, SqL.of ha, line_le (by omega), ?_⟩
      rw [rowsV_length]
      exact tupw H _ (fun _ _ e => e) hy
    · rw [if_neg h0]
      refine ⟨_, SqL.of ha, ?_⟩
      rw [rowsV_length]
      by_cases h6 : 6 < (rows.length : Int)
      · rw [if_pos h6]
        have hy : whyOf z rows = some (("rows" : Str), [(rows.length : Int)]) := by unfold whyOf; rw [if_pos (by omega)]
        refine ⟨_, SqL.of ha, line_le (by omega), ?_⟩
        rw [rowsV_length]
        exact tupw H _ (fun _ _ e => e) hy
      · rw [if_neg h6]
        refine ⟨_, SqL.of ha, ?_⟩
        have hw : whyOf z rows = whyFrom z (rows.headD []).length rows 0 := by unfold whyOf; rw [if_neg (by omega)]
        refine forw_enum (xs := rowsV rows) (fun i σ H' => Same H H' ∧ whyFrom z (rows.headD []).length (rows.drop i) i = whyOf z rows ∧ ∃ x y x' y', σ = [some (.ref a), some (.str z), x, y, x', y']) ⟨fun _ _ e => e, by rw [hw]; rfl, _, _, _, _, rfl⟩ (fun i σ H' _ h => SqL.of (h.1 _ _ ha)) ?_ ?_
        · rintro i v σ H' T hv ⟨sm, hb, x, y, x', y', rfl⟩ hT
          have hi : i < rows.length := by have := (List.getElem?_eq_some_iff.mp hv).1; rwa [rowsV_length] at this
          have h00 : 0 < rows.length := by omega
          have hhead : rows.headD [] = rows[0] := by cases rows with | nil => simp at h00 | cons r rs => rfl
          rw [rowsV_get hi] at hv
          cases hv
          have hlr := hs2 _ (List.getElem_mem hi)
          have hl0 := hs2 _ (List.getElem_mem h00)
          rw [drop_get (List.getElem?_eq_getElem hi), whyFrom_cons, hhead] at hb
          have smT : Same H (upd H' T (.tup [.int (i : Int), .str (tx rows[i])])) := sm.trans (same_upd hT)
          have hTT : upd H' T (.tup [.int (i : Int), .str (tx rows[i])]) T = some (.tup [.int (i : Int), .str (tx rows[i])]) := upd_same
          generalize upd H' T (.tup [.int (i : Int), .str (tx rows[i])]) = H1 at smT hTT ⊢
          walk_at "wp"
          refine ⟨_, SqT.of hTT, rfl, _, _, rfl, _, _, rfl, rfl, ?_⟩
          have hz : ∀ r : List Nat, r.length ≤ 100000 → (tx r).length ≤ sizeLine := fun r h => by rw [tx_length]; exact line_le (by omega)
          have row : (List.length rows[i] = 0 ∨ 6 < List.length rows[i] ∨ List.length rows[i] ≠ List.length rows[0]) → (2 ≤ sizeLine ∧ ∀ p, H1 p = none → Q (.ref p) (upd H1 p (.tup (wyV (("row" : Str), [(i : Int)]))))) := fun hc => by
            rw [if_pos hc] at hb
            exact ⟨line_le (by omega), tupw H1 _ smT hb.symm⟩
          refine ⟨_, rfl, hz _ hlr, ?_⟩
          rw [tx_length]
          by_cases c1 : (List.length rows[i] : Int) < 1
          · rw [if_pos c1]; exact row (.inl (by omega))
          · rw [if_neg c1]
            refine ⟨_, rfl, hz _ hlr, ?_⟩
            rw [tx_length]
            by_cases c2 : 6 < (List.length rows[i] : Int)
            · rw [if_pos c2]; exact row (.inr (.inl (by omega)))
            · rw [if_neg c2]
              refine ⟨_, rfl, hz _ hlr, _, SqL.of (smT _ _ ha), _, atI_nat (rowsV_get h00), _, rfl, hz _ hl0, ?_⟩
              rw [tx_length, tx_length]
              by_cases c3 : (List.length rows[i] : Int) = (List.length rows[0] : Int)
              · rw [if_neg (fun h => h c3)]
                rw [if_neg (by omega)] at hb
                refine ⟨_, rfl, ?_⟩
                refine forw_enumS (x := tx rows[i]) (fun j σ H' => Same H H' ∧ badFrom z (List.drop j rows[i]) j = badFrom z rows[i] 0 ∧ ∃ x' y', σ = [some (.ref a), some (.str z), some (.int (i : Int)), some (.str (tx rows[i])), x', y']) ⟨smT, rfl, _, _, rfl⟩ ?_ ?_
                · rintro j ch σ H2 T2 hc ⟨sm2, hg, x2, y2, rfl⟩ hT2
                  rw [drop_get (tx_get hc), badFrom_cons] at hg
                  have smT2 : Same H (upd H2 T2 (.tup [.int (j : Int), .str ⟨#[ch]⟩])) := sm2.trans (same_upd hT2)
                  have hTT2 : upd H2 T2 (.tup [.int (j : Int), .str ⟨#[ch]⟩]) T2 = some (.tup [.int (j : Int), .str ⟨#[ch]⟩]) := upd_same
                  generalize upd H2 T2 (.tup [.int (j : Int), .str ⟨#[ch]⟩]) = H3 at smT2 hTT2 ⊢
                  walk_at "wp"
                  refine ⟨_, SqT.of hTT2, rfl, _, _, rfl, _, _, rfl, rfl, _, rfl, ?_⟩
                  show (if inT z ch = false then _ else _)
                  cases hin : inT z ch
                  · rw [if_pos rfl]
                    rw [hin, if_neg (by decide)] at hg
                    rw [← hg] at hb
                    exact ⟨line_le (by omega), tupw H3 _ smT2 hb.symm⟩
                  · rw [if_neg (by decide)]
                    rw [hin, if_pos rfl] at hg
                    exact ⟨smT2, hg⟩
                · rintro σ H2 ⟨sm2, hg, x2, y2, rfl⟩
                  rw [tx_size, List.drop_of_length_le (Nat.le_refl _), badFrom_nil] at hg
                  rw [← hg] at hb
                  exact ⟨sm2, by rw [hhead]; exact hb, _, _, _, _, rfl⟩
              · rw [if_pos c3]; exact row (.inr (.inr (by omega)))
        · rintro σ H' ⟨sm, hb, x, y, x', y', rfl⟩
          walk_at "wp"
          rw [rowsV_length, List.drop_of_length_le (Nat.le_refl _)] at hb
          exact good hb.symm _ sm
end
end Q2

set_option Elab.async false
set_option linter.all false
set_option maxRecDepth 100000
namespace Q2
open PySem L2 Pic QL
local macro_rules | `(tactic| walk_at "wp") => `(tactic| simp only [tSeq, tNext, tDrop, tRet, tRetN, tIfS, tBreak, tCont, tAsg, gName, gSub, gTup, gCons, gNil, tC, tVar, tOp, tUn, tTest, tNot, tAnd, tOr, tAndV, tOrV, tNotV, tChain, tChain3, tRaise, tTryAs, tRaiseI, tTryAsO, iEnum, iEnumS, tXFld, sXSet, tCallX, iZip, rSlT, rSplit, rSplit, rCat, rAll, rLtT, tCB, tCons, tNil, tCall, tPar, tIf, tLst, tTup, rI0, rI, rU, rEq, rNe, rIxL, rIxT, rIxS, tSl, tNoPart, tPart, rSlL, rSlS, tBM, tJR, rJoin, rAppend, rIsi, rSetL, iRng1, iRng2, iList, iTup, iRev, iStr, tComp, tForw, blkSt, tNoIf,
  L2.start, List.map_cons, List.map_nil, List.length_cons, List.length_nil, List.replicate, List.cons_append, List.nil_append, List.append_nil, Nat.reduceAdd, Nat.reduceSub, List.getElem?_cons_zero, List.getElem?_cons_succ, List.set_cons_zero, List.set_cons_succ, Option.some.injEq, V.int.injEq, V.str.injEq, V.ref.injEq, V.bl.injEq, List.cons.injEq, and_true, true_and, exists_and_left, exists_eq_left', exists_eq_left, decide_eq_true_eq, Bool.not_eq_true', decide_eq_false_iff_not, cxOf, Cx.blk, scal_ii, scal_ss, scal_bb, isClsV, clsV, Option.join_some, Nat.succ_eq_add_one, Nat.zero_add, exists_const, and_assoc, exists_eq, exists_eq', CMul, CDivP, Int.reducePow, Int.reduceNeg, Int.reduceLT, or_true, true_or, reduceCtorEq, Int.zero_add, ↓reduceIte, Bool.false_eq_true, Bool.not_true, Bool.not_false, Cx.wish, Cx.nox])
section
variable {P : Program} {w : World} {K : PySem.W.Frag} {mg : Str → Option Value} {base : Heap}
abbrev s_l_why_of : Stmt := top 27
/-- a caught exception with its why -/
def Caught (H : Hp) (e C : Addr) (y : Str × List Int) (t : Addr) : Prop := ∃ d, H e = some (xo e (.ref C) (some d)) ∧ H d = some (.xd [("why", .ref t)]) ∧ H t = some (.tup (wyV y)) ∧ y.2.length ≤ 10 ∧ 0 < y.2.length
def sp_l_why_of (C : Addr) : Sp := fun vs H Q _ => ∃ (e t : Addr) (y : Str × List Int), vs = [.ref e] ∧ Caught H e C y t ∧ ∀ H', Same H H' → Q (.ref t) H'
theorem sc_l_why_of : FnScope ["_law_error"] ["_law_error"] (defScope s_l_why_of) := ⟨rfl, rfl, rfl, by decide +kernel, rfl, by decide +kernel, by decide +kernel⟩
set_option maxHeartbeats 4000000 in
theorem ok_l_why_of {f C_NoPicture C_NoFit C_NoGrammar C_NoName C_NoNumber C_NoRow C_NoRule C_NoText C_NoTree C_NoWord C_TooMany : Addr} {fd : FuncData} (F : Fun K "_law_why_of" "_law_why_of" s_l_why_of f fd) (nb : NB mg) (m_NoPicture : mg "NoPicture" = some (.ref C_NoPicture)) (m_NoFit : mg "NoFit" = some (.ref C_NoFit)) (m_NoGrammar : mg "NoGrammar" = some (.ref C_NoGrammar)) (m_NoName : mg "NoName" = some (.ref C_NoName)) (m_NoNumber : mg "NoNumber" = some (.ref C_NoNumber)) (m_NoRow : mg "NoRow" = some (.ref C_NoRow)) (m_NoRule : mg "NoRule" = some (.ref C_NoRule)) (m_NoText : mg "NoText" = some (.ref C_NoText)) (m_NoTree : mg "NoTree" = some (.ref C_NoTree)) (m_NoWord : mg "NoWord" = some (.ref C_NoWord)) (m_TooMany : mg "TooMany" = some (.ref C_TooMany))
    (xt : PySem.W.XTy K C_NoPicture) (xh : PySem.W.hasDictIn K C_NoPicture = true) (xw : NoAttr K C_NoPicture "why") (k0 : PySem.W.kitOne K (.ref C_NoPicture) (.ref C_NoPicture) = some true) (k1 : PySem.W.kitOne K (.ref C_NoPicture) (.type "ValueError") = some true)
    (k2 : PySem.W.kitAny K (.ref C_NoPicture) [.ref C_NoFit, .ref C_NoGrammar, .ref C_NoName, .ref C_NoNumber, .ref C_NoRow, .ref C_NoRule, .ref C_NoText, .ref C_NoTree, .ref C_NoWord, .ref C_TooMany] = some false)
    (c_l_whole : Cal P w K mg base CX0 1 "_law_whole" ["_law_found"] sp_l_whole) : FnOk P w K mg base CX0 2 f fd ["_law_error"] (sp_l_why_of C_NoPicture) := by
  have sc := sc_l_why_of
  refine F.ok sc (fun vs H Q E h => ?_) (fun cdv A outer s H vs Q E hr h => ?_)
  · obtain ⟨e, t, y, rfl, _⟩ := h; rfl
  · obtain ⟨e, t, y, rfl, ⟨d, he, hd, ht, hn, hn0⟩, q⟩ := h
    refine ⟨_, (pss_cons (ps_if (PW.pt (pw_or (pt_not (pt_tb (pe_callB call_isinstanceY rfl nb.isinstance bt_isinstance (pa_cons (pv 0) (pa_cons (pe_glob (v := .ref _) rfl m_NoPicture rfl) pa_nil))) fun _ => rfl)) (pw_or1 (pt_not (pt_tb (pe_callB call_isinstanceY rfl nb.isinstance bt_isinstance (pa_cons (pv 0) (pa_cons (pe_bltn (v := .ty "ValueError") rfl nb.ValueError bt_ValueError rfl) pa_nil))) fun _ => rfl)))))
      (pss_one (ps_ret (pe_tup (pa_cons pe_str pa_nil))))
      pss_nil)
      (pss_cons (ps_if (pt_tb (pe_callB call_isinstanceY rfl nb.isinstance bt_isinstance (pa_cons (pv 0) (pa_cons (pe_tup (pa_cons (pe_glob (v := .ref _) rfl m_NoFit rfl) (pa_cons (pe_glob (v := .ref _) rfl m_NoGrammar rfl) (pa_cons (pe_glob (v := .ref _) rfl m_NoName rfl) (pa_cons (pe_glob (v := .ref _) rfl m_NoNumber rfl) (pa_cons (pe_glob (v := .ref _) rfl m_NoRow rfl) (pa_cons (pe_glob (v := .ref _) rfl m_NoRule rfl) (pa_cons (pe_glob (v := .ref _) rfl m_NoText rfl) (pa_cons (pe_glob (v := .ref _) rfl m_NoTree rfl) (pa_cons (pe_glob (v := .ref _) rfl m_NoWord rfl) (pa_cons (pe_glob (v := .ref _) rfl m_TooMany rfl) pa_nil))))))))))) pa_nil))) fun _ => rfl)
      (pss_one (ps_ret (pe_tup (pa_cons pe_str pa_nil))))
      pss_nil)
      (pss_cons (ps_if (PW.pt (pw_or (pt_not (pt_tb (pe_callB call_isinstanceY rfl nb.isinstance bt_isinstance (pa_cons (pe_xfld (pv 0) rfl) (pa_cons (pe_bltn (v := .ty "tuple") rfl nb.tuple bt_tuple rfl) pa_nil))) fun _ => rfl)) (pw_or1 (pt_not (pt_tb (pe_callB (call_all rfl) rfl nb.all bt_all (pa_cons (pe_comp ["_law_number"] [] rfl (CompOk.of (by kernel_rfl)) (by kernel_rfl) (pi_tup (pe_slice sl_tup (pe_xfld (pv 0) rfl) (po_some pe_int) po_none))
        (fun _ _ _ _ => (pg_name (i := 0) (by show (["_law_number"] : List Str).Nodup; decide +kernel) rfl (Or.inl rfl))) (fun _ _ _ _ => pif_nil) (fun _ _ _ _ => (pe_cal c_l_whole (hr.mono (by decide)) rfl pass0 (pa_cons (pv 0) pa_nil)))) pa_nil)) fun _ => rfl)))))
      (pss_one (ps_ret (pe_tup (pa_cons pe_str pa_nil))))
      pss_nil)
      (pss_one (ps_ret (pe_xfld (pv 0) rfl)))))), ?_⟩
    walk_at "wp"
    have xr : XRd H e C_NoPicture := .inr ⟨d, _, he, hd⟩
    refine .inr (.inl ⟨e, C_NoPicture, _, true, rfl, rfl, xr, xt, k0, true, rfl, ?_⟩)
    rw [if_neg (by decide)]
    refine .inr (.inl ⟨e, C_NoPicture, _, true, rfl, rfl, xr, xt, k1, true, rfl, ?_⟩)
    rw [if_neg (by decide)]
    refine ⟨line_le (by omega), fun p hp => ?_⟩
    have m1 : Same H (upd H p (.tup [V.ref C_NoFit, V.ref C_NoGrammar, V.ref C_NoName, V.ref C_NoNumber, V.ref C_NoRow, V.ref C_NoRule, V.ref C_NoText, V.ref C_NoTree, V.ref C_NoWord, V.ref C_TooMany])) := same_upd hp
    have e1 : upd H p (.tup [V.ref C_NoFit, V.ref C_NoGrammar, V.ref C_NoName, V.ref C_NoNumber, V.ref C_NoRow, V.ref C_NoRule, V.ref C_NoText, V.ref C_NoTree, V.ref C_NoWord, V.ref C_TooMany]) p = some (.tup [V.ref C_NoFit, V.ref C_NoGrammar, V.ref C_NoName, V.ref C_NoNumber, V.ref C_NoRow, V.ref C_NoRule, V.ref C_NoText, V.ref C_NoTree, V.ref C_NoWord, V.ref C_TooMany]) := upd_same
    generalize upd H p (.tup [V.ref C_NoFit, V.ref C_NoGrammar, V.ref C_NoName, V.ref C_NoNumber, V.ref C_NoRow, V.ref C_NoRule, V.ref C_NoText, V.ref C_NoTree, V.ref C_NoWord, V.ref C_TooMany]) = H1 at m1 e1 ⊢
    have he1 := m1 _ _ he
    have hd1 := m1 _ _ hd
    have ht1 := m1 _ _ ht
    refine .inr (.inr ⟨e, C_NoPicture, p, _, false, rfl, e1, by simp [isClsV], .inr ⟨d, _, he1, hd1⟩, xt, k2, false, rfl, ?_⟩)
    rw [if_neg (by decide)]
    refine ⟨C_NoPicture, d, he1, _, hd1, V.ref t, rfl, xt, xh, xw, ?_⟩
    refine .inl ⟨_, _, _, _, rfl, rfl, TyOf.tup ht1, kit_same K _, true, rfl, ?_⟩
    rw [if_neg (by decide)]
    refine ⟨C_NoPicture, d, he1, _, hd1, V.ref t, rfl, xt, xh, xw, ?_⟩
    refine ⟨t, rfl, _, SqT.of ht1, ?_, fun p2 hp2 => ?_⟩
    · rintro ⟨h, _⟩
      have e : (wyV y).length = y.2.length + 1 := by unfold wyV; simp
      rw [e, show (1 : Int) = ((1 : Nat) : Int) from rfl, HT.sIx_nat] at h
      omega
    · have ec : cutV (wyV y) (some 1) none = y.2.map V.int := by
        unfold cutV
        rw [show (1 : Int) = ((1 : Nat) : Int) from rfl, HT.sIx_nat, HT.sIx_none]
        have e : (wyV y).length = y.2.length + 1 := by unfold wyV; simp
        rw [e, Nat.min_eq_left (by omega)]
        unfold wyV
        rw [List.drop_one, List.tail_cons, List.take_of_length_le (by simp)]
      rw [ec]
      have m2 : Same H1 (upd H1 p2 (.tup (y.2.map V.int))) := same_upd hp2
      have e2 : upd H1 p2 (.tup (y.2.map V.int)) p2 = some (.tup (y.2.map V.int)) := upd_same
      generalize upd H1 p2 (.tup (y.2.map V.int)) = H2 at m2 e2 ⊢
      refine ⟨⟨_, SqT.of e2⟩, comp_tup (xs := y.2.map V.int) (fun i acc σ H' => H' = H2 ∧ acc = (trues i).map V.bl ∧ i ≤ y.2.length ∧ ∃ x, σ = [x]) ⟨rfl, rfl, Nat.zero_le _, _, rfl⟩ ?_ ?_ ?_ ?_ ?_⟩
      · rintro i acc σ H' ⟨_, rfl, hi, _⟩
        rw [trues_length]; exact line_big (by omega)
      · rintro i acc σ H' ⟨_, _, h, _⟩
        rw [List.length_map]; exact h
      · rintro i acc σ H' ⟨rfl, _⟩
        exact SqT.of e2
      · rintro i x acc σ H' hx ⟨rfl, rfl, hi, y1, rfl⟩
        have hl : i < y.2.length := by have := (List.getElem?_eq_some_iff.mp hx).1; rwa [List.length_map] at this
        rw [List.getElem?_map, List.getElem?_eq_getElem hl] at hx
        cases hx
        walk_at "wp"
        exact ⟨_, rfl, rfl, trues_succ i, hl⟩
      · rintro acc σ H' ⟨rfl, rfl, _⟩ l hl
        refine ⟨_, SqL.of upd_same, ?_⟩
        rw [trues_all, if_neg (by decide)]
        have m3 : Same H' (upd H' l (.lst ((trues (List.length (y.2.map V.int))).map V.bl))) := same_upd hl
        exact ⟨C_NoPicture, d, m3 _ _ (m2 _ _ he1), _, m3 _ _ (m2 _ _ hd1), V.ref t, rfl, xt, xh, xw, q _ ((m1.trans m2).trans m3)⟩
end
end Q2

set_option Elab.async false
set_option linter.all false
set_option maxRecDepth 100000
namespace Q2
open PySem L2 Pic QL
local macro_rules | `(tactic| walk_at "wp") => `(tactic| simp only [tSeq, tNext, tDrop, tRet, tRetN, tIfS, tBreak, tCont, tAsg, gName, gSub, gTup, gCons, gNil, tC, tVar, tOp, tUn, tTest, tNot, tAnd, tOr, tAndV, tOrV, tNotV, tChain, tChain3, tRaise, tTryAs, tRaiseI, tTryAsO, iEnum, iEnumS, tXFld, sXSet, tCallX, iZip, rSlT, rSplit, rSplit, rCat, rAll, rLtT, tCB, tCons, tNil, tCall, tPar, tIf, tLst, tTup, rI0, rI, rU, rEq, rNe, rIxL, rIxT, rIxS, tSl, tNoPart, tPart, rSlL, rSlS, tBM, tJR, rJoin, rAppend, rIsi, rSetL, iRng1, iRng2, iList, iTup, iRev, iStr, tComp, tForw, blkSt, tNoIf,
  L2.start, List.map_cons, List.map_nil, List.length_cons, List.length_nil, List.replicate, List.cons_append, List.nil_append, List.append_nil, Nat.reduceAdd, Nat.reduceSub, List.getElem?_cons_zero, List.getElem?_cons_succ, List.set_cons_zero, List.set_cons_succ, Option.some.injEq, V.int.injEq, V.str.injEq, V.ref.injEq, V.bl.injEq, List.cons.injEq, and_true, true_and, exists_and_left, exists_eq_left', exists_eq_left, decide_eq_true_eq, Bool.not_eq_true', decide_eq_false_iff_not, cxOf, Cx.blk, scal_ii, scal_ss, scal_bb, isClsV, clsV, Option.join_some, Nat.succ_eq_add_one, Nat.zero_add, exists_const, and_assoc, exists_eq, exists_eq', CMul, CDivP, Int.reducePow, Int.reduceNeg, Int.reduceLT, or_true, true_or, reduceCtorEq, Int.zero_add, ↓reduceIte, Bool.false_eq_true, Bool.not_true, Bool.not_false, Cx.wish, Cx.nox])
section
variable {P : Program} {w : World} {K : PySem.W.Frag} {mg : Str → Option Value} {base : Heap}
abbrev s_l_read : Stmt := top 31
def sp_l_read : Sp := fun vs H Q _ => ∃ (x : List Nat) (z : Str), vs = [.str (tx x), .str z] ∧ x.length ≤ 200 ∧ ∀ H', Same H H' → Q (.bl true) H'
theorem sc_l_read : FnScope ["_law_text", "_law_signs_here", "_law_rows", "_law_due", "_law_found", "_law_error", "e"] ["_law_text", "_law_signs_here"] (defScope s_l_read) := ⟨rfl, rfl, rfl, by decide +kernel, rfl, by decide +kernel, by decide +kernel⟩
set_option maxHeartbeats 4000000 in
theorem ok_l_read {f C_NoPicture C_QuiltError : Addr} {fd : FuncData} {bmD bmP : List Value} {nD nP : String} (F : Fun K "_law_read" "_law_read" s_l_read f fd) (nb : NB mg) (m_QuiltError : mg "QuiltError" = some (.ref C_QuiltError))
    (xc_QuiltError : XCls K C_QuiltError bmD nD) (hbase : bmD.contains (.type "BaseException") = true) (xo_NoPicture : XOut K C_NoPicture bmP nP) (und : Under K C_NoPicture C_QuiltError)
    (c_read_picture : Cal P w K mg base (CX1 P w) 5 "read_picture" ["text", "signs"] (sp_read_picture C_NoPicture)) (c_l_split : Cal P w K mg base CX0 1 "_law_split" ["_law_text"] sp_l_split) (c_l_why : Cal P w K mg base CX0 1 "_law_why" ["_law_rows", "_law_signs_here"] (sp_l_why K)) (c_l_why_of : Cal P w K mg base CX0 2 "_law_why_of" ["_law_error"] (sp_l_why_of C_NoPicture)) (c_l_texts : Cal P w K mg base CX0 1 "_law_texts" ["_law_found", "_law_due"] (sp_l_texts K)) : FnOk P w K mg base CX0 6 f fd ["_law_text", "_law_signs_here"] sp_l_read := by
  have sc := sc_l_read
  refine F.ok sc (fun vs H Q E h => ?_) (fun cdv A outer s H vs Q E hr h => ?_)
  · obtain ⟨x, z, rfl, _⟩ := h; rfl
  · obtain ⟨x, z, rfl, hx, q⟩ := h
    have hu := hr.units
    refine ⟨_, (pss_cons (ps_set (i := 2) sc.nd rfl (Or.inl rfl) (pe_cal c_l_split (hr.mono (by decide)) rfl pass0 (pa_cons (pv 0) pa_nil)))
      (pss_cons (ps_set (i := 3) sc.nd rfl (Or.inl rfl) (pe_cal c_l_why (hr.mono (by decide)) rfl pass0 (pa_cons (pv 2) (pa_cons (pv 1) pa_nil))))
      (pss_cons (ps_set (i := 4) sc.nd rfl (Or.inl rfl) pe_non)
      (pss_cons (ps_set (i := 5) sc.nd rfl (Or.inl rfl) pe_non)
      (pss_cons (ps_try_asO (i := 6) sc.nd rfl rfl (px_cal c_read_picture (hr.mono (by decide)) rfl (pa_cons (pv 0) (pa_cons (pv 1) pa_nil))) (pg_name (i := 4) sc.nd rfl (Or.inl rfl)) rfl rfl rfl m_QuiltError xc_QuiltError hbase (fun ea => (pss_one (ps_set (i := 5) sc.nd rfl (Or.inl rfl) (pv 6)))))
      (pss_cons (ps_if (pt_cmpR op_isN (pv 3) pe_non (nomark _))
      (pss_one (ps_ret (pe_and (pe_cmpR op_isN (pv 5) pe_non (nomark _)) (pe_one (pe_cal c_l_texts (hr.mono (by decide)) rfl pass0 (pa_cons (pv 4) (pa_cons (pv 2) pa_nil)))))))
      pss_nil)
      (pss_one (ps_ret (pe_and (pe_cmpR op_isN (pv 4) pe_non (nomark _)) (pe_one (pe_cmpR (op_eqD hu) (pe_cal c_l_why_of (hr.mono (by decide)) rfl pass0 (pa_cons (pv 5) pa_nil)) (pv 3) (nomark _)))))))))))), ?_⟩
    walk_at "wp"
    have hsm := parts_small hx
    refine ⟨x, rfl, hx, fun l H1 hl h1 sm1 => ?_⟩
    dsimp only
    refine ⟨l, SpM.parts 47 x, z, rfl, h1, hsm, fun hw H2 sm2 => ?_, fun y hy t H2 sm2 ht => ?_⟩
    · dsimp only
      refine ⟨x, z, rfl, hx, fun _ g H3 hg h3 sm3 => ?_, fun y hy => ?_⟩
      · dsimp only
        rw [if_pos rfl]
        exact ⟨g, l, SpM.parts 47 x, rfl, h3, SqL.of (sm3 _ _ (sm2 _ _ h1)), hsm.1, fun H4 sm4 => q _ (((sm1.trans sm2).trans sm3).trans sm4)⟩
      · rw [hw] at hy; cases hy
    · dsimp only
      refine ⟨x, z, rfl, hx, fun hw => ?_, fun y' hy' t' d H3 sm3 ht' hd' => ?_⟩
      · rw [hw] at hy; cases hy
      · rw [hy] at hy'
        cases hy'
        refine ⟨C_NoPicture, rfl, _, _, xo_NoPicture, und, fun ea hea => ?_⟩
        rw [if_neg (show ¬(V.ref t = V.non) from fun z => by cases z)]
        have m4 : Same H3 (upd H3 ea (xo ea (.ref C_NoPicture) (some d))) := same_upd hea
        have hle := whyOf_len hy
        refine ⟨ea, t', y, rfl, ⟨d, upd_same, m4 _ _ hd', m4 _ _ ht', by omega, hle.1⟩, fun H5 sm5 => ?_⟩
        dsimp only
        exact .inl ⟨wyD y, deps_wy y, .inr ⟨rd_wy (sm5 _ _ (m4 _ _ ht')), rd_wy (sm5 _ _ (m4 _ _ (sm3 _ _ ht)))⟩, q _ ((((sm1.trans sm2).trans sm3).trans m4).trans sm5)⟩
end
end Q2

set_option Elab.async false
set_option linter.all false
set_option maxRecDepth 100000
namespace Q2
open PySem L2 Pic QL
local macro_rules | `(tactic| walk_at "wp") => `(tactic| simp only [tSeq, tNext, tDrop, tRet, tRetN, tIfS, tBreak, tCont, tAsg, gName, gSub, gTup, gCons, gNil, tC, tVar, tOp, tUn, tTest, tNot, tAnd, tOr, tAndV, tOrV, tNotV, tChain, tChain3, tRaise, tTryAs, tRaiseI, tTryAsO, iEnum, iEnumS, tXFld, sXSet, tCallX, iZip, rSlT, rSplit, rSplit, rCat, rAll, rLtT, tCB, tCons, tNil, tCall, tPar, tIf, tLst, tTup, rI0, rI, rU, rEq, rNe, rIxL, rIxT, rIxS, tSl, tNoPart, tPart, rSlL, rSlS, tBM, tJR, rJoin, rAppend, rIsi, rSetL, iRng1, iRng2, iList, iTup, iRev, iStr, tComp, tForw, blkSt, tNoIf,
  L2.start, List.map_cons, List.map_nil, List.length_cons, List.length_nil, List.replicate, List.cons_append, List.nil_append, List.append_nil, Nat.reduceAdd, Nat.reduceSub, List.getElem?_cons_zero, List.getElem?_cons_succ, List.set_cons_zero, List.set_cons_succ, Option.some.injEq, V.int.injEq, V.str.injEq, V.ref.injEq, V.bl.injEq, List.cons.injEq, and_true, true_and, exists_and_left, exists_eq_left', exists_eq_left, decide_eq_true_eq, Bool.not_eq_true', decide_eq_false_iff_not, cxOf, Cx.blk, scal_ii, scal_ss, scal_bb, isClsV, clsV, Option.join_some, Nat.succ_eq_add_one, Nat.zero_add, exists_const, and_assoc, exists_eq, exists_eq', CMul, CDivP, Int.reducePow, Int.reduceNeg, Int.reduceLT, or_true, true_or, reduceCtorEq, Int.zero_add, ↓reduceIte, Bool.false_eq_true, Bool.not_true, Bool.not_false, Cx.wish, Cx.nox])
section
variable {P : Program} {w : World} {K : PySem.W.Frag} {mg : Str → Option Value} {base : Heap}
abbrev s_law : Stmt := top 32
def sp_law (K : PySem.W.Frag) : Sp := fun vs H Q _ => ∃ (a : Addr) (ns : List Int), vs = [.ref a] ∧ SqL K H a (ns.map V.int) ∧ ∀ H', Q (.bl true) H'
theorem sc_law : FnScope ["_law_script", "_law_signs_here", "_law_size", "_law_picture_here", "_law_text", "_law_row_here", "_law_handed", "_law_found", "_law_spoilt_here"] ["_law_script"] (defScope s_law) := ⟨rfl, rfl, rfl, by decide +kernel, rfl, by decide +kernel, by decide +kernel⟩
theorem flat_len : ∀ {p : Pic} {n : Nat}, (∀ r ∈ p, r.length ≤ n) → (p.flatMap fun r => r ++ [47]).length ≤ p.length * (n + 1)
  | [], n, _ => by simp
  | r :: p, n, h => by
    have h1 := h r (by simp)
    have h2 := flat_len (p := p) (n := n) fun x hx => h x (by simp [hx])
    rw [List.flatMap_cons, List.length_append, List.length_append, List.length_cons (as := p), Nat.succ_mul]
    simp only [List.length_cons, List.length_nil]
    omega
theorem slice_last (x : List Nat) (c : Nat) : Txt.slice (tx (x ++ [c])) none (some (-1)) = tx x := by
  rw [slice_any]
  congr 1
  have e : HT.sIx (x ++ [c]).length (x ++ [c]).length (some (-1)) = x.length := by
    unfold HT.sIx
    dsimp only
    rw [if_pos (by omega), List.length_append, List.length_singleton]
    omega
  rw [e, HT.sIx_none, List.drop_zero, Nat.sub_zero, List.take_left]
set_option maxHeartbeats 4000000 in
theorem ok_law {f : Addr} {fd : FuncData} (F : Fun K "law" "law" s_law f fd) (nb : NB mg) (c_l_cell : Cal P w K mg base CX0 1 "_law_cell" ["_law_script", "_law_k"] (sp_l_cell K)) (c_l_signs : Cal P w K mg base CX0 1 "_law_signs" ["_law_cell_here", "_law_most"] sp_l_signs) (c_l_picture : Cal P w K mg base CX0 2 "_law_picture" ["_law_script", "_law_at", "_law_rows", "_law_wide", "_law_signs_here"] (sp_l_picture K))
    (c_shown : Cal P w K mg base CX0 1 "shown" ["picture"] (sp_shown K)) (c_l_spoilt : Cal P w K mg base CX0 2 "_law_spoilt" ["_law_text", "_law_cell_here"] sp_l_spoilt) (c_l_read : Cal P w K mg base CX0 6 "_law_read" ["_law_text", "_law_signs_here"] sp_l_read) : FnOk P w K mg base CX0 7 f fd ["_law_script"] (sp_law K) := by
  have sc := sc_law
  refine F.ok sc (fun vs H Q E h => ?_) (fun cdv A outer s H vs Q E hr h => ?_)
  · obtain ⟨a, ns, rfl, _⟩ := h; rfl
  · obtain ⟨a, ns, rfl, hS, q⟩ := h
    have hu := hr.units
    refine ⟨_, (pss_cons (ps_set (i := 1) sc.nd rfl (Or.inl rfl) (pe_cal c_l_signs (hr.mono (by decide)) rfl pass0 (pa_cons (pe_cal c_l_cell (hr.mono (by decide)) rfl pass0 (pa_cons (pv 0) (pa_cons pe_int pa_nil))) (pa_cons pe_int pa_nil))))
      (pss_cons (ps_set (i := 2) sc.nd rfl (Or.inl rfl) (pe_op op_mod (pe_cal c_l_cell (hr.mono (by decide)) rfl pass0 (pa_cons (pv 0) (pa_cons pe_int pa_nil))) pe_int))
      (pss_cons (ps_set (i := 3) sc.nd rfl (Or.inl rfl) (pe_cal c_l_picture (hr.mono (by decide)) rfl pass0 (pa_cons (pv 0) (pa_cons pe_int (pa_cons (pe_op op_add pe_int (pe_op op_fdivP (pv 2) pe_int)) (pa_cons (pe_op op_add pe_int (pe_op op_mod (pv 2) pe_int)) (pa_cons (pv 1) pa_nil)))))))
      (pss_cons (ps_set (i := 4) sc.nd rfl (Or.inl rfl) pe_str)
      (pss_cons (ps_forw PassesOwn.never rfl (pi_list (pv 3)) (pg_name (i := 5) sc.nd rfl (Or.inl rfl))
      (pss_one (ps_set (i := 4) sc.nd rfl (Or.inl rfl) (pe_op op_add_str (pe_op op_add_str (pv 4) (pv 5)) pe_str))))
      (pss_cons (ps_set (i := 4) sc.nd rfl (Or.inl rfl) (pe_slice sl_str (pv 4) po_none (po_some (pe_un un_neg pe_int))))
      (pss_cons (ps_set (i := 6) sc.nd rfl (Or.inl rfl) (pe_callTy call_list_of rfl nb.list bt_list (pa_cons (pv 3) pa_nil)))
      (pss_cons (ps_set (i := 7) sc.nd rfl (Or.inl rfl) (pe_cal c_shown (hr.mono (by decide)) rfl pass0 (pa_cons (pv 6) pa_nil)))
      (pss_cons (ps_if (PW.pt (pw_or (pt_not (pt_tb (pe_callB call_isinstance rfl nb.isinstance bt_isinstance (pa_cons (pv 7) (pa_cons (pe_bltn (v := .ty "str") rfl nb.str bt_str rfl) pa_nil))) fun _ => rfl)) (pw_or (pt_cmpR op_ne (pv 7) (pv 4) (nomark _)) (pw_or (pt_cmpR (op_neD hu) (pv 6) (pv 3) (nomark _)) (pw_or1 (pt_not (pt_tb (pe_cal c_l_read (hr.mono (by decide)) rfl pass0 (pa_cons (pv 4) (pa_cons (pv 1) pa_nil))) fun _ => rfl)))))))
      (pss_one (ps_ret pe_bl))
      pss_nil)
      (pss_cons (ps_set (i := 8) sc.nd rfl (Or.inl rfl) (pe_cal c_l_spoilt (hr.mono (by decide)) rfl pass0 (pa_cons (pe_cal c_l_spoilt (hr.mono (by decide)) rfl pass0 (pa_cons (pv 4) (pa_cons (pe_cal c_l_cell (hr.mono (by decide)) rfl pass0 (pa_cons (pv 0) (pa_cons pe_int pa_nil))) pa_nil))) (pa_cons (pe_cal c_l_cell (hr.mono (by decide)) rfl pass0 (pa_cons (pv 0) (pa_cons pe_int pa_nil))) pa_nil))))
      (pss_one (ps_ret (pe_and (pe_cal c_l_read (hr.mono (by decide)) rfl pass0 (pa_cons (pv 8) (pa_cons (pv 1) pa_nil))) (pe_one (pe_cal c_l_read (hr.mono (by decide)) rfl pass0 (pa_cons (pv 4) (pa_cons (pv 1) pa_nil))))))))))))))))), ?_⟩
    walk_at "wp"
    refine ⟨a, ns, 0, rfl, hS, by omega, ?_⟩
    refine ⟨_, 8, rfl, by omega, by omega, fun zz H1 hz1 hz2 sm1 => ?_⟩
    have hS1 := sm1.seq hS
    dsimp only
    refine ⟨a, ns, 1, rfl, hS1, by omega, _, rfl, ?_⟩
    have s0 : 0 ≤ cellAt ns 1 % 36 := Int.emod_nonneg _ (by omega)
    have s1 : cellAt ns 1 % 36 < 36 := Int.emod_lt_of_pos _ (by omega)
    generalize cellAt ns 1 % 36 = sz at s0 s1 ⊢
    obtain ⟨r1, er1⟩ : ∃ r : Nat, 1 + sz / 6 = (r : Int) := ⟨(1 + sz / 6).toNat, by omega⟩
    obtain ⟨c1, ec1⟩ : ∃ c : Nat, 1 + sz % 6 = (c : Int) := ⟨(1 + sz % 6).toNat, by omega⟩
    have b1 : 0 < r1 ∧ r1 ≤ 6 ∧ 0 < c1 ∧ c1 ≤ 6 := by omega
    rw [er1, ec1]
    refine ⟨a, ns, 4, r1, c1, zz, rfl, hS1, by omega, by omega, by omega, hz1, hz2, fun p hp l H2 hl h2 sm2 => ?_⟩
    dsimp only
    refine ⟨l, rfl, ⟨_, SqL.of h2⟩, ?_⟩
    have hp1 := hp.1
    have hp2 : ∀ r ∈ p, r.length ≤ 6 := fun r hr => by rw [hp.2 r hr]; omega
    refine forw_list (xs := rowsV p) (fun i σ H' => H' = H2 ∧ ∃ y, σ = [some (.ref a), some (.str (tx zz)), some (.int sz), some (.ref l), some (.str (tx ((p.take i).flatMap fun r => r ++ [47]))), y, none, none, none]) ⟨rfl, _, rfl⟩ (fun i σ H' _ h => by rw [h.1]; exact SqL.of h2) ?_ ?_
    · rintro i v σ H' hv ⟨rfl, y, rfl⟩
      have hi : i < p.length := by have := (List.getElem?_eq_some_iff.mp hv).1; rwa [rowsV_length] at this
      rw [rowsV_get hi] at hv
      cases hv
      have hrow := hp2 _ (List.getElem_mem hi)
      have hfl := flat_len (p := p.take i) (n := 6) fun r hr => hp2 r (List.mem_of_mem_take hr)
      have hti : (p.take i).length ≤ 6 := by rw [List.length_take]; omega
      have ef : (p.take (i + 1)).flatMap (fun r => r ++ [47]) = (p.take i).flatMap (fun r => r ++ [47]) ++ (p[i] ++ [47]) := by
        rw [List.take_add_one, List.getElem?_eq_getElem hi, List.flatMap_append]
        simp
      rw [ef]
      generalize (p.take i).flatMap (fun r => r ++ [47]) = u at hfl ⊢
      walk_at "wp"
      have es : Str.ofString "/" = tx [47] := rfl
      have hu : u.length ≤ 42 := by have : (p.take i).length * (6 + 1) ≤ 6 * 7 := Nat.mul_le_mul_right _ hti; omega
      have ta : ∀ r s : List Nat, tx r ++ tx s = tx (r ++ s) := fun r s => by show (⟨_ ++ _⟩ : Str) = ⟨_⟩; simp [tx]
      rw [es]
      simp only [ta, tx_length, List.length_append, List.length_cons, List.length_nil, List.append_assoc]
      exact ⟨line_le (by omega), line_le (by omega), trivial⟩
    · rintro σ H' ⟨rfl, y, rfl⟩
      have hne : p ≠ [] := fun e => by rw [e] at hp1; simp at hp1; omega
      rw [rowsV_length, List.take_length, SpM.glue_flat 47 hne]
      have hgl := SpM.glue_len 47 (rows := p) (n := 6) hp2
      have hgl2 : (SpM.glue 47 p).length ≤ 42 := by have : p.length * (6 + 1) ≤ 6 * 7 := Nat.mul_le_mul_right _ (by omega); omega
      walk_at "wp"
      rw [slice_last]
      refine ⟨by rw [tx_length, List.length_append]; exact line_le (by simp; omega), _, .inl (SqL.of h2), fun g hg => ?_⟩
      have m3 : Same H' (upd H' g (.lst (rowsV p))) := same_upd hg
      have e3 : upd H' g (.lst (rowsV p)) g = some (.lst (rowsV p)) := upd_same
      generalize upd H' g (.lst (rowsV p)) = H3 at m3 e3 ⊢
      refine ⟨g, p, rfl, e3, ⟨by omega, fun r hr => by have := hp2 r hr; omega⟩, ?_⟩
      refine ⟨_, TyOf.str _, true, kit_same K _, ?_⟩
      rw [if_neg (by decide)]
      refine ⟨by simp [scal], ?_⟩
      rw [if_neg (fun h => h rfl)]
      refine rEqD_rows (SqL.of e3) (SqL.of (m3 _ _ h2)) ⟨false, rfl, ?_⟩
      rw [if_neg (by decide)]
      have hS3 := m3.seq (sm2.seq hS1)
      refine ⟨_, tx zz, rfl, by omega, fun H4 sm4 => ⟨true, rfl, ?_⟩⟩
      rw [if_neg (by decide)]
      refine ⟨a, ns, 2, rfl, sm4.seq hS3, by omega, ?_⟩
      refine ⟨_, _, rfl, by omega, fun y1 hy1 => ?_⟩
      dsimp only
      refine ⟨a, ns, 3, rfl, sm4.seq hS3, by omega, ?_⟩
      refine ⟨y1, _, rfl, by omega, fun y2 hy2 => ?_⟩
      dsimp only
      refine ⟨y2, tx zz, rfl, by omega, fun H5 sm5 => ⟨true, rfl, ?_⟩⟩
      rw [if_pos rfl]
      exact ⟨_, tx zz, rfl, by omega, fun H6 sm6 => q _⟩
end
end Q2

set_option Elab.async false
set_option linter.all false
set_option maxRecDepth 100000
namespace Q2
open PySem L2 Pic QL
theorem all_mk {l : PySem.W.OpenLaw} {w : World} {K : PySem.W.Frag} {h : Heap} {mg : Str → Option Value} {fa f1 f2 f3 f4 f5 f6 f7 f8 f9 f10 f11 f12 f13 f14 f15 f16 f17 : Addr} (X : K.In h) (G : h.Ns mainGlobals mg) (hfa : mg "law" = some (.ref fa))
    {od1 an1 od2 an2 od3 an3 od4 an4 od5 an5 od6 an6 od7 an7 od8 an8 od9 an9 od10 an10 od11 an11 od12 an12 od13 an13 od14 an14 od15 an15 od16 an16 od17 an17 : Option Addr} {sl1 sl2 sl3 sl4 sl5 sl6 sl7 sl8 sl9 sl10 sl11 sl12 sl13 sl14 sl15 sl16 sl17 : Array (Option Value)} {oc1 kV1 dc1 pm1 cd1 ct1 oc2 kV2 dc2 pm2 cd2 ct2 oc3 kV3 dc3 pm3 cd3 ct3 oc4 kV4 dc4 pm4 cd4 ct4 oc5 kV5 dc5 pm5 cd5 ct5 oc6 kV6 dc6 pm6 cd6 ct6 oc7 kV7 dc7 pm7 cd7 ct7 oc8 kV8 dc8 pm8 cd8 ct8 oc9 kV9 dc9 pm9 cd9 ct9 oc10 kV10 dc10 pm10 cd10 ct10 oc11 kV11 dc11 pm11 cd11 ct11 oc12 kV12 dc12 pm12 cd12 ct12 oc13 kV13 dc13 pm13 cd13 ct13 oc14 kV14 dc14 pm14 cd14 ct14 oc15 kV15 dc15 pm15 cd15 ct15 oc16 kV16 dc16 pm16 cd16 ct16 oc17 kV17 dc17 pm17 cd17 ct17 : Value}
    (a1 : PySem.W.nsIn K mainGlobals "check_signs" = some (some (.ref f1))) (l1 : K.lookup f1 = some ⟨oc1, od1, .func (PySem.W.fnOf "check_signs" "check_signs" (defArgs s_check_signs) (defBody s_check_signs) (defScope s_check_signs) .none kV1 dc1 pm1 an1 cd1 ct1), sl1⟩) (c1 : PySem.W.codeIn K cd1 "check_signs" = true) (k1 : PySem.W.keepIn K (.ref f1) = true)
    (a2 : PySem.W.nsIn K mainGlobals "checked" = some (some (.ref f2))) (l2 : K.lookup f2 = some ⟨oc2, od2, .func (PySem.W.fnOf "checked" "checked" (defArgs s_checked) (defBody s_checked) (defScope s_checked) .none kV2 dc2 pm2 an2 cd2 ct2), sl2⟩) (c2 : PySem.W.codeIn K cd2 "checked" = true) (k2 : PySem.W.keepIn K (.ref f2) = true)
    (a3 : PySem.W.nsIn K mainGlobals "_law_cell" = some (some (.ref f3))) (l3 : K.lookup f3 = some ⟨oc3, od3, .func (PySem.W.fnOf "_law_cell" "_law_cell" (defArgs s_l_cell) (defBody s_l_cell) (defScope s_l_cell) .none kV3 dc3 pm3 an3 cd3 ct3), sl3⟩) (c3 : PySem.W.codeIn K cd3 "_law_cell" = true) (k3 : PySem.W.keepIn K (.ref f3) = true)
    (a4 : PySem.W.nsIn K mainGlobals "_law_signs" = some (some (.ref f4))) (l4 : K.lookup f4 = some ⟨oc4, od4, .func (PySem.W.fnOf "_law_signs" "_law_signs" (defArgs s_l_signs) (defBody s_l_signs) (defScope s_l_signs) .none kV4 dc4 pm4 an4 cd4 ct4), sl4⟩) (c4 : PySem.W.codeIn K cd4 "_law_signs" = true) (k4 : PySem.W.keepIn K (.ref f4) = true)
    (a5 : PySem.W.nsIn K mainGlobals "_law_row" = some (some (.ref f5))) (l5 : K.lookup f5 = some ⟨oc5, od5, .func (PySem.W.fnOf "_law_row" "_law_row" (defArgs s_l_row) (defBody s_l_row) (defScope s_l_row) .none kV5 dc5 pm5 an5 cd5 ct5), sl5⟩) (c5 : PySem.W.codeIn K cd5 "_law_row" = true) (k5 : PySem.W.keepIn K (.ref f5) = true)
    (a6 : PySem.W.nsIn K mainGlobals "_law_any_sign" = some (some (.ref f6))) (l6 : K.lookup f6 = some ⟨oc6, od6, .func (PySem.W.fnOf "_law_any_sign" "_law_any_sign" (defArgs s_l_any_sign) (defBody s_l_any_sign) (defScope s_l_any_sign) .none kV6 dc6 pm6 an6 cd6 ct6), sl6⟩) (c6 : PySem.W.codeIn K cd6 "_law_any_sign" = true) (k6 : PySem.W.keepIn K (.ref f6) = true)
    (a7 : PySem.W.nsIn K mainGlobals "_law_texts" = some (some (.ref f7))) (l7 : K.lookup f7 = some ⟨oc7, od7, .func (PySem.W.fnOf "_law_texts" "_law_texts" (defArgs s_l_texts) (defBody s_l_texts) (defScope s_l_texts) .none kV7 dc7 pm7 an7 cd7 ct7), sl7⟩) (c7 : PySem.W.codeIn K cd7 "_law_texts" = true) (k7 : PySem.W.keepIn K (.ref f7) = true)
    (a8 : PySem.W.nsIn K mainGlobals "_law_whole" = some (some (.ref f8))) (l8 : K.lookup f8 = some ⟨oc8, od8, .func (PySem.W.fnOf "_law_whole" "_law_whole" (defArgs s_l_whole) (defBody s_l_whole) (defScope s_l_whole) .none kV8 dc8 pm8 an8 cd8 ct8), sl8⟩) (c8 : PySem.W.codeIn K cd8 "_law_whole" = true) (k8 : PySem.W.keepIn K (.ref f8) = true)
    (a9 : PySem.W.nsIn K mainGlobals "_law_picture" = some (some (.ref f9))) (l9 : K.lookup f9 = some ⟨oc9, od9, .func (PySem.W.fnOf "_law_picture" "_law_picture" (defArgs s_l_picture) (defBody s_l_picture) (defScope s_l_picture) .none kV9 dc9 pm9 an9 cd9 ct9), sl9⟩) (c9 : PySem.W.codeIn K cd9 "_law_picture" = true) (k9 : PySem.W.keepIn K (.ref f9) = true)
    (a10 : PySem.W.nsIn K mainGlobals "shown" = some (some (.ref f10))) (l10 : K.lookup f10 = some ⟨oc10, od10, .func (PySem.W.fnOf "shown" "shown" (defArgs s_shown) (defBody s_shown) (defScope s_shown) .none kV10 dc10 pm10 an10 cd10 ct10), sl10⟩) (c10 : PySem.W.codeIn K cd10 "shown" = true) (k10 : PySem.W.keepIn K (.ref f10) = true)
    (a11 : PySem.W.nsIn K mainGlobals "read_picture" = some (some (.ref f11))) (l11 : K.lookup f11 = some ⟨oc11, od11, .func (PySem.W.fnOf "read_picture" "read_picture" (defArgs s_read_picture) (defBody s_read_picture) (defScope s_read_picture) .none kV11 dc11 pm11 an11 cd11 ct11), sl11⟩) (c11 : PySem.W.codeIn K cd11 "read_picture" = true) (k11 : PySem.W.keepIn K (.ref f11) = true)
    (a12 : PySem.W.nsIn K mainGlobals "_law_split" = some (some (.ref f12))) (l12 : K.lookup f12 = some ⟨oc12, od12, .func (PySem.W.fnOf "_law_split" "_law_split" (defArgs s_l_split) (defBody s_l_split) (defScope s_l_split) .none kV12 dc12 pm12 an12 cd12 ct12), sl12⟩) (c12 : PySem.W.codeIn K cd12 "_law_split" = true) (k12 : PySem.W.keepIn K (.ref f12) = true)
    (a13 : PySem.W.nsIn K mainGlobals "_law_spoilt" = some (some (.ref f13))) (l13 : K.lookup f13 = some ⟨oc13, od13, .func (PySem.W.fnOf "_law_spoilt" "_law_spoilt" (defArgs s_l_spoilt) (defBody s_l_spoilt) (defScope s_l_spoilt) .none kV13 dc13 pm13 an13 cd13 ct13), sl13⟩) (c13 : PySem.W.codeIn K cd13 "_law_spoilt" = true) (k13 : PySem.W.keepIn K (.ref f13) = true)
    (a14 : PySem.W.nsIn K mainGlobals "_law_why" = some (some (.ref f14))) (l14 : K.lookup f14 = some ⟨oc14, od14, .func (PySem.W.fnOf "_law_why" "_law_why" (defArgs s_l_why) (defBody s_l_why) (defScope s_l_why) .none kV14 dc14 pm14 an14 cd14 ct14), sl14⟩) (c14 : PySem.W.codeIn K cd14 "_law_why" = true) (k14 : PySem.W.keepIn K (.ref f14) = true)
    (a15 : PySem.W.nsIn K mainGlobals "_law_why_of" = some (some (.ref f15))) (l15 : K.lookup f15 = some ⟨oc15, od15, .func (PySem.W.fnOf "_law_why_of" "_law_why_of" (defArgs s_l_why_of) (defBody s_l_why_of) (defScope s_l_why_of) .none kV15 dc15 pm15 an15 cd15 ct15), sl15⟩) (c15 : PySem.W.codeIn K cd15 "_law_why_of" = true) (k15 : PySem.W.keepIn K (.ref f15) = true)
    (a16 : PySem.W.nsIn K mainGlobals "_law_read" = some (some (.ref f16))) (l16 : K.lookup f16 = some ⟨oc16, od16, .func (PySem.W.fnOf "_law_read" "_law_read" (defArgs s_l_read) (defBody s_l_read) (defScope s_l_read) .none kV16 dc16 pm16 an16 cd16 ct16), sl16⟩) (c16 : PySem.W.codeIn K cd16 "_law_read" = true) (k16 : PySem.W.keepIn K (.ref f16) = true)
    (a17 : PySem.W.nsIn K mainGlobals "law" = some (some (.ref f17))) (l17 : K.lookup f17 = some ⟨oc17, od17, .func (PySem.W.fnOf "law" "law" (defArgs s_law) (defBody s_law) (defScope s_law) .none kV17 dc17 pm17 an17 cd17 ct17), sl17⟩) (c17 : PySem.W.codeIn K cd17 "law" = true) (k17 : PySem.W.keepIn K (.ref f17) = true)
    {C_QuiltError C_NoPicture C_NoFit C_NoGrammar C_NoName C_NoNumber C_NoRow C_NoRule C_NoText C_NoTree C_NoWord C_TooMany fI : Addr} {tkM : Tok} {ddP odI anI : Option Addr} {cdP : ClassData} {slP slI : Array (Option Value)} {ocI kVI dcI pmI cdI ctI : Value} (xM : PySem.W.nsIn K mainGlobals "MOST" = some (some (.int 6 tkM))) (xQuiltError : PySem.W.nsIn K mainGlobals "QuiltError" = some (some (.ref C_QuiltError))) (xNoPicture : PySem.W.nsIn K mainGlobals "NoPicture" = some (some (.ref C_NoPicture))) (xNoFit : PySem.W.nsIn K mainGlobals "NoFit" = some (some (.ref C_NoFit))) (xNoGrammar : PySem.W.nsIn K mainGlobals "NoGrammar" = some (some (.ref C_NoGrammar))) (xNoName : PySem.W.nsIn K mainGlobals "NoName" = some (some (.ref C_NoName))) (xNoNumber : PySem.W.nsIn K mainGlobals "NoNumber" = some (some (.ref C_NoNumber))) (xNoRow : PySem.W.nsIn K mainGlobals "NoRow" = some (some (.ref C_NoRow))) (xNoRule : PySem.W.nsIn K mainGlobals "NoRule" = some (some (.ref C_NoRule))) (xNoText : PySem.W.nsIn K mainGlobals "NoText" = some (some (.ref C_NoText))) (xNoTree : PySem.W.nsIn K mainGlobals "NoTree" = some (some (.ref C_NoTree))) (xNoWord : PySem.W.nsIn K mainGlobals "NoWord" = some (some (.ref C_NoWord))) (xTooMany : PySem.W.nsIn K mainGlobals "TooMany" = some (some (.ref C_TooMany))) (xlP : K.lookup C_NoPicture = some ⟨.type "type", ddP, .cls cdP, slP⟩) (xmP : cdP.mro.contains (.ref C_QuiltError) = true) (xeP : PySem.W.excOut K C_NoPicture [.type "ValueError", .type "Exception", .type "BaseException", .type "object"] "ValueError.__new__" = true) (xeQ : PySem.W.excIn K C_QuiltError [.type "ValueError", .type "Exception", .type "BaseException", .type "object"] "ValueError.__new__" = true) (xga : PySem.W.findIn K (.ref C_NoPicture) "__getattribute__" = some (some (.builtin "BaseException.__getattribute__"))) (xgh : PySem.W.findIn K (.ref C_NoPicture) "__getattr__" = some none) (xmb : PySem.W.mroIn K C_NoPicture (.type "BaseException") = some true) (xmo : PySem.W.mroIn K C_NoPicture (.type "object") = some true) (xha : PySem.W.findIn K (.ref C_NoPicture) "__class__" = some (some (.builtin "object.__class__"))) (xhn : PySem.W.specialIn K (.builtin "object.__class__") "__get__" = some (some (.builtin "getset_descriptor.__get__"))) (xtk : PySem.W.takesIn K (.builtin "object.__class__") = some true) (xfi : PySem.W.findIn K (.ref C_NoPicture) "__init__" = some (some (.ref fI))) (xft : PySem.W.typeIn K (.ref fI) = some (.type "function")) (xfl : K.lookup fI = some ⟨ocI, odI, .func (PySem.W.fnOf "__init__" "NoPicture.__init__" (defArgs s_init) (defBody s_init) (defScope s_init) .none kVI dcI pmI anI cdI ctI), slI⟩) (xfc : PySem.W.codeIn K cdI "NoPicture.__init__" = true) (xfk : PySem.W.keepIn K (.ref fI) = true) (xsa : PySem.W.findIn K (.ref C_NoPicture) "__setattr__" = some (some (.builtin "object.__setattr__"))) (xst : PySem.W.strip cdP.mro = [.type "ValueError", .type "Exception", .type "BaseException", .type "object"]) (xhd : cdP.hasDict = true) (xob : cdP.mro.contains (.type "object") = true) (xne : cdP.mro.isEmpty = false) (xnw : PySem.W.findIn K (.ref C_NoPicture) "why" = some none) (xk0 : PySem.W.kitOne K (.ref C_NoPicture) (.ref C_NoPicture) = some true) (xk1 : PySem.W.kitOne K (.ref C_NoPicture) (.type "ValueError") = some true) (xk2 : PySem.W.kitAny K (.ref C_NoPicture) [.ref C_NoFit, .ref C_NoGrammar, .ref C_NoName, .ref C_NoNumber, .ref C_NoRow, .ref C_NoRule, .ref C_NoText, .ref C_NoTree, .ref C_NoWord, .ref C_TooMany] = some false)
    (z0 : PySem.W.nsIn K mainGlobals "len" = some none) (z1 : PySem.W.nsIn K mainGlobals "range" = some none) (z2 : PySem.W.nsIn K mainGlobals "list" = some none) (z3 : PySem.W.nsIn K mainGlobals "tuple" = some none) (z4 : PySem.W.nsIn K mainGlobals "isinstance" = some none) (z5 : PySem.W.nsIn K mainGlobals "int" = some none) (z6 : PySem.W.nsIn K mainGlobals "bool" = some none) (z7 : PySem.W.nsIn K mainGlobals "str" = some none) (z8 : PySem.W.nsIn K mainGlobals "reversed" = some none) (z9 : PySem.W.nsIn K mainGlobals "all" = some none) (z10 : PySem.W.nsIn K mainGlobals "enumerate" = some none) (z11 : PySem.W.nsIn K mainGlobals "zip" = some none) (z12 : PySem.W.nsIn K mainGlobals "sorted" = some none) (z13 : PySem.W.nsIn K mainGlobals "set" = some none) (z14 : PySem.W.nsIn K mainGlobals "dict" = some none) (z15 : PySem.W.nsIn K mainGlobals "min" = some none) (z16 : PySem.W.nsIn K mainGlobals "max" = some none) (z17 : PySem.W.nsIn K mainGlobals "sum" = some none) (z18 : PySem.W.nsIn K mainGlobals "ValueError" = some none) :
    ∃ fd : FuncData, (∀ (s : Shared) (v : Value), BindsTo s fd ⟨[v], []⟩ [("_law_script", v)]) ∧ ∀ base : Heap, K.In base → base.Ns mainGlobals mg → FnOk l.prog w K mg base CX0 7 fa fd ["_law_script"] (sp_law K) := by
  have e := hfa.symm.trans (PySem.W.mg_of X G a17)
  cases e
  have nb : NB mg := ⟨PySem.W.mg_none_of X G z0, PySem.W.mg_none_of X G z1, PySem.W.mg_none_of X G z2, PySem.W.mg_none_of X G z3, PySem.W.mg_none_of X G z4, PySem.W.mg_none_of X G z5, PySem.W.mg_none_of X G z6, PySem.W.mg_none_of X G z7, PySem.W.mg_none_of X G z8, PySem.W.mg_none_of X G z9, PySem.W.mg_none_of X G z10, PySem.W.mg_none_of X G z11, PySem.W.mg_none_of X G z12, PySem.W.mg_none_of X G z13, PySem.W.mg_none_of X G z14, PySem.W.mg_none_of X G z15, PySem.W.mg_none_of X G z16, PySem.W.mg_none_of X G z17, PySem.W.mg_none_of X G z18⟩
  have F1 := fun_mk (st := s_check_signs) l1 c1 k1
  have b1 := F1.binds (ps := ["k", "row", "signs"]) fun _ _ _ _ _ _ us hl => match us, hl with | [_, _, _], _ => rfl
  have F2 := fun_mk (st := s_checked) l2 c2 k2
  have b2 := F2.binds (ps := ["rows", "signs"]) fun _ _ _ _ _ _ us hl => match us, hl with | [_, _], _ => rfl
  have F3 := fun_mk (st := s_l_cell) l3 c3 k3
  have b3 := F3.binds (ps := ["_law_script", "_law_k"]) fun _ _ _ _ _ _ us hl => match us, hl with | [_, _], _ => rfl
  have F4 := fun_mk (st := s_l_signs) l4 c4 k4
  have b4 := F4.binds (ps := ["_law_cell_here", "_law_most"]) fun _ _ _ _ _ _ us hl => match us, hl with | [_, _], _ => rfl
  have F5 := fun_mk (st := s_l_row) l5 c5 k5
  have b5 := F5.binds (ps := ["_law_cell_here", "_law_wide", "_law_signs_here"]) fun _ _ _ _ _ _ us hl => match us, hl with | [_, _, _], _ => rfl
  have F6 := fun_mk (st := s_l_any_sign) l6 c6 k6
  have b6 := F6.binds (ps := ["_law_number"]) fun _ _ _ _ _ _ us hl => match us, hl with | [_], _ => rfl
  have F7 := fun_mk (st := s_l_texts) l7 c7 k7
  have b7 := F7.binds (ps := ["_law_found", "_law_due"]) fun _ _ _ _ _ _ us hl => match us, hl with | [_, _], _ => rfl
  have F8 := fun_mk (st := s_l_whole) l8 c8 k8
  have b8 := F8.binds (ps := ["_law_found"]) fun _ _ _ _ _ _ us hl => match us, hl with | [_], _ => rfl
  have F9 := fun_mk (st := s_l_picture) l9 c9 k9
  have b9 := F9.binds (ps := ["_law_script", "_law_at", "_law_rows", "_law_wide", "_law_signs_here"]) fun _ _ _ _ _ _ us hl => match us, hl with | [_, _, _, _, _], _ => rfl
  have F10 := fun_mk (st := s_shown) l10 c10 k10
  have b10 := F10.binds (ps := ["picture"]) fun _ _ _ _ _ _ us hl => match us, hl with | [_], _ => rfl
  have F11 := fun_mk (st := s_read_picture) l11 c11 k11
  have b11 := F11.binds (ps := ["text", "signs"]) fun _ _ _ _ _ _ us hl => match us, hl with | [_, _], _ => rfl
  have F12 := fun_mk (st := s_l_split) l12 c12 k12
  have b12 := F12.binds (ps := ["_law_text"]) fun _ _ _ _ _ _ us hl => match us, hl with | [_], _ => rfl
  have F13 := fun_mk (st := s_l_spoilt) l13 c13 k13
  have b13 := F13.binds (ps := ["_law_text", "_law_cell_here"]) fun _ _ _ _ _ _ us hl => match us, hl with | [_, _], _ => rfl
  have F14 := fun_mk (st := s_l_why) l14 c14 k14
  have b14 := F14.binds (ps := ["_law_rows", "_law_signs_here"]) fun _ _ _ _ _ _ us hl => match us, hl with | [_, _], _ => rfl
  have F15 := fun_mk (st := s_l_why_of) l15 c15 k15
  have b15 := F15.binds (ps := ["_law_error"]) fun _ _ _ _ _ _ us hl => match us, hl with | [_], _ => rfl
  have F16 := fun_mk (st := s_l_read) l16 c16 k16
  have b16 := F16.binds (ps := ["_law_text", "_law_signs_here"]) fun _ _ _ _ _ _ us hl => match us, hl with | [_, _], _ => rfl
  have F17 := fun_mk (st := s_law) l17 c17 k17
  refine ⟨PySem.W.fnOf "law" "law" (defArgs s_law) (defBody s_law) (defScope s_law) .none kV17 dc17 pm17 an17 cd17 ct17, fun s v => .of_eq rfl, fun base _ _ => ?_⟩
  have m_MOST := PySem.W.mg_of X G xM
  have m_QuiltError := PySem.W.mg_of X G xQuiltError
  have m_NoPicture := PySem.W.mg_of X G xNoPicture
  have m_NoFit := PySem.W.mg_of X G xNoFit
  have m_NoGrammar := PySem.W.mg_of X G xNoGrammar
  have m_NoName := PySem.W.mg_of X G xNoName
  have m_NoNumber := PySem.W.mg_of X G xNoNumber
  have m_NoRow := PySem.W.mg_of X G xNoRow
  have m_NoRule := PySem.W.mg_of X G xNoRule
  have m_NoText := PySem.W.mg_of X G xNoText
  have m_NoTree := PySem.W.mg_of X G xNoTree
  have m_NoWord := PySem.W.mg_of X G xNoWord
  have m_TooMany := PySem.W.mg_of X G xTooMany
  have xcQ : XCls K C_QuiltError [.type "ValueError", .type "Exception", .type "BaseException", .type "object"] "ValueError.__new__" := ⟨xeQ⟩
  have xoP : XOut K C_NoPicture [.type "ValueError", .type "Exception", .type "BaseException", .type "object"] "ValueError.__new__" := ⟨xeP⟩
  have xt : PySem.W.XTy K C_NoPicture := ⟨xga, xgh, xmb, xmo, xha, xhn, xtk, _, _, _, xlP⟩
  have und : Under K C_NoPicture C_QuiltError := ⟨_, _, _, xlP, xmP⟩
  have clP : PySem.W.clsIn K C_NoPicture = some cdP := by unfold PySem.W.clsIn; rw [xlP]
  have xh : PySem.W.hasDictIn K C_NoPicture = true := by unfold PySem.W.hasDictIn; rw [clP]; exact xhd
  have FI := fun_mk (st := s_init) xfl xfc xfk
  have xsI : PySem.W.XSt K C_NoPicture "why" := ⟨xsa, ⟨cdP, clP, xst, xhd, xob, xne⟩, xnw⟩
  have bI := FI.binds (ps := ["self", "why"]) fun _ _ _ _ _ _ us hl => match us, hl with | [_, _], _ => rfl
  have xi : XI l.prog w K mg base 1 C_NoPicture "why" := ⟨_, _, _, _, _, _, _, _, fI, _, _, xoP, PySem.F.excBase_ValueError, rfl, PySem.F.excBase_ValueError, xfi, xft, ok_init FI xsI, bI⟩
  have c_check_signs : Cal l.prog w K mg base (CX1 l.prog w) 3 "check_signs" ["k", "row", "signs"] (sp_check_signs C_NoPicture) := ⟨_, _, ok_check_signs F1 nb m_NoPicture xi, PySem.W.mg_of X G a1, k1, b1⟩
  have c_checked : Cal l.prog w K mg base (CX1 l.prog w) 4 "checked" ["rows", "signs"] (sp_checked K C_NoPicture) := ⟨_, _, ok_checked F2 nb m_MOST m_NoPicture xi c_check_signs, PySem.W.mg_of X G a2, k2, b2⟩
  have c_l_cell : Cal l.prog w K mg base CX0 1 "_law_cell" ["_law_script", "_law_k"] (sp_l_cell K) := ⟨_, _, ok_l_cell F3 nb, PySem.W.mg_of X G a3, k3, b3⟩
  have c_l_signs : Cal l.prog w K mg base CX0 1 "_law_signs" ["_law_cell_here", "_law_most"] (sp_l_signs) := ⟨_, _, ok_l_signs F4 nb, PySem.W.mg_of X G a4, k4, b4⟩
  have c_l_row : Cal l.prog w K mg base CX0 1 "_law_row" ["_law_cell_here", "_law_wide", "_law_signs_here"] (sp_l_row) := ⟨_, _, ok_l_row F5 nb, PySem.W.mg_of X G a5, k5, b5⟩
  have c_l_any_sign : Cal l.prog w K mg base CX0 1 "_law_any_sign" ["_law_number"] (sp_l_any_sign) := ⟨_, _, ok_l_any_sign F6 nb, PySem.W.mg_of X G a6, k6, b6⟩
  have c_l_texts : Cal l.prog w K mg base CX0 1 "_law_texts" ["_law_found", "_law_due"] (sp_l_texts K) := ⟨_, _, ok_l_texts F7 nb, PySem.W.mg_of X G a7, k7, b7⟩
  have c_l_whole : Cal l.prog w K mg base CX0 1 "_law_whole" ["_law_found"] (sp_l_whole) := ⟨_, _, ok_l_whole F8 nb, PySem.W.mg_of X G a8, k8, b8⟩
  have c_l_picture : Cal l.prog w K mg base CX0 2 "_law_picture" ["_law_script", "_law_at", "_law_rows", "_law_wide", "_law_signs_here"] (sp_l_picture K) := ⟨_, _, ok_l_picture F9 nb c_l_row c_l_cell, PySem.W.mg_of X G a9, k9, b9⟩
  have c_shown : Cal l.prog w K mg base CX0 1 "shown" ["picture"] (sp_shown K) := ⟨_, _, ok_shown F10, PySem.W.mg_of X G a10, k10, b10⟩
  have c_read_picture : Cal l.prog w K mg base (CX1 l.prog w) 5 "read_picture" ["text", "signs"] (sp_read_picture C_NoPicture) := ⟨_, _, ok_read_picture F11 c_checked, PySem.W.mg_of X G a11, k11, b11⟩
  have c_l_split : Cal l.prog w K mg base CX0 1 "_law_split" ["_law_text"] (sp_l_split) := ⟨_, _, ok_l_split F12 nb, PySem.W.mg_of X G a12, k12, b12⟩
  have c_l_spoilt : Cal l.prog w K mg base CX0 2 "_law_spoilt" ["_law_text", "_law_cell_here"] (sp_l_spoilt) := ⟨_, _, ok_l_spoilt F13 nb c_l_any_sign, PySem.W.mg_of X G a13, k13, b13⟩
  have c_l_why : Cal l.prog w K mg base CX0 1 "_law_why" ["_law_rows", "_law_signs_here"] (sp_l_why K) := ⟨_, _, ok_l_why F14 nb, PySem.W.mg_of X G a14, k14, b14⟩
  have c_l_why_of : Cal l.prog w K mg base CX0 2 "_law_why_of" ["_law_error"] (sp_l_why_of C_NoPicture) := ⟨_, _, ok_l_why_of F15 nb m_NoPicture m_NoFit m_NoGrammar m_NoName m_NoNumber m_NoRow m_NoRule m_NoText m_NoTree m_NoWord m_TooMany xt xh xnw xk0 xk1 xk2 c_l_whole, PySem.W.mg_of X G a15, k15, b15⟩
  have c_l_read : Cal l.prog w K mg base CX0 6 "_law_read" ["_law_text", "_law_signs_here"] (sp_l_read) := ⟨_, _, ok_l_read F16 nb m_QuiltError xcQ rfl xoP und c_read_picture c_l_split c_l_why c_l_why_of c_l_texts, PySem.W.mg_of X G a16, k16, b16⟩
  exact ok_law F17 nb c_l_cell c_l_signs c_l_picture c_shown c_l_spoilt c_l_read
theorem walk {l : PySem.W.OpenLaw} {q : Program} {loose : List Str} {XP : (Str → Option Value) → Heap → Prop} {YP : World → Heap → Prop} {d : DefRec} {K : Params → PySem.W.Frag} (hn : l.most = some 63) (hdf : d.params.defaults = [])
    (hY : ∀ (w : World) (h : Heap), YP w h → (K w.params).In h)
    (F : ∀ (w : World) (mg : Str → Option Value) (fa : Addr) (h : Heap), (K w.params).In h → h.Ns mainGlobals mg → mg d.name = some (.ref fa) →
      ∃ fd : FuncData, (∀ (s : Shared) (u : Value), BindsTo s fd ⟨[u], []⟩ [("_law_script", u)]) ∧ ∀ base : Heap, (K w.params).In base → base.Ns mainGlobals mg → FnOk l.prog w (K w.params) mg base CX0 7 fa fd ["_law_script"] (sp_law (K w.params))) :
    PySem.W.WalkO q loose XP YP l.row.toRowW d [] (fun f vs => PySem.call f vs) :=
  L2.walk_of (n := 63) (k := 7) (x := "_law_script") (CX := fun _ => CX0) (sp := fun w => sp_law (K w.params)) hn (by decide) hdf ⟨rfl, by decide, by decide⟩ hY F (fun _ _ a ns hl _ hS => ⟨a, ns, rfl, hS, fun _ => rfl⟩) fun _ _ _ _ _ z => z
end Q2
open PySem PySem.W PyProof.Rows
set_option maxRecDepth 100000 in
set_option maxHeartbeats 0 in
theorem PySem.Challenge.cw_quiltlaw_k02_pictures_as_texts_holds : PySem.Challenge.rw_quiltlaw_k02_pictures_as_texts.Holds := by
  w_on; o_law; k_head; (case hw => w_witness2)
  k_fill
  refine Q2.walk (l := PySem.Challenge.rw_quiltlaw_k02_pictures_as_texts) rfl rfl (fun w h Y => PySem.W.kIn_of Y) ?F
  case F =>
    intro w mg fa h KX G hmg
    refine' Q2.all_mk KX G hmg ?a1 ?l1 ?c1 ?k1 ?a2 ?l2 ?c2 ?k2 ?a3 ?l3 ?c3 ?k3 ?a4 ?l4 ?c4 ?k4 ?a5 ?l5 ?c5 ?k5 ?a6 ?l6 ?c6 ?k6 ?a7 ?l7 ?c7 ?k7 ?a8 ?l8 ?c8 ?k8 ?a9 ?l9 ?c9 ?k9 ?a10 ?l10 ?c10 ?k10 ?a11 ?l11 ?c11 ?k11 ?a12 ?l12 ?c12 ?k12 ?a13 ?l13 ?c13 ?k13 ?a14 ?l14 ?c14 ?k14 ?a15 ?l15 ?c15 ?k15 ?a16 ?l16 ?c16 ?k16 ?a17 ?l17 ?c17 ?k17 ?xM ?xQuiltError ?xNoPicture ?xNoFit ?xNoGrammar ?xNoName ?xNoNumber ?xNoRow ?xNoRule ?xNoText ?xNoTree ?xNoWord ?xTooMany ?xlP ?xmP ?xeP ?xeQ ?xga ?xgh ?xmb ?xmo ?xha ?xhn ?xtk ?xfi ?xft ?xfl ?xfc ?xfk ?xsa ?xst ?xhd ?xob ?xne ?xnw ?xk0 ?xk1 ?xk2 ?z0 ?z1 ?z2 ?z3 ?z4 ?z5 ?z6 ?z7 ?z8 ?z9 ?z10 ?z11 ?z12 ?z13 ?z14 ?z15 ?z16 ?z17 ?z18
    (case a1 => k_is); (case l1 => k_is); (case c1 => k_is); (case k1 => k_is); (case a2 => k_is); (case l2 => k_is); (case c2 => k_is); (case k2 => k_is)
    (case a3 => k_is); (case l3 => k_is); (case c3 => k_is); (case k3 => k_is); (case a4 => k_is); (case l4 => k_is); (case c4 => k_is); (case k4 => k_is)
    (case a5 => k_is); (case l5 => k_is); (case c5 => k_is); (case k5 => k_is); (case a6 => k_is); (case l6 => k_is); (case c6 => k_is); (case k6 => k_is)
    (case a7 => k_is); (case l7 => k_is); (case c7 => k_is); (case k7 => k_is); (case a8 => k_is); (case l8 => k_is); (case c8 => k_is); (case k8 => k_is)
    (case a9 => k_is); (case l9 => k_is); (case c9 => k_is); (case k9 => k_is); (case a10 => k_is); (case l10 => k_is); (case c10 => k_is); (case k10 => k_is)
    (case a11 => k_is); (case l11 => k_is); (case c11 => k_is); (case k11 => k_is); (case a12 => k_is); (case l12 => k_is); (case c12 => k_is); (case k12 => k_is)
    (case a13 => k_is); (case l13 => k_is); (case c13 => k_is); (case k13 => k_is); (case a14 => k_is); (case l14 => k_is); (case c14 => k_is); (case k14 => k_is)
    (case a15 => k_is); (case l15 => k_is); (case c15 => k_is); (case k15 => k_is); (case a16 => k_is); (case l16 => k_is); (case c16 => k_is); (case k16 => k_is)
    (case a17 => k_is); (case l17 => k_is); (case c17 => k_is); (case k17 => k_is); (case xM => k_is); (case xQuiltError => k_is); (case xNoPicture => k_is); (case xNoFit => k_is)
    (case xNoGrammar => k_is); (case xNoName => k_is); (case xNoNumber => k_is); (case xNoRow => k_is); (case xNoRule => k_is); (case xNoText => k_is); (case xNoTree => k_is); (case xNoWord => k_is)
    (case xTooMany => k_is); (case xlP => k_is); (case xmP => first | rfl | kernel_rfl | decide +kernel); (case xeP => first | rfl | kernel_rfl | decide +kernel); (case xeQ => first | rfl | kernel_rfl | decide +kernel); (case xga => k_is); (case xgh => k_is); (case xmb => k_is)
    (case xmo => k_is); (case xha => k_is); (case xhn => k_is); (case xtk => k_is); (case xfi => k_is); (case xft => k_is); (case xfl => k_is); (case xfc => k_is)
    (case xfk => k_is); (case xsa => k_is); (case xst => first | rfl | kernel_rfl | decide +kernel); (case xhd => first | rfl | kernel_rfl | decide +kernel); (case xob => first | rfl | kernel_rfl | decide +kernel); (case xne => first | rfl | kernel_rfl | decide +kernel); (case xnw => k_is); (case xk0 => first | rfl | kernel_rfl | decide +kernel)
    (case xk1 => first | rfl | kernel_rfl | decide +kernel); (case xk2 => first | rfl | kernel_rfl | decide +kernel); (case z0 => k_is); (case z1 => k_is); (case z2 => k_is); (case z3 => k_is); (case z4 => k_is); (case z5 => k_is)
    (case z6 => k_is); (case z7 => k_is); (case z8 => k_is); (case z9 => k_is); (case z10 => k_is); (case z11 => k_is); (case z12 => k_is); (case z13 => k_is)
    (case z14 => k_is); (case z15 => k_is); (case z16 => k_is); (case z17 => k_is); (case z18 => k_is)


