import PyProof.Rows.All
import Wide.All
import OpenK.AllK
import Wide.FinOn
import Lean
import PyProof.EqAt
import PyProof.EqKinds
import PyProof.NeKinds
import PyProof.TupleCall
import PySem.Challenge.RW_bracketnumbers_k10_whole_all_of_a_size
set_option Elab.async false
set_option linter.all false
set_option maxRecDepth 100000
namespace L2
open PySem PySem.Spec PyProof.Rows

/-- a key: an int or a str -/
abbrev Key := Sum Int Str
def keyIs : Key → Value → Bool
  | .inl k, v => Value.isInt k v
  | .inr x, v => Value.isStrOf x v
def keyH (w : World) : Key → Int
  | .inl k => hashInt k
  | .inr x => hashStr w x
theorem keyIs_shape : ∀ {k : Key} {v : Value}, keyIs k v = true → (∃ i t, k = Sum.inl i ∧ v = Value.int i t) ∨ (∃ x t, k = Sum.inr x ∧ v = Value.str x t)
  | .inl i, v, h => by
    obtain ⟨t, e⟩ := Value.isInt_shape (k := i) (v := v) h
    exact .inl ⟨i, t, rfl, e⟩
  | .inr x, v, h => by
    obtain ⟨t, e⟩ := Value.isStrOf_shape (x := x) (v := v) h
    exact .inr ⟨x, t, rfl, e⟩
theorem keyIs_int (i : Int) (t : Tok) : keyIs (.inl i) (.int i t) = true := by simp [keyIs, Value.isInt]
theorem keyIs_str (x : Str) (t : Tok) : keyIs (.inr x) (.str x t) = true := by simp [keyIs, Value.isStrOf]
theorem key_ll (a b : Int) : decide ((Sum.inl a : Key) = Sum.inl b) = (a == b) := by
  by_cases e : a = b
  · subst e; simp
  · have h : ¬ (Sum.inl a : Key) = Sum.inl b := fun q => e (Sum.inl.inj q)
    rw [decide_eq_false h]
    exact (beq_eq_false_iff_ne.mpr e).symm
theorem key_rr (a b : Str) : decide ((Sum.inr a : Key) = Sum.inr b) = decide (a = b) := by
  by_cases e : a = b
  · subst e; simp
  · have h : ¬ (Sum.inr a : Key) = Sum.inr b := fun q => e (Sum.inr.inj q)
    rw [decide_eq_false h, decide_eq_false e]
theorem key_lr (a : Int) (b : Str) : decide ((Sum.inl a : Key) = Sum.inr b) = false := decide_eq_false (fun q => nomatch q)
theorem key_rl (a : Str) (b : Int) : decide ((Sum.inr a : Key) = Sum.inl b) = false := decide_eq_false (fun q => nomatch q)

def mixKind (prog : Program) (w : World) : PySem.KeyKind prog w Key where
  is := keyIs
  hash := keyH w
  inj := fun v a b ha hb => by
    rcases keyIs_shape ha with ⟨i, t, rfl, rfl⟩ | ⟨x, t, rfl, rfl⟩
    · rcases keyIs_shape hb with ⟨j, u, rfl, e⟩ | ⟨y, u, rfl, e⟩
      · injection e with e1 _; rw [e1]
      · exact nomatch e
    · rcases keyIs_shape hb with ⟨j, u, rfl, e⟩ | ⟨y, u, rfl, e⟩
      · exact nomatch e
      · injection e with e1 _; rw [e1]
  byValue := fun k v h => by
    rcases keyIs_shape h with ⟨i, t, rfl, rfl⟩ | ⟨x, t, rfl, rfl⟩ <;> rfl
  pyHash := fun hv h => by
    rcases keyIs_shape hv with ⟨i, t, rfl, rfl⟩ | ⟨x, t, rfl, rfl⟩
    · exact wpAny_pyHash_int h
    · exact wpAny_pyHash_str h
  eqBool := fun hu hv h => by
    rcases keyIs_shape hu with ⟨i, t, rfl, rfl⟩ | ⟨x, t, rfl, rfl⟩
    · rcases keyIs_shape hv with ⟨j, u, rfl, rfl⟩ | ⟨y, u, rfl, rfl⟩
      · rw [key_ll] at h; exact wpAny_eqBool_int h
      · rw [key_lr] at h; exact SeqAt.EqAt.int_str i t y u _ _ _ _ h
    · rcases keyIs_shape hv with ⟨j, u, rfl, rfl⟩ | ⟨y, u, rfl, rfl⟩
      · rw [key_rl] at h; exact SeqAt.EqAt.str_int x t j u _ _ _ _ h
      · rw [key_rr] at h; exact wpAny_eqBool_str h
  «strs» := fun k x t v h => by
    rcases keyIs_shape h with ⟨i, u, rfl, e⟩ | ⟨y, u, rfl, e⟩
    · exact nomatch e
    · injection e with e1 _
      subst e1
      cases v <;> rfl

theorem mixKind_is (prog : Program) (w : World) (k : Key) (v : Value) : (mixKind prog w).is k v = keyIs k v := rfl
theorem mixKind_int (prog : Program) (w : World) (i : Int) (t : Tok) : (mixKind prog w).is (.inl i) (.int i t) = true := keyIs_int i t
theorem mixKind_str (prog : Program) (w : World) (x : Str) (t : Tok) : (mixKind prog w).is (.inr x) (.str x t) = true := keyIs_str x t
end L2

namespace L2
open PySem PySem.Spec PyProof.Rows

/-- a value, without the heap -/
inductive V where
  | non | bl (b : Bool) | int (i : Int) | str (x : Str) | byt (b : Array UInt8) | flt (b : UInt64) | ref (a : Addr) | ty (n : String)
  deriving DecidableEq

def RelV : V → Value → Prop
  | .non, u => u = Value.none
  | .bl b, u => u = Value.bool b
  | .int i, u => ∃ t, u = Value.int i t
  | .str x, u => ∃ t, u = Value.str x t
  | .byt b, u => ∃ t, u = Value.bytes b t
  | .flt b, u => ∃ t, u = Value.float b t
  | .ref a, u => u = Value.ref a
  | .ty n, u => u = Value.type n

abbrev Vals : List V → List Value → Prop := Paired RelV
theorem Vals.length {xs : List V} {us : List Value} (r : Vals xs us) : xs.length = us.length := Paired.length r
theorem Vals.get : ∀ {xs : List V} {us : List Value} {i : Nat} {x : V}, Vals xs us → xs[i]? = some x → ∃ u, us[i]? = some u ∧ RelV x u
  | _, _, _, _, .nil, e => by simp at e
  | _, _, 0, _, .cons r _, e => by simp at e; subst e; exact ⟨_, rfl, r⟩
  | _, _, i + 1, x, .cons _ t, e => by
    obtain ⟨u, h1, h2⟩ := Vals.get (i := i) (x := x) t (by simpa using e)
    exact ⟨u, by simpa using h1, h2⟩
theorem Vals.set {x : V} {u : Value} (r : RelV x u) : ∀ {xs : List V} {us : List Value} (i : Nat), Vals xs us → Vals (xs.set i x) (us.set i u)
  | _, _, _, .nil => .nil
  | _, _, 0, .cons _ t => .cons r t
  | _, _, i + 1, .cons q t => .cons q (Vals.set r i t)
theorem Vals.append : ∀ {xs ys : List V} {us ws : List Value}, Vals xs us → Vals ys ws → Vals (xs ++ ys) (us ++ ws)
  | _, _, _, _, .nil, s => s
  | _, _, _, _, .cons r t, s => .cons r (Vals.append t s)
theorem Vals.take : ∀ {xs : List V} {us : List Value} (n : Nat), Vals xs us → Vals (xs.take n) (us.take n)
  | _, _, 0, _ => .nil
  | _, _, _ + 1, .nil => .nil
  | _, _, n + 1, .cons r t => .cons r (Vals.take n t)
theorem Vals.drop : ∀ {xs : List V} {us : List Value} (n : Nat), Vals xs us → Vals (xs.drop n) (us.drop n)
  | _, _, 0, r => r
  | _, _, _ + 1, .nil => .nil
  | _, _, n + 1, .cons _ t => Vals.drop n t
theorem Vals.none_of : ∀ {xs : List V} {us : List Value} {i : Nat}, Vals xs us → xs[i]? = none → us[i]? = none := fun {xs us i} r e => by
  have h1 := r.length
  have h2 : xs.length ≤ i := List.getElem?_eq_none_iff.mp e
  exact List.getElem?_eq_none_iff.mpr (by omega)

def RelO : Option V → Option Value → Prop
  | some v, some u => RelV v u
  | none, none => True
  | _, _ => False
def KV {κ : Type} : List (κ × V) → List (κ × Value) → Prop := Paired fun (p : κ × V) (q : κ × Value) => p.1 = q.1 ∧ RelV p.2 q.2

/-- a key of a dict (00_mix): an int or a text -/
def kV : Key → V
  | .inl i => .int i
  | .inr x => .str x

/-- what stands at a tracked address -/
inductive HO where
  /-- a list -/
  | lst (xs : List V)
  /-- a tuple (never changes) -/
  | tup (xs : List V)
  /-- a dict whose keys are ints and texts; one whose keys are tuples of ints and texts (the empty one is both) -/
  | dK (kvs : List (Key × V)) | dT (kvs : List (List Key × V))
  /-- a set of ints: its members, its size -/
  | set (S : Int → Bool) (n : Nat)
  /-- an instance of the class at C, its dict at dx, its attributes -/
  | ins (C dx : Addr) (fs : List (Str × V))
  /-- the dict of the instance at x -/
  | own (x : Addr)
  /-- the dict of an exception -/
  | xd (fs : List (Str × V))
  /-- a bound method, f of x -/
  | met (f x : Addr)
  /-- a range object lo, lo + 1, .. below hi -/
  | rng (lo hi : Int)
  /-- a thing that is known to the object (the script; a dict while a loop walks it): read, never written while it is so -/
  | frz (o : Obj) (u : HO)
  /-- a code object's table -/
  | tbl (ps : Array Value)
  /-- any other thing, by what is true of its one object (a def of one's own: SetO a S n := HO.ext fun h => ..) -/
  | ext (φ : Heap → Prop)

abbrev Hp := Addr → Option HO
def upd (H : Hp) (a : Addr) (o : HO) : Hp := fun b => if b = a then some o else H b
theorem upd_same {H : Hp} {a : Addr} {o : HO} : upd H a o a = some o := by unfold upd; rw [if_pos rfl]
theorem upd_ne {H : Hp} {a b : Addr} {o : HO} (h : b ≠ a) : upd H a o b = H b := by unfold upd; rw [if_neg h]
theorem upd_upd {H : Hp} {a : Addr} {o u : HO} : upd (upd H a o) a u = upd H a u := by
  funext b; unfold upd; split <;> rfl
/-- two objects of different content stand apart -/
theorem ne_of {H : Hp} {a b : Addr} {o u : HO} (h : H a = some o) (h' : H b = some u) (d : o ≠ u) : a ≠ b := by
  intro e; subst e; rw [h] at h'; exact d (Option.some.inj h')
theorem ne_of_none {H : Hp} {a b : Addr} {o : HO} (h : H a = some o) (h' : H b = none) : a ≠ b := by
  intro e; subst e; rw [h] at h'; cases h'

section
variable (P : Program) (w : World)
def ObjOk (H : Hp) (h : Heap) (a : Addr) : HO → Prop
  | .lst xs => xs.length ≤ sizeLine ∧ ∃ (its : List Value) (n : Nat), Vals xs its ∧ h.get? a = some { cls := .type "list", data := .seq its.toArray n }
  | .tup xs => xs.length ≤ sizeLine ∧ ∃ its : List Value, Vals xs its ∧ IsTup h a its.toArray
  | .dK kvs => kvs.length ≤ sizeLine ∧ (a == sysModules) = false ∧ ∃ vs, KV kvs vs ∧ h.DictOf (mixKind P w) a vs
  | .dT kvs => kvs.length ≤ sizeLine ∧ (a == sysModules) = false ∧ ∃ xs : List (List Key × Addr × Value),
      Paired (fun (p : List Key × V) (q : List Key × Addr × Value) => p.1 = q.1 ∧ H q.2.1 = some (.tup (p.1.map kV)) ∧ RelV p.2 q.2.2) kvs xs ∧
      ∃ o es ep, h.get? a = some o ∧ o.ExactDict ∧ o.data = .dict es ep ∧ es.toList = xs.map (entryOfKey (tupleKind (mixKind P w))) ∧ (xs.map (·.1)).Nodup
  | .set S n => h.SetOf (intKind P w) a S n
  | .ins C dx fs => H dx = some (.own a) ∧ fs.length ≤ 1000 ∧ dx ≠ a ∧ h.get? a = some (PySem.W.instObj C dx) ∧
      ∃ mA, h.Ns1 dx mA ∧ (∀ f, RelO (fs.lookup f) (mA f)) ∧ PySem.Within mA (fs.map (·.1))
  | .own _ => ∃ o, h.get? a = some o
  | .xd fs => ∃ mA, h.Ns1 a mA ∧ ∀ f, RelO (fs.lookup f) (mA f)
  | .rng lo hi => ∃ t u v, h.get? a = some { cls := .type "range", data := .fields #[.int lo t, .int hi u, .int 1 v] }
  | .frz o u => h.get? a = some o ∧ ObjOk H h a u
  | .tbl ps => h.get? a = some { cls := .none, data := .fields ps }
  | .met f x => h.get? a = some (PySem.W.methodObj (.ref f) (.ref x))
  | .ext φ => φ h ∧ (∃ o, h.get? a = some o) ∧ ∀ h1 h2 : Heap, φ h1 → (∀ o, h1.get? a = some o → h2.get? a = some o) → φ h2
/-- the abstract heap is held -/
def HOk (H : Hp) (h : Heap) : Prop := ∀ a o, H a = some o → ObjOk P w H h a o
end

section
variable {P : Program} {w : World} {H H' : Hp} {h h' : Heap} {a : Addr} {o : HO}
theorem ObjOk.lt (x : ObjOk P w H h a o) : a < h.objs.size := by
  cases o with
  | lst xs => obtain ⟨_, _, _, _, e⟩ := x; exact Heap.lt_size e
  | tup xs => obtain ⟨_, _, _, p⟩ := x; exact p.lt
  | dK kvs => obtain ⟨_, _, _, _, o, _, _, e, _⟩ := x; exact Heap.lt_size e
  | dT kvs => obtain ⟨_, _, _, _, o, _, _, e, _⟩ := x; exact Heap.lt_size e
  | set S n => obtain ⟨o, _, _, _, e, _⟩ := x; exact Heap.lt_size e
  | ins C dx fs => obtain ⟨_, _, _, e, _⟩ := x; exact Heap.lt_size e
  | own y => obtain ⟨_, e⟩ := x; exact Heap.lt_size e
  | xd fs => obtain ⟨_, ⟨_, _, _, e, _⟩, _⟩ := x; exact Heap.lt_size e
  | rng lo hi => obtain ⟨_, _, _, e⟩ := x; exact Heap.lt_size e
  | frz ob u => obtain ⟨e, _⟩ := x; exact Heap.lt_size e
  | tbl ps => exact Heap.lt_size (show h.get? a = some _ from x)
  | met f y => exact Heap.lt_size (show h.get? a = some _ from x)
  | ext φ => obtain ⟨_, ⟨_, e⟩, _⟩ := x; exact Heap.lt_size e
theorem Paired.mapP {α β : Type} {F G : α → β → Prop} : ∀ {l₁ : List α} {l₂ : List β}, Paired F l₁ l₂ → (∀ a b, F a b → G a b) → Paired G l₁ l₂
  | _, _, .nil, _ => .nil
  | _, _, .cons r t, f => .cons (f _ _ r) (Paired.mapP t f)
theorem Paired.imp' {α β : Type} {F G : α → β → Prop} (f : ∀ a b, F a b → G a b) {l₁ : List α} {l₂ : List β} (r : Paired F l₁ l₂) : Paired G l₁ l₂ := Paired.mapP r f
/-- what an object's description leans on: its own object, its own dict, the tuples -/
theorem ObjOk.stay (x : ObjOk P w H h a o) (k : ∀ b u, (b = a ∨ H b = some (.own a)) → h.get? b = some u → h'.get? b = some u)
    (ho : ∀ b, H b = some (.own a) → H' b = some (.own a)) (ht : ∀ b xs, H b = some (.tup xs) → H' b = some (.tup xs)) : ObjOk P w H' h' a o := by
  induction o with
  | lst xs => obtain ⟨z, its, n, r, e⟩ := x; exact ⟨z, its, n, r, k _ _ (.inl rfl) e⟩
  | tup xs => obtain ⟨z, its, r, ob, e, c⟩ := x; exact ⟨z, its, r, ob, k _ _ (.inl rfl) e, c⟩
  | dK kvs => obtain ⟨z, y, vs, r, ob, es, ep, e, c⟩ := x; exact ⟨z, y, vs, r, ob, es, ep, k _ _ (.inl rfl) e, c⟩
  | dT kvs =>
    obtain ⟨z, y, xs, r, ob, es, ep, e, c⟩ := x
    exact ⟨z, y, xs, Paired.mapP r fun p q z => ⟨z.1, ht _ _ z.2.1, z.2.2⟩, ob, es, ep, k _ _ (.inl rfl) e, c⟩
  | set S n => obtain ⟨ob, es, ep, t, e, c⟩ := x; exact ⟨ob, es, ep, t, k _ _ (.inl rfl) e, c⟩
  | ins C dx fs =>
    obtain ⟨d, z, ne, e, mA, ⟨od, es, ep, e2, c⟩, r⟩ := x
    exact ⟨ho _ d, z, ne, k _ _ (.inl rfl) e, mA, ⟨od, es, ep, k _ _ (.inr d) e2, c⟩, r⟩
  | own y => obtain ⟨ob, e⟩ := x; exact ⟨ob, k _ _ (.inl rfl) e⟩
  | xd fs => obtain ⟨mA, ⟨od, es, ep, e, c⟩, r⟩ := x; exact ⟨mA, ⟨od, es, ep, k _ _ (.inl rfl) e, c⟩, r⟩
  | rng lo hi => obtain ⟨t, u, v, e⟩ := x; exact ⟨t, u, v, k _ _ (.inl rfl) e⟩
  | frz ob u ih => obtain ⟨e, q⟩ := x; exact ⟨k _ _ (.inl rfl) e, ih q⟩
  | tbl ps =>
    have e : h.get? a = some { cls := .none, data := .fields ps } := x
    show h'.get? a = some { cls := .none, data := .fields ps }
    exact k a _ (.inl rfl) e
  | met f y =>
    have e : h.get? a = some (PySem.W.methodObj (.ref f) (.ref y)) := x
    show h'.get? a = some (PySem.W.methodObj (.ref f) (.ref y))
    exact k a _ (.inl rfl) e
  | ext φ => obtain ⟨p, ⟨o, e⟩, st⟩ := x; exact ⟨st _ _ p fun o q => k _ _ (.inl rfl) q, ⟨o, k _ _ (.inl rfl) e⟩, st⟩
theorem HOk.lt (x : HOk P w H h) (e : H a = some o) : a < h.objs.size := (x a o e).lt
theorem HOk.fresh (x : HOk P w H h) (e : h.objs.size ≤ a) : H a = none := by
  cases q : H a with
  | none => rfl
  | some u => exact absurd (Nat.lt_of_lt_of_le (x.lt q) e) (Nat.lt_irrefl _)
/-- every object of the heap is kept -/
theorem HOk.kept (x : HOk P w H h) (k : ∀ b u, h.get? b = some u → h'.get? b = some u) : HOk P w H h' := fun a o e =>
  (x a o e).stay (fun b u _ q => k b u q) (fun _ q => q) fun _ _ q => q
/-- a new object is laid and tracked -/
theorem HOk.laid (x : HOk P w H h) (k : ∀ b u, h.get? b = some u → h'.get? b = some u) (hp : h.objs.size ≤ a) (new : ObjOk P w (upd H a o) h' a o) : HOk P w (upd H a o) h' := fun b u e => by
  have hn := x.fresh hp
  by_cases hb : b = a
  · subst hb; rw [upd_same] at e; cases e; exact new
  · rw [upd_ne hb] at e
    exact (x b u e).stay (fun c v _ q => k c v q) (fun c q => by rw [upd_ne (ne_of_none q hn)]; exact q) fun c xs q => by rw [upd_ne (ne_of_none q hn)]; exact q
end

/-- what may be read as u: it is u, or a known u -/
def Rd (H : Hp) (a : Addr) (u : HO) : Prop := H a = some u ∨ ∃ o, H a = some (.frz o u)
theorem Rd.of {H : Hp} {a : Addr} {u : HO} (h : H a = some u) : Rd H a u := .inl h
theorem Rd.ok {P : Program} {w : World} {H : Hp} {h : Heap} {a : Addr} {u : HO} (r : Rd H a u) (x : HOk P w H h) : ObjOk P w H h a u := by
  rcases r with r | ⟨o, r⟩
  · exact x a u r
  · obtain ⟨_, q⟩ := x a _ r
    exact q
/-- what may be written -/
def Mut : Option HO → Prop
  | some (.lst _) => True
  | some (.dK _) => True
  | some (.dT _) => True
  | some (.set _ _) => True
  | some (.ins _ _ _) => True
  | some (.ext _) => True
  | _ => False
section
variable {P : Program} {w : World} {H : Hp} {h h' : Heap} {x e : Addr} {o' : HO}
/-- the object at e is changed: x itself, or the dict of the instance x -/
theorem HOk.write (ok : HOk P w H h) (mu : Mut (H x)) (he : e = x ∨ H e = some (.own x)) (k : ∀ b u, b ≠ e → h.get? b = some u → h'.get? b = some u) (heo : ∃ u, h'.get? e = some u)
    (new : ObjOk P w (upd H x o') h' x o') : HOk P w (upd H x o') h' := fun b u q => by
  have nown : ∀ c y, H c = some (.own y) → c ≠ x := fun c y r z => by subst z; rw [r] at mu; exact mu
  have ntup : ∀ c xs, H c = some (.tup xs) → c ≠ x := fun c xs r z => by subst z; rw [r] at mu; exact mu
  by_cases hb : b = x
  · subst hb; rw [upd_same] at q; cases q; exact new
  · rw [upd_ne hb] at q
    by_cases hbe : b = e
    · have q' : H b = some (.own x) := by
        rcases he with z | z
        · exact absurd (hbe.trans z) hb
        · rw [hbe]; exact z
      rw [q] at q'; cases q'
      obtain ⟨v, hv⟩ := heo
      exact ⟨v, by rw [hbe]; exact hv⟩
    · refine (ok b u q).stay (fun c v hc r => k c v ?_ r) (fun c r => by rw [upd_ne (nown c b r)]; exact r) fun c xs r => by rw [upd_ne (ntup c xs r)]; exact r
      rcases hc with rfl | hc
      · exact hbe
      · rintro rfl
        rcases he with z | z
        · exact nown c b hc z
        · rw [hc] at z; cases z; exact hb rfl
end

/-! ### kept unless tracked; of the frames at fs (the callers') the slots may change (an exception that passes writes there); of the records at ex (iterators) nothing is said -/
structure Un (fs ex : List Addr) (H H' : Hp) (h h' : Heap) : Prop where
  keep : ∀ b o, h.get? b = some o → H b = none → b ∉ fs → b ∉ ex → h'.get? b = some o
  slot : ∀ b o, h.get? b = some o → H b = none → b ∈ fs → b ∉ ex → ∃ sl, h'.get? b = some { o with slots := sl }
  free : ∀ b o, h.get? b = some o → H b = none → b ∉ ex → H' b = none
  there : ∀ b o, h.get? b = some o → b ∉ ex → ∃ o', h'.get? b = some o'
  tups : ∀ b xs, H b = some (.tup xs) → H' b = some (.tup xs)
  frzs : ∀ b o u, H b = some (.frz o u) → H' b = some (.frz o u)
  tbls : ∀ b ps, H b = some (.tbl ps) → ∃ more, H' b = some (.tbl (ps ++ more))
section
variable {fs fs' ex ex' : List Addr} {H H1 H2 : Hp} {h h1 h2 h' : Heap} {a x e : Addr} {o : HO}
theorem Un.any (u : Un fs ex H H1 h h1) {b : Addr} {ob : Obj} (q : h.get? b = some ob) (n : H b = none) (hx : b ∉ ex) : ∃ sl, h1.get? b = some { ob with slots := sl } := by
  by_cases hb : b ∈ fs
  · exact u.slot b ob q n hb hx
  · exact ⟨ob.slots, u.keep b ob q n hb hx⟩
theorem Un.trans (a : Un fs ex H H1 h h1) (b : Un fs ex H1 H2 h1 h2) : Un fs ex H H2 h h2 where
  keep := fun c ob q n hc hx => b.keep c ob (a.keep c ob q n hc hx) (a.free c ob q n hx) hc hx
  slot := fun c ob q n hc hx => by
    obtain ⟨sl, e1⟩ := a.slot c ob q n hc hx
    obtain ⟨sl', e2⟩ := b.slot c _ e1 (a.free c ob q n hx) hc hx
    exact ⟨sl', e2⟩
  free := fun c ob q n hx => by
    obtain ⟨o', e1⟩ := a.there c ob q hx
    exact b.free c o' e1 (a.free c ob q n hx) hx
  there := fun c ob q hx => by
    obtain ⟨o', e1⟩ := a.there c ob q hx
    exact b.there c o' e1 hx
  tups := fun c xs q => b.tups c xs (a.tups c xs q)
  frzs := fun c ob xs q => b.frzs c ob xs (a.frzs c ob xs q)
  tbls := fun c ps q => by
    obtain ⟨m1, e1⟩ := a.tbls c ps q
    obtain ⟨m2, e2⟩ := b.tbls c _ e1
    exact ⟨m1 ++ m2, by rw [e2, Array.append_assoc]⟩
theorem Un.kept (k : ∀ b u, h.get? b = some u → h'.get? b = some u) : Un fs ex H H h h' :=
  ⟨fun b ob q _ _ _ => k b ob q, fun b ob q _ _ _ => ⟨ob.slots, k b ob q⟩, fun _ _ _ n _ => n, fun b ob q _ => ⟨ob, k b ob q⟩, fun _ _ q => q, fun _ _ _ q => q, fun _ ps q => ⟨#[], by rw [q]; simp⟩⟩
theorem Un.refl : Un fs ex H H h h := Un.kept fun _ _ q => q
theorem Un.laid (k : ∀ b u, h.get? b = some u → h'.get? b = some u) (hp : h.objs.size ≤ a) (hn : H a = none) : Un fs ex H (upd H a o) h h' where
  keep := fun b u q _ _ _ => k b u q
  slot := fun b u q _ _ _ => ⟨u.slots, k b u q⟩
  free := fun b u q n _ => by rw [upd_ne (Nat.ne_of_lt (Nat.lt_of_lt_of_le (Heap.lt_size q) hp))]; exact n
  there := fun b u q _ => ⟨u, k b u q⟩
  tups := fun b xs q => by rw [upd_ne (ne_of_none q hn)]; exact q
  frzs := fun b u xs q => by rw [upd_ne (ne_of_none q hn)]; exact q
  tbls := fun b ps q => ⟨#[], by rw [upd_ne (ne_of_none q hn), q]; simp⟩
theorem Un.write (mu : Mut (H x)) (he : e = x ∨ H e = some (.own x)) (k : ∀ b u, b ≠ e → h.get? b = some u → h'.get? b = some u) (heo : ∃ u, h'.get? e = some u) : Un fs ex H (upd H x o) h h' := by
  have hx : ∀ b, H b = none → b ≠ x := fun b n z => by subst z; rw [n] at mu; exact mu
  have hb : ∀ b, H b = none → b ≠ e := fun b n z => by
    subst z
    rcases he with r | r
    · exact hx b n r
    · rw [n] at r; cases r
  have hm : ∀ b u, H b = some u → ¬ Mut (some u) → b ≠ x := fun b u q nm z => by subst z; rw [q] at mu; exact nm mu
  refine ⟨fun b u q n _ _ => k b u (hb b n) q, fun b u q n _ _ => ⟨u.slots, k b u (hb b n) q⟩, fun b u q n _ => by rw [upd_ne (hx b n)]; exact n, fun b u q _ => ?_,
    fun b xs q => by rw [upd_ne (hm b _ q fun z => z)]; exact q, fun b u xs q => by rw [upd_ne (hm b _ q fun z => z)]; exact q, fun b ps q => ⟨#[], by rw [upd_ne (hm b _ q fun z => z), q]; simp⟩⟩
  by_cases hbe : b = e
  · subst hbe; exact heo
  · exact ⟨u, k b u hbe q⟩
theorem Un.mono (u : Un fs ex H H1 h h1) (hs : ∀ b ∈ fs, b ∈ fs') (hx : ∀ b ∈ ex, b ∈ ex') : Un fs' ex' H H1 h h1 :=
  ⟨fun b ob q n hb he => u.keep b ob q n (fun z => hb (hs b z)) fun z => he (hx b z), fun _ _ q n _ he => u.any q n fun z => he (hx _ z), fun b ob q n he => u.free b ob q n fun z => he (hx b z), fun b ob q he => u.there b ob q fun z => he (hx b z), u.tups, u.frzs, u.tbls⟩
end

/-! ### the heap without what is tracked -/
def trk (h : Heap) (H : Hp) : List Addr := (List.range h.objs.size).filter fun a => (H a).isSome
def hidT (h : Heap) (H : Hp) : Heap := PySem.W.hideAll h (trk h H)
theorem hidT_size (h : Heap) (H : Hp) : (hidT h H).objs.size = h.objs.size := PySem.W.hideAll_size _ _
theorem hidT_get {h : Heap} {H : Hp} {b : Addr} {o : Obj} (e : h.get? b = some o) (n : H b = none) : (hidT h H).get? b = some o :=
  PySem.W.hideAll_get _ e fun hm => by
    have q : (H b).isSome = true := (List.mem_filter.mp hm).2
    rw [n] at q; simp at q
theorem of_hidT {h : Heap} {H : Hp} {b : Addr} {o : Obj} (e : (hidT h H).get? b = some o) : h.get? b = some o ∧ H b = none := by
  have e' : h.get? b = some o := PySem.W.of_hideAll (trk h H) e
  refine ⟨e', ?_⟩
  cases q : H b with
  | none => rfl
  | some x =>
    have hm : b ∈ trk h H := List.mem_filter.mpr ⟨List.mem_range.mpr (Heap.lt_size e'), by simp [q]⟩
    have z : (hidT h H).get? b = none := PySem.W.hideAll_none (trk h H) hm
    rw [z] at e; cases e

/-! ### OpenK's ledger, filled with every new object but one -/
def allNews (g h : Heap) (L : Addr) : List (Addr × Obj) := (List.range h.objs.size).filterMap fun a => if a = L ∨ (g.get? a).isSome = true then none else (h.get? a).map fun o => (a, o)
theorem mem_allNews {g h : Heap} {L a : Addr} {o : Obj} (h1 : a ≠ L) (h2 : g.get? a = none) (h3 : h.get? a = some o) : (a, o) ∈ allNews g h L :=
  List.mem_filterMap.mpr ⟨a, List.mem_range.mpr (Heap.lt_size h3), by simp [h1, h2, h3]⟩
theorem of_mem_allNews {g h : Heap} {L : Addr} {p : Addr × Obj} (hp : p ∈ allNews g h L) : p.1 ≠ L ∧ g.get? p.1 = none ∧ h.get? p.1 = some p.2 := by
  obtain ⟨b, _, e⟩ := List.mem_filterMap.mp hp
  split at e
  · cases e
  · rename_i hn
    cases q : h.get? b with
    | none => rw [q] at e; simp at e
    | some u =>
      rw [q] at e
      simp only [Option.map_some, Option.some.injEq] at e
      subst e
      refine ⟨fun z => hn (.inl z), ?_, q⟩
      show g.get? b = none
      cases r : g.get? b with
      | none => rfl
      | some v => exact (hn (.inr (by simp [r]))).elim
def rest (g h : Heap) (L d : Addr) : List (Addr × Obj) := (allNews g h L).filter fun p => decide (p.1 ≠ d)
theorem rest_ne {g h : Heap} {L d : Addr} : ∀ p ∈ rest g h L d, p.1 ≠ d := fun p hp => of_decide_eq_true (List.mem_filter.mp hp).2
theorem mem_rest {g h : Heap} {L d a : Addr} {o : Obj} (h1 : a ≠ L) (h2 : g.get? a = none) (h3 : h.get? a = some o) (h4 : a ≠ d) : (a, o) ∈ rest g h L d :=
  List.mem_filter.mpr ⟨mem_allNews h1 h2 h3, decide_eq_true h4⟩
theorem news_all {g h : Heap} {L : Addr} : News g L h (allNews g h L) := fun p hp => let ⟨a, b, c⟩ := of_mem_allNews hp; ⟨c, a, b⟩
theorem news_at {g h : Heap} {L d : Addr} {o : Obj} (h1 : d ≠ L) (h2 : g.get? d = none) (h3 : h.get? d = some o) : News g L h ((d, o) :: rest g h L d) := fun p hp => by
  rcases List.mem_cons.mp hp with rfl | hp
  · exact ⟨h3, h1, h2⟩
  · exact news_all p (List.mem_filter.mp hp).1
/-- behind a rule that changed d alone: all else but the frame is kept -/
theorem kept_of_news {g h h' : Heap} {L d : Addr} {m : Str → Option Value} (k : ∀ b o, g.get? b = some o → h.get? b = some o) (F : Fr g L h' m) (N : News g L h' (rest g h L d)) :
    ∀ b o, b ≠ L → b ≠ d → h.get? b = some o → h'.get? b = some o := fun b o h1 h2 e => by
  cases q : g.get? b with
  | some u =>
    have := k b u q
    rw [e] at this; cases this
    exact F.keep b _ q
  | none => exact (N (b, o) (mem_rest h1 q e h2)).1
end L2

namespace L2
open PySem PySem.Spec PyProof.Rows

/-- the module's facts, over the base: the heap at the law's entry without what is tracked there -/
structure Mod (K : PySem.W.Frag) (mg : Str → Option Value) (base : Heap) : Prop where
  kin : K.In base
  glob : base.Ns mainGlobals mg
  blt : ∃ mb, base.Ns builtinsNs mb ∧ ∀ x : Str, x ≠ "__name__" → mb x = bootBuiltins x
  nolimit : base.NoLimit

/-- the context: a def's body (or a comprehension's block) running. base: fixed through the whole law; s₀, H₀: the entry; outer: the frames whose slots others may change (a def's callers); stack: all frames that run;
   ex: iterators that were made ahead of the entry and are walked here (a comprehension's); fn: the names whose cells were made at the entry (a def: all; a comprehension's block: its own); calm: not within an except suite; pn: pins that every state bears; xe: what is wanted of an exception that leaves the code -/
structure Cx where
  prog : Program
  w : World
  K : PySem.W.Frag
  mg : Str → Option Value
  base : Heap
  A : Around
  N : List Str
  s₀ : Shared
  H₀ : Hp
  env : Env
  outer : List Env
  stack : List Env
  ex : List Addr
  fn : Str → Bool
  calm : Bool
  pn : List (Addr × Obj)
  xe : Value → Shared → Prop
/-- the callers' frames -/
def frs (l : List Env) : List Addr := l.filterMap (·.frame)
abbrev Cx.fs (X : Cx) : List Addr := frs X.outer

def Vis (sc : Scope) (x : Str) : Prop := sc.names.lookup x = some .local ∨ sc.names.lookup x = some .cell ∨ sc.names.lookup x = some .free
def Loc (sc : Scope) (x : Str) : Prop := sc.names.lookup x = some .local ∨ sc.names.lookup x = some .cell
def Look (env : Env) (h : Heap) (m : Str → Option Value) (x : Str) (u : Value) : Prop :=
  (env.kindOf x = some .local ∧ m x = some u) ∨ ((env.kindOf x = some .cell ∨ env.kindOf x = some .free) ∧ ∃ c, env.cells.lookup x = some c ∧ h.IsCell c (some u))

structure Cx.Ok (X : Cx) : Prop where
  mod : Mod X.K X.mg X.base
  kind : X.env.scope.kind = .function
  glob : X.env.globals = mainGlobals
  blt : X.env.builtins = builtinsNs
  above : X.s₀.heap.objs.size ≤ X.env.locals
  inj : ∀ x y c, X.env.cells.lookup x = some c → X.env.cells.lookup y = some c → x = y
  has : ∀ x, (X.env.kindOf x = some .cell ∨ X.env.kindOf x = some .free) → ∃ c, X.env.cells.lookup x = some c
  cab : ∀ x c, X.fn x = true → X.env.cells.lookup x = some c → X.s₀.heap.objs.size ≤ c
  hd : X.calm = true → X.A.handled = none
  frames : X.A.frames = some X.stack
  stk : X.stack = X.outer ∨ (X.stack = X.env :: X.outer ∧ X.env.frame = some X.env.locals)
  exf : ∀ b ∈ X.ex, b ≠ X.env.locals ∧ ∀ x c, X.env.cells.lookup x = some c → c ≠ b
  bs : ∀ b o, X.base.get? b = some o → X.s₀.heap.get? b = some o ∧ X.H₀ b = none
  bsz : X.base.objs.size ≤ X.s₀.heap.objs.size
  noex : ∀ b o, X.base.get? b = some o → b ∉ X.ex
  exfs : ∀ b ∈ X.ex, b ∉ X.fs
  funs : X.s₀.heap.FunFrames X.base X.outer
  frf : ∀ b ∈ X.fs, X.H₀ b = none

structure Inv (X : Cx) (pins : List (Addr × Obj)) (σ : List (Option V)) (H : Hp) (s : Shared) : Prop where
  ok : X.Ok
  os : s.os = X.s₀.os
  bare : AllBare s.gens
  base : Un X.fs X.ex X.H₀ H X.s₀.heap s.heap
  loc : ∃ m, s.heap.Ns X.env.locals m ∧ ∀ (i : Nat) (x : Str) (v : V), X.N[i]? = some x → σ[i]? = some (some v) → Vis X.env.scope x → ∃ u, RelV v u ∧ Look X.env s.heap m x u
  cell : ∀ x c, X.env.cells.lookup x = some c → ∃ v, s.heap.IsCell c v
  free : H X.env.locals = none
  freeC : ∀ x c, X.env.cells.lookup x = some c → H c = none
  pin : ∀ p ∈ X.pn ++ pins, s.heap.get? p.1 = some p.2 ∧ H p.1 = none ∧ p.1 ≠ X.env.locals ∧ p.1 ∉ X.fs ∧ ∀ v, p.2.data ≠ .cell v
  hok : HOk X.prog X.w H s.heap
  len : σ.length = X.N.length

section
variable {X : Cx} {pins : List (Addr × Obj)} {σ : List (Option V)} {H H' : Hp} {s : Shared} {h' : Heap}

theorem Cx.Ok.nofr (ok : X.Ok) {b : Addr} {o : Obj} (e : X.base.get? b = some o) : b ∉ X.fs := fun hb => by
  have := (ok.funs.mem hb).1
  rw [e] at this; cases this
theorem Inv.bs (I : Inv X pins σ H s) : ∀ b o, X.base.get? b = some o → s.heap.get? b = some o ∧ H b = none := fun b o e =>
  ⟨I.base.keep b o (I.ok.bs b o e).1 (I.ok.bs b o e).2 (I.ok.nofr e) (I.ok.noex b o e), I.base.free b o (I.ok.bs b o e).1 (I.ok.bs b o e).2 (I.ok.noex b o e)⟩
theorem Inv.bk (I : Inv X pins σ H s) : ∀ b o, X.base.get? b = some o → s.heap.get? b = some o := fun b o e => (I.bs b o e).1
theorem Inv.mod (I : Inv X pins σ H s) : Mod X.K X.mg X.base := I.ok.mod
theorem Inv.kIn (I : Inv X pins σ H s) : X.K.In s.heap := I.ok.mod.kin.keeps I.bk
theorem Inv.nolimit (I : Inv X pins σ H s) : s.heap.NoLimit := I.ok.mod.nolimit.keeps I.bk
/-- the frame over the base: for OpenK's rules (K.In X.base is I.mod.kin) -/
theorem Inv.fr (I : Inv X pins σ H s) : ∃ m, Fr X.base X.env.locals s.heap m :=
  let ⟨m, hn, _⟩ := I.loc
  ⟨m, hn, I.bk, Nat.le_trans I.ok.bsz I.ok.above⟩
theorem Inv.lt (I : Inv X pins σ H s) : X.env.locals < s.heap.objs.size := let ⟨_, hn, _⟩ := I.loc; hn.lt
theorem Inv.sz (I : Inv X pins σ H s) : X.s₀.heap.objs.size ≤ s.heap.objs.size := Nat.le_trans I.ok.above (Nat.le_of_lt I.lt)
theorem Inv.nofs (I : Inv X pins σ H s) {a : Addr} (h : s.heap.objs.size ≤ a) : a ∉ X.fs := fun hb => by
  obtain ⟨_, o, ho, _⟩ := I.ok.funs.mem hb
  exact absurd (Nat.lt_of_lt_of_le (Heap.lt_size ho) (Nat.le_trans I.sz h)) (Nat.lt_irrefl _)
theorem Inv.cne (I : Inv X pins σ H s) : ∀ x c, X.env.cells.lookup x = some c → c ≠ X.env.locals := fun x c e z => by
  obtain ⟨v, o, ho, hd⟩ := I.cell x c e
  obtain ⟨m, ⟨o', es, ep, ho', hd', _⟩, _⟩ := I.loc
  rw [z, ho'] at ho; cases ho; rw [hd'] at hd; cases hd
theorem Inv.funs (I : Inv X pins σ H s) : s.heap.FunFrames X.base X.outer := by
  have all : ∀ (l : List Env), (∀ b ∈ frs l, b ∈ X.fs) → X.s₀.heap.FunFrames X.base l → s.heap.FunFrames X.base l := by
    intro l
    induction l with
    | nil => intro _ _; trivial
    | cons env r ih =>
      intro hs hl
      obtain ⟨hk, ⟨L, o, hf, hn, ho, hd⟩, hr⟩ := hl
      have hL : L ∈ X.fs := hs L (by unfold frs; rw [List.filterMap_cons, hf]; exact List.mem_cons_self)
      obtain ⟨sl, e⟩ := I.base.slot L o ho (I.ok.frf L hL) hL fun z => I.ok.exfs L z hL
      exact ⟨hk, ⟨L, _, hf, hn, e, hd⟩, ih (fun b hb => hs b (by unfold frs; rw [List.filterMap_cons, hf]; exact List.mem_cons_of_mem _ hb)) hr⟩
  exact all X.outer (fun _ hb => hb) I.ok.funs

/-- the frames that run, for a call -/
theorem Inv.stack (I : Inv X pins σ H s) : s.heap.FunFrames X.base X.stack := by
  rcases I.ok.stk with e | ⟨e, hf⟩
  · rw [e]; exact I.funs
  · rw [e]
    obtain ⟨m, hn, _⟩ := I.loc
    refine .cons (by rw [I.ok.kind]; decide) hf hn ?_ I.funs
    exact Heap.get?_none_of_le (Nat.le_trans I.ok.bsz I.ok.above)
theorem Inv.stkSub (I : Inv X pins σ H s) : ∀ b ∈ frs X.stack, b ∈ X.env.locals :: X.fs := fun b hb => by
  rcases I.ok.stk with e | ⟨e, hf⟩
  · rw [e] at hb; exact List.mem_cons_of_mem _ hb
  · rw [e] at hb
    unfold frs at hb
    rw [List.filterMap_cons, hf] at hb
    exact hb
theorem Inv.stkFree (I : Inv X pins σ H s) : ∀ b ∈ frs X.stack, H b = none := fun b hb => by
  rcases List.mem_cons.mp (I.stkSub b hb) with e | hb
  · rw [e]; exact I.free
  · obtain ⟨_, o, ho, _⟩ := I.ok.funs.mem hb
    exact I.base.free b o ho (I.ok.frf b hb) fun z => I.ok.exfs b z hb

/-- THE STEP: the untracked objects but the frame and the records at ch are kept (the callers' frames up to slots), the frame's map is kept, the new abstract heap is held -/
theorem Inv.step {g' : Array GenState} {t' : Nat} {d' : Drawn} {ch : List Addr} (I : Inv X pins σ H s)
    (hch : ∀ b ∈ ch, (b ∈ X.ex ∨ X.s₀.heap.objs.size ≤ b) ∧ b ≠ X.env.locals ∧ (∀ x c, X.env.cells.lookup x = some c → c ≠ b) ∧ ∀ p ∈ X.pn ++ pins, p.1 ≠ b)
    (keep : ∀ b o, b ≠ X.env.locals → b ∉ X.fs → b ∉ ch → s.heap.get? b = some o → H b = none → h'.get? b = some o)
    (slot : ∀ b o, b ≠ X.env.locals → b ∈ X.fs → b ∉ ch → s.heap.get? b = some o → H b = none → ∃ sl, h'.get? b = some { o with slots := sl }) (free : ∀ b o, b ∉ ch → s.heap.get? b = some o → H b = none → H' b = none)
    (there : ∀ b o, b ∉ ch → s.heap.get? b = some o → ∃ o', h'.get? b = some o')
    (tups : ∀ b xs, H b = some (.tup xs) → H' b = some (.tup xs)) (frzs : ∀ b o u, H b = some (.frz o u) → H' b = some (.frz o u)) (tbls : ∀ b ps, H b = some (.tbl ps) → ∃ more, H' b = some (.tbl (ps ++ more)))
    (ns : ∀ m, s.heap.Ns X.env.locals m → h'.Ns X.env.locals m) (hok : HOk X.prog X.w H' h') (hg : AllBare g') :
    Inv X pins σ H' { s with heap := h', gens := g', drawn := d', toks := t' } := by
  have neL : ∀ b o, X.s₀.heap.get? b = some o → b ≠ X.env.locals := fun b o e => Nat.ne_of_lt (Nat.lt_of_lt_of_le (Heap.lt_size e) I.ok.above)
  have neC : ∀ b o, X.s₀.heap.get? b = some o → b ∉ X.ex → b ∉ ch := fun b o e hx hb => by
    rcases (hch b hb).1 with z | z
    · exact hx z
    · exact absurd (Nat.lt_of_lt_of_le (Heap.lt_size e) z) (Nat.lt_irrefl _)
  have cellK : ∀ x c, X.env.cells.lookup x = some c → ∀ v, s.heap.IsCell c v → h'.IsCell c v := fun x c e v ⟨o, ho, hd⟩ => by
    have nch : c ∉ ch := fun z => (hch c z).2.2.1 x c e rfl
    by_cases hc : c ∈ X.fs
    · obtain ⟨sl, q⟩ := slot c o (I.cne x c e) hc nch ho (I.freeC x c e)
      exact ⟨_, q, hd⟩
    · exact ⟨o, keep c o (I.cne x c e) hc nch ho (I.freeC x c e), hd⟩
  refine ⟨I.ok, I.os, hg, ⟨fun b o e n hb hx => ?_, fun b o e n hb hx => ?_, fun b o e n hx => ?_, fun b o e hx => ?_, fun b xs e => tups b xs (I.base.tups b xs e), fun b o xs e => frzs b o xs (I.base.frzs b o xs e), fun b ps e => ?_⟩, ?_, fun x c e => ?_, ?_, fun x c e => ?_, fun p hp => ?_, hok, I.len⟩
  · exact keep b o (neL b o e) hb (neC b o e hx) (I.base.keep b o e n hb hx) (I.base.free b o e n hx)
  · obtain ⟨sl, e1⟩ := I.base.slot b o e n hb hx
    obtain ⟨sl', e2⟩ := slot b _ (neL b o e) hb (neC b o e hx) e1 (I.base.free b o e n hx)
    exact ⟨sl', e2⟩
  · obtain ⟨o', e1⟩ := I.base.there b o e hx
    exact free b o' (neC b o e hx) e1 (I.base.free b o e n hx)
  · obtain ⟨o', e1⟩ := I.base.there b o e hx
    exact there b o' (neC b o e hx) e1
  · obtain ⟨m1, e1⟩ := I.base.tbls b ps e
    obtain ⟨m2, e2⟩ := tbls b _ e1
    exact ⟨m1 ++ m2, by rw [e2, Array.append_assoc]⟩
  · obtain ⟨m, hn, hl⟩ := I.loc
    refine ⟨m, ns m hn, fun i x v e1 e2 e3 => ?_⟩
    obtain ⟨u, r, l⟩ := hl i x v e1 e2 e3
    refine ⟨u, r, ?_⟩
    rcases l with l | ⟨k, c, e, z⟩
    · exact .inl l
    · exact .inr ⟨k, c, e, cellK x c e _ z⟩
  · obtain ⟨v, z⟩ := I.cell x c e
    exact ⟨v, cellK x c e v z⟩
  · obtain ⟨m, ⟨o, _, _, ho, _⟩, _⟩ := I.loc
    exact free _ o (fun z => (hch _ z).2.1 rfl) ho I.free
  · obtain ⟨v, o, ho, hd⟩ := I.cell x c e
    exact free c o (fun z => (hch c z).2.2.1 x c e rfl) ho (I.freeC x c e)
  · obtain ⟨e, n, ne, nf, d⟩ := I.pin p hp
    have nch : p.1 ∉ ch := fun z => (hch p.1 z).2.2.2 p hp rfl
    exact ⟨keep p.1 p.2 ne nf nch e n, free p.1 p.2 nch e n, ne, nf, d⟩
/-- .. where the frame's own object is kept too -/
theorem Inv.un {t' : Nat} (I : Inv X pins σ H s) (u : Un X.fs [] H H' s.heap h') (hok : HOk X.prog X.w H' h') : Inv X pins σ H' { s with heap := h', toks := t' } := by
  obtain ⟨m, ⟨o, es, ep, ho, r⟩, _⟩ := id I.loc
  obtain ⟨sl, hL⟩ := u.any ho I.free (by simp)
  exact I.step (g' := s.gens) (d' := s.drawn) (ch := []) (fun _ z => nomatch z) (fun b o _ hb _ e n => u.keep b o e n hb (by simp)) (fun b o _ hb _ e n => u.slot b o e n hb (by simp)) (fun b o _ e n => u.free b o e n (by simp)) (fun b o _ e => u.there b o e (by simp)) u.tups u.frzs u.tbls (fun m' hm => by
    obtain ⟨o', es', ep', ho', r'⟩ := hm
    rw [ho] at ho'; cases ho'
    exact ⟨_, es', ep', hL, r'⟩) hok I.bare
/-- behind a call (or a comprehension's block): the slots of this frame may have changed too, the records at ch may have turned -/
theorem Inv.call {g' : Array GenState} {t' : Nat} {d' : Drawn} {ch : List Addr} (I : Inv X pins σ H s) (u : Un (frs X.stack) ch H H' s.heap h') (hok : HOk X.prog X.w H' h') (hg : AllBare g')
    (hch : ∀ b ∈ ch, (b ∈ X.ex ∨ X.s₀.heap.objs.size ≤ b) ∧ b ≠ X.env.locals ∧ (∀ x c, X.env.cells.lookup x = some c → c ≠ b) ∧ ∀ p ∈ X.pn ++ pins, p.1 ≠ b) :
    Inv X pins σ H' { s with heap := h', gens := g', drawn := d', toks := t' } := by
  obtain ⟨m, ⟨o, es, ep, ho, r⟩, _⟩ := id I.loc
  obtain ⟨sl, hL⟩ := u.any ho I.free fun z => (hch _ z).2.1 rfl
  exact I.step (ch := ch) hch (fun b o hL hb hc e n => u.keep b o e n (fun z => (List.mem_cons.mp (I.stkSub b z)).elim hL hb) hc) (fun b o _ _ hc e n => u.any e n hc) (fun b o hc e n => u.free b o e n hc) (fun b o hc e => u.there b o e hc) u.tups u.frzs u.tbls (fun m' hm => by
    obtain ⟨o', es', ep', ho', r'⟩ := hm
    rw [ho] at ho'; cases ho'
    exact ⟨_, es', ep', hL, r'⟩) hok hg
/-- an untracked record of ours (an iterator) has turned -/
theorem Inv.turned {t' : Nat} {it : Addr} (I : Inv X pins σ H s) (k : ∀ b o, b ≠ it → s.heap.get? b = some o → h'.get? b = some o) (hn : H it = none) (hL : it ≠ X.env.locals)
    (h1 : it ∈ X.ex ∨ X.s₀.heap.objs.size ≤ it) (h2 : ∀ x c, X.env.cells.lookup x = some c → c ≠ it) (h3 : ∀ p ∈ X.pn ++ pins, p.1 ≠ it) : Inv X pins σ H { s with heap := h', toks := t' } := by
  have nit : ∀ b u, H b = some u → b ≠ it := fun b u e z => by rw [z, hn] at e; cases e
  refine I.step (g' := s.gens) (d' := s.drawn) (ch := [it]) (fun b hb => ?_) (fun b o _ _ hc e _ => k b o (fun z => hc (by simp [z])) e) (fun b o _ _ hc e _ => ⟨o.slots, k b o (fun z => hc (by simp [z])) e⟩) (fun _ _ _ _ n => n)
    (fun b o hc e => ⟨o, k b o (fun z => hc (by simp [z])) e⟩) (fun _ _ e => e) (fun _ _ _ e => e) (fun b ps e => ⟨#[], by rw [e]; simp⟩) (fun m hm => ?_) (fun b u e => ?_) I.bare
  · have e : b = it := by simpa using hb
    subst e
    exact ⟨h1, hL, h2, h3⟩
  · obtain ⟨o, es, ep, ho, r⟩ := hm
    exact ⟨o, es, ep, k _ o (Ne.symm hL) ho, r⟩
  · refine (I.hok b u e).stay (fun c v hc q => k c v ?_ q) (fun _ q => q) fun _ _ q => q
    rcases hc with z | z
    · rw [z]; exact nit b u e
    · exact nit c _ z
theorem Inv.tok (I : Inv X pins σ H s) (t : Nat) : Inv X pins σ H { s with toks := t } := I.un (h' := s.heap) (t' := t) Un.refl I.hok
/-- all objects kept -/
theorem Inv.kept {t' : Nat} (I : Inv X pins σ H s) (k : ∀ b u, s.heap.get? b = some u → h'.get? b = some u) : Inv X pins σ H { s with heap := h', toks := t' } := I.un (Un.kept k) (I.hok.kept k)
/-- a new object laid and tracked -/
theorem Inv.laid {a : Addr} {o : HO} {t' : Nat} (I : Inv X pins σ H s) (k : ∀ b u, s.heap.get? b = some u → h'.get? b = some u) (hp : s.heap.objs.size ≤ a) (new : ObjOk X.prog X.w (upd H a o) h' a o) :
    Inv X pins σ (upd H a o) { s with heap := h', toks := t' } := I.un (Un.laid k hp (I.hok.fresh hp)) (I.hok.laid k hp new)
/-- an object written -/
theorem Inv.write {x e : Addr} {o : HO} {t' : Nat} (I : Inv X pins σ H s) (mu : Mut (H x)) (he : e = x ∨ H e = some (.own x)) (k : ∀ b u, b ≠ e → s.heap.get? b = some u → h'.get? b = some u) (heo : ∃ u, h'.get? e = some u)
    (new : ObjOk X.prog X.w (upd H x o) h' x o) : Inv X pins σ (upd H x o) { s with heap := h', toks := t' } := I.un (Un.write mu he k heo) (I.hok.write mu he k heo new)
/-- forgetting slots, pins -/
theorem Inv.weak {σ' : List (Option V)} (I : Inv X pins σ H s) (hl : σ'.length = σ.length) (w : ∀ (i : Nat) v, σ'[i]? = some (some v) → σ[i]? = some (some v)) : Inv X pins σ' H s :=
  ⟨I.ok, I.os, I.bare, I.base, let ⟨m, hn, hl'⟩ := I.loc; ⟨m, hn, fun i x v e1 e2 e3 => hl' i x v e1 (w i v e2) e3⟩, I.cell, I.free, I.freeC, I.pin, I.hok, hl.trans I.len⟩
theorem Inv.pins_of {pins' : List (Addr × Obj)} (I : Inv X pins σ H s) (h : ∀ p ∈ pins', s.heap.get? p.1 = some p.2 ∧ H p.1 = none ∧ p.1 ≠ X.env.locals ∧ p.1 ∉ X.fs ∧ ∀ v, p.2.data ≠ .cell v) : Inv X pins' σ H s :=
  ⟨I.ok, I.os, I.bare, I.base, I.loc, I.cell, I.free, I.freeC, fun p hp => (List.mem_append.mp hp).elim (fun z => I.pin p (List.mem_append_left _ z)) (h p), I.hok, I.len⟩

theorem nodup_ix {N : List Str} (hN : N.Nodup) {i j : Nat} {x : Str} (a : N[i]? = some x) (b : N[j]? = some x) : i = j := by
  obtain ⟨h1, e1⟩ := List.getElem?_eq_some_iff.mp a
  obtain ⟨h2, e2⟩ := List.getElem?_eq_some_iff.mp b
  exact (List.getElem_inj hN).mp (e1.trans e2.symm)

/-- a name is stored; what changed -/
theorem store_ok2 {M : Model} {A : Around} {E : Value → Shared → Prop} {i : Nat} {x : Str} {v : V} {u : Value} {Q : Unit → Shared → Prop} (I : Inv X pins σ H s) (hN : X.N.Nodup) (hi : X.N[i]? = some x) (hx : Loc X.env.scope x) (r : RelV v u)
    (h : ∀ s', Inv X pins (σ.set i (some v)) H s' → (∃ a, Heap.SameBut a s.heap s'.heap ∧ (a = X.env.locals ∨ X.env.cells.lookup x = some a)) → Q () s') (hf : X.fn x = true ∨ X.env.scope.names.lookup x = some .local := by first | exact .inl rfl | exact .inr rfl | assumption) : wpAny M A (storeName X.env x u) Q E s := by
  obtain ⟨m, hn, hl⟩ := id I.loc
  have hcls : (X.env.scope.kind == .class || (X.env.scope.kind == .module && X.env.locals != X.env.globals)) = false := by rw [I.ok.kind]; rfl
  have hiσ : i < σ.length := by rw [I.len]; exact (List.getElem?_eq_some_iff.mp hi).1
  have cne := I.cne
  have tracked : ∀ {a : Addr} {h' : Heap}, (∃ o, s.heap.get? a = some o ∧ H a = none) → Heap.SameBut a s.heap h' → HOk X.prog X.w H h' := fun {a h'} ha hs b ob e => by
    obtain ⟨_, _, hfree⟩ := ha
    refine (I.hok b ob e).stay (fun c w' hc q => (hs.2 c ?_).trans q) (fun _ q => q) fun _ _ q => q
    rintro rfl
    rcases hc with rfl | hc
    · rw [hfree] at e; cases e
    · rw [hfree] at hc; cases hc
  rcases hx with hk | hk
  · refine wpAny_storeName_local hk hn (fun h' hn' hs => ?_) hcls
    obtain ⟨oL, _, _, hoL, _⟩ := id hn
    refine h _ ⟨I.ok, I.os, I.bare, ⟨fun b o e n hb hx => ?_, fun b o e n hb hx => ?_, I.base.free, fun b o e hx => ?_, I.base.tups, I.base.frzs, I.base.tbls⟩, ⟨_, hn', fun j y v' e1 e2 e3 => ?_⟩, fun y c e => ?_, I.free, I.freeC, fun p hp => ?_, tracked ⟨oL, hoL, I.free⟩ hs, by simpa using I.len⟩ ⟨_, hs, .inl rfl⟩
    · exact (hs.2 b (Nat.ne_of_lt (Nat.lt_of_lt_of_le (Heap.lt_size e) I.ok.above))).trans (I.base.keep b o e n hb hx)
    · obtain ⟨sl, e1⟩ := I.base.slot b o e n hb hx
      exact ⟨sl, (hs.2 b (Nat.ne_of_lt (Nat.lt_of_lt_of_le (Heap.lt_size e) I.ok.above))).trans e1⟩
    · obtain ⟨o', e1⟩ := I.base.there b o e hx
      exact ⟨o', (hs.2 b (Nat.ne_of_lt (Nat.lt_of_lt_of_le (Heap.lt_size e) I.ok.above))).trans e1⟩
    · by_cases hj : j = i
      · subst hj
        rw [hi] at e1; cases e1
        rw [List.getElem?_set_self hiσ] at e2
        cases e2
        exact ⟨u, r, .inl ⟨hk, by simp⟩⟩
      · rw [List.getElem?_set_ne (Ne.symm hj)] at e2
        obtain ⟨u', r', q⟩ := hl j y v' e1 e2 e3
        refine ⟨u', r', ?_⟩
        rcases q with ⟨k, e⟩ | ⟨k, c, e, z⟩
        · refine .inl ⟨k, ?_⟩
          have : y ≠ x := fun e => hj (nodup_ix hN e1 (e ▸ hi))
          simp [this, e]
        · exact .inr ⟨k, c, e, z.sameBut hs (cne y c e)⟩
    · obtain ⟨w', z⟩ := I.cell y c e
      exact ⟨w', z.sameBut hs (cne y c e)⟩
    · obtain ⟨e, n, ne, nf, d⟩ := I.pin p hp
      exact ⟨(hs.2 p.1 ne).trans e, n, ne, nf, d⟩
  · have hfn : X.fn x = true := by
      rcases hf with z | z
      · exact z
      · rw [z] at hk; cases hk
    obtain ⟨c, hc⟩ := I.ok.has x (.inl hk)
    obtain ⟨w', z⟩ := I.cell x c hc
    refine wpAny_storeName_cell I.ok.kind hk hc z (fun h' hc' hs => ?_)
    obtain ⟨oc, hoc, hocd⟩ := id z
    refine h { s with heap := h' } ⟨I.ok, I.os, I.bare, ⟨fun b o e n hb hx => ?_, fun b o e n hb hx => ?_, I.base.free, fun b o e hx => ?_, I.base.tups, I.base.frzs, I.base.tbls⟩, ⟨m, hn.sameBut hs (Ne.symm (cne x c hc)), fun j y v' e1 e2 e3 => ?_⟩, fun y c' e => ?_, I.free, I.freeC, fun p hp => ?_, tracked ⟨oc, hoc, I.freeC x c hc⟩ hs, by simpa using I.len⟩ ⟨c, hs, .inr hc⟩
    · exact (hs.2 b (Nat.ne_of_lt (Nat.lt_of_lt_of_le (Heap.lt_size e) (I.ok.cab x c hfn hc)))).trans (I.base.keep b o e n hb hx)
    · obtain ⟨sl, e1⟩ := I.base.slot b o e n hb hx
      exact ⟨sl, (hs.2 b (Nat.ne_of_lt (Nat.lt_of_lt_of_le (Heap.lt_size e) (I.ok.cab x c hfn hc)))).trans e1⟩
    · obtain ⟨o', e1⟩ := I.base.there b o e hx
      exact ⟨o', (hs.2 b (Nat.ne_of_lt (Nat.lt_of_lt_of_le (Heap.lt_size e) (I.ok.cab x c hfn hc)))).trans e1⟩
    · by_cases hj : j = i
      · subst hj
        rw [hi] at e1; cases e1
        rw [List.getElem?_set_self hiσ] at e2
        cases e2
        exact ⟨u, r, .inr ⟨.inl hk, c, hc, hc'⟩⟩
      · rw [List.getElem?_set_ne (Ne.symm hj)] at e2
        obtain ⟨u', r', q⟩ := hl j y v' e1 e2 e3
        refine ⟨u', r', ?_⟩
        rcases q with q | ⟨k, c', e, z'⟩
        · exact .inl q
        · refine .inr ⟨k, c', e, z'.sameBut hs ?_⟩
          rintro rfl
          exact hj (nodup_ix hN e1 (I.ok.inj _ _ _ e hc ▸ hi))
    · by_cases hcc : c' = c
      · subst hcc; exact ⟨_, hc'⟩
      · obtain ⟨w2, z2⟩ := I.cell y c' e
        exact ⟨w2, z2.sameBut hs hcc⟩
    · obtain ⟨e, n, ne, nf, d⟩ := I.pin p hp
      refine ⟨(hs.2 p.1 ?_).trans e, n, ne, nf, d⟩
      intro q
      rw [q, hoc] at e
      have q' : oc = p.2 := Option.some.inj e
      exact d w' (by rw [← q']; exact hocd)
theorem store_ok {M : Model} {A : Around} {E : Value → Shared → Prop} {i : Nat} {x : Str} {v : V} {u : Value} {Q : Unit → Shared → Prop} (I : Inv X pins σ H s) (hN : X.N.Nodup) (hi : X.N[i]? = some x) (hx : Loc X.env.scope x) (r : RelV v u)
    (h : ∀ s', Inv X pins (σ.set i (some v)) H s' → Q () s') (hf : X.fn x = true ∨ X.env.scope.names.lookup x = some .local := by first | exact .inl rfl | exact .inr rfl | assumption) : wpAny M A (storeName X.env x u) Q E s :=
  store_ok2 I hN hi hx r (fun s' I' _ => h s' I') hf
/-- behind a call or a block, the state as it is -/
theorem Inv.call' {s' : Shared} {ch : List Addr} (I : Inv X pins σ H s) (ho : s'.os = s.os) (u : Un (frs X.stack) ch H H' s.heap s'.heap) (hok : HOk X.prog X.w H' s'.heap) (hg : AllBare s'.gens)
    (hch : ∀ b ∈ ch, (b ∈ X.ex ∨ X.s₀.heap.objs.size ≤ b) ∧ b ≠ X.env.locals ∧ (∀ x c, X.env.cells.lookup x = some c → c ≠ b) ∧ ∀ p ∈ X.pn ++ pins, p.1 ≠ b) : Inv X pins σ H' s' := by
  obtain ⟨h', g', d', t', o'⟩ := s'
  have e : o' = s.os := ho
  subst e
  exact I.call (g' := g') (t' := t') (d' := d') u hok hg hch
end

/-! ### the judgements -/
/-- an exception: its class, its own dict's address (where it has one), the abstract heap behind it -/
abbrev XK := Value → Option Addr → Hp → Prop
abbrev St := List (Option V)
abbrev VK := V → Hp → Prop
/-- an expression's reading; a test's; an argument list's -/
abbrev TE := St → Hp → VK → Prop
abbrev TT := St → Hp → (Bool → Hp → Prop) → Prop
abbrev TA := St → Hp → (List V → Hp → Prop) → Prop
/-- what is wanted behind a statement -/
structure Ends where
  nx : St → Hp → Prop
  rt : VK
  bk : St → Hp → Prop := fun _ _ => False
  ct : St → Hp → Prop := fun _ _ => False
abbrev TS := Ends → St → Hp → Prop

def EP (X : Cx) (pins : List (Addr × Obj)) (σ : St) (Q : VK) (u : Value) (s' : Shared) : Prop := ∃ v H', Inv X pins σ H' s' ∧ RelV v u ∧ Q v H'
def TP (X : Cx) (pins : List (Addr × Obj)) (σ : St) (Q : Bool → Hp → Prop) (b : Bool) (s' : Shared) : Prop := ∃ H', Inv X pins σ H' s' ∧ Q b H'
def AP (X : Cx) (pins : List (Addr × Obj)) (σ : St) (Q : List V → Hp → Prop) (us : List Value) (s' : Shared) : Prop := ∃ vs H', Inv X pins σ H' s' ∧ Vals vs us ∧ Q vs H'
def SP (X : Cx) (pins : List (Addr × Obj)) (D : Ends) (f : Flow) (s' : Shared) : Prop :=
  match f with
  | .next => ∃ σ' H', Inv X pins σ' H' s' ∧ D.nx σ' H'
  | .brk => ∃ σ' H', Inv X pins σ' H' s' ∧ D.bk σ' H'
  | .cont => ∃ σ' H', Inv X pins σ' H' s' ∧ D.ct σ' H'
  | .ret u => ∃ v σ' H', Inv X pins σ' H' s' ∧ RelV v u ∧ D.rt v H'

structure PE (X : Cx) (e : Expr) (t : TE) : Prop where
  go : ∀ (pins : List (Addr × Obj)) (s : Shared) (σ : St) (H : Hp) (Q : VK), Inv X pins σ H s → t σ H Q → wpAny (model X.prog X.w) X.A (eval e X.env) (EP X pins σ Q) X.xe s
instance {X : Cx} {e : Expr} {t : TE} : CoeFun (PE X e t) (fun _ => ∀ (pins : List (Addr × Obj)) (s : Shared) (σ : St) (H : Hp) (Q : VK), Inv X pins σ H s → t σ H Q → wpAny (model X.prog X.w) X.A (eval e X.env) (EP X pins σ Q) X.xe s) := ⟨fun h => h.go⟩
structure PT (X : Cx) (e : Expr) (t : TT) : Prop where
  go : ∀ (pins : List (Addr × Obj)) (s : Shared) (σ : St) (H : Hp) (Q : Bool → Hp → Prop), Inv X pins σ H s → t σ H Q → wpAny (model X.prog X.w) X.A (isTrue e X.env (eval e X.env)) (TP X pins σ Q) X.xe s
instance {X : Cx} {e : Expr} {t : TT} : CoeFun (PT X e t) (fun _ => ∀ (pins : List (Addr × Obj)) (s : Shared) (σ : St) (H : Hp) (Q : Bool → Hp → Prop), Inv X pins σ H s → t σ H Q → wpAny (model X.prog X.w) X.A (isTrue e X.env (eval e X.env)) (TP X pins σ Q) X.xe s) := ⟨fun h => h.go⟩
/-- a test whatever its 'whole' is (and, or) -/
structure PW (X : Cx) (e : Expr) (t : TT) : Prop where
  go : ∀ (whole : Sem Value) (pins : List (Addr × Obj)) (s : Shared) (σ : St) (H : Hp) (Q : Bool → Hp → Prop), Inv X pins σ H s → t σ H Q → wpAny (model X.prog X.w) X.A (isTrue e X.env whole) (TP X pins σ Q) X.xe s
instance {X : Cx} {e : Expr} {t : TT} : CoeFun (PW X e t) (fun _ => ∀ (whole : Sem Value) (pins : List (Addr × Obj)) (s : Shared) (σ : St) (H : Hp) (Q : Bool → Hp → Prop), Inv X pins σ H s → t σ H Q → wpAny (model X.prog X.w) X.A (isTrue e X.env whole) (TP X pins σ Q) X.xe s) := ⟨fun h => h.go⟩
theorem PW.pt {X : Cx} {e : Expr} {t : TT} (h : PW X e t) : PT X e t := ⟨h.go _⟩
/-- an argument list (no star), from the left -/
structure PA (X : Cx) (es : List Expr) (t : TA) : Prop where
  go : ∀ (pos : Pos) (pins : List (Addr × Obj)) (s : Shared) (σ : St) (H : Hp) (Q : List V → Hp → Prop), Inv X pins σ H s → t σ H Q → wpAny (model X.prog X.w) X.A (spliced (backTo pos (starEach es X.env))) (AP X pins σ Q) X.xe s
instance {X : Cx} {es : List Expr} {t : TA} : CoeFun (PA X es t) (fun _ => ∀ (pos : Pos) (pins : List (Addr × Obj)) (s : Shared) (σ : St) (H : Hp) (Q : List V → Hp → Prop), Inv X pins σ H s → t σ H Q → wpAny (model X.prog X.w) X.A (spliced (backTo pos (starEach es X.env))) (AP X pins σ Q) X.xe s) := ⟨fun h => h.go⟩
structure PS (X : Cx) (st : Stmt) (t : TS) : Prop where
  go : ∀ (pins : List (Addr × Obj)) (s : Shared) (σ : St) (H : Hp) (D : Ends), Inv X pins σ H s → t D σ H → wpAny (model X.prog X.w) X.A (exec st X.env) (SP X pins D) X.xe s
instance {X : Cx} {st : Stmt} {t : TS} : CoeFun (PS X st t) (fun _ => ∀ (pins : List (Addr × Obj)) (s : Shared) (σ : St) (H : Hp) (D : Ends), Inv X pins σ H s → t D σ H → wpAny (model X.prog X.w) X.A (exec st X.env) (SP X pins D) X.xe s) := ⟨fun h => h.go⟩
structure PSs (X : Cx) (st : List Stmt) (t : TS) : Prop where
  go : ∀ (pins : List (Addr × Obj)) (s : Shared) (σ : St) (H : Hp) (D : Ends), Inv X pins σ H s → t D σ H → wpAny (model X.prog X.w) X.A (execs st X.env) (SP X pins D) X.xe s
instance {X : Cx} {st : List Stmt} {t : TS} : CoeFun (PSs X st t) (fun _ => ∀ (pins : List (Addr × Obj)) (s : Shared) (σ : St) (H : Hp) (D : Ends), Inv X pins σ H s → t D σ H → wpAny (model X.prog X.w) X.A (execs st X.env) (SP X pins D) X.xe s) := ⟨fun h => h.go⟩
/-- weaken the end -/
theorem thn {α : Type} {t : Sem α} {Q Q' : α → Shared → Prop} {M : Model} {A : Around} {E : Value → Shared → Prop} {s : Shared} (h : wpAny M A t Q E s) (hQ : ∀ a s, Q a s → Q' a s) : wpAny M A t Q' E s := wpAny_mono h hQ fun _ _ x => x
end L2

namespace L2
open PySem PySem.Spec PyProof.Rows
section
variable {X : Cx}

/-- two expressions in a row -/
theorem bin {a b : Expr} {ta tb : TE} (ha : PE X a ta) (hb : PE X b tb) {pins : List (Addr × Obj)} {s : Shared} {σ : St} {H : Hp} {R : V → V → Hp → Prop} (I : Inv X pins σ H s) (h : ta σ H fun x H1 => tb σ H1 fun y H2 => R x y H2)
    {α : Type} {Q : α → Shared → Prop} {f : Value → Value → Sem α}
    (hf : ∀ v u s2 x y H2, Inv X pins σ H2 s2 → RelV x v → RelV y u → R x y H2 → wpAny (model X.prog X.w) X.A (f v u) Q X.xe s2) :
    wpAny (model X.prog X.w) X.A (eval a X.env) (fun v s₁ => wpAny (model X.prog X.w) X.A (eval b X.env) (fun u s₂ => wpAny (model X.prog X.w) X.A (f v u) Q X.xe s₂) X.xe s₁) X.xe s := by
  refine thn (ha pins s σ H _ I h) fun v s1 ⟨x, H1, I1, r1, q1⟩ => ?_
  refine thn (hb pins s1 σ H1 _ I1 q1) fun u s2 ⟨y, H2, I2, r2, q2⟩ => ?_
  exact hf v u s2 x y H2 I2 r1 r2 q2

/-! ### names and constants -/
def tVar (i : Nat) : TE := fun σ H Q => ∃ v, σ[i]? = some (some v) ∧ Q v H
def tC (v : V) : TE := fun _ H Q => Q v H
theorem pe_var {i : Nat} {x : Str} {pos : Pos} (hN : X.N[i]? = some x) (hv : Vis X.env.scope x) (hd : (x == ("__debug__" : Str)) = false := by decide) (hcd : (x == ("__classdict__" : Str)) = false := by decide) : PE X (.Name x pos) (tVar i) := by
  constructor
  intro pins s σ H Q I h
  obtain ⟨v, e, h⟩ := h
  obtain ⟨m, hn, hl⟩ := I.loc
  obtain ⟨u, r, l⟩ := hl i x v hN e hv
  have fin : EP X pins σ Q u s := ⟨v, H, I, r, h⟩
  rcases l with ⟨hk, hm⟩ | ⟨hk, c, hc, hcell⟩
  · exact wpAny_Name (wpAny_loadName_local I.ok.kind hk hn hm fin) hd
  · rcases hk with hk | hk
    · exact wpAny_Name (wpAny_loadName_cell I.ok.kind hk hc hcell fin) hd
    · exact wpAny_Name (wpAny_loadName_free I.ok.kind hk hc hcell fin hcd) hd
theorem pe_int {i j pos} : PE X (.Constant (.int i) j pos) (tC (.int i)) := ⟨fun _ _ _ H _ I h => wpAny_Constant_int ⟨.int i, H, I.tok _, ⟨_, rfl⟩, h⟩⟩
theorem pe_bl {b j pos} : PE X (.Constant (.bool b) j pos) (tC (.bl b)) := ⟨fun _ _ _ H _ I h => Constant_bool ⟨.bl b, H, I, rfl, h⟩⟩
theorem pe_non {j pos} : PE X (.Constant .none j pos) (tC .non) := ⟨fun _ _ _ H _ I h => Constant_none ⟨.non, H, I, rfl, h⟩⟩
theorem pe_str {x j pos} : PE X (.Constant (.str x) j pos) (tC (.str x)) := ⟨fun _ _ _ H _ I h => Calls.Constant_str ⟨.str x, H, I.tok _, ⟨_, rfl⟩, h⟩⟩

/-- a global name of the def -/
def Gl (X : Cx) (x : Str) : Prop := X.env.kindOf x = some .globalImplicit
theorem ld_glob {E : Value → Shared → Prop} {pins : List (Addr × Obj)} {s : Shared} {σ : St} {H : Hp} {x : Str} {u : Value} {pos : Pos} {Q : Value → Shared → Prop} (I : Inv X pins σ H s) (hg : Gl X x) (hm : X.mg x = some u) (h : Q u s)
    (hd : (x == ("__debug__" : Str)) = false := by decide) : wpAny (model X.prog X.w) X.A (eval (.Name x pos) X.env) Q E s :=
  Calls.Name_function_global I.ok.kind hg (Calls.loadGlobal_global (by rw [I.ok.glob]; exact I.mod.glob.keeps I.bk) hm h) hd
theorem ld_blt {E : Value → Shared → Prop} {pins : List (Addr × Obj)} {s : Shared} {σ : St} {H : Hp} {x : Str} {u : Value} {pos : Pos} {Q : Value → Shared → Prop} (I : Inv X pins σ H s) (hg : Gl X x) (hm : X.mg x = none) (hv : bootBuiltins x = some u) (h : Q u s)
    (hn : x ≠ "__name__" := by decide) (hd : (x == ("__debug__" : Str)) = false := by decide) : wpAny (model X.prog X.w) X.A (eval (.Name x pos) X.env) Q E s := by
  obtain ⟨mb, h1, h2⟩ := I.mod.blt
  exact Calls.Name_function_global I.ok.kind hg (Calls.loadGlobal_builtin (by rw [I.ok.glob]; exact I.mod.glob.keeps I.bk) hm (by rw [I.ok.blt]; exact h1.keeps I.bk) ((h2 x hn).trans hv) h) hd
/-- a module's constant, a class, a function, as a value -/
theorem pe_glob {x : Str} {v : V} {u : Value} {pos : Pos} (hg : Gl X x) (hm : X.mg x = some u) (r : RelV v u) (hd : (x == ("__debug__" : Str)) = false := by decide) : PE X (.Name x pos) (tC v) :=
  ⟨fun _ _ _ H _ I h => ld_glob I hg hm ⟨v, H, I, r, h⟩ hd⟩
theorem pe_bltn {x : Str} {v : V} {u : Value} {pos : Pos} (hg : Gl X x) (hm : X.mg x = none) (hv : bootBuiltins x = some u) (r : RelV v u) (hn : x ≠ "__name__" := by decide) (hd : (x == ("__debug__" : Str)) = false := by decide) : PE X (.Name x pos) (tC v) :=
  ⟨fun _ _ _ H _ I h => ld_blt I hg hm hv ⟨v, H, I, r, h⟩ hn hd⟩

/-! ### arithmetic -/
/-- two ints -/
def t2I (ta tb : TE) (k : Int → Int → Hp → Prop) : St → Hp → Prop := fun σ H => ta σ H fun x H1 => tb σ H1 fun y H2 => ∃ i j, x = .int i ∧ y = .int j ∧ k i j H2
def tAdd (ta tb : TE) : TE := fun σ H Q => t2I ta tb (fun i j H2 => Q (.int (i + j)) H2) σ H
def tSub (ta tb : TE) : TE := fun σ H Q => t2I ta tb (fun i j H2 => Q (.int (i - j)) H2) σ H
/-- the left factor below 2^64 -/
def tMul (ta tb : TE) : TE := fun σ H Q => t2I ta tb (fun i j H2 => (-(2 ^ 64) < i ∧ i < 2 ^ 64) ∧ Q (.int (i * j)) H2) σ H
variable {a b : Expr} {ta tb : TE} {pos : Pos}
theorem pe_add (ha : PE X a ta) (hb : PE X b tb) : PE X (.BinOp a .Add b pos) (tAdd ta tb) := by
  constructor
  intro pins s σ H Q I h
  refine wpAny_BinOp (bin ha hb I h fun v u s2 x y H2 I2 rx ry q => ?_)
  obtain ⟨i, j, rfl, rfl, q⟩ := q
  obtain ⟨t, rfl⟩ := rx
  obtain ⟨t', rfl⟩ := ry
  exact add_int ⟨.int _, H2, I2.tok _, ⟨_, rfl⟩, q⟩
theorem pe_sub (ha : PE X a ta) (hb : PE X b tb) : PE X (.BinOp a .Sub b pos) (tSub ta tb) := by
  constructor
  intro pins s σ H Q I h
  refine wpAny_BinOp (bin ha hb I h fun v u s2 x y H2 I2 rx ry q => ?_)
  obtain ⟨i, j, rfl, rfl, q⟩ := q
  obtain ⟨t, rfl⟩ := rx
  obtain ⟨t', rfl⟩ := ry
  exact sub_int ⟨.int _, H2, I2.tok _, ⟨_, rfl⟩, q⟩
theorem pe_mul (ha : PE X a ta) (hb : PE X b tb) : PE X (.BinOp a .Mult b pos) (tMul ta tb) := by
  constructor
  intro pins s σ H Q I h
  refine wpAny_BinOp (bin ha hb I h fun v u s2 x y H2 I2 rx ry q => ?_)
  obtain ⟨i, j, rfl, rfl, ⟨q1, q2⟩, q⟩ := q
  obtain ⟨t, rfl⟩ := rx
  obtain ⟨t', rfl⟩ := ry
  exact mul_int ⟨.int _, H2, I2.tok _, ⟨_, rfl⟩, q⟩ (.of_left (intBits_le_64 q1 q2))

/-! ### comparisons -/
structure PC (X : Cx) (op : CmpOp) (a b : Expr) (t : TE) : Prop where
  go : ∀ (pins : List (Addr × Obj)) (s : Shared) (σ : St) (H : Hp) (Q : VK), Inv X pins σ H s → t σ H Q →
    wpAny (model X.prog X.w) X.A (eval a X.env) (fun v s₁ => wpAny (model X.prog X.w) X.A (eval b X.env) (fun u s₂ => wpAny (model X.prog X.w) X.A (compareOp op v u) (EP X pins σ Q) X.xe s₂) X.xe s₁) X.xe s
instance {X : Cx} {op : CmpOp} {a b : Expr} {t : TE} : CoeFun (PC X op a b t) (fun _ => ∀ (pins : List (Addr × Obj)) (s : Shared) (σ : St) (H : Hp) (Q : VK), Inv X pins σ H s → t σ H Q →
    wpAny (model X.prog X.w) X.A (eval a X.env) (fun v s₁ => wpAny (model X.prog X.w) X.A (eval b X.env) (fun u s₂ => wpAny (model X.prog X.w) X.A (compareOp op v u) (EP X pins σ Q) X.xe s₂) X.xe s₁) X.xe s) := ⟨fun h => h.go⟩
theorem nobehind (b : Expr) {op : CmpOp} (h : op ≠ .In) (h2 : op ≠ .NotIn) : behindInMarks op b = false := by
  have e1 : (op == CmpOp.In) = false := by cases op <;> first | rfl | exact absurd rfl h
  have e2 : (op == CmpOp.NotIn) = false := by cases op <;> first | rfl | exact absurd rfl h2
  cases b <;> simp [behindInMarks, e1, e2]
def tCmp (p : Int → Int → Bool) (ta tb : TE) : TE := fun σ H Q => t2I ta tb (fun i j H2 => Q (.bl (p i j)) H2) σ H
abbrev tLt : TE → TE → TE := tCmp fun i j => decide (i < j)
abbrev tLe : TE → TE → TE := tCmp fun i j => decide (i ≤ j)
abbrev tGt : TE → TE → TE := tCmp fun i j => decide (j < i)
abbrev tGe : TE → TE → TE := tCmp fun i j => decide (j ≤ i)
abbrev tEqI : TE → TE → TE := tCmp fun i j => decide (i = j)
abbrev tNeI : TE → TE → TE := tCmp fun i j => !decide (i = j)
/-- a comparison of two ints, by its rule -/
theorem pc_int {op : CmpOp} {p : Int → Int → Bool} (ha : PE X a ta) (hb : PE X b tb)
    (rule : ∀ (i j : Int) (t u : Tok) (Q : Value → Shared → Prop) (s : Shared), Q (.bool (p i j)) s → wpAny (model X.prog X.w) X.A (compareOp op (.int i t) (.int j u)) Q X.xe s) : PC X op a b (tCmp p ta tb) := by
  constructor
  intro pins s σ H Q I h
  refine bin ha hb I h fun v u s2 x y H2 I2 rx ry q => ?_
  obtain ⟨i, j, rfl, rfl, q⟩ := q
  obtain ⟨t, rfl⟩ := rx
  obtain ⟨t', rfl⟩ := ry
  exact rule i j t t' _ s2 ⟨.bl _, H2, I2, rfl, q⟩
theorem pc_lt (ha : PE X a ta) (hb : PE X b tb) : PC X .Lt a b (tLt ta tb) := pc_int ha hb fun _ _ _ _ _ _ h => lt_int h
theorem pc_le (ha : PE X a ta) (hb : PE X b tb) : PC X .LtE a b (tLe ta tb) := pc_int ha hb fun _ _ _ _ _ _ h => le_int h
theorem pc_gt (ha : PE X a ta) (hb : PE X b tb) : PC X .Gt a b (tGt ta tb) := pc_int ha hb fun _ _ _ _ _ _ h => gt_int h
theorem pc_ge (ha : PE X a ta) (hb : PE X b tb) : PC X .GtE a b (tGe ta tb) := pc_int ha hb fun _ _ _ _ _ _ h => ge_int h
theorem pc_eqI (ha : PE X a ta) (hb : PE X b tb) : PC X .Eq a b (tEqI ta tb) := pc_int ha hb fun _ _ _ _ _ _ h => eq_int (by rw [Bool.beq_eq_decide_eq]; exact h)
theorem pc_neI (ha : PE X a ta) (hb : PE X b tb) : PC X .NotEq a b (tNeI ta tb) := pc_int ha hb fun _ _ _ _ _ _ h => ne_int (by rw [bne, Bool.beq_eq_decide_eq]; exact h)
/-- is None -/
def tIsN (ta : TE) : TE := fun σ H Q => ta σ H fun x H1 => Q (.bl (decide (x = .non))) H1
def tNotN (ta : TE) : TE := fun σ H Q => ta σ H fun x H1 => Q (.bl (!decide (x = .non))) H1
theorem RelV.none_iff {x : V} {v : Value} (r : RelV x v) : (v == Value.none) = decide (x = .non) := by
  cases x with
  | non => cases r; rfl
  | bl _ => cases r; rfl
  | int _ => obtain ⟨t, rfl⟩ := r; rfl
  | str _ => obtain ⟨t, rfl⟩ := r; rfl
  | byt _ => obtain ⟨t, rfl⟩ := r; rfl
  | flt _ => obtain ⟨t, rfl⟩ := r; rfl
  | ref _ => cases r; rfl
  | ty _ => cases r; rfl
theorem pc_isN {j pos'} (ha : PE X a ta) : PC X .Is a (.Constant .none j pos') (tIsN ta) := by
  constructor
  intro pins s σ H Q I h
  refine thn (ha pins s σ H _ I h) fun v s1 ⟨x, H1, I1, r1, q1⟩ => ?_
  exact Constant_none (is_none_gen ⟨.bl _, H1, I1, by rw [r1.none_iff]; rfl, q1⟩)
theorem pc_notN {j pos'} (ha : PE X a ta) : PC X .IsNot a (.Constant .none j pos') (tNotN ta) := by
  constructor
  intro pins s σ H Q I h
  refine thn (ha pins s σ H _ I h) fun v s1 ⟨x, H1, I1, r1, q1⟩ => ?_
  exact Constant_none (isnot_none_gen ⟨.bl _, H1, I1, by rw [r1.none_iff]; rfl, q1⟩)
/-- a comparison as a value, as a test -/
def tB (t : TE) : TT := fun σ H Q => t σ H fun x H1 => ∃ c, x = .bl c ∧ Q c H1
theorem pe_cmp {op : CmpOp} {t : TE} (h : PC X op a b t) (h1 : behindInMarks op b = false := by first | exact nobehind _ (by decide) (by decide) | rfl) : PE X (.Compare a [op] [b] pos) t := ⟨fun pins s σ H Q I hw => wpAny_Compare1 (h pins s σ H Q I hw) h1⟩
theorem pt_cmp {op : CmpOp} {t : TE} (h : PC X op a b t) (h1 : behindInMarks op b = false := by first | exact nobehind _ (by decide) (by decide) | rfl) : PT X (.Compare a [op] [b] pos) (tB t) := by
  constructor
  intro pins s σ H Q I hw
  refine wpAny_isTrue_Compare1 (thn (h pins s σ H _ I hw) fun v s1 h1 => thn h1 fun u s2 h2 => thn h2 fun c s3 ⟨x, H1, I1, r1, q1⟩ => ?_) h1
  obtain ⟨d, rfl, q⟩ := q1
  cases r1
  exact wpAny_truthy_bool ⟨H1, I1, q⟩
/-- an expression whose value is a bool, as a test -/
theorem pt_val {e : Expr} {t : TE} (h : PE X e t) (he : ∀ whole, isTrue e X.env whole = (do let v ← whole; standAt e.pos; holding [v] (truthy v)) := by intro _; rfl) : PT X e (tB t) := by
  constructor
  intro pins s σ H Q I hw
  refine isTrue_plain (thn (h pins s σ H _ I hw) fun v s1 ⟨x, H1, I1, r1, q1⟩ => ?_) (he _)
  obtain ⟨d, rfl, q⟩ := q1
  cases r1
  exact wpAny_truthy_bool ⟨H1, I1, q⟩

/-! ### and, or, not -/
variable {tA tB' : TT} {rest : List Expr}
def tAnd (t u : TT) : TT := fun σ H Q => t σ H fun c H1 => if c = true then u σ H1 Q else Q false H1
def tOr (t u : TT) : TT := fun σ H Q => t σ H fun c H1 => if c = true then Q true H1 else u σ H1 Q
def tNot (t : TT) : TT := fun σ H Q => t σ H fun c H1 => Q (!c) H1
theorem pw_and1 (ha : PT X a tA) : PW X (.BoolOp .And [a] pos) tA := by
  constructor
  intro wh pins s σ H Q I h
  refine isTrue_and (thn (ha pins s σ H Q I h) fun c s1 e => ?_)
  cases c with
  | true => exact isTrue_and_nil e
  | false => exact e
theorem pw_or1 (ha : PT X a tA) : PW X (.BoolOp .Or [a] pos) tA := by
  constructor
  intro wh pins s σ H Q I h
  refine isTrue_or (thn (ha pins s σ H Q I h) fun c s1 e => ?_)
  cases c with
  | false => exact isTrue_or_nil e
  | true => exact e
theorem pw_and (ha : PT X a tA) (hb : PW X (.BoolOp .And (b :: rest) pos) tB') : PW X (.BoolOp .And (a :: b :: rest) pos) (tAnd tA tB') := by
  constructor
  intro wh pins s σ H Q I h
  refine isTrue_and (thn (ha pins s σ H _ I h) fun c s1 ⟨H1, I1, q1⟩ => ?_)
  cases c with
  | true => exact hb wh pins s1 σ H1 Q I1 q1
  | false => exact ⟨H1, I1, q1⟩
theorem pw_or (ha : PT X a tA) (hb : PW X (.BoolOp .Or (b :: rest) pos) tB') : PW X (.BoolOp .Or (a :: b :: rest) pos) (tOr tA tB') := by
  constructor
  intro wh pins s σ H Q I h
  refine isTrue_or (thn (ha pins s σ H _ I h) fun c s1 ⟨H1, I1, q1⟩ => ?_)
  cases c with
  | true => exact ⟨H1, I1, q1⟩
  | false => exact hb wh pins s1 σ H1 Q I1 q1
theorem pt_not (ha : PT X a tA) : PT X (.UnaryOp .Not a pos) (tNot tA) := by
  constructor
  intro pins s σ H Q I h
  exact isTrue_not (ha pins s σ H (fun c H1 => Q (!c) H1) I h)
/-- .. as values (bools) -/
def tAndV (ta tb : TE) : TE := fun σ H Q => ta σ H fun x H1 => ∃ c, x = .bl c ∧ if c = true then tb σ H1 Q else Q (.bl false) H1
def tOrV (ta tb : TE) : TE := fun σ H Q => ta σ H fun x H1 => ∃ c, x = .bl c ∧ if c = true then Q (.bl true) H1 else tb σ H1 Q
def tNotV (ta : TE) : TE := fun σ H Q => ta σ H fun x H1 => ∃ c, x = .bl c ∧ Q (.bl (!c)) H1
theorem pe_one {op} {t : TE} (h : PE X a t) : PE X (.BoolOp op [a] pos) t := ⟨fun pins s σ H Q I hw => BoolOp_one (h pins s σ H Q I hw)⟩
theorem pe_and (ha : PE X a ta) (hb : PE X (.BoolOp .And (b :: rest) pos) tb) : PE X (.BoolOp .And (a :: b :: rest) pos) (tAndV ta tb) := by
  constructor
  intro pins s σ H Q I h
  refine BoolOp_and (thn (ha pins s σ H _ I h) fun v s1 ⟨x, H1, I1, r1, q1⟩ => ?_)
  obtain ⟨c, rfl, q1⟩ := q1
  cases r1
  refine wpAny_truthy_bool ?_
  cases c with
  | true => exact hb pins s1 σ H1 Q I1 q1
  | false => exact ⟨.bl false, H1, I1, rfl, q1⟩
theorem pe_or (ha : PE X a ta) (hb : PE X (.BoolOp .Or (b :: rest) pos) tb) : PE X (.BoolOp .Or (a :: b :: rest) pos) (tOrV ta tb) := by
  constructor
  intro pins s σ H Q I h
  refine BoolOp_or (thn (ha pins s σ H _ I h) fun v s1 ⟨x, H1, I1, r1, q1⟩ => ?_)
  obtain ⟨c, rfl, q1⟩ := q1
  cases r1
  refine wpAny_truthy_bool ?_
  cases c with
  | false => exact hb pins s1 σ H1 Q I1 q1
  | true => exact ⟨.bl true, H1, I1, rfl, q1⟩
theorem pe_not (ha : PE X a ta) : PE X (.UnaryOp .Not a pos) (tNotV ta) := by
  constructor
  intro pins s σ H Q I h
  refine UnaryOp_ (thn (ha pins s σ H _ I h) fun v s1 ⟨x, H1, I1, r1, q1⟩ => ?_)
  obtain ⟨c, rfl, q1⟩ := q1
  cases r1
  exact not_of (wpAny_truthy_bool ⟨.bl (!c), H1, I1, rfl, q1⟩)
/-- a if t else b -/
def tIf (t : TT) (ta tb : TE) : TE := fun σ H Q => t σ H fun c H1 => if c = true then ta σ H1 Q else tb σ H1 Q
theorem pe_ifExp {c : Expr} (hc : PT X c tA) (ha : PE X a ta) (hb : PE X b tb) : PE X (.IfExp c a b pos) (tIf tA ta tb) := by
  constructor
  intro pins s σ H Q I h
  refine wpAny_IfExp (thn (hc pins s σ H _ I h) fun d s1 ⟨H1, I1, q1⟩ => ?_)
  cases d with
  | true => exact ha pins s1 σ H1 Q I1 q1
  | false => exact hb pins s1 σ H1 Q I1 q1
end
end L2

namespace L2
open PySem PySem.Spec PyProof.Rows

/-! ### a list, a tuple that is read: tracked, frozen, or an object of the module -/
def SqL (K : PySem.W.Frag) (H : Hp) (a : Addr) (xs : List V) : Prop :=
  Rd H a (.lst xs) ∨
    ∃ (o : Obj) (its : Array Value) (n : Nat), K.lookup a = some o ∧ o.cls = .type "list" ∧ o.dict = none ∧ o.data = .seq its n ∧ its.size ≤ sizeLine ∧ Vals xs its.toList
def SqT (K : PySem.W.Frag) (H : Hp) (a : Addr) (xs : List V) : Prop :=
  Rd H a (.tup xs) ∨
    ∃ (o : Obj) (its : Array Value) (n : Nat), K.lookup a = some o ∧ o.cls = .type "tuple" ∧ o.data = .seq its n ∧ its.size ≤ sizeLine ∧ Vals xs its.toList
def absV : Value → Option V
  | .none => some .non
  | .bool b => some (.bl b)
  | .int i _ => some (.int i)
  | .str x _ => some (.str x)
  | .bytes b _ => some (.byt b)
  | .float b _ => some (.flt b)
  | .ref a => some (.ref a)
  | .type n => some (.ty n)
  | _ => none
theorem RelV.abs {x : V} {u : Value} (r : RelV x u) : absV u = some x := by
  cases x with
  | non => cases r; rfl
  | bl _ => cases r; rfl
  | int _ => obtain ⟨t, rfl⟩ := r; rfl
  | str _ => obtain ⟨t, rfl⟩ := r; rfl
  | byt _ => obtain ⟨t, rfl⟩ := r; rfl
  | flt _ => obtain ⟨t, rfl⟩ := r; rfl
  | ref _ => cases r; rfl
  | ty _ => cases r; rfl
theorem RelV.inj {x y : V} {u : Value} (r : RelV x u) (q : RelV y u) : x = y := Option.some.inj (r.abs.symm.trans q.abs)
theorem Vals.inj : ∀ {xs ys : List V} {us : List Value}, Vals xs us → Vals ys us → xs = ys
  | _, _, _, .nil, .nil => rfl
  | _, _, _, .cons r t, .cons r' t' => by rw [r.inj r', Vals.inj t t']
section
variable {X : Cx} {pins : List (Addr × Obj)} {σ : St} {H : Hp} {s : Shared} {a : Addr} {xs ys : List V}
theorem SqL.of {K : PySem.W.Frag} (h : H a = some (.lst xs)) : SqL K H a xs := .inl (.inl h)
theorem SqT.of {K : PySem.W.Frag} (h : H a = some (.tup xs)) : SqT K H a xs := .inl (.inl h)
theorem Inv.list (I : Inv X pins σ H s) (h : SqL X.K H a xs) : ∃ its : List Value, Vals xs its ∧ PlainL s.heap a its.toArray ∧ xs.length ≤ sizeLine := by
  rcases h with h | ⟨o, its, n, hk, hc, hd, hs, hz, r⟩
  · obtain ⟨z, its, n, r, e⟩ := h.ok I.hok
    exact ⟨its, r, ⟨_, n, e, rfl, rfl, rfl⟩, z⟩
  · refine ⟨its.toList, r, ⟨o, n, I.kIn a o hk, hc, hd, by simpa using hs⟩, ?_⟩
    have e := r.length
    simp only [Array.length_toList] at e
    omega
theorem Inv.tuple (I : Inv X pins σ H s) (h : SqT X.K H a xs) : ∃ its : List Value, Vals xs its ∧ IsTup s.heap a its.toArray ∧ xs.length ≤ sizeLine := by
  rcases h with h | ⟨o, its, n, hk, hc, hs, hz, r⟩
  · obtain ⟨z, its, r, p⟩ := h.ok I.hok
    exact ⟨its, r, p, z⟩
  · refine ⟨its.toList, r, ⟨o, I.kIn a o hk, hc, n, by simpa using hs⟩, ?_⟩
    have e := r.length
    simp only [Array.length_toList] at e
    omega
theorem Inv.list_inj (I : Inv X pins σ H s) (h : SqL X.K H a xs) (h' : SqL X.K H a ys) : xs = ys := by
  obtain ⟨its, r, ⟨o, n, e, _, _, d⟩, _⟩ := I.list h
  obtain ⟨its', r', ⟨o', n', e', _, _, d'⟩, _⟩ := I.list h'
  rw [e] at e'; cases e'
  rw [d] at d'
  injection d' with d1 _
  have : its = its' := by simpa using congrArg Array.toList d1
  subst this
  exact r.inj r'
theorem Inv.tuple_inj (I : Inv X pins σ H s) (h : SqT X.K H a xs) (h' : SqT X.K H a ys) : xs = ys := by
  obtain ⟨its, r, ⟨o, e, _, n, d⟩, _⟩ := I.tuple h
  obtain ⟨its', r', ⟨o', e', _, n', d'⟩, _⟩ := I.tuple h'
  rw [e] at e'; cases e'
  rw [d] at d'
  injection d' with d1 _
  have : its = its' := by simpa using congrArg Array.toList d1
  subst this
  exact r.inj r'
end

/-! ### another wish about exceptions -/
abbrev Cx.wish (X : Cx) (E : Value → Shared → Prop) : Cx := { X with xe := E }
/-- no exception leaves -/
abbrev Cx.nox (X : Cx) : Cx := X.wish fun _ _ => False
theorem Cx.Ok.wish {X : Cx} (ok : X.Ok) (E : Value → Shared → Prop) : (X.wish E).Ok :=
  ⟨ok.mod, ok.kind, ok.glob, ok.blt, ok.above, ok.inj, ok.has, ok.cab, ok.hd, ok.frames, ok.stk, ok.exf, ok.bs, ok.bsz, ok.noex, ok.exfs, ok.funs, ok.frf⟩
theorem Cx.Ok.unwish {X : Cx} {E : Value → Shared → Prop} (ok : (X.wish E).Ok) : X.Ok :=
  ⟨ok.mod, ok.kind, ok.glob, ok.blt, ok.above, ok.inj, ok.has, ok.cab, ok.hd, ok.frames, ok.stk, ok.exf, ok.bs, ok.bsz, ok.noex, ok.exfs, ok.funs, ok.frf⟩
section
variable {X : Cx} {pins : List (Addr × Obj)} {σ : St} {H : Hp} {s : Shared} {E : Value → Shared → Prop}
theorem Inv.wish (I : Inv X pins σ H s) (E : Value → Shared → Prop) : Inv (X.wish E) pins σ H s := ⟨I.ok.wish E, I.os, I.bare, I.base, I.loc, I.cell, I.free, I.freeC, I.pin, I.hok, I.len⟩
theorem Inv.unwish (I : Inv (X.wish E) pins σ H s) : Inv X pins σ H s := ⟨I.ok.unwish, I.os, I.bare, I.base, I.loc, I.cell, I.free, I.freeC, I.pin, I.hok, I.len⟩
theorem SP.unwish {D : Ends} {f : Flow} {s' : Shared} (h : SP (X.wish E) pins D f s') : SP X pins D f s' := by
  cases f with
  | next => obtain ⟨σ', H', I, q⟩ := h; exact ⟨σ', H', I.unwish, q⟩
  | brk => obtain ⟨σ', H', I, q⟩ := h; exact ⟨σ', H', I.unwish, q⟩
  | cont => obtain ⟨σ', H', I, q⟩ := h; exact ⟨σ', H', I.unwish, q⟩
  | ret u => obtain ⟨v, σ', H', I, r, q⟩ := h; exact ⟨v, σ', H', I.unwish, r, q⟩
theorem PE.nox {e : Expr} {t : TE} (h : PE X.nox e t) : PE X e t := ⟨fun pins s σ H Q I hw =>
  wpAny_mono (h pins s σ H Q (I.wish _) hw) (fun _ _ ⟨v, H', I', r, q⟩ => ⟨v, H', I'.unwish, r, q⟩) fun _ _ z => False.elim z⟩
theorem PT.nox {e : Expr} {t : TT} (h : PT X.nox e t) : PT X e t := ⟨fun pins s σ H Q I hw =>
  wpAny_mono (h pins s σ H Q (I.wish _) hw) (fun _ _ ⟨H', I', q⟩ => ⟨H', I'.unwish, q⟩) fun _ _ z => False.elim z⟩
theorem PSs.nox {st : List Stmt} {t : TS} (h : PSs X.nox st t) : PSs X st t := ⟨fun pins s σ H D I hw =>
  wpAny_mono (h pins s σ H D (I.wish _) hw) (fun _ _ q => q.unwish) fun _ _ z => False.elim z⟩
end

/-! ### blocks and small statements -/
section
variable {X : Cx} {st : Stmt} {rest : List Stmt} {t u : TS} {e : Expr} {te : TE} {pos : Pos}
def tNext : TS := fun D σ H => D.nx σ H
def tSeq (t u : TS) : TS := fun D σ H => t { D with nx := u D } σ H
theorem pss_nil : PSs X [] tNext := ⟨fun _ _ σ H _ I h => wpAny_execs_nil ⟨σ, H, I, h⟩⟩
theorem pss_cons (h1 : PS X st t) (h2 : PSs X rest u) : PSs X (st :: rest) (tSeq t u) := by
  constructor
  intro pins s σ H D I h
  refine wpAny_execs_cons (thn (h1 pins s σ H { D with nx := u D } I h) fun f s1 q => ?_)
  cases f with
  | next =>
    obtain ⟨σ', H', I', q⟩ := q
    exact h2 pins s1 σ' H' D I' q
  | ret v => exact q
  | brk => exact q
  | cont => exact q
theorem pss_one (h1 : PS X st t) : PSs X [st] t := by
  constructor
  intro pins s σ H D I h
  refine wpAny_execs_cons (thn (h1 pins s σ H D I h) fun f s1 q => ?_)
  cases f with
  | next => exact wpAny_execs_nil q
  | ret v => exact q
  | brk => exact q
  | cont => exact q
def tBreak : TS := fun D σ H => D.bk σ H
def tCont : TS := fun D σ H => D.ct σ H
theorem ps_pass : PS X (.Pass pos) tNext := ⟨fun _ _ σ H _ I h => wpAny_Pass ⟨σ, H, I, h⟩⟩
theorem ps_break : PS X (.Break pos) tBreak := ⟨fun _ _ σ H _ I h => wpAny_Break ⟨σ, H, I, h⟩⟩
theorem ps_continue : PS X (.Continue pos) tCont := ⟨fun _ _ σ H _ I h => wpAny_Continue ⟨σ, H, I, h⟩⟩
/-- in a def's body nothing is shown -/
theorem Inv.quiet {pins : List (Addr × Obj)} {σ : St} {H : Hp} {s : Shared} (I : Inv X pins σ H s) : interactive X.env = false := by simp [interactive, I.ok.kind]
/-- a docstring -/
theorem ps_doc {x j pos pos'} : PS X (.Expr (.Constant (.str x) j pos) pos') tNext := ⟨fun _ s σ H _ I h => wpAny_Expr (Calls.Constant_str (show SP X _ _ .next { s with toks := s.toks + 1 } from ⟨σ, H, I.tok _, h⟩)) I.quiet⟩
/-- an expression whose value is dropped -/
def tDrop (te : TE) : TS := fun D σ H => te σ H fun _ H1 => D.nx σ H1
theorem ps_expr (he : PE X e te) (hs : swapsWith e none pos.line X.env = pure false := by rfl) : PS X (.Expr e pos) (tDrop te) := by
  constructor
  intro pins s σ H D I h
  exact wpAny_Expr_any (thn (he pins s σ H _ I h) fun v s1 ⟨x, H1, I1, r1, q1⟩ => ⟨σ, H1, I1, q1⟩) I.quiet hs
def tRet (te : TE) : TS := fun D σ H => te σ H D.rt
theorem ps_ret (he : PE X e te) : PS X (.Return (some e) pos) (tRet te) := by
  constructor
  intro pins s σ H D I h
  exact wpAny_Return_some (thn (he pins s σ H _ I h) fun v s1 ⟨x, H1, I1, r1, q1⟩ => ⟨x, σ, H1, I1, r1, q1⟩)
def tRetN : TS := fun D _ H => D.rt .non H
theorem ps_retN : PS X (.Return none pos) tRetN := ⟨fun _ _ σ H _ I h => wpAny_Return_none ⟨.non, σ, H, I, rfl, h⟩⟩
def tIfS (c : TT) (t u : TS) : TS := fun D σ H => c σ H fun b H1 => if b = true then t D σ H1 else u D σ H1
theorem ps_if {c : Expr} {a b : List Stmt} {tc : TT} (hc : PT X c tc) (ha : PSs X a t) (hb : PSs X b u) : PS X (.If c a b pos) (tIfS tc t u) := by
  constructor
  intro pins s σ H D I h
  refine wpAny_If (thn (hc pins s σ H _ I h) fun d s1 ⟨H1, I1, q1⟩ => ?_)
  cases d with
  | true => exact ha pins s1 σ H1 D I1 q1
  | false => exact hb pins s1 σ H1 D I1 q1
/-- code that the proof never comes to -/
def tNever : TS := fun _ _ _ => False
theorem ps_never : PS X st tNever := ⟨fun _ _ _ _ _ _ h => h.elim⟩
theorem pss_never {sts : List Stmt} : PSs X sts tNever := ⟨fun _ _ _ _ _ _ h => h.elim⟩
end

/-! ### targets -/
abbrev TG := V → St → Hp → (St → Hp → Prop) → Prop
abbrev TGs := List V → St → Hp → (St → Hp → Prop) → Prop
structure PG (X : Cx) (target : Expr) (t : TG) : Prop where
  go : ∀ (pins : List (Addr × Obj)) (s : Shared) (σ : St) (H : Hp) (v : V) (u : Value) (Q : St → Hp → Prop), Inv X pins σ H s → RelV v u → t v σ H Q →
    wpAny (model X.prog X.w) X.A (assign target X.env u) (fun _ s' => ∃ σ' H', Inv X pins σ' H' s' ∧ Q σ' H') X.xe s
instance {X : Cx} {target : Expr} {t : TG} : CoeFun (PG X target t) (fun _ => ∀ (pins : List (Addr × Obj)) (s : Shared) (σ : St) (H : Hp) (v : V) (u : Value) (Q : St → Hp → Prop), Inv X pins σ H s → RelV v u → t v σ H Q →
    wpAny (model X.prog X.w) X.A (assign target X.env u) (fun _ s' => ∃ σ' H', Inv X pins σ' H' s' ∧ Q σ' H') X.xe s) := ⟨fun h => h.go⟩
/-- several targets, one after another -/
structure PGs (X : Cx) (ts : List Expr) (t : TGs) : Prop where
  go : ∀ (pins : List (Addr × Obj)) (s : Shared) (σ : St) (H : Hp) (vs : List V) (us : List Value) (Q : St → Hp → Prop), Inv X pins σ H s → Vals vs us → t vs σ H Q →
    wpAny (model X.prog X.w) X.A (assignInOrder ((assignEach ts X.env).map (·.2)) us) (fun _ s' => ∃ σ' H', Inv X pins σ' H' s' ∧ Q σ' H') X.xe s
instance {X : Cx} {ts : List Expr} {t : TGs} : CoeFun (PGs X ts t) (fun _ => ∀ (pins : List (Addr × Obj)) (s : Shared) (σ : St) (H : Hp) (vs : List V) (us : List Value) (Q : St → Hp → Prop), Inv X pins σ H s → Vals vs us → t vs σ H Q →
    wpAny (model X.prog X.w) X.A (assignInOrder ((assignEach ts X.env).map (·.2)) us) (fun _ s' => ∃ σ' H', Inv X pins σ' H' s' ∧ Q σ' H') X.xe s) := ⟨fun h => h.go⟩
/-- o[i] = v, by values -/
abbrev TSet := V → V → V → Hp → (Hp → Prop) → Prop
def PSet (X : Cx) (t : TSet) : Prop :=
  ∀ (pins : List (Addr × Obj)) (s : Shared) (σ : St) (H : Hp) (o i v : V) (ov iv u : Value) (Q : Hp → Prop), Inv X pins σ H s → RelV o ov → RelV i iv → RelV v u → t o i v H Q →
    wpAny (model X.prog X.w) X.A (setItem ov iv u) (fun _ s' => ∃ H', Inv X pins σ H' s' ∧ Q H') X.xe s
/-- a op= b, by values -/
abbrev TIp := V → V → Hp → VK → Prop
def PIp (X : Cx) (op : Operator) (t : TIp) : Prop :=
  ∀ (pins : List (Addr × Obj)) (s : Shared) (σ : St) (H : Hp) (x y : V) (v u : Value) (Q : VK), Inv X pins σ H s → RelV x v → RelV y u → t x y H Q →
    wpAny (model X.prog X.w) X.A (inplaceOp op v u) (EP X pins σ Q) X.xe s
section
variable {X : Cx} {pos : Pos}
def gName (i : Nat) : TG := fun v σ H Q => Q (σ.set i (some v)) H
theorem pg_name {i : Nat} {x : Str} (hN : X.N.Nodup) (hi : X.N[i]? = some x) (hx : Loc X.env.scope x) (hf : X.fn x = true ∨ X.env.scope.names.lookup x = some .local := by first | exact .inl rfl | exact .inr rfl | assumption) : PG X (.Name x pos) (gName i) := by
  constructor
  intro pins s σ H v u Q I r h
  exact wpAny_assign_Name (store_ok I hN hi hx r (fun s' I' => ⟨_, H, I', h⟩) hf)
def gNil : TGs := fun vs σ H Q => vs = [] ∧ Q σ H
def gCons (t : TG) (u : TGs) : TGs := fun vs σ H Q => ∃ v r, vs = v :: r ∧ t v σ H fun σ' H' => u r σ' H' Q
theorem pgs_nil : PGs X [] gNil := by
  constructor
  intro pins s σ H vs us Q I r h
  obtain ⟨e, h⟩ := h
  subst e
  cases r
  exact assignInOrder_nil ⟨σ, H, I, h⟩
theorem pgs_cons {e : Expr} {es : List Expr} {t : TG} {u : TGs} (h1 : PG X e t) (h2 : PGs X es u)
    (hs : (assignEach (e :: es) X.env).map (·.2) = assign e X.env :: (assignEach es X.env).map (·.2) := by rfl) : PGs X (e :: es) (gCons t u) := by
  constructor
  intro pins s σ H vs us Q I r h
  obtain ⟨v, vr, e1, h⟩ := h
  subst e1
  cases r with
  | cons r rr =>
    rw [hs]
    refine assignInOrder_cons (thn (h1 pins s σ H _ _ _ I r h) fun _ s1 ⟨σ1, H1, I1, q1⟩ => ?_)
    exact h2 pins s1 σ1 H1 _ _ Q I1 rr q1
/-- (a, b, ..) = a tuple of that length -/
def gTup (K : PySem.W.Frag) (n : Nat) (t : TGs) : TG := fun v σ H Q => ∃ a xs, v = .ref a ∧ SqT K H a xs ∧ xs.length = n ∧ t xs σ H Q
theorem pg_tup {es : List Expr} {k : Nat} {t : TGs} {n : Nat} (hc : X.calm = true) (h : PGs X es t)
    (hn : (assignEach es X.env).length = n := by rfl) (hst : (assignEach es X.env).findIdx? (·.1) = none := by rfl) : PG X (.Tuple es k pos) (gTup X.K n t) := by
  constructor
  intro pins s σ H v u Q I r hw
  obtain ⟨a, xs, e1, hq, hl, hw⟩ := hw
  subst e1
  cases r
  obtain ⟨its, rv, ht, hz⟩ := I.tuple hq
  refine assign_Tuple_tuple (I.ok.hd hc) ht (by simp [hn, ← hl, rv.length]) hst fun h' hx => ?_
  have I1 : Inv X pins σ H { s with heap := h' } := I.kept (t' := s.toks) fun b o e => hx b o (Nat.ne_of_lt (Heap.lt_size e)) e
  exact h pins _ σ H xs _ Q I1 (by simpa using rv) hw
/-- o[i] = .. -/
def gSub (to ti : TE) (t : TSet) : TG := fun v σ H Q => to σ H fun o H1 => ti σ H1 fun i H2 => t o i v H2 fun H3 => Q σ H3
theorem pg_sub {o i : Expr} {to ti : TE} {t : TSet} (ho : PE X o to) (hi : PE X i ti) (hs : PSet X t)
    (ha : ∀ v, assign (.Subscript o i pos) X.env v = (do
      let ov ← holding [v] (eval o X.env)
      let iv ← holding [v, ov] (eval i X.env)
      standAt pos
      holding [v, ov, iv] (setItem ov iv v)
      release [v, ov, iv] []) := by intro _; rfl) : PG X (.Subscript o i pos) (gSub to ti t) := by
  constructor
  intro pins s σ H v u Q I r h
  rw [ha]
  refine wpAny_bind (wpAny_holding (thn (ho pins s σ H _ I h) fun ov s1 ⟨x, H1, I1, r1, q1⟩ => ?_))
  refine wpAny_bind (wpAny_holding (thn (hi pins s1 σ H1 _ I1 q1) fun iv s2 ⟨y, H2, I2, r2, q2⟩ => ?_))
  refine wpAny_bind (wpAny_standAt (wpAny_bind (wpAny_holding (thn (hs pins s2 σ H2 x y v ov iv u _ I2 r1 r2 r q2) fun _ s3 ⟨H3, I3, q3⟩ => ?_))))
  exact wpAny_release ⟨σ, H3, I3, q3⟩
/-- target = value -/
def tAsg (te : TE) (g : TG) : TS := fun D σ H => te σ H fun x H1 => g x σ H1 D.nx
theorem ps_asg {tg e : Expr} {te : TE} {g : TG} (he : PE X e te) (hg : PG X tg g) (hs : swapsWithSole [tg] e pos.line X.env = pure false := by rfl) (hw : swappedStores [tg] e X.env = pure none := by rfl)
    (h1 : (assignEach [tg] X.env).map (·.2) = [assign tg X.env] := by rfl) : PS X (.Assign [tg] e pos) (tAsg te g) := by
  constructor
  intro pins s σ H D I h
  refine wpAny_Assign_stores (thn (he pins s σ H _ I h) fun v s1 ⟨x, H1, I1, r1, q1⟩ => ?_) hs hw
  rw [h1]
  exact thn (hg pins s1 σ H1 x v _ I1 r1 q1) fun _ s2 q => q
/-- name = value -/
theorem ps_set {i : Nat} {x : Str} {e : Expr} {te : TE} {pos' : Pos} (hN : X.N.Nodup) (hi : X.N[i]? = some x) (hx : Loc X.env.scope x) (he : PE X e te) (hs : swapsWith e (some (.Name x pos')) pos.line X.env = pure false := by rfl) (hf : X.fn x = true ∨ X.env.scope.names.lookup x = some .local := by first | exact .inl rfl | exact .inr rfl | assumption) :
    PS X (.Assign [.Name x pos'] e pos) (tAsg te (gName i)) := by
  constructor
  intro pins s σ H D I h
  refine wpAny_Assign_Name (thn (he pins s σ H _ I h) fun v s1 ⟨y, H1, I1, r1, q1⟩ => ?_) hs
  exact store_ok I1 hN hi hx r1 (fun s2 I2 => ⟨_, H1, I2, q1⟩) hf
/-- a, b = x, y with plain local names: stored from the right; the pair itself is not tracked (the opening rows as in PyProof/Rows/TupAssign.lean:23) -/
def tPar (i j : Nat) (ta : TA) : TS := fun D σ H => ta σ H fun vs H1 => ∃ v w, vs = [v, w] ∧ D.nx ((σ.set i (some v)).set j (some w)) H1
theorem ps_par {i j : Nat} {x y : Str} {a b : Expr} {ta : TA} {px py pt : Pos} {kt k2 pt2} (hc : X.calm = true) (hN : X.N.Nodup) (hi : X.N[i]? = some x) (hj : X.N[j]? = some y) (hij : i ≠ j)
    (hx : X.env.scope.names.lookup x = some .local) (hy : X.env.scope.names.lookup y = some .local) (ha : PA X [a, b] ta)
    (hw : swappedStores [.Tuple [.Name x px, .Name y py] kt pt] (.Tuple [a, b] k2 pt2) X.env = pure (some [x, y]))
    (hs : swapsWithSole [.Tuple [.Name x px, .Name y py] kt pt] (.Tuple [a, b] k2 pt2) pos.line X.env = pure false := by rfl) :
    PS X (.Assign [.Tuple [.Name x px, .Name y py] kt pt] (.Tuple [a, b] k2 pt2) pos) (tPar i j ta) := by
  constructor
  intro pins s σ H D I h
  rw [exec_Assign_arm]
  refine wpAny_bind (wpAny_standAt ?_)
  rw [hs]
  refine wpAny_bind (wpAny_pure ?_)
  rw [if_neg (by decide)]
  refine wpAny_bind (Tuple_ (thn (ha _ pins s σ H _ I h) fun us s1 ⟨vs, H1, I1, r1, q1⟩ => ?_))
  obtain ⟨v, w, e1, q1⟩ := q1
  subst e1
  obtain ⟨u1, u2, rfl, rv, rw'⟩ : ∃ u1 u2, us = [u1, u2] ∧ RelV v u1 ∧ RelV w u2 := by
    cases r1 with
    | cons p q =>
      cases q with
      | cons p' q' =>
        cases q'
        exact ⟨_, _, rfl, p, p'⟩
  refine wpAny_newObj_type ?_ (by show 2 ≤ sizeLine; decide)
  have I2 : Inv X pins σ H1 { s1 with heap := s1.heap.push { cls := .type "tuple", data := .seq [u1, u2].toArray } } := I1.kept (t' := s1.toks) fun b o e => Heap.get?_push_of_some _ e
  rw [hw]
  refine wpAny_bind (wpAny_pure ?_)
  show wpAny (model X.prog X.w) X.A (do rule "assign.swapped-stores"; let items ← unpackItems (.ref s1.heap.objs.size) 2 none; assignInOrder [fun v => bindName X.env y v, fun v => bindName X.env x v] items.reverse; pure Flow.next) _ _ _
  refine wpAny_bind (wpAny_rule (wpAny_bind (unpackItems_tuple (items := #[u1, u2]) (I.ok.hd hc) (IsTup.new s1.heap _) fun h' hx' => ?_)))
  have I3 := I2.kept (h' := h') (t' := s1.toks) fun b o e => hx' b o (Nat.ne_of_lt (Heap.lt_size e)) e
  show wpAny _ _ (assignInOrder [fun v => bindName X.env y v, fun v => bindName X.env x v] [u2, u1] >>= fun _ => pure Flow.next) _ _ _
  refine wpAny_bind (assignInOrder_cons (wpAny_bindName (store_ok I3 hN hj (.inl hy) rw' (fun s2 I4 => ?_) (.inr hy))))
  refine assignInOrder_cons (wpAny_bindName (store_ok I4 hN hi (.inl hx) rv (fun s3 I5 => assignInOrder_nil (wpAny_pure ?_)) (.inr hx)))
  rw [List.set_comm _ _ (Ne.symm hij)] at I5
  exact ⟨_, H1, I5, q1⟩
/-- name op= e -/
def tAug (i : Nat) (te : TE) (ti : TIp) : TS := fun D σ H => ∃ x, σ[i]? = some (some x) ∧ te σ H fun y H1 => ti x y H1 fun z H2 => D.nx (σ.set i (some z)) H2
theorem ps_aug {i : Nat} {x : Str} {e : Expr} {te : TE} {op : Operator} {ti : TIp} {pos' : Pos} (hN : X.N.Nodup) (hi : X.N[i]? = some x) (hx : Loc X.env.scope x) (he : PE X e te) (ho : PIp X op ti) (hf : X.fn x = true ∨ X.env.scope.names.lookup x = some .local := by first | exact .inl rfl | exact .inr rfl | assumption) :
    PS X (.AugAssign (.Name x pos') op e pos) (tAug i te ti) := by
  constructor
  intro pins s σ H D I h
  obtain ⟨v, e1, h⟩ := h
  obtain ⟨m, hn, hl⟩ := I.loc
  have vis : Vis X.env.scope x := by rcases hx with k | k; exact .inl k; exact .inr (.inl k)
  obtain ⟨u, r, l⟩ := hl i x v hi e1 vis
  refine wpAny_AugAssign_Name ?_
  have go : wpAny (model X.prog X.w) X.A (eval e X.env) (fun w s₂ => wpAny (model X.prog X.w) X.A (inplaceOp op u w) (fun r s₃ => wpAny (model X.prog X.w) X.A (storeName X.env x r) (fun _ => SP X pins D .next) X.xe s₃) X.xe s₂) X.xe s := by
    refine thn (he pins s σ H _ I h) fun w s1 ⟨y, H1, I1, r1, q1⟩ => ?_
    refine thn (ho pins s1 σ H1 v y u w _ I1 r r1 q1) fun z s2 ⟨zv, H2, I2, r2, q2⟩ => ?_
    exact store_ok I2 hN hi hx r2 (fun s3 I3 => ⟨_, H2, I3, q2⟩) hf
  rcases l with ⟨hk, hm⟩ | ⟨hk, c, hc, hcell⟩
  · exact wpAny_loadName_local I.ok.kind hk hn hm go
  · rcases hk with hk | hk
    · exact wpAny_loadName_cell I.ok.kind hk hc hcell go
    · rcases hx with k | k
      · have : X.env.scope.names.lookup x = some .free := hk
        rw [k] at this; cases this
      · have : X.env.scope.names.lookup x = some .free := hk
        rw [k] at this; cases this
/-- o[i] op= e -/
def tAugS (to ti te : TE) (tget : V → V → Hp → VK → Prop) (tip : TIp) (tset : TSet) : TS := fun D σ H => to σ H fun o H1 => ti σ H1 fun i H2 => tget o i H2 fun x H3 => te σ H3 fun y H4 => tip x y H4 fun z H5 => tset o i z H5 fun H6 => D.nx σ H6
/-- o[i], by values -/
def PGet (X : Cx) (t : V → V → Hp → VK → Prop) : Prop :=
  ∀ (pins : List (Addr × Obj)) (s : Shared) (σ : St) (H : Hp) (o i : V) (ov iv : Value) (Q : VK), Inv X pins σ H s → RelV o ov → RelV i iv → t o i H Q →
    wpAny (model X.prog X.w) X.A (getItem ov iv) (EP X pins σ Q) X.xe s
theorem ps_augS {o i e : Expr} {to ti te : TE} {tget : V → V → Hp → VK → Prop} {tip : TIp} {tset : TSet} {op : Operator} {tpos : Pos} (ho : PE X o to) (hi : PE X i ti) (hg : PGet X tget) (he : PE X e te) (hp : PIp X op tip) (hs : PSet X tset)
    (ha : ∀ ov iv new, augStore i ov iv new = (do holding [new, ov, iv] (setItem ov iv new); release [new, ov, iv] []; pure .next) := by intros; rfl) : PS X (.AugAssign (.Subscript o i tpos) op e pos) (tAugS to ti te tget tip tset) := by
  constructor
  intro pins s σ H D I h
  refine wpAny_AugAssign_SubscriptAny (thn (ho pins s σ H _ I h) fun ov s1 ⟨x1, H1, I1, r1, q1⟩ => ?_) ha
  refine thn (hi pins s1 σ H1 _ I1 q1) fun iv s2 ⟨x2, H2, I2, r2, q2⟩ => ?_
  refine thn (hg pins s2 σ H2 x1 x2 ov iv _ I2 r1 r2 q2) fun old s3 ⟨x3, H3, I3, r3, q3⟩ => ?_
  refine thn (he pins s3 σ H3 _ I3 q3) fun v s4 ⟨x4, H4, I4, r4, q4⟩ => ?_
  refine thn (hp pins s4 σ H4 x3 x4 old v _ I4 r3 r4 q4) fun new s5 ⟨x5, H5, I5, r5, q5⟩ => ?_
  exact thn (hs pins s5 σ H5 x1 x2 x5 ov iv new _ I5 r1 r2 r5 q5) fun _ s6 ⟨H6, I6, q6⟩ => ⟨σ, H6, I6, q6⟩
/-- ints -/
def ipI (f : Int → Int → Int) : TIp := fun x y H Q => ∃ i j, x = .int i ∧ y = .int j ∧ Q (.int (f i j)) H
theorem ip_add : PIp X .Add (ipI fun i j => i + j) := by
  intro pins s σ H x y v u Q I r1 r2 h
  obtain ⟨i, j, e1, e2, q⟩ := h
  subst e1; subst e2
  obtain ⟨t, rfl⟩ := r1
  obtain ⟨t', rfl⟩ := r2
  exact iadd_int ⟨.int _, H, I.tok _, ⟨_, rfl⟩, q⟩
theorem ip_sub : PIp X .Sub (ipI fun i j => i - j) := by
  intro pins s σ H x y v u Q I r1 r2 h
  obtain ⟨i, j, e1, e2, q⟩ := h
  subst e1; subst e2
  obtain ⟨t, rfl⟩ := r1
  obtain ⟨t', rfl⟩ := r2
  exact isub_int ⟨.int _, H, I.tok _, ⟨_, rfl⟩, q⟩
end

/-! ### while -/
section
variable {X : Cx} {pos : Pos}
/-- the invariant W with its measure -/
def tWhile (c : TT) (tb : TS) : TS := fun D σ H => ∃ W : Nat → St → Hp → Prop, (∃ m, W m σ H) ∧ ∀ m σ H, W m σ H →
  c σ H fun b H1 => if b = true then ∃ N : St → Hp → Prop, (∀ σ' H', N σ' H' → ∃ m', m' < m ∧ W m' σ' H') ∧ tb { D with nx := N, ct := N, bk := D.nx } σ H1 else D.nx σ H1
theorem ps_while {c : Expr} {body : List Stmt} {tc : TT} {tb : TS} (hp : PassesOwn (model X.prog X.w) X.A X.env X.xe) (hc : PT X c tc) (hb : PSs X body tb) : PS X (.While c body [] pos) (tWhile tc tb) := by
  constructor
  intro pins s σ H D I h
  obtain ⟨W, ⟨m0, w0⟩, turn⟩ := h
  refine wpAny_While (codeAny_whileLoop (fun n s' => ∃ σ' H', Inv X pins σ' H' s' ∧ W n σ' H') ?_ m0 ⟨σ, H, I, w0⟩)
  rintro n s1 ⟨σ1, H1, I1, w1⟩
  refine wpAny_passesOwn hp (thn (hc pins s1 σ1 H1 _ I1 (turn n σ1 H1 w1)) fun b s2 ⟨H2, I2, q2⟩ => ?_)
  cases b with
  | true =>
    obtain ⟨N, hN, q2⟩ := q2
    rw [if_pos rfl]
    refine wpAny_passesOwn hp (thn (hb pins s2 σ1 H2 _ I2 q2) fun f s3 q3 => ?_)
    cases f with
    | next =>
      obtain ⟨σ3, H3, I3, n3⟩ := q3
      obtain ⟨m', hm, w3⟩ := hN σ3 H3 n3
      exact ⟨m', hm, σ3, H3, I3, w3⟩
    | cont =>
      obtain ⟨σ3, H3, I3, n3⟩ := q3
      obtain ⟨m', hm, w3⟩ := hN σ3 H3 n3
      exact ⟨m', hm, σ3, H3, I3, w3⟩
    | brk => exact q3
    | ret v => exact q3
  | false =>
    rw [if_neg Bool.false_ne_true]
    exact wpAny_execs_nil ⟨σ1, H2, I2, q2⟩
end

/-! ### what a loop or a comprehension walks -/
/-- at turn i: it yields x (the heap may grow), or it stops -/
structure It where
  go : Nat → Hp → Prop
  yld : Nat → Hp → V → Hp → Prop
  stop : Nat → Hp → Prop
/-- the iterator's own objects may turn: they are not the frame's, not pinned, younger than the entry (or a comprehension's own) -/
def FpOk (X : Cx) (pins : List (Addr × Obj)) (H : Hp) (b : Addr) : Prop :=
  H b = none ∧ b ≠ X.env.locals ∧ b ∉ X.fs ∧ (b ∈ X.ex ∨ X.s₀.heap.objs.size ≤ b) ∧ (∀ x c, X.env.cells.lookup x = some c → c ≠ b) ∧ ∀ p ∈ X.pn ++ pins, p.1 ≠ b
theorem Inv.fpOk {X : Cx} {pins : List (Addr × Obj)} {σ : St} {H H' : Hp} {s : Shared} {b : Addr} (I : Inv X pins σ H s) (hb : s.heap.objs.size ≤ b) (hn : H' b = none) : FpOk X pins H' b := by
  refine ⟨hn, Nat.ne_of_gt (Nat.lt_of_lt_of_le I.lt hb), I.nofs hb, .inr (Nat.le_trans I.sz hb), fun x c e z => ?_, fun p hp z => ?_⟩
  · obtain ⟨v, q⟩ := I.cell x c e
    exact absurd (Nat.lt_of_lt_of_le q.lt (by rw [z]; exact hb)) (Nat.lt_irrefl _)
  · exact absurd (Nat.lt_of_lt_of_le (Heap.lt_size (I.pin p hp).1) (by rw [z]; exact hb)) (Nat.lt_irrefl _)
structure Turn (P : Program) (w : World) (K : PySem.W.Frag) (tg : Expr) (J : It) (fp : List Addr) (it : Addr) (tn : Nat → Heap → Prop) : Prop where
  mem : it ∈ fp
  obj : ∀ i h, tn i h → ∀ b ∈ fp, ∃ o, h.get? b = some o ∧ ∀ v, o.data ≠ .cell v
  keep : ∀ i h h', tn i h → (∀ b ∈ fp, ∀ o, h.get? b = some o → h'.get? b = some o) → tn i h'
  item : ∀ (X : Cx), X.prog = P → X.w = w → X.K = K → X.calm = true → ∀ (i : Nat) (pins : List (Addr × Obj)) (s : Shared) (σ : St) (H : Hp) (E : Value → Shared → Prop), Inv X pins σ H s → (∀ b ∈ fp, FpOk X pins H b) → tn i s.heap → J.go i H →
    wpAny (model P w) X.A (pyNext (.ref it)) (fun r s1 => ∃ u, r = some u ∧
      wpAny (model P w) X.A (letOwnedTupleGo tg (.ref it) u) (fun _ s2 => ∃ x H', Inv X pins σ H' s2 ∧ RelV x u ∧ J.yld i H x H' ∧ tn (i + 1) s2.heap ∧ ∀ b ∈ fp, H' b = none) E s1) E s
  done : ∀ (X : Cx), X.prog = P → X.w = w → X.K = K → X.calm = true → ∀ (i : Nat) (pins : List (Addr × Obj)) (s : Shared) (σ : St) (H : Hp) (E : Value → Shared → Prop), Inv X pins σ H s → (∀ b ∈ fp, FpOk X pins H b) → tn i s.heap → J.stop i H →
    wpAny (model P w) X.A (pyNext (.ref it)) (fun r s1 => r = none ∧ Inv X pins σ H s1) E s
  self : ∀ (A : Around) (i : Nat) (s : Shared) (Q : Value → Shared → Prop) (E : Value → Shared → Prop), tn i s.heap → Q (.ref it) s → wpAny (model P w) A (pyIter (.ref it)) Q E s
abbrev TI := St → Hp → (It → Hp → Prop) → Prop
/-- an iterator has come -/
def PIE (X : Cx) (pins : List (Addr × Obj)) (σ : St) (tg : Expr) (R : It → Hp → Prop) (itv : Value) (s2 : Shared) : Prop :=
  ∃ (it : Addr) (fp : List Addr) (tn : Nat → Heap → Prop) (J : It) (H' : Hp), itv = .ref it ∧ Inv X pins σ H' s2 ∧ Turn X.prog X.w X.K tg J fp it tn ∧ tn 0 s2.heap ∧ (∀ b ∈ fp, FpOk X pins H' b) ∧ R J H'
structure PI (X : Cx) (tg iter : Expr) (wi : TI) : Prop where
  go : ∀ (pins : List (Addr × Obj)) (s : Shared) (σ : St) (H : Hp) (R : It → Hp → Prop), Inv X pins σ H s → wi σ H R →
    wpAny (model X.prog X.w) X.A (eval iter X.env) (fun v s1 => wpAny (model X.prog X.w) X.A (pyIter v) (PIE X pins σ tg R) X.xe s1) X.xe s
instance {X : Cx} {tg iter : Expr} {wi : TI} : CoeFun (PI X tg iter wi) (fun _ => ∀ (pins : List (Addr × Obj)) (s : Shared) (σ : St) (H : Hp) (R : It → Hp → Prop), Inv X pins σ H s → wi σ H R →
    wpAny (model X.prog X.w) X.A (eval iter X.env) (fun v s1 => wpAny (model X.prog X.w) X.A (pyIter v) (PIE X pins σ tg R) X.xe s1) X.xe s) := ⟨fun h => h.go⟩
/-- the step ahead of the store is nothing for an iterator that keeps no tuple -/
theorem go_of {M : Model} {A : Around} {E : Value → Shared → Prop} {s : Shared} {tg : Expr} {it : Addr} {u : Value} {o : Obj} {n : String} {vs : Array Value} {Q : Unit → Shared → Prop} (ho : s.heap.get? it = some o) (hc : o.cls = .type n) (hd : o.data = .fields vs)
    (hn : ["enumerate", "zip", "dict_itemiterator", "dict_reverseitemiterator", "odict_iterator", "itertools.zip_longest", "itertools.pairwise"].contains n = false) (hQ : Q () s) : wpAny M A (letOwnedTupleGo tg (.ref it) u) Q E s := by
  unfold letOwnedTupleGo
  cases tg <;> first
    | exact wpAny_pure hQ
    | (cases u <;> first
        | exact wpAny_pure hQ
        | (refine wpAny_bind (wpAny_load ho ?_)
           rw [hc, hd]
           show wpAny M A (if (["enumerate", "zip", "dict_itemiterator", "dict_reverseitemiterator", "odict_iterator", "itertools.zip_longest", "itertools.pairwise"].contains n && vs[0]? == some (rawInt _)) = true then _ else _) Q E s
           rw [if_neg (by intro h; rw [hn, Bool.false_and] at h; cases h)]
           exact wpAny_pure hQ))

/-- the list at a, as it stands at each turn (a loop may append to it) -/
def Itl (K : PySem.W.Frag) (a : Addr) : It :=
  ⟨fun i H => ∃ xs x, SqL K H a xs ∧ xs[i]? = some x, fun i H x H' => H' = H ∧ ∀ xs, SqL K H a xs → xs[i]? = some x, fun i H => ∃ xs, SqL K H a xs ∧ xs.length ≤ i⟩
def Itt (K : PySem.W.Frag) (a : Addr) : It :=
  ⟨fun i H => ∃ xs x, SqT K H a xs ∧ xs[i]? = some x, fun i H x H' => H' = H ∧ ∀ xs, SqT K H a xs → xs[i]? = some x, fun i H => ∃ xs, SqT K H a xs ∧ xs.length ≤ i⟩
/-- lo, lo + 1, .. (n of them) -/
def Itr (lo : Int) (n : Nat) : It := ⟨fun i _ => i < n, fun i H x H' => H' = H ∧ x = .int (lo + i), fun i _ => n ≤ i⟩
theorem turn_list {P : Program} {w : World} {K : PySem.W.Frag} {tg : Expr} (a it : Addr) : Turn P w K tg (Itl K a) [it] it (fun i h => h.IsListIter it a i) where
  mem := by simp
  obj := fun i h st b hb => by
    have e : b = it := by simpa using hb
    subst e
    obtain ⟨o, e, c, d⟩ := st
    exact ⟨o, e, fun v z => by rw [d] at z; cases z⟩
  keep := fun i h h' st k => st.at fun o e => k it (by simp) o e
  item := by
    intro X hP hw hK hc i pins s σ H E I hf st hg
    subst hP hw hK
    obtain ⟨xs, x, hq, hx⟩ := hg
    obtain ⟨its, rv, p, hz⟩ := I.list hq
    obtain ⟨u, hu, ru⟩ := rv.get hx
    obtain ⟨f0, f1, f2, f3, f4, f5⟩ := hf it (by simp)
    refine wpAny_pyNext_list_item st p.isList (x := u) (by simpa using hu) fun h' st' sb => ?_
    have I1 : Inv X pins σ H { s with heap := h' } := I.turned (t' := s.toks) (fun b o hb e => (sb.2 b hb).trans e) f0 f1 f3 f4 f5
    obtain ⟨o, e, c, d⟩ := id st'
    exact ⟨u, rfl, go_of (s := { s with heap := h' }) e c d (by decide) ⟨x, H, I1, ru, ⟨rfl, fun ys hy => by rw [I.list_inj hy hq]; exact hx⟩, st', fun b hb => (hf b hb).1⟩⟩
  done := by
    intro X hP hw hK hc i pins s σ H E I hf st hg
    subst hP hw hK
    obtain ⟨xs, hq, hx⟩ := hg
    obtain ⟨its, rv, p, hz⟩ := I.list hq
    obtain ⟨f0, f1, f2, f3, f4, f5⟩ := hf it (by simp)
    have hl := rv.length
    exact wpAny_pyNext_list_end (I.ok.hd hc) st p.isList (by simp; omega) fun h' eb => ⟨rfl, I.turned (t' := s.toks) (fun b o hb e => eb b o hb e) f0 f1 f3 f4 f5⟩
  self := fun _ _ _ _ _ st h => wpAny_pyIter_listiter st h
theorem turn_tuple {P : Program} {w : World} {K : PySem.W.Frag} {tg : Expr} (a it : Addr) : Turn P w K tg (Itt K a) [it] it (fun i h => h.IsTupleIter it a i) where
  mem := by simp
  obj := fun i h st b hb => by
    have e : b = it := by simpa using hb
    subst e
    obtain ⟨o, e, c, d⟩ := st
    exact ⟨o, e, fun v z => by rw [d] at z; cases z⟩
  keep := fun i h h' st k => st.at fun o e => k it (by simp) o e
  item := by
    intro X hP hw hK hc i pins s σ H E I hf st hg
    subst hP hw hK
    obtain ⟨xs, x, hq, hx⟩ := hg
    obtain ⟨its, rv, p, hz⟩ := I.tuple hq
    obtain ⟨u, hu, ru⟩ := rv.get hx
    obtain ⟨f0, f1, f2, f3, f4, f5⟩ := hf it (by simp)
    refine wpAny_pyNext_tuple_item st (show s.heap.IsTuple a its.toArray from p) (x := u) (by simpa using hu) fun h' st' sb => ?_
    have I1 : Inv X pins σ H { s with heap := h' } := I.turned (t' := s.toks) (fun b o hb e => (sb.2 b hb).trans e) f0 f1 f3 f4 f5
    obtain ⟨o, e, c, d⟩ := id st'
    exact ⟨u, rfl, go_of (s := { s with heap := h' }) e c d (by decide) ⟨x, H, I1, ru, ⟨rfl, fun ys hy => by rw [I.tuple_inj hy hq]; exact hx⟩, st', fun b hb => (hf b hb).1⟩⟩
  done := by
    intro X hP hw hK hc i pins s σ H E I hf st hg
    subst hP hw hK
    obtain ⟨xs, hq, hx⟩ := hg
    obtain ⟨its, rv, p, hz⟩ := I.tuple hq
    obtain ⟨f0, f1, f2, f3, f4, f5⟩ := hf it (by simp)
    have hl := rv.length
    exact wpAny_pyNext_tuple_end (I.ok.hd hc) st (show s.heap.IsTuple a its.toArray from p) (by simp; omega) fun h' eb => ⟨rfl, I.turned (t' := s.toks) (fun b o hb e => eb b o hb e) f0 f1 f3 f4 f5⟩
  self := fun _ _ _ _ _ st h => wpAny_pyIter_tupleiter st h
theorem turn_range {P : Program} {w : World} {K : PySem.W.Frag} {tg : Expr} (it : Addr) (lo : Int) (n : Nat) : Turn P w K tg (Itr lo n) [it] it (fun i h => IsRangeIter h it (lo + (i : Nat) * 1) ((n : Int) - (i : Nat)) 1) where
  mem := by simp
  obj := fun i h st b hb => by
    have e : b = it := by simpa using hb
    subst e
    exact ⟨_, st, fun v z => by
      have z' : Data.fields _ = Data.cell v := z
      cases z'⟩
  keep := fun i h h' st k => k it (by simp) _ st
  item := by
    intro X hP hw hK hc i pins s σ H E I hf st hg
    subst hP hw hK
    obtain ⟨f0, f1, f2, f3, f4, f5⟩ := hf it (by simp)
    have W := Walks.range (prog := X.prog) (w := X.w) (I.ok.hd hc) it lo 1 n
    refine W.item i s _ _ hg st fun v h' tk hv st' kk => ?_
    obtain ⟨t, rfl⟩ := hv
    have I1 : Inv X pins σ H { s with heap := h', toks := tk } := I.turned (fun b o hb e => kk b o (by simpa using hb) e) f0 f1 f3 f4 f5
    refine ⟨_, rfl, go_of (s := { s with heap := h', toks := tk }) (n := "range_iterator") st' rfl rfl (by decide) ⟨.int (lo + i), H, I1, ⟨t, ?_⟩, ⟨rfl, rfl⟩, st', fun b hb => (hf b hb).1⟩⟩
    rw [Int.mul_one]
  done := by
    intro X hP hw hK hc i pins s σ H E I hf st hg
    subst hP hw hK
    obtain ⟨f0, f1, f2, f3, f4, f5⟩ := hf it (by simp)
    exact wpAny_pyNext_range_end (I.ok.hd hc) st (by have : n ≤ i := hg; omega) fun h' eb => ⟨rfl, I.turned (t' := s.toks) (fun b o hb e => eb b o hb e) f0 f1 f3 f4 f5⟩
  self := fun _ _ _ _ _ st h => wpAny_pyIter_rangeiter st h
end L2

namespace L2
open PySem PySem.Spec PyProof.Rows
section
variable {X : Cx} {tg : Expr}
def iList (K : PySem.W.Frag) (tl : TE) : TI := fun σ H R => tl σ H fun x H1 => ∃ a, x = .ref a ∧ (∃ xs, SqL K H1 a xs) ∧ R (Itl K a) H1
def iTup (K : PySem.W.Frag) (tl : TE) : TI := fun σ H R => tl σ H fun x H1 => ∃ a, x = .ref a ∧ (∃ xs, SqT K H1 a xs) ∧ R (Itt K a) H1
theorem pi_list {l : Expr} {tl : TE} (hl : PE X l tl) : PI X tg l (iList X.K tl) := by
  constructor
  intro pins s σ H R I h
  refine thn (hl pins s σ H _ I h) fun v s1 ⟨x, H1, I1, r1, q1⟩ => ?_
  obtain ⟨a, e, ⟨xs, hq⟩, q⟩ := q1
  subst e
  cases r1
  obtain ⟨its, rv, p, hz⟩ := I1.list hq
  refine wpAny_pyIter_list p.isList ?_
  refine ⟨s1.heap.objs.size, [s1.heap.objs.size], _, _, H1, rfl, I1.kept (t' := s1.toks) fun b o e => Heap.get?_push_of_some _ e, turn_list a _, ⟨_, Heap.get?_push_size _ rfl, rfl, rfl⟩, fun b hb => ?_, q⟩
  have e : b = s1.heap.objs.size := by simpa using hb
  subst e
  exact I1.fpOk (Nat.le_refl _) (I1.hok.fresh (Nat.le_refl _))
theorem pi_tup {l : Expr} {tl : TE} (hl : PE X l tl) : PI X tg l (iTup X.K tl) := by
  constructor
  intro pins s σ H R I h
  refine thn (hl pins s σ H _ I h) fun v s1 ⟨x, H1, I1, r1, q1⟩ => ?_
  obtain ⟨a, e, ⟨xs, hq⟩, q⟩ := q1
  subst e
  cases r1
  obtain ⟨its, rv, p, hz⟩ := I1.tuple hq
  refine wpAny_pyIter_tuple (show s1.heap.IsTuple a its.toArray from p) ?_
  refine ⟨s1.heap.objs.size, [s1.heap.objs.size], _, _, H1, rfl, I1.kept (t' := s1.toks) fun b o e => Heap.get?_push_of_some _ e, turn_tuple a _, ⟨_, Heap.get?_push_size _ rfl, rfl, rfl⟩, fun b hb => ?_, q⟩
  have e : b = s1.heap.objs.size := by simpa using hb
  subst e
  exact I1.fpOk (Nat.le_refl _) (I1.hok.fresh (Nat.le_refl _))
/-- a range object just made, walked -/
theorem range_it {pins : List (Addr × Obj)} {σ : St} {H : Hp} {s : Shared} {R : It → Hp → Prop} {E : Value → Shared → Prop} {lo hi : Int} {t u v : Tok} {tk : Nat} (I : Inv X pins σ H s) (h1 : -(2 ^ 62) ≤ lo) (h2 : lo < 2 ^ 62) (h3 : -(2 ^ 62) ≤ hi) (h4 : hi < 2 ^ 62)
    (q : R (Itr lo (hi - lo).toNat) H) : wpAny (model X.prog X.w) X.A (pyIter (.ref s.heap.objs.size)) (PIE X pins σ tg R) E { s with heap := s.heap.push { cls := .type "range", data := .fields #[.int lo t, .int hi u, .int 1 v] }, toks := tk } := by
  refine wpAny_pyIter_range (IsRange.new ..) (small_one h1 h2 h3 h4) ?_
  have I1 : Inv X pins σ H { s with heap := s.heap.push { cls := .type "range", data := .fields #[.int lo t, .int hi u, .int 1 v] }, toks := tk } := I.kept fun b o e => Heap.get?_push_of_some _ e
  refine ⟨(s.heap.push { cls := .type "range", data := .fields #[.int lo t, .int hi u, .int 1 v] }).objs.size, [(s.heap.push { cls := .type "range", data := .fields #[.int lo t, .int hi u, .int 1 v] }).objs.size], _, _, H, rfl,
    I1.kept (t' := tk) fun b o e => Heap.get?_push_of_some _ e, turn_range _ lo (hi - lo).toNat, ?_, fun b hb => ?_, q⟩
  · have e1 : lo + ((0 : Nat) : Int) * 1 = lo := by simp
    have e2 : (((hi - lo).toNat : Nat) : Int) - ((0 : Nat) : Int) = Builtin.Range.rangeSize lo hi 1 := by rw [rangeSize_one]; split <;> omega
    show IsRangeIter _ _ (lo + ((0 : Nat) : Int) * 1) ((((hi - lo).toNat : Nat) : Int) - ((0 : Nat) : Int)) 1
    rw [e1, e2]
    exact Heap.get?_push_size _ rfl
  · have e : b = (s.heap.push { cls := .type "range", data := .fields #[.int lo t, .int hi u, .int 1 v] }).objs.size := by simpa using hb
    subst e
    exact I1.fpOk (Nat.le_refl _) (I1.hok.fresh (Nat.le_refl _))
def iRng1 (ta : TA) : TI := fun σ H R => ta σ H fun vs H1 => ∃ j : Int, vs = [.int j] ∧ -(2 ^ 62) ≤ j ∧ j < 2 ^ 62 ∧ R (Itr 0 j.toNat) H1
def iRng2 (ta : TA) : TI := fun σ H R => ta σ H fun vs H1 => ∃ i j : Int, vs = [.int i, .int j] ∧ (-(2 ^ 62) ≤ i ∧ i < 2 ^ 62 ∧ -(2 ^ 62) ≤ j ∧ j < 2 ^ 62) ∧ R (Itr i (j - i).toNat) H1
theorem pi_range1 {a : Expr} {ta : TA} {p pos : Pos} (hg : Gl X "range") (hm : X.mg "range" = none) (ha : PA X [a] ta) (hs : starEach [a] X.env = [(false, eval a X.env)] := by rfl) : PI X tg (.Call (.Name "range" p) [a] [] pos) (iRng1 ta) := by
  constructor
  intro pins s σ H R I h
  refine Call_ (ld_blt I hg hm boot_range (PyProof.Rows.callWith_type1 (thn (ha pos pins s σ H _ I h) fun us s1 ⟨vs, H1, I1, r1, q1⟩ => ?_) hs rfl))
  obtain ⟨j, e, q1, q2, q⟩ := q1
  subst e
  cases r1 with
  | cons r rr =>
    cases rr
    obtain ⟨t, rfl⟩ := r
    exact call_range_1 (range_it I1 (by omega) (by omega) q1 q2 (by simpa using q))
theorem pi_range2 {a b : Expr} {ta : TA} {p pos : Pos} (hg : Gl X "range") (hm : X.mg "range" = none) (ha : PA X [a, b] ta) (hs : starEach [a, b] X.env = [(false, eval a X.env), (false, eval b X.env)] := by rfl) (hs2 : starEach [b] X.env = [(false, eval b X.env)] := by rfl) :
    PI X tg (.Call (.Name "range" p) [a, b] [] pos) (iRng2 ta) := by
  constructor
  intro pins s σ H R I h
  refine Call_ (ld_blt I hg hm boot_range (PyProof.Rows.callWith_type1 (thn (ha pos pins s σ H _ I h) fun us s1 ⟨vs, H1, I1, r1, q1⟩ => ?_) (by rw [hs, hs2]) (by rw [hs2]; rfl)))
  obtain ⟨i, j, e, ⟨q1, q2, q3, q4⟩, q⟩ := q1
  subst e
  cases r1 with
  | cons r rr =>
    cases rr with
    | cons r' rr =>
      cases rr
      obtain ⟨t, rfl⟩ := r
      obtain ⟨t', rfl⟩ := r'
      exact call_range_2 (range_it I1 q1 q2 q3 q4 q)

/-! ### for -/
/-- W: the invariant by the turn and a measure; N: what the body is to reach -/
def tFor (wi : TI) (g : TG) (tb : TS) : TS := fun D σ H => wi σ H fun J H1 => ∃ W : Nat → Nat → St → Hp → Prop, (∃ m, W 0 m σ H1) ∧ ∀ i m σ H, W i m σ H →
  (J.stop i H ∧ D.nx σ H) ∨ (J.go i H ∧ ∃ N : St → Hp → Prop, (∀ σ' H', N σ' H' → ∃ m', m' < m ∧ W (i + 1) m' σ' H') ∧ ∀ x H', J.yld i H x H' → g x σ H' fun σ2 H2 => tb { D with nx := N, ct := N, bk := D.nx } σ2 H2)
/-- the records at fp as they stand -/
def pinsAt (fp : List Addr) (h : Heap) : List (Addr × Obj) := fp.filterMap fun b => (h.get? b).map fun o => (b, o)
theorem mem_pinsAt {fp : List Addr} {h : Heap} {b : Addr} {o : Obj} (hb : b ∈ fp) (e : h.get? b = some o) : (b, o) ∈ pinsAt fp h := List.mem_filterMap.mpr ⟨b, hb, by rw [e]; rfl⟩
theorem of_pinsAt {fp : List Addr} {h : Heap} {p : Addr × Obj} (hp : p ∈ pinsAt fp h) : p.1 ∈ fp ∧ h.get? p.1 = some p.2 := by
  obtain ⟨b, hb, e⟩ := List.mem_filterMap.mp hp
  cases q : h.get? b with
  | none => rw [q] at e; cases e
  | some o =>
    rw [q] at e
    have e' : (b, o) = p := Option.some.inj e
    subst e'
    exact ⟨hb, q⟩
theorem Inv.pinned {pins : List (Addr × Obj)} {σ : St} {H : Hp} {s : Shared} {fp : List Addr} (I : Inv X pins σ H s) (hf : ∀ b ∈ fp, FpOk X pins H b) (ho : ∀ b ∈ fp, ∃ o, s.heap.get? b = some o ∧ ∀ v, o.data ≠ .cell v) : Inv X (pins ++ pinsAt fp s.heap) σ H s :=
  I.pins_of fun p hp => (List.mem_append.mp hp).elim (fun z => I.pin p (List.mem_append_right _ z)) fun z => by
    obtain ⟨hb, e⟩ := of_pinsAt z
    obtain ⟨f0, f1, f2, _⟩ := hf p.1 hb
    obtain ⟨o, e', d⟩ := ho p.1 hb
    rw [e] at e'; cases e'
    exact ⟨e, f0, f1, f2, d⟩
theorem Inv.unpinned {pins pl : List (Addr × Obj)} {σ : St} {H : Hp} {s : Shared} (I : Inv X (pins ++ pl) σ H s) : Inv X pins σ H s := I.pins_of fun p hp => I.pin p (List.mem_append_right _ (List.mem_append_left _ hp))
theorem ps_for {iter : Expr} {body : List Stmt} {wi : TI} {g : TG} {tb : TS} {pos : Pos} (hp : PassesOwn (model X.prog X.w) X.A X.env X.xe) (hc : X.calm = true) (hi : PI X tg iter wi) (hg : PG X tg g) (hb : PSs X body tb)
    (hs : ∀ x, foldedSetIterable iter X.env x = pure x := by intro _; rfl) : PS X (.For tg iter body [] pos) (tFor wi g tb) := by
  constructor
  intro pins s σ H D I h
  refine wpAny_For (thn (hi pins s σ H _ I h) fun v s1 h1 => thn h1 fun itv s2 h2 => ?_) hs
  obtain ⟨it, fp, tn, J, H2, e, I2, T, st2, f2, W, ⟨m0, w0⟩, turn⟩ := h2
  subst e
  -- what stays true of the iterator's objects through the loop
  have stat : ∀ {H' : Hp}, (∀ b ∈ fp, H' b = none) → ∀ b ∈ fp, FpOk X pins H' b := fun hn b hb => ⟨hn b hb, (f2 b hb).2⟩
  refine codeAny_forLoop_any (fun n s' => ∃ i σ' H', Inv X pins σ' H' s' ∧ tn i s'.heap ∧ (∀ b ∈ fp, H' b = none) ∧ W i n σ' H') ?_ m0 ⟨0, σ, H2, I2, st2, fun b hb => (f2 b hb).1, w0⟩
  rintro n s3 ⟨i, σ3, H3, I3, st3, fr3, w3⟩
  rcases turn i n σ3 H3 w3 with ⟨stop, qn⟩ | ⟨go, N, hN, step⟩
  · refine wpAny_passesOwn hp (thn (T.done X rfl rfl rfl hc i pins s3 σ3 H3 X.xe I3 (stat fr3) st3 stop) fun r s4 ⟨hr, I4⟩ => ?_)
    subst hr
    exact wpAny_execs_nil ⟨σ3, H3, I4, qn⟩
  · refine wpAny_passesOwn hp (thn (T.item X rfl rfl rfl hc i pins s3 σ3 H3 X.xe I3 (stat fr3) st3 go) fun r s4 ⟨u, hr, h4⟩ => ?_)
    subst hr
    refine wpAny_passesOwn hp (thn h4 fun _ s5 ⟨x, H5, I5, r5, y5, st5, fr5⟩ => ?_)
    have I5' := I5.pinned (stat fr5) (T.obj _ _ st5)
    refine wpAny_passesOwn hp (thn (hg _ s5 σ3 H5 x u _ I5' r5 (step x H5 y5)) fun _ s6 ⟨σ6, H6, I6, q6⟩ => ?_)
    refine wpAny_passesOwn hp (thn (hb _ s6 σ6 H6 _ I6 q6) fun f s7 q7 => ?_)
    have again : ∀ {σ7 : St} {H7 : Hp}, Inv X (pins ++ pinsAt fp s5.heap) σ7 H7 s7 → N σ7 H7 → ∃ m, m < n ∧ ∃ i σ' H', Inv X pins σ' H' s7 ∧ tn i s7.heap ∧ (∀ b ∈ fp, H' b = none) ∧ W i m σ' H' := fun {σ7 H7} I7 n7 => by
      obtain ⟨m', hm, w7⟩ := hN σ7 H7 n7
      refine ⟨m', hm, i + 1, σ7, H7, I7.unpinned, T.keep _ _ _ st5 fun b hb o e => (I7.pin (b, o) (List.mem_append_right _ (List.mem_append_right _ (mem_pinsAt hb e)))).1, fun b hb => ?_, w7⟩
      obtain ⟨o, e, d⟩ := T.obj _ _ st5 b hb
      exact (I7.pin (b, o) (List.mem_append_right _ (List.mem_append_right _ (mem_pinsAt hb e)))).2.1
    cases f with
    | next => obtain ⟨σ7, H7, I7, n7⟩ := q7; exact again I7 n7
    | cont => obtain ⟨σ7, H7, I7, n7⟩ := q7; exact again I7 n7
    | brk => obtain ⟨σ7, H7, I7, q7⟩ := q7; exact ⟨σ7, H7, I7.unpinned, q7⟩
    | ret v => obtain ⟨x7, σ7, H7, I7, r7, q7⟩ := q7; exact ⟨x7, σ7, H7, I7.unpinned, r7, q7⟩
end

/-! ### the forms one uses -/
/-- over a list that the body leaves as it is -/
theorem for_list {K : PySem.W.Frag} {a : Addr} {xs : List V} {g : TG} {tb : TS} {D : Ends} {σ : St} {H : Hp} (Pv : Nat → St → Hp → Prop) (h0 : Pv 0 σ H) (hl : ∀ i σ H, i ≤ xs.length → Pv i σ H → SqL K H a xs)
    (hs : ∀ i x σ H, xs[i]? = some x → Pv i σ H → g x σ H fun σ2 H2 => tb { D with nx := Pv (i + 1), ct := Pv (i + 1), bk := D.nx } σ2 H2) (hd : ∀ σ H, Pv xs.length σ H → D.nx σ H) :
    ∃ W : Nat → Nat → St → Hp → Prop, (∃ m, W 0 m σ H) ∧ ∀ i m σ H, W i m σ H →
      ((Itl K a).stop i H ∧ D.nx σ H) ∨ ((Itl K a).go i H ∧ ∃ N : St → Hp → Prop, (∀ σ' H', N σ' H' → ∃ m', m' < m ∧ W (i + 1) m' σ' H') ∧ ∀ x H', (Itl K a).yld i H x H' → g x σ H' fun σ2 H2 => tb { D with nx := N, ct := N, bk := D.nx } σ2 H2) := by
  refine ⟨fun i m σ H => m = xs.length - i ∧ i ≤ xs.length ∧ Pv i σ H, ⟨xs.length, by simp, Nat.zero_le _, h0⟩, ?_⟩
  rintro i m σ H ⟨rfl, hi, p⟩
  have q := hl i σ H hi p
  by_cases hlt : i < xs.length
  · refine .inr ⟨⟨xs, xs[i], q, by simp [hlt]⟩, Pv (i + 1), fun σ' H' p' => ⟨xs.length - (i + 1), by omega, rfl, hlt, p'⟩, fun x H' y => ?_⟩
    obtain ⟨e, y⟩ := y
    subst e
    exact hs i x σ _ (y xs q) p
  · have e : i = xs.length := by omega
    subst e
    exact .inl ⟨⟨xs, q, Nat.le_refl _⟩, hd σ H p⟩
theorem for_tup {K : PySem.W.Frag} {a : Addr} {xs : List V} {g : TG} {tb : TS} {D : Ends} {σ : St} {H : Hp} (Pv : Nat → St → Hp → Prop) (h0 : Pv 0 σ H) (hl : ∀ i σ H, i ≤ xs.length → Pv i σ H → SqT K H a xs)
    (hs : ∀ i x σ H, xs[i]? = some x → Pv i σ H → g x σ H fun σ2 H2 => tb { D with nx := Pv (i + 1), ct := Pv (i + 1), bk := D.nx } σ2 H2) (hd : ∀ σ H, Pv xs.length σ H → D.nx σ H) :
    ∃ W : Nat → Nat → St → Hp → Prop, (∃ m, W 0 m σ H) ∧ ∀ i m σ H, W i m σ H →
      ((Itt K a).stop i H ∧ D.nx σ H) ∨ ((Itt K a).go i H ∧ ∃ N : St → Hp → Prop, (∀ σ' H', N σ' H' → ∃ m', m' < m ∧ W (i + 1) m' σ' H') ∧ ∀ x H', (Itt K a).yld i H x H' → g x σ H' fun σ2 H2 => tb { D with nx := N, ct := N, bk := D.nx } σ2 H2) := by
  refine ⟨fun i m σ H => m = xs.length - i ∧ i ≤ xs.length ∧ Pv i σ H, ⟨xs.length, by simp, Nat.zero_le _, h0⟩, ?_⟩
  rintro i m σ H ⟨rfl, hi, p⟩
  have q := hl i σ H hi p
  by_cases hlt : i < xs.length
  · refine .inr ⟨⟨xs, xs[i], q, by simp [hlt]⟩, Pv (i + 1), fun σ' H' p' => ⟨xs.length - (i + 1), by omega, rfl, hlt, p'⟩, fun x H' y => ?_⟩
    obtain ⟨e, y⟩ := y
    subst e
    exact hs i x σ _ (y xs q) p
  · have e : i = xs.length := by omega
    subst e
    exact .inl ⟨⟨xs, q, Nat.le_refl _⟩, hd σ H p⟩
theorem for_range {lo : Int} {n : Nat} {g : TG} {tb : TS} {D : Ends} {σ : St} {H : Hp} (Pv : Nat → St → Hp → Prop) (h0 : Pv 0 σ H)
    (hs : ∀ i σ H, i < n → Pv i σ H → g (.int (lo + i)) σ H fun σ2 H2 => tb { D with nx := Pv (i + 1), ct := Pv (i + 1), bk := D.nx } σ2 H2) (hd : ∀ σ H, Pv n σ H → D.nx σ H) :
    ∃ W : Nat → Nat → St → Hp → Prop, (∃ m, W 0 m σ H) ∧ ∀ i m σ H, W i m σ H →
      ((Itr lo n).stop i H ∧ D.nx σ H) ∨ ((Itr lo n).go i H ∧ ∃ N : St → Hp → Prop, (∀ σ' H', N σ' H' → ∃ m', m' < m ∧ W (i + 1) m' σ' H') ∧ ∀ x H', (Itr lo n).yld i H x H' → g x σ H' fun σ2 H2 => tb { D with nx := N, ct := N, bk := D.nx } σ2 H2) := by
  refine ⟨fun i m σ H => m = n - i ∧ i ≤ n ∧ Pv i σ H, ⟨n, by simp, Nat.zero_le _, h0⟩, ?_⟩
  rintro i m σ H ⟨rfl, hi, p⟩
  by_cases hlt : i < n
  · refine .inr ⟨hlt, Pv (i + 1), fun σ' H' p' => ⟨n - (i + 1), by omega, rfl, hlt, p'⟩, fun x H' y => ?_⟩
    obtain ⟨e, y⟩ := y
    subst e y
    exact hs i σ _ hlt p
  · have e : i = n := by omega
    subst e
    exact .inl ⟨Nat.le_refl _, hd σ H p⟩
/-- while, by a word and a measure of the state -/
theorem while_by {c : TT} {tb : TS} {D : Ends} {σ : St} {H : Hp} (Pv : St → Hp → Prop) (μ : St → Hp → Nat) (h0 : Pv σ H)
    (hs : ∀ σ H, Pv σ H → c σ H fun b H1 => if b = true then tb { D with nx := fun σ' H' => Pv σ' H' ∧ μ σ' H' < μ σ H, ct := fun σ' H' => Pv σ' H' ∧ μ σ' H' < μ σ H, bk := D.nx } σ H1 else D.nx σ H1)
    (mono : ∀ σ H Q Q', (∀ b H1, Q b H1 → Q' b H1) → c σ H Q → c σ H Q') : tWhile c tb D σ H := by
  refine ⟨fun m σ H => m = μ σ H ∧ Pv σ H, ⟨_, rfl, h0⟩, ?_⟩
  rintro m σ H ⟨rfl, p⟩
  refine mono σ H _ _ (fun b H1 q => ?_) (hs σ H p)
  cases b with
  | true => exact ⟨_, fun σ' H' ⟨p', l⟩ => ⟨_, l, rfl, p'⟩, q⟩
  | false => exact q
end L2

namespace L2
open PySem PySem.Spec PyProof.Rows

abbrev R2 := V → V → Hp → VK → Prop
/-- a two-place operation on values: f is binaryOp op, inplaceOp op or compareOp op -/
def OpR (X : Cx) (f : Value → Value → Sem Value) (r : R2) : Prop :=
  ∀ (pins : List (Addr × Obj)) (s : Shared) (σ : St) (H : Hp) (x y : V) (v u : Value) (Q : VK), Inv X pins σ H s → RelV x v → RelV y u → r x y H Q →
    wpAny (model X.prog X.w) X.A (f v u) (EP X pins σ Q) X.xe s
/-- a one-place operation -/
def UnR (X : Cx) (f : Value → Sem Value) (r : V → Hp → VK → Prop) : Prop :=
  ∀ (pins : List (Addr × Obj)) (s : Shared) (σ : St) (H : Hp) (x : V) (v : Value) (Q : VK), Inv X pins σ H s → RelV x v → r x H Q →
    wpAny (model X.prog X.w) X.A (f v) (EP X pins σ Q) X.xe s
/-- a call of a value that is known (a builtin, a type) with values -/
def CallR (X : Cx) (f : Value) (r : List V → Hp → VK → Prop) : Prop :=
  ∀ (pins : List (Addr × Obj)) (s : Shared) (σ : St) (H : Hp) (xs : List V) (us : List Value) (Q : VK), Inv X pins σ H s → Vals xs us → r xs H Q →
    wpAny (model X.prog X.w) X.A (call f us) (EP X pins σ Q) X.xe s
/-- a value's truth -/
def TruR (X : Cx) (r : V → Hp → (Bool → Hp → Prop) → Prop) : Prop :=
  ∀ (pins : List (Addr × Obj)) (s : Shared) (σ : St) (H : Hp) (x : V) (v : Value) (Q : Bool → Hp → Prop), Inv X pins σ H s → RelV x v → r x H Q →
    wpAny (model X.prog X.w) X.A (truthy v) (TP X pins σ Q) X.xe s

def tOp (r : R2) (ta tb : TE) : TE := fun σ H Q => ta σ H fun x H1 => tb σ H1 fun y H2 => r x y H2 Q
def tUn (r : V → Hp → VK → Prop) (ta : TE) : TE := fun σ H Q => ta σ H fun x H1 => r x H1 Q
/-- ints in, under C, and a value out -/
def rI (C : Int → Int → Prop) (g : Int → Int → V) : R2 := fun x y H Q => ∃ i j, x = .int i ∧ y = .int j ∧ C i j ∧ Q (g i j) H
def rI0 (g : Int → Int → V) : R2 := fun x y H Q => ∃ i j, x = .int i ∧ y = .int j ∧ Q (g i j) H
def rU (g : Int → V) : V → Hp → VK → Prop := fun x H Q => ∃ i, x = .int i ∧ Q (g i) H

section
variable {X : Cx} {a b c : Expr} {ta tb tc : TE} {pos : Pos}

theorem binT (ha : PE X a ta) (hb : PE X b tb) {pins : List (Addr × Obj)} {s : Shared} {σ : St} {H : Hp} {R : V → V → Hp → Prop} (I : Inv X pins σ H s)
    (h : ta σ H fun x H1 => tb σ H1 fun y H2 => R x y H2) {Q : Value → Shared → Prop} {f : Value → Value → Sem Value}
    (hf : ∀ v u s2 x y H2, Inv X pins σ H2 s2 → RelV x v → RelV y u → R x y H2 → wpAny (model X.prog X.w) X.A (f v u) Q X.xe s2) :
    wpAny (model X.prog X.w) X.A (eval a X.env) (fun v s₁ => wpAny (model X.prog X.w) X.A (eval b X.env) (fun u s₂ => wpAny (model X.prog X.w) X.A (f v u) Q X.xe s₂) X.xe s₁) X.xe s := by
  refine thn (ha pins s σ H _ I h) fun v s1 ⟨x, H1, I1, r1, q1⟩ => ?_
  refine thn (hb pins s1 σ H1 _ I1 q1) fun u s2 ⟨y, H2, I2, r2, q2⟩ => ?_
  exact hf v u s2 x y H2 I2 r1 r2 q2

theorem pe_op {op : Operator} {r : R2} (ho : OpR X (binaryOp op) r) (ha : PE X a ta) (hb : PE X b tb) : PE X (.BinOp a op b pos) (tOp r ta tb) := by
  constructor
  intro pins s σ H Q I h
  exact wpAny_BinOp (binT ha hb I h fun v u s2 x y H2 I2 rx ry q => ho pins s2 σ H2 x y v u Q I2 rx ry q)
theorem pe_un {op : UnaryOp} {r : V → Hp → VK → Prop} (ho : UnR X (unaryOp op) r) (ha : PE X a ta) : PE X (.UnaryOp op a pos) (tUn r ta) := by
  constructor
  intro pins s σ H Q I h
  exact UnaryOp_ (thn (ha pins s σ H _ I h) fun v s1 ⟨x, H1, I1, r1, q1⟩ => ho pins s1 σ H1 x v Q I1 r1 q1)
/-- a op= e at a name: the name's slot i -/
theorem augR {op : Operator} {r : R2} (ho : OpR X (inplaceOp op) r) {pins : List (Addr × Obj)} {s : Shared} {σ : St} {H : Hp} {x y : V} {v u : Value} {Q : VK} (I : Inv X pins σ H s)
    (rx : RelV x v) (ry : RelV y u) (q : r x y H Q) : wpAny (model X.prog X.w) X.A (inplaceOp op v u) (EP X pins σ Q) X.xe s := ho pins s σ H x y v u Q I rx ry q

/-! ### ints -/
theorem opI {f : Value → Value → Sem Value} {C : Int → Int → Prop} {g : Int → Int → Int}
    (rule : ∀ (i j : Int) (t u : Tok) (s : Shared) (Q : Value → Shared → Prop) (E : Value → Shared → Prop), C i j → Q (.int (g i j) s.toks) { s with toks := s.toks + 1 } → wpAny (model X.prog X.w) X.A (f (.int i t) (.int j u)) Q E s) :
    OpR X f (rI C fun i j => .int (g i j)) := by
  intro pins s σ H x y v u Q I rx ry h
  obtain ⟨i, j, rfl, rfl, hc, q⟩ := h
  obtain ⟨t, rfl⟩ := rx
  obtain ⟨t', rfl⟩ := ry
  exact rule i j t t' s _ _ hc ⟨.int (g i j), H, I.tok _, ⟨_, rfl⟩, q⟩
theorem opI0 {f : Value → Value → Sem Value} {g : Int → Int → Int}
    (rule : ∀ (i j : Int) (t u : Tok) (s : Shared) (Q : Value → Shared → Prop) (E : Value → Shared → Prop), Q (.int (g i j) s.toks) { s with toks := s.toks + 1 } → wpAny (model X.prog X.w) X.A (f (.int i t) (.int j u)) Q E s) :
    OpR X f (rI0 fun i j => .int (g i j)) := by
  intro pins s σ H x y v u Q I rx ry h
  obtain ⟨i, j, rfl, rfl, q⟩ := h
  obtain ⟨t, rfl⟩ := rx
  obtain ⟨t', rfl⟩ := ry
  exact rule i j t t' s _ _ ⟨.int (g i j), H, I.tok _, ⟨_, rfl⟩, q⟩
theorem opB0 {f : Value → Value → Sem Value} {g : Int → Int → Bool}
    (rule : ∀ (i j : Int) (t u : Tok) (s : Shared) (Q : Value → Shared → Prop) (E : Value → Shared → Prop), Q (.bool (g i j)) s → wpAny (model X.prog X.w) X.A (f (.int i t) (.int j u)) Q E s) :
    OpR X f (rI0 fun i j => .bl (g i j)) := by
  intro pins s σ H x y v u Q I rx ry h
  obtain ⟨i, j, rfl, rfl, q⟩ := h
  obtain ⟨t, rfl⟩ := rx
  obtain ⟨t', rfl⟩ := ry
  exact rule i j t t' s _ _ ⟨.bl (g i j), H, I, rfl, q⟩

def CDiv (i j : Int) : Prop := 0 < j ∧ j < 1073741824
def CDivN (i j : Int) : Prop := j ≠ 0 ∧ j.natAbs < 1073741824
def CPow (i j : Int) : Prop := 0 ≤ j ∧ j ≤ 1000000 ∧ i.natAbs < 2 ^ 64
def CMul (i j : Int) : Prop := (-(2 ^ 64) < i ∧ i < 2 ^ 64) ∨ (-(2 ^ 64) < j ∧ j < 2 ^ 64)
theorem CMul.ok {i j : Int} (h : CMul i j) : IntMulOk i j := by
  rcases h with ⟨h1, h2⟩ | ⟨h1, h2⟩
  · exact .of_left (intBits_le_64 h1 h2)
  · exact .of_right (intBits_le_64 h1 h2)
theorem two_pow_nn (k : Nat) : (0 : Int) ≤ 2 ^ k := by
  rw [two_pow_cast]
  exact Int.natCast_nonneg _

theorem op_add : OpR X (binaryOp .Add) (rI0 fun i j => .int (i + j)) := opI0 fun _ _ _ _ _ _ _ q => add_int q
theorem op_sub : OpR X (binaryOp .Sub) (rI0 fun i j => .int (i - j)) := opI0 fun _ _ _ _ _ _ _ q => sub_int q
theorem op_mul : OpR X (binaryOp .Mult) (rI CMul fun i j => .int (i * j)) := opI fun _ _ _ _ _ _ _ hc q => mul_int q hc.ok
/-- // by a positive divisor -/
theorem op_fdiv : OpR X (binaryOp .FloorDiv) (rI CDiv fun i j => .int (i / j)) := opI fun i j _ _ _ _ _ hc q => by
  have h1 : (0 : Int) < j := hc.1
  have h2 : j < 1073741824 := hc.2
  exact floordiv_int (by omega) (by rw [Int.fdiv_eq_ediv_of_nonneg i (by omega)]; exact q) (.inl (PyProof.noPylong_small (by omega)))
theorem op_fdivN : OpR X (binaryOp .FloorDiv) (rI CDivN fun i j => .int (i.fdiv j)) := opI fun _ _ _ _ _ _ _ hc q => floordiv_int hc.1 q (.inl (PyProof.noPylong_small hc.2))
/-- % by a positive divisor of any size -/
theorem op_mod : OpR X (binaryOp .Mod) (rI (fun _ j => 0 < j) fun i j => .int (i % j)) := opI fun i j _ _ _ _ _ hc q => by
  have h1 : (0 : Int) < j := hc
  exact mod_int' (by omega) (by rw [Int.fmod_eq_emod_of_nonneg i (by omega)]; exact q)
theorem op_modN : OpR X (binaryOp .Mod) (rI (fun _ j => j ≠ 0) fun i j => .int (i.fmod j)) := opI fun _ _ _ _ _ _ _ hc q => mod_int' hc q
theorem op_pow : OpR X (binaryOp .Pow) (rI CPow fun i j => .int (i ^ j.toNat)) := opI fun _ _ _ _ _ _ _ hc q => pow_int_small hc.1 hc.2.1 hc.2.2 q
theorem op_shl : OpR X (binaryOp .LShift) (rI CPow fun i j => .int (i * 2 ^ j.toNat)) := opI fun _ _ _ _ _ _ _ hc q => lshift_int_small hc.1 hc.2.1 hc.2.2 q
theorem op_shr : OpR X (binaryOp .RShift) (rI (fun _ j => 0 ≤ j) fun i j => .int (i / 2 ^ j.toNat)) := opI fun i j _ _ _ _ _ hc q =>
  rshift_int hc (by rw [Int.fdiv_eq_ediv_of_nonneg i (two_pow_nn _)]; exact q)
theorem op_and : OpR X (binaryOp .BitAnd) (rI0 fun i j => .int (Builtin.bitAnd i j)) := opI0 fun _ _ _ _ _ _ _ q => and_int q
theorem op_or : OpR X (binaryOp .BitOr) (rI0 fun i j => .int (Builtin.bitOr i j)) := opI0 fun _ _ _ _ _ _ _ q => or_int q
theorem op_xor : OpR X (binaryOp .BitXor) (rI0 fun i j => .int (Builtin.bitXor i j)) := opI0 fun _ _ _ _ _ _ _ q => xor_int q

theorem iop_add : OpR X (inplaceOp .Add) (rI0 fun i j => .int (i + j)) := opI0 fun _ _ _ _ _ _ _ q => iadd_int q
theorem iop_sub : OpR X (inplaceOp .Sub) (rI0 fun i j => .int (i - j)) := opI0 fun _ _ _ _ _ _ _ q => isub_int q
theorem iop_mul : OpR X (inplaceOp .Mult) (rI CMul fun i j => .int (i * j)) := opI fun _ _ _ _ _ _ _ hc q => imul_int q hc.ok
theorem iop_fdiv : OpR X (inplaceOp .FloorDiv) (rI CDiv fun i j => .int (i / j)) := opI fun i j _ _ _ _ _ hc q => by
  have h1 : (0 : Int) < j := hc.1
  have h2 : j < 1073741824 := hc.2
  exact ifloordiv_int (by omega) (by rw [Int.fdiv_eq_ediv_of_nonneg i (by omega)]; exact q) (.inl (PyProof.noPylong_small (by omega)))
theorem iop_mod : OpR X (inplaceOp .Mod) (rI (fun _ j => 0 < j) fun i j => .int (i % j)) := opI fun i j _ _ _ _ _ hc q => by
  have h1 : (0 : Int) < j := hc
  exact imod_int (by omega) (by rw [Int.fmod_eq_emod_of_nonneg i (by omega)]; exact q)
theorem iop_shl : OpR X (inplaceOp .LShift) (rI CPow fun i j => .int (i * 2 ^ j.toNat)) := opI fun _ _ _ _ _ _ _ hc q => ilshift_int_small hc.1 hc.2.1 hc.2.2 q
theorem iop_shr : OpR X (inplaceOp .RShift) (rI (fun _ j => 0 ≤ j) fun i j => .int (i / 2 ^ j.toNat)) := opI fun i j _ _ _ _ _ hc q =>
  irshift_int hc (by rw [Int.fdiv_eq_ediv_of_nonneg i (two_pow_nn _)]; exact q)
theorem iop_and : OpR X (inplaceOp .BitAnd) (rI0 fun i j => .int (Builtin.bitAnd i j)) := opI0 fun _ _ _ _ _ _ _ q => iand_int q
theorem iop_or : OpR X (inplaceOp .BitOr) (rI0 fun i j => .int (Builtin.bitOr i j)) := opI0 fun _ _ _ _ _ _ _ q => ior_int q
theorem iop_xor : OpR X (inplaceOp .BitXor) (rI0 fun i j => .int (Builtin.bitXor i j)) := opI0 fun _ _ _ _ _ _ _ q => ixor_int q

theorem unI {f : Value → Sem Value} {g : Int → Int}
    (rule : ∀ (i : Int) (t : Tok) (s : Shared) (Q : Value → Shared → Prop) (E : Value → Shared → Prop), Q (.int (g i) s.toks) { s with toks := s.toks + 1 } → wpAny (model X.prog X.w) X.A (f (.int i t)) Q E s) :
    UnR X f (rU fun i => .int (g i)) := by
  intro pins s σ H x v Q I rx h
  obtain ⟨i, rfl, q⟩ := h
  obtain ⟨t, rfl⟩ := rx
  exact rule i t s _ _ ⟨.int (g i), H, I.tok _, ⟨_, rfl⟩, q⟩
theorem un_neg : UnR X (unaryOp .USub) (rU fun i => .int (-i)) := unI fun _ _ _ _ _ q => neg_int q
theorem un_inv : UnR X (unaryOp .Invert) (rU fun i => .int (Builtin.bitNot i)) := unI fun _ _ _ _ _ q => invert_int q

/-! ### bools among ints: n += (a < b) -/
theorem op_add_ib : OpR X (binaryOp .Add) (fun x y H Q => ∃ i k, x = .int i ∧ y = .bl k ∧ Q (.int (i + b2i k)) H) := by
  intro pins s σ H x y v u Q I rx ry h
  obtain ⟨i, k, rfl, rfl, q⟩ := h
  obtain ⟨t, rfl⟩ := rx
  cases ry
  exact add_int_bool ⟨.int (i + b2i k), H, I.tok _, ⟨_, rfl⟩, q⟩
end

/-! ### comparisons -/
/-- the scalars that == tells apart as data does -/
def scal : V → V → Bool
  | .non, .non => true | .non, .int _ => true | .int _, .non => true | .non, .bl _ => true | .bl _, .non => true | .non, .str _ => true | .str _, .non => true
  | .int _, .int _ => true | .bl _, .bl _ => true | .str _, .str _ => true | .byt _, .byt _ => true
  | .int _, .str _ => true | .str _, .int _ => true | .bl _, .str _ => true | .str _, .bl _ => true
  | _, _ => false
def rEq : R2 := fun x y H Q => scal x y = true ∧ Q (.bl (decide (x = y))) H
def rNe : R2 := fun x y H Q => scal x y = true ∧ Q (.bl (!decide (x = y))) H

theorem dec_int {i j : Int} : decide (V.int i = V.int j) = (i == j) := by
  rw [Bool.eq_iff_iff]
  simp
theorem dec_bl {i j : Bool} : decide (V.bl i = V.bl j) = (i == j) := by
  rw [Bool.eq_iff_iff]
  simp
theorem dec_str {i j : Str} : decide (V.str i = V.str j) = (i == j) := by
  rw [Bool.eq_iff_iff]
  simp
theorem dec_byt {i j : Array UInt8} : decide (V.byt i = V.byt j) = (i.toList == j.toList) := by
  rw [Bool.eq_iff_iff]
  cases i
  cases j
  simp

section
variable {X : Cx} {a b c : Expr} {ta tb tc : TE} {pos : Pos}
theorem fin_bl {pins : List (Addr × Obj)} {σ : St} {H : Hp} {s : Shared} {Q : VK} {k k' : Bool} (I : Inv X pins σ H s) (q : Q (.bl k) H) (e : k = k') : EP X pins σ Q (.bool k') s := by
  subst e
  exact ⟨.bl k, H, I, rfl, q⟩
theorem op_eq : OpR X (compareOp .Eq) rEq := by
  intro pins s σ H x y v u Q I rx ry h
  obtain ⟨hs, q⟩ := h
  cases x with
  | non =>
    cases rx
    cases y with
    | non => cases ry; exact PySem.EqNone.eq_none_none (fin_bl I q (by simp))
    | bl j => cases ry; exact PySem.EqNone.eq_none_bool (fin_bl I q (by simp))
    | int j => obtain ⟨t', rfl⟩ := ry; exact PySem.EqNone.eq_none_int (fin_bl I q (by simp))
    | str j => obtain ⟨t', rfl⟩ := ry; exact PySem.EqNone.eq_none_str (fin_bl I q (by simp))
    | _ => exact absurd (show false = true from hs) Bool.false_ne_true
  | bl i =>
    cases rx
    cases y with
    | non => cases ry; exact PySem.EqNone.eq_bool_none (fin_bl I q (by simp))
    | bl j => cases ry; exact eq_bool (fin_bl I q dec_bl)
    | str j => obtain ⟨t', rfl⟩ := ry; exact PySem.EqMixed.eq_bool_str (fin_bl I q (by simp))
    | _ => exact absurd (show false = true from hs) Bool.false_ne_true
  | int i =>
    obtain ⟨t, rfl⟩ := rx
    cases y with
    | non => cases ry; exact PySem.EqNone.eq_int_none (fin_bl I q (by simp))
    | int j => obtain ⟨t', rfl⟩ := ry; exact eq_int (fin_bl I q dec_int)
    | str j => obtain ⟨t', rfl⟩ := ry; exact PySem.EqMixed.eq_int_str (fin_bl I q (by simp))
    | _ => exact absurd (show false = true from hs) Bool.false_ne_true
  | str i =>
    obtain ⟨t, rfl⟩ := rx
    cases y with
    | non => cases ry; exact PySem.EqNone.eq_str_none (fin_bl I q (by simp))
    | bl j => cases ry; exact PySem.EqMixed.eq_str_bool (fin_bl I q (by simp))
    | int j => obtain ⟨t', rfl⟩ := ry; exact PySem.EqMixed.eq_str_int (fin_bl I q (by simp))
    | str j => obtain ⟨t', rfl⟩ := ry; exact eq_str (fin_bl I q dec_str)
    | _ => exact absurd (show false = true from hs) Bool.false_ne_true
  | byt i =>
    obtain ⟨t, rfl⟩ := rx
    cases y with
    | byt j => obtain ⟨t', rfl⟩ := ry; exact PySem.W.eq_bytes (fin_bl I q dec_byt)
    | _ => exact absurd (show false = true from hs) Bool.false_ne_true
  | _ => cases y <;> exact absurd (show false = true from hs) Bool.false_ne_true
theorem op_ne : OpR X (compareOp .NotEq) rNe := by
  intro pins s σ H x y v u Q I rx ry h
  obtain ⟨hs, q⟩ := h
  cases x with
  | non =>
    cases rx
    cases y with
    | non => cases ry; exact PySem.EqNone.ne_none_none (fin_bl I q (by simp))
    | bl j => cases ry; exact PySem.EqNone.ne_none_bool (fin_bl I q (by simp))
    | int j => obtain ⟨t', rfl⟩ := ry; exact PySem.EqNone.ne_none_int (fin_bl I q (by simp))
    | str j => obtain ⟨t', rfl⟩ := ry; exact PySem.EqNone.ne_none_str (fin_bl I q (by simp))
    | _ => exact absurd (show false = true from hs) Bool.false_ne_true
  | bl i =>
    cases rx
    cases y with
    | non => cases ry; exact PySem.EqNone.ne_bool_none (fin_bl I q (by simp))
    | bl j => cases ry; exact ne_bool (fin_bl I q (congrArg not dec_bl))
    | str j => obtain ⟨t', rfl⟩ := ry; exact PySem.EqMixed.ne_bool_str (fin_bl I q (by simp))
    | _ => exact absurd (show false = true from hs) Bool.false_ne_true
  | int i =>
    obtain ⟨t, rfl⟩ := rx
    cases y with
    | non => cases ry; exact PySem.EqNone.ne_int_none (fin_bl I q (by simp))
    | int j => obtain ⟨t', rfl⟩ := ry; exact ne_int (fin_bl I q (congrArg not dec_int))
    | str j => obtain ⟨t', rfl⟩ := ry; exact PySem.EqMixed.ne_int_str (fin_bl I q (by simp))
    | _ => exact absurd (show false = true from hs) Bool.false_ne_true
  | str i =>
    obtain ⟨t, rfl⟩ := rx
    cases y with
    | non => cases ry; exact PySem.EqNone.ne_str_none (fin_bl I q (by simp))
    | bl j => cases ry; exact PySem.EqMixed.ne_str_bool (fin_bl I q (by simp))
    | int j => obtain ⟨t', rfl⟩ := ry; exact PySem.EqMixed.ne_str_int (fin_bl I q (by simp))
    | str j => obtain ⟨t', rfl⟩ := ry; exact ne_str (fin_bl I q (congrArg not dec_str))
    | _ => exact absurd (show false = true from hs) Bool.false_ne_true
  | byt i =>
    obtain ⟨t, rfl⟩ := rx
    cases y with
    | byt j => obtain ⟨t', rfl⟩ := ry; exact PySem.W.ne_bytes (fin_bl I q (congrArg not dec_byt))
    | _ => exact absurd (show false = true from hs) Bool.false_ne_true
  | _ => cases y <;> exact absurd (show false = true from hs) Bool.false_ne_true

theorem op_lt : OpR X (compareOp .Lt) (rI0 fun i j => .bl (decide (i < j))) := opB0 fun _ _ _ _ _ _ _ q => lt_int q
theorem op_le : OpR X (compareOp .LtE) (rI0 fun i j => .bl (decide (i ≤ j))) := opB0 fun _ _ _ _ _ _ _ q => le_int q
theorem op_gt : OpR X (compareOp .Gt) (rI0 fun i j => .bl (decide (j < i))) := opB0 fun _ _ _ _ _ _ _ q => gt_int q
theorem op_ge : OpR X (compareOp .GtE) (rI0 fun i j => .bl (decide (j ≤ i))) := opB0 fun _ _ _ _ _ _ _ q => ge_int q
theorem op_lt_str : OpR X (compareOp .Lt) (fun x y H Q => ∃ i j, x = .str i ∧ y = .str j ∧ Q (.bl (decide (i.cps.toList < j.cps.toList))) H) := by
  intro pins s σ H x y v u Q I rx ry h
  obtain ⟨i, j, rfl, rfl, q⟩ := h
  obtain ⟨t, rfl⟩ := rx
  obtain ⟨t', rfl⟩ := ry
  exact lt_str (fin_bl I q rfl)
/-- the one string within the other -/
theorem op_in_str : OpR X (compareOp .In) (fun x y H Q => ∃ i j, x = .str i ∧ y = .str j ∧ Q (.bl (!(Builtin.Str.occurrences j i 0 j.length 1).isEmpty)) H) := by
  intro pins s σ H x y v u Q I rx ry h
  obtain ⟨i, j, rfl, rfl, q⟩ := h
  obtain ⟨t, rfl⟩ := rx
  obtain ⟨t', rfl⟩ := ry
  exact in_str (fin_bl I q rfl)

/-- is None, is not None: the right side a value none -/
theorem op_isN : OpR X (compareOp .Is) (fun x y H Q => y = .non ∧ Q (.bl (decide (x = .non))) H) := by
  intro pins s σ H x y v u Q I rx ry h
  obtain ⟨rfl, q⟩ := h
  cases ry
  refine is_none_gen (fin_bl I q ?_)
  cases x <;> first
    | (cases rx; rfl)
    | (obtain ⟨t, rfl⟩ := rx; rfl)
theorem op_notN : OpR X (compareOp .IsNot) (fun x y H Q => y = .non ∧ Q (.bl (!decide (x = .non))) H) := by
  intro pins s σ H x y v u Q I rx ry h
  obtain ⟨rfl, q⟩ := h
  cases ry
  refine isnot_none_gen (fin_bl I q ?_)
  cases x <;> first
    | (cases rx; rfl)
    | (obtain ⟨t, rfl⟩ := rx; rfl)

theorem op_notin_str : OpR X (compareOp .NotIn) (fun x y H Q => ∃ i j, x = .str i ∧ y = .str j ∧ Q (.bl (!(!(Builtin.Str.occurrences j i 0 j.length 1).isEmpty))) H) := by
  intro pins s σ H x y v u Q I rx ry h
  obtain ⟨i, j, rfl, rfl, q⟩ := h
  obtain ⟨t, rfl⟩ := rx
  obtain ⟨t', rfl⟩ := ry
  exact notIn_str (fin_bl I q rfl)
/-- is, is not of two objects that are tracked lists or instances -/
def isObj : HO → Bool
  | .lst _ => true
  | .ins _ _ _ => true
  | _ => false
theorem obj_there {pins : List (Addr × Obj)} {s : Shared} {σ : St} {H : Hp} {a : Addr} {o : HO} (I : Inv X pins σ H s) (h : H a = some o) (p : isObj o = true) : ∃ ob, s.heap.get? a = some ob ∧ ob.cls ≠ .type "tuple" := by
  cases o with
  | lst xs =>
    obtain ⟨_, its, n, _, e⟩ : xs.length ≤ sizeLine ∧ ∃ (its : List Value) (n : Nat), Vals xs its ∧ s.heap.get? a = some { cls := .type "list", data := .seq its.toArray n } := I.hok a _ h
    exact ⟨_, e, (by show Value.type "list" ≠ .type "tuple"; decide +kernel)⟩
  | ins C dx fs =>
    have x := I.hok a _ h
    obtain ⟨_, _, _, e, _⟩ := x
    exact ⟨_, e, (by show Value.ref C ≠ .type "tuple"; exact fun z => by cases z)⟩
  | _ => exact absurd (show false = true from p) Bool.false_ne_true
theorem op_is_ref : OpR X (compareOp .Is) (fun x y H Q => ∃ a b oa ob, x = .ref a ∧ y = .ref b ∧ H a = some oa ∧ isObj oa = true ∧ H b = some ob ∧ isObj ob = true ∧ Q (.bl (decide (a = b))) H) := by
  intro pins s σ H x y v u Q I rx ry h
  obtain ⟨a, b, oa, ob, rfl, rfl, ha, pa, hb, pb, q⟩ := h
  cases rx
  cases ry
  obtain ⟨o1, e1, n1⟩ := obj_there I ha pa
  obtain ⟨o2, e2, _⟩ := obj_there I hb pb
  by_cases z : a = b
  · subst z
    exact wpAny_is_ref_self (fin_bl I q (by simp))
  · exact wpAny_is_ref_other z e1 e2 n1 (fin_bl I q (by simp [z]))
theorem op_isnot_ref : OpR X (compareOp .IsNot) (fun x y H Q => ∃ a b oa ob, x = .ref a ∧ y = .ref b ∧ H a = some oa ∧ isObj oa = true ∧ H b = some ob ∧ isObj ob = true ∧ Q (.bl (!decide (a = b))) H) := by
  intro pins s σ H x y v u Q I rx ry h
  obtain ⟨a, b, oa, ob, rfl, rfl, ha, pa, hb, pb, q⟩ := h
  cases rx
  cases ry
  obtain ⟨o1, e1, n1⟩ := obj_there I ha pa
  obtain ⟨o2, e2, _⟩ := obj_there I hb pb
  by_cases z : a = b
  · subst z
    exact wpAny_isNot_ref_self (fin_bl I q (by simp))
  · exact wpAny_isNot_ref_other z e1 e2 n1 (fin_bl I q (by simp [z]))

/-- two rules for one operation: by cases -/
theorem OpR.or {f : Value → Value → Sem Value} {r r' : R2} (h : OpR X f r) (h' : OpR X f r') : OpR X f (fun x y H Q => r x y H Q ∨ r' x y H Q) := by
  intro pins s σ H x y v u Q I rx ry q
  rcases q with q | q
  · exact h pins s σ H x y v u Q I rx ry q
  · exact h' pins s σ H x y v u Q I rx ry q

theorem nomark (b : Expr) {op : CmpOp} (h : op ≠ .In := by decide) (h2 : op ≠ .NotIn := by decide) : behindInMarks op b = false := by
  have e1 : (op == CmpOp.In) = false := by cases op <;> first | rfl | exact absurd rfl h
  have e2 : (op == CmpOp.NotIn) = false := by cases op <;> first | rfl | exact absurd rfl h2
  cases b <;> simp [behindInMarks, e1, e2]
/-- a comparison as a value; hm: nomark b, or (for in, not in) by with_unfolding_all rfl -/
theorem pe_cmpR {op : CmpOp} {r : R2} (ho : OpR X (compareOp op) r) (ha : PE X a ta) (hb : PE X b tb) (hm : behindInMarks op b = false) : PE X (.Compare a [op] [b] pos) (tOp r ta tb) := by
  constructor
  intro pins s σ H Q I h
  exact wpAny_Compare1 (binT ha hb I h fun v u s2 x y H2 I2 rx ry q => ho pins s2 σ H2 x y v u Q I2 rx ry q) hm
/-- a reading of a value as a test -/
def tTest (t : TE) : TT := fun σ H Q => t σ H fun x H' => ∃ k, x = .bl k ∧ Q k H'
theorem pt_cmpR {op : CmpOp} {r : R2} (ho : OpR X (compareOp op) r) (ha : PE X a ta) (hb : PE X b tb) (hm : behindInMarks op b = false) : PT X (.Compare a [op] [b] pos) (tTest (tOp r ta tb)) := by
  constructor
  intro pins s σ H Q I h
  refine wpAny_isTrue_Compare1 (thn (ha pins s σ H _ I h) fun v s1 ⟨x, H1, I1, r1, q1⟩ => thn (hb pins s1 σ H1 _ I1 q1) fun u s2 ⟨y, H2, I2, r2, q2⟩ =>
    thn (ho pins s2 σ H2 x y v u _ I2 r1 r2 q2) fun c s3 ⟨z, H3, I3, r3, k, e, q3⟩ => ?_) hm
  subst e
  cases r3
  exact wpAny_truthy_bool ⟨H3, I3, q3⟩
/-- a op1 b op2 c -/
def tChain (r r' : R2) (ta tb tc : TE) : TE := fun σ H Q => ta σ H fun x H1 => tb σ H1 fun y H2 => r x y H2 fun z H3 => ∃ k, z = .bl k ∧
  (if k = true then tc σ H3 fun w' H4 => r' y w' H4 Q else Q (.bl false) H3)
theorem pe_chain {op op' : CmpOp} {r r' : R2} (ho : OpR X (compareOp op) r) (ho' : OpR X (compareOp op') r') (ha : PE X a ta) (hb : PE X b tb) (hc : PE X c tc)
    (hm : lastMarks [op, op'] [b, c] = false := by with_unfolding_all rfl) : PE X (.Compare a [op, op'] [b, c] pos) (tChain r r' ta tb tc) := by
  constructor
  intro pins s σ H Q I h
  refine Compare_chain (thn (ha pins s σ H _ I h) fun v s1 ⟨x, H1, I1, r1, q1⟩ => chain_link (thn (hb pins s1 σ H1 _ I1 q1) fun u s2 ⟨y, H2, I2, r2, q2⟩ =>
    thn (ho pins s2 σ H2 x y v u _ I2 r1 r2 q2) fun d s3 ⟨z, H3, I3, r3, k, e, q3⟩ => ?_)) hm
  subst e
  cases r3
  refine wpAny_truthy_bool ?_
  cases k with
  | false => exact ite_ff ⟨.bl false, H3, I3, rfl, q3⟩
  | true => exact ite_tt (chain_last (thn (hc pins s3 σ H3 _ I3 q3) fun w' s4 ⟨z', H4, I4, r4, q4⟩ => ho' pins s4 σ H4 y z' u w' Q I4 r2 r4 q4))
theorem pt_chain {op op' : CmpOp} {r r' : R2} (ho : OpR X (compareOp op) r) (ho' : OpR X (compareOp op') r') (ha : PE X a ta) (hb : PE X b tb) (hc : PE X c tc)
    (hm : lastMarks [op, op'] [b, c] = false := by with_unfolding_all rfl) : PT X (.Compare a [op, op'] [b, c] pos) (tTest (tChain r r' ta tb tc)) := by
  constructor
  intro pins s σ H Q I h
  refine isTrue_chain (thn (ha pins s σ H _ I h) fun v s1 ⟨x, H1, I1, r1, q1⟩ => test_link (thn (hb pins s1 σ H1 _ I1 q1) fun u s2 ⟨y, H2, I2, r2, q2⟩ =>
    thn (ho pins s2 σ H2 x y v u _ I2 r1 r2 q2) fun d s3 ⟨z, H3, I3, r3, k, e, q3⟩ => ?_)) hm
  subst e
  cases r3
  refine wpAny_truthy_bool ?_
  cases k with
  | false =>
    obtain ⟨k', e', q'⟩ := q3
    cases e'
    exact ite_ff ⟨H3, I3, q'⟩
  | true =>
    refine ite_tt (test_last (thn (hc pins s3 σ H3 _ I3 q3) fun w' s4 ⟨z', H4, I4, r4, q4⟩ => thn (ho' pins s4 σ H4 y z' u w' _ I4 r2 r4 q4) fun d' s5 ⟨z2, H5, I5, r5, k2, e2, q5⟩ => ?_))
    subst e2
    cases r5
    exact wpAny_truthy_bool ⟨H5, I5, q5⟩

/-! ### truth -/
/-- a value's truth by the abstract heap -/
def TruV (K : PySem.W.Frag) (x : V) (H : Hp) (k : Bool) : Prop :=
  match x with
  | .non => k = false
  | .bl b => k = b
  | .int i => k = (i != 0)
  | .str y => y.length ≤ sizeLine ∧ k = ((y.length : Int) != 0)
  | .byt y => y.size ≤ sizeLine ∧ k = ((y.size : Int) != 0)
  | .ref p => (∃ xs, SqL K H p xs ∧ k = !xs.isEmpty) ∨ (∃ xs, SqT K H p xs ∧ k = !xs.isEmpty) ∨ ∃ kvs, H p = some (.dK kvs) ∧ k = !kvs.isEmpty
  | _ => False
theorem isEmpty_kv {κ : Type} {kvs : List (κ × V)} {vs : List (κ × Value)} (r : KV kvs vs) : (!vs.isEmpty) = !kvs.isEmpty := by
  cases r <;> rfl
theorem isEmpty_of {xs : List V} {its : List Value} (r : Vals xs its) : (!its.toArray.isEmpty) = !xs.isEmpty := by
  cases r <;> simp
theorem line63 : (sizeLine : Nat) < 2 ^ 63 := by rw [sizeLine_eq]; decide
theorem tru_ok : TruR X (fun x H Q => ∃ k, TruV X.K x H k ∧ Q k H) := by
  intro pins s σ H x v Q I rx h
  obtain ⟨k, e, q⟩ := h
  have hl := line63
  have hs : sizeLine = 16777216 := sizeLine_eq
  cases x with
  | non =>
    cases rx
    have e' : k = false := e
    subst e'
    exact truthy_none ⟨H, I, q⟩
  | bl b =>
    cases rx
    have e' : k = b := e
    subst e'
    exact wpAny_truthy_bool ⟨H, I, q⟩
  | int i =>
    obtain ⟨t, rfl⟩ := rx
    have e' : k = (i != 0) := e
    subst e'
    exact PySem.P.truthy_int ⟨H, I, q⟩
  | str y =>
    obtain ⟨t, rfl⟩ := rx
    obtain ⟨hy, e'⟩ : y.length ≤ sizeLine ∧ k = ((y.length : Int) != 0) := e
    subst e'
    exact PySem.P.truthy_str (by omega) ⟨H, I.tok _, q⟩
  | byt y =>
    obtain ⟨t, rfl⟩ := rx
    obtain ⟨hy, e'⟩ : y.size ≤ sizeLine ∧ k = ((y.size : Int) != 0) := e
    subst e'
    exact PySem.W.truthy_bytes (by omega) ⟨H, I.tok _, q⟩
  | ref p =>
    cases rx
    have e' : (∃ xs, SqL X.K H p xs ∧ k = !xs.isEmpty) ∨ (∃ xs, SqT X.K H p xs ∧ k = !xs.isEmpty) ∨ ∃ kvs, H p = some (.dK kvs) ∧ k = !kvs.isEmpty := e
    rcases e' with ⟨xs, hx, e'⟩ | ⟨xs, hx, e'⟩ | ⟨kvs, hx, e'⟩
    · subst e'
      obtain ⟨its, r, pl, hz⟩ := I.list hx
      have hlen := r.length
      exact wpAny_truthy_list pl.isList (by simp only [List.size_toArray]; omega) ⟨H, I.tok _, by rw [isEmpty_of r]; exact q⟩
    · subst e'
      obtain ⟨its, r, pl, hz⟩ := I.tuple hx
      have hlen := r.length
      exact truthy_tuple pl (by simp only [List.size_toArray]; omega) ⟨H, I.tok _, by rw [isEmpty_of r]; exact q⟩
    · subst e'
      obtain ⟨hz, hS, vs, r, m⟩ : kvs.length ≤ sizeLine ∧ (p == sysModules) = false ∧ ∃ vs, KV kvs vs ∧ s.heap.DictOf (mixKind X.prog X.w) p vs := I.hok p _ hx
      have hlen : kvs.length = vs.length := Paired.length r
      exact wpAny_truthy_dict hS m (by omega) ⟨H, I.tok _, by rw [isEmpty_kv r]; exact q⟩
  | _ => exact (show False from e).elim
/-- any expression whose test is its value's truth (a name, a call, a subscript, a field ..: he by fun _ => rfl) -/
theorem pt_truth (ha : PE X a ta) (he : ∀ whole, isTrue a X.env whole = (do let v ← whole; standAt a.pos; holding [v] (truthy v))) :
    PT X a (fun σ H Q => ta σ H fun x H' => ∃ k, TruV X.K x H' k ∧ Q k H') := by
  constructor
  intro pins s σ H Q I h
  exact isTrue_plain (thn (ha pins s σ H _ I h) fun v s1 ⟨x, H1, I1, r1, q1⟩ => tru_ok pins s1 σ H1 x v Q I1 r1 q1) (he _)

/-! ### strs and bytes -/
theorem pe_byt {x : List UInt8} {k : Nat} : PE X (.Constant (.bytes x) k pos) (fun _ H Q => Q (.byt x.toArray) H) := ⟨fun _ _ _ H _ I h => PySem.W.Constant_bytes ⟨.byt x.toArray, H, I.tok _, ⟨_, rfl⟩, h⟩⟩
theorem op_add_str : OpR X (binaryOp .Add) (fun x y H Q => ∃ i j, x = .str i ∧ y = .str j ∧ i.length + j.length ≤ sizeLine ∧ Q (.str (i ++ j)) H) := by
  intro pins s σ H x y v u Q I rx ry h
  obtain ⟨i, j, rfl, rfl, hz, q⟩ := h
  obtain ⟨t, rfl⟩ := rx
  obtain ⟨t', rfl⟩ := ry
  exact add_str (fun t' tk => ⟨.str (i ++ j), H, I.tok _, ⟨_, rfl⟩, q⟩) hz
theorem iop_add_str : OpR X (inplaceOp .Add) (fun x y H Q => ∃ i j, x = .str i ∧ y = .str j ∧ i.length + j.length ≤ sizeLine ∧ Q (.str (i ++ j)) H) := by
  intro pins s σ H x y v u Q I rx ry h
  obtain ⟨i, j, rfl, rfl, hz, q⟩ := h
  obtain ⟨t, rfl⟩ := rx
  obtain ⟨t', rfl⟩ := ry
  exact iadd_str (fun t' tk => ⟨.str (i ++ j), H, I.tok _, ⟨_, rfl⟩, q⟩) hz
theorem op_add_byt : OpR X (binaryOp .Add) (fun x y H Q => ∃ i j, x = .byt i ∧ y = .byt j ∧ i.size + j.size ≤ 16777216 ∧ Q (.byt (i ++ j)) H) := by
  intro pins s σ H x y v u Q I rx ry h
  obtain ⟨i, j, rfl, rfl, hz, q⟩ := h
  obtain ⟨t, rfl⟩ := rx
  obtain ⟨t', rfl⟩ := ry
  exact PySem.W.KBy.add_bytes hz (fun t' tk => ⟨.byt (i ++ j), H, I.tok _, ⟨_, rfl⟩, q⟩)

def PlainIxT (b : Expr) : Prop := ∀ o i, subscripted b false o i = operate [o, i] (getItem o i)
/-- s[i], 0 ≤ i < len -/
theorem pe_item_str (ha : PE X a ta) (hb : PE X b tb) (hs : PlainIxT b) :
    PE X (.Subscript a b pos) (tOp (fun x y H Q => ∃ z i c, x = .str z ∧ y = .int i ∧ 0 ≤ i ∧ i < 2 ^ 63 ∧ i < z.length ∧ z.cps[i.toNat]? = some c ∧ Q (.str ⟨#[c]⟩) H) ta tb) := by
  constructor
  intro pins s σ H Q I h
  refine Subscript_ (binT ha hb I h fun v u s2 x y H2 I2 rx ry q => ?_)
  obtain ⟨z, i, c, rfl, rfl, h0, h63, h1, hc, q⟩ := q
  obtain ⟨t, rfl⟩ := rx
  obtain ⟨t', rfl⟩ := ry
  have e : seqIndex? i z.length = some i.toNat := PySem.StrLaws.seqIndex_nonneg h0 h1
  exact tail_any (typeIs_str s2 z t) slot_str_getitem.lookup (getItem_str (c := c) (by
    have e1 : decide (i < -(2 ^ 63 : Int)) = false := decide_eq_false (by omega)
    have e2 : decide (i ≥ 2 ^ 63) = false := decide_eq_false (by omega)
    rw [e1, e2] <;> rfl) (by rw [e]; exact hc) ⟨.str ⟨#[c]⟩, H2, I2.tok _, ⟨_, rfl⟩, q⟩) (hs _ _)
/-- b[i], 0 ≤ i < len -/
theorem pe_item_byt (ha : PE X a ta) (hb : PE X b tb) (hs : PlainIxT b) :
    PE X (.Subscript a b pos) (tOp (fun x y H Q => ∃ (z : List UInt8) (i : Int), x = .byt z.toArray ∧ y = .int i ∧ z.length ≤ sizeLine ∧ 0 ≤ i ∧ i < z.length ∧ Q (.int ((z.getD i.toNat 0).toNat : Nat)) H) ta tb) := by
  constructor
  intro pins s σ H Q I h
  refine Subscript_ (binT ha hb I h fun v u s2 x y H2 I2 rx ry q => ?_)
  obtain ⟨z, i, rfl, rfl, hz, h0, h1, q⟩ := q
  obtain ⟨t, rfl⟩ := rx
  obtain ⟨t', rfl⟩ := ry
  have hl : sizeLine = 16777216 := sizeLine_eq
  exact tail_any (PySem.W.typeIs_bytes s2 z.toArray t) PySem.W.FB.slot_bytes_getitem.lookup (PySem.W.getItem_bytes (by omega) h0 h1 ⟨.int ((z.getD i.toNat 0).toNat : Nat), H2, I2.tok _, ⟨_, rfl⟩, q⟩) (hs _ _)

/-! ### scalar builtins, by CallR -/
theorem vals1 {x : V} {us : List Value} (r : Vals [x] us) : ∃ u, us = [u] ∧ RelV x u := by
  cases r with
  | cons r1 r2 => cases r2; exact ⟨_, rfl, r1⟩
theorem vals2 {x y : V} {us : List Value} (r : Vals [x, y] us) : ∃ u w', us = [u, w'] ∧ RelV x u ∧ RelV y w' := by
  cases r with
  | cons r1 r2 =>
    cases r2 with
    | cons r3 r4 => cases r4; exact ⟨_, _, rfl, r1, r3⟩
theorem call_abs : CallR X (.builtin "abs") (fun xs H Q => ∃ i, xs = [.int i] ∧ Q (.int (if i < 0 then -i else i)) H) := by
  intro pins s σ H xs us Q I r h
  obtain ⟨i, rfl, q⟩ := h
  obtain ⟨u, rfl, t, rfl⟩ := vals1 r
  exact call_abs_int fun u tk => ⟨.int (if i < 0 then -i else i), H, I.tok _, ⟨_, rfl⟩, q⟩
theorem call_max2 (hc : X.calm = true) : CallR X (.builtin "max") (fun xs H Q => ∃ i j, xs = [.int i, .int j] ∧ Q (.int (if j > i then j else i)) H) := by
  intro pins s σ H xs us Q I r h
  obtain ⟨i, j, rfl, q⟩ := h
  obtain ⟨u, w', rfl, ⟨t, rfl⟩, ⟨t', rfl⟩⟩ := vals2 r
  refine max_two_ints (I.ok.hd hc) fun h' tk k => ⟨_, H, I.kept k, ?_, q⟩
  by_cases hj : j > i
  · rw [if_pos hj, if_pos hj]; exact ⟨_, rfl⟩
  · rw [if_neg hj, if_neg hj]; exact ⟨_, rfl⟩
theorem call_min2 (hc : X.calm = true) : CallR X (.builtin "min") (fun xs H Q => ∃ i j, xs = [.int i, .int j] ∧ Q (.int (if j < i then j else i)) H) := by
  intro pins s σ H xs us Q I r h
  obtain ⟨i, j, rfl, q⟩ := h
  obtain ⟨u, w', rfl, ⟨t, rfl⟩, ⟨t', rfl⟩⟩ := vals2 r
  refine min_two_ints (I.ok.hd hc) fun h' tk k => ⟨_, H, I.kept k, ?_, q⟩
  by_cases hj : j < i
  · rw [if_pos hj, if_pos hj]; exact ⟨_, rfl⟩
  · rw [if_neg hj, if_neg hj]; exact ⟨_, rfl⟩
theorem call_int1 : CallR X (.type "int") (fun xs H Q => (∃ i, xs = [.int i] ∧ Q (.int i) H) ∨ ∃ k, xs = [.bl k] ∧ Q (.int (if k then 1 else 0)) H) := by
  intro pins s σ H xs us Q I r h
  rcases h with ⟨i, rfl, q⟩ | ⟨k, rfl, q⟩
  · obtain ⟨u, rfl, t, rfl⟩ := vals1 r
    exact call_int_int ⟨.int i, H, I, ⟨_, rfl⟩, q⟩
  · obtain ⟨u, rfl, r1⟩ := vals1 r
    cases r1
    exact call_int_bool ⟨.int (if k then 1 else 0), H, I.tok _, ⟨_, rfl⟩, q⟩
theorem call_bool1 : CallR X (.type "bool") (fun xs H Q => (∃ i, xs = [.int i] ∧ Q (.bl (i != 0)) H) ∨ ∃ k, xs = [.bl k] ∧ Q (.bl k) H) := by
  intro pins s σ H xs us Q I r h
  rcases h with ⟨i, rfl, q⟩ | ⟨k, rfl, q⟩
  · obtain ⟨u, rfl, t, rfl⟩ := vals1 r
    exact call_bool_int ⟨.bl (i != 0), H, I, rfl, q⟩
  · obtain ⟨u, rfl, r1⟩ := vals1 r
    cases r1
    exact call_bool_bool ⟨.bl k, H, I, rfl, q⟩
theorem call_str_int : CallR X (.type "str") (fun xs H Q => ∃ i, xs = [.int i] ∧ i.natAbs.log2 < 1920 ∧ Q (.str (toString i)) H) := by
  intro pins s σ H xs us Q I r h
  obtain ⟨i, rfl, hz, q⟩ := h
  obtain ⟨u, rfl, t, rfl⟩ := vals1 r
  exact PySem.P.str_of_int hz ⟨.str _, H, I.tok _, ⟨_, rfl⟩, q⟩
theorem call_ord : CallR X (.builtin "ord") (fun xs H Q => ∃ x, xs = [.str x] ∧ x.length = 1 ∧ Q (.int (x.cps.getD 0 0 : Nat)) H) := by
  intro pins s σ H xs us Q I r h
  obtain ⟨x, rfl, hz, q⟩ := h
  obtain ⟨u, rfl, t, rfl⟩ := vals1 r
  exact ord_of_one hz ⟨.int _, H, I.tok _, ⟨_, rfl⟩, q⟩
theorem call_chr : CallR X (.builtin "chr") (fun xs H Q => ∃ i, xs = [.int i] ∧ 0 ≤ i ∧ i ≤ 1114111 ∧ Q (.str ⟨#[i.toNat]⟩) H) := by
  intro pins s σ H xs us Q I r h
  obtain ⟨i, rfl, h0, h1, q⟩ := h
  obtain ⟨u, rfl, t, rfl⟩ := vals1 r
  exact chr_of_range h0 h1 ⟨.str _, H, I.tok _, ⟨_, rfl⟩, q⟩
/-- len of a str, a bytes, a list, a tuple -/
def LenV (K : PySem.W.Frag) (x : V) (H : Hp) (n : Nat) : Prop :=
  match x with
  | .str y => y.length ≤ sizeLine ∧ n = y.length
  | .byt y => y.size ≤ sizeLine ∧ n = y.size
  | .ref p => (∃ xs, SqL K H p xs ∧ n = xs.length) ∨ ∃ xs, SqT K H p xs ∧ n = xs.length
  | _ => False
theorem call_len : CallR X (.builtin "len") (fun xs H Q => ∃ x n, xs = [x] ∧ LenV X.K x H n ∧ Q (.int n) H) := by
  intro pins s σ H xs us Q I r h
  obtain ⟨x, n, rfl, e, q⟩ := h
  obtain ⟨u, rfl, rx⟩ := vals1 r
  have hl := line63
  have hs : sizeLine = 16777216 := sizeLine_eq
  cases x with
  | str y =>
    obtain ⟨t, rfl⟩ := rx
    obtain ⟨hy, e'⟩ : y.length ≤ sizeLine ∧ n = y.length := e
    subst e'
    exact len_str (by omega) ⟨.int _, H, I.tok _, ⟨_, rfl⟩, q⟩
  | byt y =>
    obtain ⟨t, rfl⟩ := rx
    obtain ⟨hy, e'⟩ : y.size ≤ sizeLine ∧ n = y.size := e
    subst e'
    exact PySem.W.len_bytes (by omega) ⟨.int _, H, I.tok _, ⟨_, rfl⟩, q⟩
  | ref p =>
    cases rx
    have e' : (∃ xs, SqL X.K H p xs ∧ n = xs.length) ∨ ∃ xs, SqT X.K H p xs ∧ n = xs.length := e
    rcases e' with ⟨xs, hx, e'⟩ | ⟨xs, hx, e'⟩
    · subst e'
      obtain ⟨its, r', pl, hz⟩ := I.list hx
      have hlen := r'.length
      exact Calls.call_len_list pl.isList (by simp only [List.size_toArray]; omega) ⟨.int xs.length, H, I.tok _, ⟨_, by simp only [List.size_toArray]; rw [hlen]⟩, q⟩
    · subst e'
      obtain ⟨its, r', pl, hz⟩ := I.tuple hx
      have hlen := r'.length
      exact len_tuple pl (by simp only [List.size_toArray]; omega) ⟨.int xs.length, H, I.tok _, ⟨_, by simp only [List.size_toArray]; rw [hlen]⟩, q⟩
  | _ => exact (show False from e).elim
/-- divmod: a new tuple -/
theorem call_divmod : CallR X (.builtin "divmod") (fun xs H Q => ∃ i j, xs = [.int i, .int j] ∧ CDiv i j ∧ ∀ p, H p = none → Q (.ref p) (upd H p (.tup [.int (i / j), .int (i % j)]))) := by
  intro pins s σ H xs us Q I r h
  obtain ⟨i, j, rfl, ⟨h1, h2⟩, q⟩ := h
  obtain ⟨u, w', rfl, ⟨t, rfl⟩, ⟨t', rfl⟩⟩ := vals2 r
  refine divmod_int (by omega) ?_ (.inl (PyProof.noPylong_small (by omega)))
  rw [Int.fdiv_eq_ediv_of_nonneg i (by omega), Int.fmod_eq_emod_of_nonneg i (by omega)]
  have hn : H s.heap.objs.size = none := I.hok.fresh (Nat.le_refl _)
  refine ⟨.ref s.heap.objs.size, _, ?_, rfl, q _ hn⟩
  refine I.laid (fun b o e => Heap.get?_push_of_some _ e) (Nat.le_refl _) ⟨by simp only [List.length_cons, List.length_nil]; rw [sizeLine_eq]; decide, [.int (i / j) s.toks, .int (i % j) (s.toks + 1)], .cons ⟨_, rfl⟩ (.cons ⟨_, rfl⟩ .nil), ?_⟩
  exact ⟨_, Heap.get?_push_size s.heap rfl, rfl, 0, rfl⟩
end
end L2

namespace L2
open PySem PySem.Spec PyProof.Rows

/-! ### an instance, its attributes a map -/
structure ObjM (h : Heap) (x dx C : Addr) (mA : Str → Option Value) : Prop where
  obj : h.get? x = some (PySem.W.instObj C dx)
  ns : h.Ns1 dx mA
  ne : dx ≠ x

theorem lookIn_ns {h : Heap} {dx : Addr} {mA : Str → Option Value} (n : h.Ns1 dx mA) : ∃ od, h.get? dx = some od ∧ ∀ name, PySem.W.lookIn name od = some (mA name) := by
  obtain ⟨o, es, ep, ho, hd, hk, _, hm⟩ := n
  refine ⟨o, ho, fun name => ?_⟩
  have e := hm name
  unfold nsFind findBy at e
  rw [← Array.find?_toList] at e
  unfold PySem.W.lookIn
  rw [hd]
  dsimp only
  split
  · rename_i y q
    rw [q] at e
    exact congrArg some e
  · rename_i q
    rw [q] at e
    have a : es.toList.any (·.refKey) = false := by
      rw [List.any_eq_false]
      intro y hy
      obtain ⟨z, t, hkey⟩ := hk y (Array.mem_toList_iff.mp hy)
      simp [DictEntry.refKey, hkey]
    have a' : ¬ es.toList.any (·.refKey) = true := by rw [a]; exact Bool.false_ne_true
    rw [if_neg a']
    exact congrArg some e

theorem ObjM.look {h : Heap} {x dx C : Addr} {mA : Str → Option Value} (I : ObjM h x dx C mA) : ∃ od, PySem.W.InstAt h x (PySem.W.instObj C dx) C (some od) ∧ ∀ name, PySem.W.lookIn name od = some (mA name) :=
  let ⟨od, ho, hl⟩ := lookIn_ns I.ns
  ⟨od, ⟨I.obj, rfl, rfl, ho⟩, hl⟩

section
variable {prog : Program} {w : World} {A : Around} {E : Value → Shared → Prop} {s : Shared} {K : PySem.W.Frag} {x dx C f : Addr} {mA : Str → Option Value} {name : Str} {v : Value}

theorem get_map {expr : Bool} {Q : Value → Shared → Prop} (X : K.In s.heap) (I : ObjM s.heap x dx C mA) (hg : PySem.W.plainGet K C name = true) (hh : PySem.W.hasDictIn K C = true)
    (ha : PySem.W.findIn K (.ref C) name = some none) (hv : mA name = some v) (hv' : PySem.W.handedIn v = true) (h : Q v { s with toks := s.toks + 1 }) :
    wpAny (model prog w) A (getAttr (.ref x) name expr) Q E s := by
  obtain ⟨od, J, hl⟩ := I.look
  exact PySem.W.get_value X J (PySem.W.plainGet_of hg).1 (PySem.W.findObj_own hh ha rfl (by rw [hl, hv])) hv' h

theorem get_const {expr : Bool} {a : Value} {Q : Value → Shared → Prop} (X : K.In s.heap) (I : ObjM s.heap x dx C mA) (hg : PySem.W.plainGet K C name = true) (hh : PySem.W.hasDictIn K C = true)
    (ha : PySem.W.findIn K (.ref C) name = some (some a)) (hn : PySem.W.specialIn K a "__get__" = some none) (hc : PySem.W.copiedNames.contains name = false) (hv : mA name = none) (hv' : PySem.W.handedIn a = true)
    (h : Q a { s with toks := s.toks + 1 }) : wpAny (model prog w) A (getAttr (.ref x) name expr) Q E s := by
  obtain ⟨od, J, hl⟩ := I.look
  exact PySem.W.get_value X J (PySem.W.plainGet_of hg).1 (PySem.W.findObj_cls hh ha hn hv' hc (by rw [hl, hv])) hv' h

theorem get_meth {pl : Sem Bool} {Q : Value × List Value → Shared → Prop} (X : K.In s.heap) (I : ObjM s.heap x dx C mA) (hg : PySem.W.plainGet K C name = true)
    (hf : PySem.W.findIn K (.ref C) name = some (some (.ref f))) (ht : PySem.W.isFn K (.ref f) = true) (hv : mA name = none) (h : Q (.ref f, [.ref x]) s) :
    wpAny (model prog w) A (getMethod (.ref x) name pl) Q E s := by
  obtain ⟨od, J, hl⟩ := I.look
  exact PySem.W.method_fn X J (PySem.W.plainGet_of hg).1 (PySem.W.plainGet_of hg).2 hf (beq_iff_eq.mp ht) (by show (PySem.W.lookIn name od).map (·.isSome) = some false; rw [hl, hv]; rfl) h

theorem set_map {ns : List Str} {Q : Unit → Shared → Prop} (X : K.In s.heap) (I : ObjM s.heap x dx C mA)
    (hs : PySem.W.findIn K (.ref C) "__setattr__" = some (some (.builtin "object.__setattr__"))) (hp : PySem.W.plainOver K C = true) (ht : PySem.W.takerIn K C name = some none) (hh : PySem.W.hasDictIn K C = true)
    (hw : PySem.Within mA ns) (hsz : ns.length ≤ sizeLine)
    (h : ∀ h', ObjM h' x dx C (fun y => if y = name then some v else mA y) → Heap.SameBut dx s.heap h' → Q () { s with heap := h', toks := s.toks + 2 }) :
    wpAny (model prog w) A (setAttr (.ref x) name v) Q E s := by
  obtain ⟨od, J, hl⟩ := I.look
  refine PySem.W.set_plain X J hs (PySem.W.osa_open (s := { s with toks := s.toks + 1 }) (r := none) X J hp ht fun b => ?_)
  obtain ⟨cd, hc, hd'⟩ := PySem.W.any_some hh
  have hx : s.heap.get? x = some ⟨.ref C, some dx, .plain, #[]⟩ := I.obj
  refine wpAny_bind (wpAny_pure (wpAny_bind (wpAny_bind (wpAny_loadPart hx (wpAny_bind (PySem.W.Looks.here (s := { s with toks := s.toks + 1 }) (PySem.W.looks_clsIn X hc) ?_))))))
  rw [hd']
  refine wpAny_pure (a := some dx) (wpAny_bind (wpAny_pure (wpAny_bind ?_)))
  refine wpAny_nsSet1 (s := { s with toks := s.toks + 1 }) I.ns fun h' hn2 hs2 => ?_
  obtain ⟨oD, esD, epD, hoD, hdD, hcD⟩ := hn2.count (PySem.Within.cons name v hw)
  refine wpAny_bind (wpAny_lookBehind hoD (by rw [hdD]; exact pastItsLine_dict (Nat.le_trans hcD (by rw [List.length_cons]; omega))) ?_)
  exact wpAny_pure (h _ ⟨(hs2.2 _ (Ne.symm I.ne)).trans I.obj, hn2, I.ne⟩ hs2)

/-- C(..): the dict at the heap's end, the instance behind it; then its __init__ -/
theorem make_map {R : Result → Shared → Prop} {vs : List Value} {kw : List (Str × Value)} (X : K.In s.heap) (hm : PySem.W.makesIn K C = true)
    (hi : PySem.W.findIn K (.ref C) "__init__" = some (some (.ref f))) (hf : PySem.W.typeIn K (.ref f) = some (.type "function"))
    (h : codeAny (model prog w) (A.under (.builtin "type.__call__" ⟨.ref C :: vs, kw⟩)) (.call (.ref f) ⟨.ref (s.heap.objs.size + 1) :: vs, kw⟩) (PySem.W.InitBack (s.heap.objs.size + 1) R)
      { s with heap := (s.heap.push PySem.W.emptyDict).push (PySem.W.instObj C s.heap.objs.size) }) :
    codeAny (model prog w) A (.call (.ref C) ⟨vs, kw⟩) R s := by
  obtain ⟨hh, g, d, t, os⟩ := s
  exact PySem.W.make_core (PySem.W.makes_of X hm) (PySem.W.looks_findIn X hi) (fun self => PySem.W.bind_fn X self hf) (.inl rfl) h
/-- C() where there is no __init__ but object's -/
theorem make_map0 {R : Result → Shared → Prop} (X : K.In s.heap) (hm : PySem.W.makesIn K C = true)
    (hi : PySem.W.findIn K (.ref C) "__init__" = some (some (.builtin "object.__init__")))
    (hb : ∀ self, PySem.W.Looks (model prog w) s.heap (bindSpecial (.builtin "object.__init__") self) (.builtin "object.__init__", [self]))
    (h : codeAny (model prog w) (A.under (.builtin "type.__call__" ⟨[.ref C], []⟩)) (.call (.builtin "object.__init__") ⟨[.ref (s.heap.objs.size + 1)], []⟩) (PySem.W.InitBack (s.heap.objs.size + 1) R)
      { s with heap := (s.heap.push PySem.W.emptyDict).push (PySem.W.instObj C s.heap.objs.size) }) :
    codeAny (model prog w) A (.call (.ref C) ⟨[], []⟩) R s := by
  obtain ⟨hh, g, d, t, os⟩ := s
  exact PySem.W.make_core (PySem.W.makes_of X hm) (PySem.W.looks_findIn X hi) hb (.inr ⟨rfl, rfl⟩) h
end

/-! ### the attributes as a list of pairs -/
def putF (f : Str) (v : V) : List (Str × V) → List (Str × V)
  | [] => [(f, v)]
  | (g, x) :: r => if g = f then (g, v) :: r else (g, x) :: putF f v r
theorem lookup_putF (f g : Str) (v : V) : ∀ fs : List (Str × V), (putF f v fs).lookup g = if g = f then some v else fs.lookup g
  | [] => by
    show List.lookup g [(f, v)] = _
    by_cases h : g = f
    · have hb : (g == f) = true := beq_iff_eq.mpr h
      simp only [List.lookup, hb, if_pos h]
    · have hb : (g == f) = false := beq_eq_false_iff_ne.mpr h
      simp only [List.lookup, hb, if_neg h]
  | (k, x) :: r => by
    have ih := lookup_putF f g v r
    rw [show putF f v ((k, x) :: r) = (if k = f then (k, v) :: r else (k, x) :: putF f v r) from rfl]
    by_cases hk : k = f
    · rw [if_pos hk]
      by_cases h : g = k
      · have hb : (g == k) = true := beq_iff_eq.mpr h
        simp only [List.lookup, hb, if_pos (h.trans hk)]
      · have hb : (g == k) = false := beq_eq_false_iff_ne.mpr h
        simp only [List.lookup, hb, if_neg (fun e : g = f => h (e.trans hk.symm))]
    · rw [if_neg hk]
      by_cases h : g = k
      · have hb : (g == k) = true := beq_iff_eq.mpr h
        simp only [List.lookup, hb, if_neg (fun e : g = f => hk (h.symm.trans e))]
      · have hb : (g == k) = false := beq_eq_false_iff_ne.mpr h
        simp only [List.lookup, hb]
        exact ih
theorem keys_putF (f : Str) (v : V) : ∀ fs : List (Str × V), f ∈ (putF f v fs).map (·.1) ∧ ∀ g, g ∈ fs.map (·.1) → g ∈ (putF f v fs).map (·.1)
  | [] => ⟨by simp [putF], fun g h => by simp at h⟩
  | (k, x) :: r => by
    obtain ⟨i1, i2⟩ := keys_putF f v r
    rw [show putF f v ((k, x) :: r) = (if k = f then (k, v) :: r else (k, x) :: putF f v r) from rfl]
    by_cases hk : k = f
    · rw [if_pos hk]
      subst hk
      exact ⟨by simp, fun g h => by simpa using h⟩
    · rw [if_neg hk]
      refine ⟨?_, fun g h => ?_⟩
      · rw [List.map_cons]
        exact List.mem_cons_of_mem _ i1
      · rw [List.map_cons] at h ⊢
        rcases List.mem_cons.mp h with e | e
        · exact List.mem_cons.mpr (.inl e)
        · exact List.mem_cons_of_mem _ (i2 g e)
theorem length_putF (f : Str) (v : V) : ∀ fs : List (Str × V), (putF f v fs).length ≤ fs.length + 1
  | [] => by simp [putF]
  | (k, x) :: r => by
    have ih := length_putF f v r
    rw [show putF f v ((k, x) :: r) = (if k = f then (k, v) :: r else (k, x) :: putF f v r) from rfl]
    by_cases hk : k = f
    · rw [if_pos hk, List.length_cons, List.length_cons]; omega
    · rw [if_neg hk, List.length_cons, List.length_cons]; omega

theorem RelO.some_of {v : V} {o : Option Value} (r : RelO (some v) o) : ∃ u, o = some u ∧ RelV v u := by
  cases o with
  | none => exact (show False from r).elim
  | some u => exact ⟨u, rfl, r⟩
theorem RelO.none_of {o : Option Value} (r : RelO none o) : o = none := by
  cases o with
  | none => rfl
  | some u => exact (show False from r).elim
theorem handed_of {v : V} {u : Value} (r : RelV v u) : PySem.W.handedIn u = true := by
  cases v with
  | non => cases (show u = Value.none from r); rfl
  | bl b => cases (show u = Value.bool b from r); rfl
  | int i => obtain ⟨t, e⟩ := (show ∃ t, u = Value.int i t from r); cases e; rfl
  | str x => obtain ⟨t, e⟩ := (show ∃ t, u = Value.str x t from r); cases e; rfl
  | byt b => obtain ⟨t, e⟩ := (show ∃ t, u = Value.bytes b t from r); cases e; rfl
  | flt b => obtain ⟨t, e⟩ := (show ∃ t, u = Value.float b t from r); cases e; rfl
  | ref a => cases (show u = Value.ref a from r); rfl
  | ty n => cases (show u = Value.type n from r); rfl

section
variable {P : Program} {w : World} {H H' : Hp} {h h' : Heap} {a C dx : Addr} {fs fs' : List (Str × V)}
theorem ins_get (hok : HOk P w H h) (e : H a = some (.ins C dx fs)) : ∃ mA, ObjM h a dx C mA ∧ (∀ f, RelO (fs.lookup f) (mA f)) ∧ PySem.Within mA (fs.map (·.1)) ∧ fs.length ≤ 1000 ∧ H dx = some (.own a) := by
  obtain ⟨d, z, ne, ob, mA, n, r, q⟩ := (show ObjOk P w H h a (.ins C dx fs) from hok a _ e)
  exact ⟨mA, ⟨ob, n, ne⟩, r, q, z, d⟩
end

/-! ### what of the text a class must have -/
structure Cls (K : PySem.W.Frag) (C : Addr) : Prop where
  pg : PySem.W.plainGet K C Str.empty = true
  hd : PySem.W.hasDictIn K C = true
  po : PySem.W.plainOver K C = true
  sa : PySem.W.findIn K (.ref C) "__setattr__" = some (some (.builtin "object.__setattr__"))
theorem Cls.get {K : PySem.W.Frag} {C : Addr} (c : Cls K C) (f : Str) : PySem.W.plainGet K C f = true := c.pg
/-- no class of it has the name -/
def NoAttr (K : PySem.W.Frag) (C : Addr) (f : Str) : Prop := PySem.W.findIn K (.ref C) f = some none
theorem NoAttr.taker {K : PySem.W.Frag} {C : Addr} {f : Str} (n : NoAttr K C f) : PySem.W.takerIn K C f = some none := by
  unfold PySem.W.takerIn
  rw [show PySem.W.findIn K (.ref C) f = some none from n]
  rfl
/-- a constant of the class -/
structure Con (K : PySem.W.Frag) (C : Addr) (f : Str) (v : V) (u : Value) : Prop where
  at_ : PySem.W.findIn K (.ref C) f = some (some u)
  rel : RelV v u
  get : PySem.W.specialIn K u "__get__" = some none
  cp : PySem.W.copiedNames.contains f = false
/-- a method: a plain def of the class or of one above it -/
structure Meth (K : PySem.W.Frag) (C : Addr) (m : Str) (f : Addr) : Prop where
  at_ : PySem.W.findIn K (.ref C) m = some (some (.ref f))
  fn : PySem.W.isFn K (.ref f) = true
  kp : PySem.W.keepIn K (.ref f) = true

section
variable {X : Cx} {pins : List (Addr × Obj)} {σ : St} {H : Hp} {s : Shared} {a C dx : Addr} {fs : List (Str × V)} {f : Str} {v : V} {A : Around} {E : Value → Shared → Prop}

theorem getattr_ok {b : Bool} {Q : Value → Shared → Prop} (I : Inv X pins σ H s) (e : H a = some (.ins C dx fs)) (c : Cls X.K C) (n : NoAttr X.K C f) (l : fs.lookup f = some v)
    (h : ∀ u s', Inv X pins σ H s' → RelV v u → Q u s') : wpAny (model X.prog X.w) A (getAttr (.ref a) f b) Q E s := by
  obtain ⟨mA, O, r, _, _, _⟩ := ins_get I.hok e
  obtain ⟨u, hu, ru⟩ := RelO.some_of (v := v) (o := mA f) (by rw [← l]; exact r f)
  exact get_map I.kIn O (c.get f) c.hd n hu (handed_of ru) (h u _ (I.tok _) ru)

theorem getcon_ok {b : Bool} {u : Value} {Q : Value → Shared → Prop} (I : Inv X pins σ H s) (e : H a = some (.ins C dx fs)) (c : Cls X.K C) (k : Con X.K C f v u) (l : fs.lookup f = none)
    (h : ∀ s', Inv X pins σ H s' → Q u s') : wpAny (model X.prog X.w) A (getAttr (.ref a) f b) Q E s := by
  obtain ⟨mA, O, r, _, _, _⟩ := ins_get I.hok e
  have hn : mA f = none := RelO.none_of (by rw [← l]; exact r f)
  exact get_const I.kIn O (c.get f) c.hd k.at_ k.get k.cp hn (handed_of k.rel) (h _ (I.tok _))

theorem getmeth_ok {m : Str} {g : Addr} {pl : Sem Bool} {Q : Value × List Value → Shared → Prop} (I : Inv X pins σ H s) (e : H a = some (.ins C dx fs)) (c : Cls X.K C) (k : Meth X.K C m g) (l : fs.lookup m = none)
    (h : Q (.ref g, [.ref a]) s) : wpAny (model X.prog X.w) A (getMethod (.ref a) m pl) Q E s := by
  obtain ⟨mA, O, r, _, _, _⟩ := ins_get I.hok e
  have hn : mA m = none := RelO.none_of (by rw [← l]; exact r m)
  exact get_meth I.kIn O (c.get m) k.at_ k.fn hn h

theorem setattr_ok {y : V} {u : Value} {Q : Unit → Shared → Prop} (I : Inv X pins σ H s) (e : H a = some (.ins C dx fs)) (c : Cls X.K C) (n : NoAttr X.K C f) (hl : fs.length < 1000) (ry : RelV y u)
    (h : ∀ s', Inv X pins σ (upd H a (.ins C dx (putF f y fs))) s' → Q () s') : wpAny (model X.prog X.w) A (setAttr (.ref a) f u) Q E s := by
  obtain ⟨mA, O, r, wi, _, ho⟩ := ins_get I.hok e
  have hz : (fs.map (·.1)).length ≤ sizeLine := by rw [List.length_map, sizeLine_eq]; omega
  refine set_map I.kIn O c.sa c.po n.taker c.hd wi hz fun h' O' sb => h _ ?_
  have hd : ∃ o, h'.get? dx = some o := let ⟨o, _, _, e', _⟩ := O'.ns; ⟨o, e'⟩
  refine I.write (x := a) (e := dx) (by rw [e]; exact True.intro) (.inr ho) (fun b q hb z => (sb.2 b hb).trans z) hd ?_
  refine ⟨by rw [upd_ne O.ne]; exact ho, ?_, O.ne, O'.obj, _, O'.ns, fun g => ?_, fun g hg => ?_⟩
  · have := length_putF f y fs; omega
  · show RelO ((putF f y fs).lookup g) (if g = f then some u else mA g)
    rw [lookup_putF]
    by_cases q : g = f
    · rw [if_pos q, if_pos q]; exact ry
    · rw [if_neg q, if_neg q]; exact r g
  · by_cases q : g = f
    · rw [q]; exact (keys_putF f y fs).1
    · refine (keys_putF f y fs).2 g (wi g fun z => hg ?_)
      show (if g = f then some u else mA g) = none
      rw [if_neg q]; exact z

/-- a new instance, tracked, without attributes -/
theorem Inv.made (I : Inv X pins σ H s) : Inv X pins σ (upd (upd H s.heap.objs.size (.own (s.heap.objs.size + 1))) (s.heap.objs.size + 1) (.ins C s.heap.objs.size []))
    { s with heap := (s.heap.push PySem.W.emptyDict).push (PySem.W.instObj C s.heap.objs.size) } := by
  have e1 : (s.heap.push PySem.W.emptyDict).get? s.heap.objs.size = some PySem.W.emptyDict := Heap.get?_push_size s.heap rfl
  have e2 : ((s.heap.push PySem.W.emptyDict).push (PySem.W.instObj C s.heap.objs.size)).get? (s.heap.objs.size + 1) = some (PySem.W.instObj C s.heap.objs.size) := by
    have := Heap.get?_push_size (s.heap.push PySem.W.emptyDict) (o := PySem.W.instObj C s.heap.objs.size) rfl
    rwa [Heap.size_push] at this
  have e3 : (s.heap.push PySem.W.emptyDict).Ns s.heap.objs.size (fun _ => none) := ⟨PySem.W.emptyDict, #[], _, e1, rfl, (fun e he => absurd he (by simp)), fun _ => rfl⟩
  have I1 := I.laid (a := s.heap.objs.size) (o := .own (s.heap.objs.size + 1)) (h' := s.heap.push PySem.W.emptyDict) (t' := s.toks) (fun b u q => Heap.get?_push_of_some _ q) (Nat.le_refl _) ⟨_, e1⟩
  refine I1.laid (a := s.heap.objs.size + 1) (o := .ins C s.heap.objs.size []) (t' := s.toks) (fun b u q => Heap.get?_push_of_some _ q) (Nat.le_of_eq (Heap.size_push _ _)) ?_
  have ne : s.heap.objs.size ≠ s.heap.objs.size + 1 := Nat.ne_of_lt (Nat.lt_succ_self _)
  refine ⟨by rw [upd_ne ne, upd_same], Nat.zero_le _, ne, e2, fun _ => none, (Heap.Ns1.of_empty e3).at fun o q => Heap.get?_push_of_some _ q, fun _ => True.intro, fun y hy => absurd rfl hy⟩

/-- e.f where nothing but the object is asked: through attributeBase (super) and the last hold -/
theorem attr_of {prog : Program} {w : World} {env : Env} {e : Expr} {f : Str} {pos : Pos} {s : Shared} {Q : Value → Shared → Prop} (hb : attributeBase e f env (eval e env) = eval e env)
    (h : wpAny (model prog w) A (eval e env) (fun o s₁ => wpAny (model prog w) A (getAttr o f true) Q E s₁) E s) : wpAny (model prog w) A (eval (.Attribute e f pos) env) Q E s :=
  Attribute_any_ h (by rw [arm_eval_Attribute, hb])
end

/-! ### readings and rules -/
/-- e.f, an attribute of the instance -/
def tFld (K : PySem.W.Frag) (ta : TE) (f : Str) : TE := fun σ H Q => ta σ H fun x H1 => ∃ a C dx fs v, x = .ref a ∧ H1 a = some (.ins C dx fs) ∧ Cls K C ∧ NoAttr K C f ∧ fs.lookup f = some v ∧ Q v H1
/-- e.f, a constant of the class -/
def tCon (K : PySem.W.Frag) (ta : TE) (f : Str) : TE := fun σ H Q => ta σ H fun x H1 => ∃ a C dx fs v u, x = .ref a ∧ H1 a = some (.ins C dx fs) ∧ Cls K C ∧ Con K C f v u ∧ fs.lookup f = none ∧ Q v H1
/-- e.f = value -/
def sFld (K : PySem.W.Frag) (ta tv : TE) (f : Str) : TS := fun D σ H => tv σ H fun y H1 => ta σ H1 fun x H2 => ∃ a C dx fs, x = .ref a ∧ H2 a = some (.ins C dx fs) ∧ Cls K C ∧ NoAttr K C f ∧ fs.length < 1000 ∧
  D.nx σ (upd H2 a (.ins C dx (putF f y fs)))
/-- an augmented operator on two values -/
def InOp (X : Cx) (op : Operator) (rd : V → V → Hp → VK → Prop) : Prop :=
  ∀ (pins : List (Addr × Obj)) (s : Shared) (σ : St) (H : Hp) (x y : V) (u v : Value) (Q : VK), Inv X pins σ H s → RelV x u → RelV y v → rd x y H Q → wpAny (model X.prog X.w) X.A (inplaceOp op u v) (EP X pins σ Q) X.xe s
/-- e.f op= value -/
def sFldAug (K : PySem.W.Frag) (ta tv : TE) (rd : V → V → Hp → VK → Prop) (f : Str) : TS := fun D σ H => ta σ H fun x H1 => ∃ a C dx fs v, x = .ref a ∧ H1 a = some (.ins C dx fs) ∧ Cls K C ∧ NoAttr K C f ∧ fs.lookup f = some v ∧
  tv σ H1 fun y H2 => rd v y H2 fun z H3 => ∃ dx' fs', H3 a = some (.ins C dx' fs') ∧ fs'.length < 1000 ∧ D.nx σ (upd H3 a (.ins C dx' (putF f z fs')))

section
variable {X : Cx} {o e value : Expr} {f : Str} {pos pos' tpos : Pos} {ta tv : TE}
theorem pe_fld (he : PE X e ta) (hb : attributeBase e f X.env (eval e X.env) = eval e X.env) : PE X (.Attribute e f pos) (tFld X.K ta f) := by
  constructor
  intro pins s σ H Q I h
  refine attr_of hb (thn (he pins s σ H _ I h) fun u s1 ⟨x, H1, I1, rx, a, C, dx, fs, v, ex, ea, c, n, l, q⟩ => ?_)
  subst ex
  obtain rfl : u = Value.ref a := rx
  exact getattr_ok I1 ea c n l fun u' s2 I2 ru => ⟨v, H1, I2, ru, q⟩
theorem pe_con (he : PE X e ta) (hb : attributeBase e f X.env (eval e X.env) = eval e X.env) : PE X (.Attribute e f pos) (tCon X.K ta f) := by
  constructor
  intro pins s σ H Q I h
  refine attr_of hb (thn (he pins s σ H _ I h) fun u s1 ⟨x, H1, I1, rx, a, C, dx, fs, v, u0, ex, ea, c, k, l, q⟩ => ?_)
  subst ex
  obtain rfl : u = Value.ref a := rx
  exact getcon_ok I1 ea c k l fun s2 I2 => ⟨v, H1, I2, k.rel, q⟩
theorem ps_fld (ha : PE X o ta) (hv : PE X value tv) (hs : swapsWith value (some (.Attribute o f pos')) pos.line X.env = pure false) : PS X (.Assign [.Attribute o f pos'] value pos) (sFld X.K ta tv f) := by
  constructor
  intro pins s σ H D I h
  refine plainObj_wpAny_Assign_Attribute (thn (hv pins s σ H _ I h) fun u s1 ⟨y, H1, I1, ry, q⟩ => thn (ha pins s1 σ H1 _ I1 q) fun ov s2 ⟨x, H2, I2, rx, a, C, dx, fs, ex, ea, c, n, l, q2⟩ => ?_) hs
  subst ex
  obtain rfl : ov = Value.ref a := rx
  exact setattr_ok I2 ea c n l ry fun s3 I3 => ⟨σ, _, I3, q2⟩
theorem ps_fldaug {op : Operator} {rd : V → V → Hp → VK → Prop} (ha : PE X o ta) (hv : PE X value tv) (hop : InOp X op rd) : PS X (.AugAssign (.Attribute o f tpos) op value pos) (sFldAug X.K ta tv rd f) := by
  constructor
  intro pins s σ H D I h
  refine wpAny_AugAssign_AttributeAny (thn (ha pins s σ H _ I h) fun ov s1 ⟨x, H1, I1, rx, a, C, dx, fs, v, ex, ea, c, n, l, q⟩ => ?_)
  subst ex
  obtain rfl : ov = Value.ref a := rx
  refine getattr_ok I1 ea c n l fun u s2 I2 ru => thn (hv pins s2 σ H1 _ I2 q) fun w3 s3 ⟨y, H2, I3, ry, q3⟩ => thn (hop pins s3 σ H2 v y u w3 _ I3 ru ry q3) fun w4 s4 ⟨z, H3, I4, rz, dx', fs', ea', l', q4⟩ => ?_
  exact setattr_ok I4 ea' c n l' rz fun s5 I5 => ⟨σ, _, I5, q4⟩
def rAdd : V → V → Hp → VK → Prop := fun x y H Q => ∃ i j, x = .int i ∧ y = .int j ∧ Q (.int (i + j)) H
def rSub : V → V → Hp → VK → Prop := fun x y H Q => ∃ i j, x = .int i ∧ y = .int j ∧ Q (.int (i - j)) H
theorem in_add : InOp X .Add rAdd := by
  rintro pins s σ H x y u v Q I rx ry ⟨i, j, rfl, rfl, q⟩
  obtain ⟨t, rfl⟩ := (show ∃ t, u = Value.int i t from rx)
  obtain ⟨t', rfl⟩ := (show ∃ t', v = Value.int j t' from ry)
  exact PyProof.Rows.iadd_int ⟨.int (i + j), H, I.tok _, ⟨_, rfl⟩, q⟩
theorem in_sub : InOp X .Sub rSub := by
  rintro pins s σ H x y u v Q I rx ry ⟨i, j, rfl, rfl, q⟩
  obtain ⟨t, rfl⟩ := (show ∃ t, u = Value.int i t from rx)
  obtain ⟨t', rfl⟩ := (show ∃ t', v = Value.int j t' from ry)
  exact PyProof.Rows.isub_int ⟨.int (i - j), H, I.tok _, ⟨_, rfl⟩, q⟩

/-- what is between an instance and its method: the tree of a method call -/
theorem methcall_of {pl : Sem Bool} {m : Str} {apos : Pos} {args : List Expr} {pins : List (Addr × Obj)} {s : Shared} {σ : St} {H : Hp} {Q : Value → Shared → Prop} {te : TE} (he : PE X e te) (I : Inv X pins σ H s)
    (h : te σ H fun x H1 => ∃ a C dx fs g, x = .ref a ∧ H1 a = some (.ins C dx fs) ∧ Cls X.K C ∧ Meth X.K C m g ∧ fs.lookup m = none ∧
      ∀ s1, Inv X pins σ H1 s1 → wpAny (model X.prog X.w) X.A (callWith pos (.ref g) [.ref a] (backTo pos (starEach args X.env)) (backToKw pos (keywordEach [] X.env))) Q X.xe s1)
    (ht : eval (.Call (.Attribute e m apos) args [] pos) X.env = (do
      let ov ← eval e X.env
      standAt apos.atName
      let (f, first) ← holding [ov] (getMethod ov m pl)
      callWith pos f first (backTo pos (starEach args X.env)) (backToKw pos (keywordEach [] X.env)))) :
    wpAny (model X.prog X.w) X.A (eval (.Call (.Attribute e m apos) args [] pos) X.env) Q X.xe s := by
  refine PySem.W.methodCall_KW (pl := pl) (thn (he pins s σ H _ I h) fun u s1 ⟨x, H1, I1, rx, a, C, dx, fs, g, ex, ea, c, k, l, q⟩ => ?_) ht
  subst ex
  obtain rfl : u = Value.ref a := rx
  exact getmeth_ok I1 ea c k l (q s1 I1)
end

/-! ### isinstance -/
section
variable {X : Cx} {pins : List (Addr × Obj)} {σ : St} {H : Hp} {s : Shared} {A : Around} {E : Value → Shared → Prop} {Q : Value → Shared → Prop} {c : Value} {b : Bool}
/-- the type of a value, as the fragment's deciders take it; for an instance its class -/
inductive TyOf (K : PySem.W.Frag) (H : Hp) : V → Value → Prop where
  | non : TyOf K H .non (.type "NoneType")
  | bl (x : Bool) : TyOf K H (.bl x) (.type "bool")
  | int (i : Int) : TyOf K H (.int i) (.type "int")
  | str (x : Str) : TyOf K H (.str x) (.type "str")
  | flt (x : UInt64) : TyOf K H (.flt x) (.type "float")
  | lst {a : Addr} {xs : List V} (e : H a = some (.lst xs)) : TyOf K H (.ref a) (.type "list")
  | frz {a : Addr} {o : Obj} {xs : List V} (e : H a = some (.frz o (.lst xs))) : TyOf K H (.ref a) (.type "list")
  | tup {a : Addr} {xs : List V} (e : H a = some (.tup xs)) : TyOf K H (.ref a) (.type "tuple")
  | dK {a : Addr} {kvs : List (Key × V)} (e : H a = some (.dK kvs)) : TyOf K H (.ref a) (.type "dict")
  | dT {a : Addr} {kvs : List (List Key × V)} (e : H a = some (.dT kvs)) : TyOf K H (.ref a) (.type "dict")
  | ins {a C dx : Addr} {fs : List (Str × V)} (e : H a = some (.ins C dx fs)) (cl : Cls K C) (ha : PySem.W.findIn K (.ref C) "__class__" = some (some (.builtin "object.__class__")))
      (hn : PySem.W.specialIn K (.builtin "object.__class__") "__get__" = some (some (.builtin "getset_descriptor.__get__"))) (htk : PySem.W.takesIn K (.builtin "object.__class__") = some true)
      (hm : PySem.W.mroIn K C (.type "object") = some true) : TyOf K H (.ref a) (.ref C)
/-- isinstance(x, c) for one class c, a built-in or an own one: kitOne's answer -/
theorem isinst_ok {x : V} {u t : Value} (I : Inv X pins σ H s) (rx : RelV x u) (ty : TyOf X.K H x t) (e : PySem.W.kitOne X.K t c = some b) (h : ∀ tk, Q (.bool b) { s with toks := tk }) :
    wpAny (model X.prog X.w) A (call (.builtin "isinstance") [u, c]) Q E s := by
  cases ty with
  | non => cases (show u = Value.none from rx); exact PySem.W.kia_one PySem.W.kitx_none I.kIn True.intro e (fun z => nomatch z) h
  | bl y => cases (show u = Value.bool y from rx); exact PySem.W.kia_one PySem.W.kitx_bool I.kIn True.intro e (fun z => nomatch z) h
  | int i => obtain ⟨t, q⟩ := (show ∃ t, u = Value.int i t from rx); cases q; exact PySem.W.kia_one PySem.W.kitx_int I.kIn True.intro e (fun z => nomatch z) h
  | str y => obtain ⟨t, q⟩ := (show ∃ t, u = Value.str y t from rx); cases q; exact PySem.W.kia_one PySem.W.kitx_str I.kIn True.intro e (fun z => nomatch z) h
  | flt y => obtain ⟨t, q⟩ := (show ∃ t, u = Value.float y t from rx); cases q; exact PySem.W.kia_one PySem.W.kitx_float I.kIn True.intro e (fun z => nomatch z) h
  | @lst a xs ea =>
    cases (show u = Value.ref a from rx)
    obtain ⟨_, _, n, _, h1⟩ := (show ObjOk X.prog X.w H s.heap a (.lst xs) from I.hok a _ ea)
    exact PySem.W.kia_one PySem.W.kitx_list I.kIn ⟨_, h1, rfl⟩ e (fun z => nomatch z) h
  | @frz a ob xs ea =>
    cases (show u = Value.ref a from rx)
    obtain ⟨_, _, _, n, _, h1⟩ := (show ObjOk X.prog X.w H s.heap a (.frz ob (.lst xs)) from I.hok a _ ea)
    exact PySem.W.kia_one PySem.W.kitx_list I.kIn ⟨_, h1, rfl⟩ e (fun z => nomatch z) h
  | @tup a xs ea =>
    cases (show u = Value.ref a from rx)
    obtain ⟨_, _, _, p⟩ := (show ObjOk X.prog X.w H s.heap a (.tup xs) from I.hok a _ ea)
    obtain ⟨o, h1, h2, _⟩ := p
    exact PySem.W.kia_one PySem.W.kitx_tuple I.kIn ⟨o, h1, h2⟩ e (fun z => nomatch z) h
  | @dK a kvs ea =>
    cases (show u = Value.ref a from rx)
    obtain ⟨_, _, vs, _, p⟩ := (show ObjOk X.prog X.w H s.heap a (.dK kvs) from I.hok a _ ea)
    obtain ⟨o, es, ep, h1, h2, _⟩ := p
    exact PySem.W.kia_one PySem.W.kitx_dict I.kIn ⟨o, h1, h2.1⟩ e (fun z => nomatch z) h
  | @dT a kvs ea =>
    cases (show u = Value.ref a from rx)
    obtain ⟨_, _, xs, _, o, es, ep, h1, h2, _⟩ := (show ObjOk X.prog X.w H s.heap a (.dT kvs) from I.hok a _ ea)
    exact PySem.W.kia_one PySem.W.kitx_dict I.kIn ⟨o, h1, h2.1⟩ e (fun z => nomatch z) h
  | @ins a C dx fs ea cl ha hn htk hm =>
    cases (show u = Value.ref a from rx)
    obtain ⟨mA, O, _⟩ := ins_get I.hok ea
    obtain ⟨od, J, _⟩ := O.look
    exact PySem.W.kia_one (PySem.W.kitx_own (cl.get _) cl.hd ha hn htk hm) I.kIn J e (fun z => nomatch z) h
end
end L2

namespace L2
open PySem PySem.Spec PyProof.Rows

/-! ### room -/
structure Room (k : Nat) (A : Around) : Prop where
  hd : A.handled = none
  dp : A.depth + 3 * k + 5 < recursionLimit
  un : A.units + 16 * k + 200 < cLine
theorem Room.mono {j k : Nat} {A : Around} (r : Room k A) (h : j ≤ k) : Room j A := ⟨r.hd, by have := r.dp; omega, by have := r.un; omega⟩
theorem Room.deeper {k : Nat} {A : Around} (r : Room (k + 1) A) (env : Env) : Room k (A.deeper env) :=
  ⟨r.hd, by have := r.dp; show A.depth + 1 + 3 * k + 5 < _; omega, by have := r.un; show A.units + 3 + 16 * k + 200 < _; omega⟩
theorem Room.in1 {k : Nat} {A : Around} (r : Room (k + 1) A) : Room k A.in1 :=
  ⟨r.hd, by have := r.dp; show A.depth + 3 * k + 5 < _; omega, by have := r.un; show A.units + 1 + 16 * k + 200 < _; omega⟩
theorem make_depth {A : Around} {C : Addr} {us : List Value} {kw : List (Str × Value)} : (A.under (.builtin "type.__call__" ⟨.ref C :: us, kw⟩)).depth = A.depth + 1 := by
  first | rfl | simp [Around.under, Code.weight, Code.isCreation, Code.isGuard, Code.isCaller, Code.frames, Code.isFrame, guardIds]
theorem make_units {A : Around} {C : Addr} {us : List Value} {kw : List (Str × Value)} : (A.under (.builtin "type.__call__" ⟨.ref C :: us, kw⟩)).units = A.units + 1 := by
  first | rfl | simp [Around.under, Code.cUnits, Code.frames, Code.isFrame]
theorem Room.make {k : Nat} {A : Around} (r : Room (k + 1) A) (C : Addr) (us : List Value) (kw : List (Str × Value)) : Room k (A.under (.builtin "type.__call__" ⟨.ref C :: us, kw⟩)) :=
  ⟨r.hd, by have := r.dp; rw [make_depth]; omega, by have := r.un; rw [make_units]; omega⟩
theorem Room.depth {k : Nat} {A : Around} (r : Room k A) : A.depth < recursionLimit := by have := r.dp; omega
theorem Room.units {k : Nat} {A : Around} (r : Room k A) : A.units + 64 < cLine := by have := r.un; omega
theorem Room.units0 {k : Nat} {A : Around} (r : Room k A) : A.units < cLine := by have := r.un; omega

/-! ### argument lists and displays -/
def tNil : TA := fun _ H Q => Q [] H
def tCons (ta : TE) (tr : TA) : TA := fun σ H Q => ta σ H fun x H1 => tr σ H1 fun xs H2 => Q (x :: xs) H2
section
variable {X : Cx} {e : Expr} {es : List Expr} {te : TE} {t : TA} {pos : Pos}
theorem pa_nil : PA X [] tNil := ⟨fun _ _ _ _ H Q I h => Calls.spliced_nil ⟨[], H, I, .nil, h⟩⟩
theorem pa_cons (ha : PE X e te) (hr : PA X es t) (hs : starEach (e :: es) X.env = (false, eval e X.env) :: starEach es X.env := by rfl) : PA X (e :: es) (tCons te t) := by
  constructor
  intro pos pins s σ H Q I h
  rw [hs]
  show wpAny _ _ (spliced ((false, eval e X.env) :: backTo pos (starEach es X.env))) _ _ s
  refine Calls.spliced_cons (thn (ha pins s σ H _ I h) fun u s1 ⟨x, H1, I1, r1, q1⟩ => ?_)
  exact thn (hr pos pins s1 σ H1 _ I1 q1) fun us s2 ⟨xs, H2, I2, r2, q2⟩ => ⟨x :: xs, H2, I2, .cons r1 r2, q2⟩

/-- a tuple, a list of written items -/
def tTup (t : TA) : TE := fun σ H Q => t σ H fun xs H1 => xs.length ≤ sizeLine ∧ ∀ p, H1 p = none → Q (.ref p) (upd H1 p (.tup xs))
def tLst (t : TA) : TE := fun σ H Q => t σ H fun xs H1 => xs.length ≤ sizeLine ∧ ∀ p, H1 p = none → Q (.ref p) (upd H1 p (.lst xs))
theorem pe_tup {x1} (h : PA X es t) : PE X (.Tuple es x1 pos) (tTup t) := by
  constructor
  intro pins s σ H Q I hq
  refine wpAny_Tuple_spliced (thn (h pos pins s σ H _ I hq) fun us s1 ⟨xs, H1, I1, r, z, q⟩ => ⟨by rw [← r.length]; exact z, ?_⟩)
  have hf : H1 s1.heap.objs.size = none := I1.hok.fresh (Nat.le_refl _)
  refine ⟨.ref s1.heap.objs.size, upd H1 s1.heap.objs.size (.tup xs), I1.laid (t' := s1.toks) (fun b u e => Heap.get?_push_of_some _ e) (Nat.le_refl _) ?_, rfl, q _ hf⟩
  exact ⟨z, us, r, ⟨_, Heap.get?_push_size _ rfl, rfl, _, rfl⟩⟩
theorem pe_lst (h : PA X es t) : PE X (.List es pos) (tLst t) := by
  constructor
  intro pins s σ H Q I hq
  refine wpAny_List_spliced (thn (h pos pins s σ H _ I hq) fun us s1 ⟨xs, H1, I1, r, z, q⟩ => ⟨by rw [← r.length]; exact z, ?_⟩)
  have hf : H1 s1.heap.objs.size = none := I1.hok.fresh (Nat.le_refl _)
  refine ⟨.ref s1.heap.objs.size, upd H1 s1.heap.objs.size (.lst xs), I1.laid (t' := s1.toks) (fun b u e => Heap.get?_push_of_some _ e) (Nat.le_refl _) ?_, rfl, q _ hf⟩
  exact ⟨z, us, 0, r, Heap.get?_push_size _ rfl⟩
end

/-! ### what a def promises -/
/-- a def's promise: the bound arguments in the parameters' order, the heap, the wanted end, the wanted exception -/
abbrev Sp := List V → Hp → VK → XK → Prop
/-- how an exception lies behind a call (file 08 gives it): the callers' frames, abstract heap and state ahead of the call, the wish, the exception, the state -/
abbrev CXT := List Env → Hp → Shared → XK → Value → Shared → Prop

/-- the state at a call -/
structure Env0 (P : Program) (w : World) (K : PySem.W.Frag) (mg : Str → Option Value) (base : Heap) (A : Around) (outer : List Env) (s : Shared) (H : Hp) : Prop where
  frames : A.frames = some outer
  mod : Mod K mg base
  bs : ∀ b o, base.get? b = some o → s.heap.get? b = some o ∧ H b = none
  bsz : base.objs.size ≤ s.heap.objs.size
  funs : s.heap.FunFrames base outer
  frf : ∀ b ∈ frs outer, H b = none
  hok : HOk P w H s.heap
  bare : AllBare s.gens
/-- a call's end -/
def CE (outer : List Env) (P : Program) (w : World) (H : Hp) (s : Shared) (Q : VK) (u : Value) (s' : Shared) : Prop :=
  ∃ v H', s'.os = s.os ∧ AllBare s'.gens ∧ Un (frs outer) [] H H' s.heap s'.heap ∧ HOk P w H' s'.heap ∧ RelV v u ∧ Q v H'
def CR (CX : CXT) (outer : List Env) (P : Program) (w : World) (H : Hp) (s : Shared) (Q : VK) (E : XK) (r : Result) (s' : Shared) : Prop :=
  match r with
  | .ok (.ret u) => CE outer P w H s Q u s'
  | .ok _ => False
  | .error e => CX outer H s E e s'
structure FnOk (P : Program) (w : World) (K : PySem.W.Frag) (mg : Str → Option Value) (base : Heap) (CX : CXT) (k : Nat) (f : Addr) (fd : FuncData) (ps : List Str) (sp : Sp) : Prop where
  len : ∀ vs H Q E, sp vs H Q E → vs.length = ps.length
  run : ∀ (A : Around) (outer : List Env) (s : Shared) (H : Hp) (args : Args) (us : List Value) (vs : List V) (Q : VK) (E : XK), Room k A → Env0 P w K mg base A outer s H → BindsTo s fd args (ps.zip us) → Vals vs us → sp vs H Q E →
    codeAny (model P w) A (.call (.ref f) args) (CR CX outer P w H s Q E) s
theorem FnOk.mono {P : Program} {w : World} {K : PySem.W.Frag} {mg : Str → Option Value} {base : Heap} {CX : CXT} {j k : Nat} {f : Addr} {fd : FuncData} {ps : List Str} {sp : Sp} (F : FnOk P w K mg base CX j f fd ps sp) (h : j ≤ k) :
    FnOk P w K mg base CX k f fd ps sp := ⟨F.len, fun A outer s H args us vs Q E hr => F.run A outer s H args us vs Q E (hr.mono h)⟩
/-- a weaker promise -/
theorem FnOk.imp {P : Program} {w : World} {K : PySem.W.Frag} {mg : Str → Option Value} {base : Heap} {CX : CXT} {k : Nat} {f : Addr} {fd : FuncData} {ps : List Str} {sp sp' : Sp} (F : FnOk P w K mg base CX k f fd ps sp)
    (h : ∀ vs H Q E, sp' vs H Q E → sp vs H Q E) : FnOk P w K mg base CX k f fd ps sp' :=
  ⟨fun vs H Q E q => F.len vs H Q E (h _ _ _ _ q), fun A outer s H args us vs Q E hr he hb hv hs => F.run A outer s H args us vs Q E hr he hb hv (h _ _ _ _ hs)⟩

theorem Env0.make {P : Program} {w : World} {K : PySem.W.Frag} {mg : Str → Option Value} {base : Heap} {A : Around} {outer : List Env} {s : Shared} {H : Hp} (e : Env0 P w K mg base A outer s H) (C : Addr) (us : List Value) (kw : List (Str × Value)) :
    Env0 P w K mg base (A.under (.builtin "type.__call__" ⟨.ref C :: us, kw⟩)) outer s H := ⟨by first | exact e.frames | (simpa [Around.under, Code.envs, Code.isFrame, pushEnvs] using e.frames), e.mod, e.bs, e.bsz, e.funs, e.frf, e.hok, e.bare⟩
theorem Env0.in1 {P : Program} {w : World} {K : PySem.W.Frag} {mg : Str → Option Value} {base : Heap} {A : Around} {outer : List Env} {s : Shared} {H : Hp} (e : Env0 P w K mg base A outer s H) :
    Env0 P w K mg base A.in1 outer s H := ⟨e.frames, e.mod, e.bs, e.bsz, e.funs, e.frf, e.hok, e.bare⟩

section
variable {X : Cx} {pins : List (Addr × Obj)} {σ : St} {H : Hp} {s s' : Shared}
/-- from a body: what a callee wants -/
theorem Inv.env0 (I : Inv X pins σ H s) : Env0 X.prog X.w X.K X.mg X.base X.A X.stack s H :=
  ⟨I.ok.frames, I.ok.mod, I.bs, Nat.le_trans I.ok.bsz I.sz, I.stack, I.stkFree, I.hok, I.bare⟩
/-- behind a call -/
theorem Inv.after {Q : VK} {u : Value} (I : Inv X pins σ H s) (h : CE X.stack X.prog X.w H s Q u s') : EP X pins σ Q u s' := by
  obtain ⟨v, H', os, bare, un, hok, r, q⟩ := h
  obtain ⟨hh, g, d, t, os'⟩ := s'
  obtain rfl : os' = s.os := os
  exact ⟨v, H', I.call (h' := hh) (g' := g) (d' := d) (t' := t) (ch := []) un hok bare (fun b z => absurd z (by simp)), r, q⟩
end

/-! ### calls -/
/-- f(..): the written arguments, then the defaults dvs; E: what is wanted of an exception -/
def tCall (sp : Sp) (dvs : List V) (E : XK) (t : TA) : TE := fun σ H Q => t σ H fun vs H1 => sp (vs ++ dvs) H1 Q E
/-- o.m(..) of an instance of the class at C -/
def tMeth (C : Addr) (m : Str) (sp : Sp) (dvs : List V) (E : XK) (ta : TE) (t : TA) : TE := fun σ H Q => ta σ H fun x H1 => ∃ a dx fs, x = .ref a ∧ H1 a = some (.ins C dx fs) ∧ fs.lookup m = none ∧
  t σ H1 fun vs H2 => sp (x :: (vs ++ dvs)) H2 Q E
/-- C(..): a new instance and its dict, then __init__ -/
def tMake (C : Addr) (sp : Sp) (dvs : List V) (E : XK) (t : TA) : TE := fun σ H Q => t σ H fun vs H1 => ∀ x dx, H1 x = none → H1 dx = none → dx ≠ x →
  sp (.ref x :: (vs ++ dvs)) (upd (upd H1 dx (.own x)) x (.ins C dx [])) (fun v H2 => v = .non ∧ Q (.ref x) H2) E

/-- how the parameters are bound: us the positional arguments, kw the keywords' values by name, ds the defaults that fill up -/
def Binds (K : PySem.W.Frag) (fd : FuncData) (ps : List Str) (ds : List Value) : Prop :=
  ∀ (s : Shared) (us : List Value), K.In s.heap → (us ++ ds).length = ps.length → BindsTo s fd ⟨us, []⟩ (ps.zip (us ++ ds))
/-- every parameter is given -/
theorem Binds.all {K : PySem.W.Frag} {fd : FuncData} {ps : List Str} (h : ∀ us : List Value, us.length = ps.length → bindArgs fd ⟨us, []⟩ = pure (ps.zip us)) : Binds K fd ps [] := fun s us _ hl => by
  rw [List.append_nil] at hl ⊢
  exact .of_eq (h us hl)

/-- an exception of a callee reaches what this body wants of exceptions -/
def Passes (CX : CXT) (X : Cx) (E : XK) : Prop := ∀ (pins : List (Addr × Obj)) (σ : St) (H : Hp) (s : Shared) (e : Value) (s' : Shared), Inv X pins σ H s → CX X.stack H s E e s' → X.xe e s'

section
variable {X : Cx} {CX : CXT} {k : Nat} {f C : Addr} {fd : FuncData} {ps : List Str} {sp : Sp} {dvs : List V} {ds : List Value} {E : XK} {x m : Str} {p pos apos : Pos} {e o : Expr} {es : List Expr} {ta : TE} {t : TA}

/-- the callee runs -/
theorem run_fn {pins : List (Addr × Obj)} {σ : St} {H : Hp} {s : Shared} {Q : VK} {us : List Value} {vs : List V} (F : FnOk X.prog X.w X.K X.mg X.base CX k f fd ps sp) (hr : Room k X.A) (hb : Binds X.K fd ps ds) (hd : Vals dvs ds) (hx : Passes CX X E)
    (I : Inv X pins σ H s) (r : Vals vs us) (h : sp (vs ++ dvs) H Q E) : wpAny (model X.prog X.w) X.A (call (.ref f) us) (EP X pins σ Q) X.xe s := by
  have r2 : Vals (vs ++ dvs) (us ++ ds) := r.append hd
  have hl : (us ++ ds).length = ps.length := by rw [← r2.length]; exact F.len _ _ _ _ h
  refine wpAny_call (codeAny_mono (F.run X.A X.stack s H ⟨us, []⟩ (us ++ ds) (vs ++ dvs) Q E hr I.env0 (hb s us I.kIn hl) r2 h) fun r s' hq => ?_)
  cases r with
  | error e => exact hx pins σ H s e s' I hq
  | ok fl =>
    cases fl with
    | ret u => exact I.after hq
    | next => exact False.elim hq
    | brk => exact False.elim hq
    | cont => exact False.elim hq

theorem pe_call (F : FnOk X.prog X.w X.K X.mg X.base CX k f fd ps sp) (hr : Room k X.A) (hg : Gl X x) (hm : X.mg x = some (.ref f)) (hk : PySem.W.keepIn X.K (.ref f) = true) (hb : Binds X.K fd ps ds) (hd : Vals dvs ds) (hx : Passes CX X E)
    (ha : PA X (e :: es) t) (hdb : (x == ("__debug__" : Str)) = false := by decide) (he : starEach (e :: es) X.env = (false, eval e X.env) :: starEach es X.env := by rfl) (hpl : (backTo pos (starEach es X.env)).any (·.1) = false := by rfl) :
    PE X (.Call (.Name x p) (e :: es) [] pos) (tCall sp dvs E t) := by
  constructor
  intro pins s σ H Q I h
  refine wpAny_Call_Name_kw (ld_glob I hg hm ?_ hdb)
  refine PySem.W.callWith_K (h₀ := X.base) I.ok.mod.kin hk (thn (ha pos pins s σ H _ I h) fun us s1 ⟨vs, H1, I1, r, q⟩ => ⟨I1.kIn, ?_⟩) he hpl
  exact run_fn F hr hb hd hx I1 r q
theorem pe_call0 (F : FnOk X.prog X.w X.K X.mg X.base CX k f fd ps sp) (hr : Room k X.A) (hg : Gl X x) (hm : X.mg x = some (.ref f)) (hk : PySem.W.keepIn X.K (.ref f) = true) (hb : Binds X.K fd ps ds) (hd : Vals dvs ds) (hx : Passes CX X E)
    (hdb : (x == ("__debug__" : Str)) = false := by decide) : PE X (.Call (.Name x p) [] [] pos) (tCall sp dvs E tNil) := by
  constructor
  intro pins s σ H Q I h
  refine wpAny_Call_Name_kw (ld_glob I hg hm ?_ hdb)
  exact PySem.W.callWith_K0 I.kIn hk (run_fn (us := []) F hr hb hd hx I .nil h)

/-- o.m(e, ..) -/
theorem pe_meth {pl : Sem Bool} (he : PE X o ta) (c : Cls X.K C) (hm : Meth X.K C m f) (F : FnOk X.prog X.w X.K X.mg X.base CX k f fd ps sp) (hr : Room k X.A) (hb : Binds X.K fd ps ds) (hd : Vals dvs ds) (hx : Passes CX X E) (ha : PA X (e :: es) t)
    (hst : starEach (e :: es) X.env = (false, eval e X.env) :: starEach es X.env := by rfl) (hpl : (backTo pos (starEach es X.env)).any (·.1) = false := by rfl)
    (ht : eval (.Call (.Attribute o m apos) (e :: es) [] pos) X.env = (do
      let ov ← eval o X.env
      standAt apos.atName
      let (f, first) ← holding [ov] (getMethod ov m pl)
      callWith pos f first (backTo pos (starEach (e :: es) X.env)) (backToKw pos (keywordEach [] X.env))) := by rfl) :
    PE X (.Call (.Attribute o m apos) (e :: es) [] pos) (tMeth C m sp dvs E ta t) := by
  constructor
  intro pins s σ H Q I h
  refine PySem.W.methodCall_KW (pl := pl) (thn (he pins s σ H _ I h) fun u s1 ⟨x, H1, I1, rx, a, dx, fs, ex, ea, l, q⟩ => ?_) ht
  subst ex
  obtain rfl : u = Value.ref a := rx
  refine getmeth_ok I1 ea c hm l ?_
  refine PySem.W.callWith_K (first := [.ref a]) (h₀ := X.base) I.ok.mod.kin hm.kp (thn (ha pos pins s1 σ H1 _ I1 q) fun us s2 ⟨vs, H2, I2, r, q2⟩ => ⟨I2.kIn, ?_⟩) hst hpl
  exact run_fn (us := .ref a :: us) (vs := .ref a :: vs) F hr hb hd hx I2 (.cons rfl r) q2
/-- o.m() -/
theorem pe_meth0 {pl : Sem Bool} (he : PE X o ta) (c : Cls X.K C) (hm : Meth X.K C m f) (F : FnOk X.prog X.w X.K X.mg X.base CX k f fd ps sp) (hr : Room k X.A) (hb : Binds X.K fd ps ds) (hd : Vals dvs ds) (hx : Passes CX X E)
    (ht : eval (.Call (.Attribute o m apos) [] [] pos) X.env = (do
      let ov ← eval o X.env
      standAt apos.atName
      let (f, first) ← holding [ov] (getMethod ov m pl)
      callWith pos f first (backTo pos (starEach [] X.env)) (backToKw pos (keywordEach [] X.env))) := by rfl) :
    PE X (.Call (.Attribute o m apos) [] [] pos) (tMeth C m sp dvs E ta tNil) := by
  constructor
  intro pins s σ H Q I h
  refine PySem.W.methodCall_KW (pl := pl) (thn (he pins s σ H _ I h) fun u s1 ⟨x, H1, I1, rx, a, dx, fs, ex, ea, l, q⟩ => ?_) ht
  subst ex
  obtain rfl : u = Value.ref a := rx
  refine getmeth_ok I1 ea c hm l ?_
  exact PySem.W.callWith_K0 (first := [.ref a]) I1.kIn hm.kp (run_fn (us := [.ref a]) (vs := [.ref a]) F hr hb hd hx I1 (.cons rfl .nil) q)

/-- what a class must have to be made -/
structure Mk (K : PySem.W.Frag) (C f : Addr) : Prop where
  makes : PySem.W.makesIn K C = true
  init : PySem.W.findIn K (.ref C) "__init__" = some (some (.ref f))
  fn : PySem.W.isFn K (.ref f) = true
  kp : PySem.W.keepIn K (.ref C) = true

theorem run_make {pins : List (Addr × Obj)} {σ : St} {H : Hp} {s : Shared} {Q : VK} {us : List Value} {vs : List V} (M : Mk X.K C f) (F : FnOk X.prog X.w X.K X.mg X.base CX k f fd ps sp) (hr : Room (k + 1) X.A) (hb : Binds X.K fd ps ds) (hd : Vals dvs ds)
    (hx : Passes CX X E) (I : Inv X pins σ H s) (r : Vals vs us)
    (h : ∀ x dx, H x = none → H dx = none → dx ≠ x → sp (.ref x :: (vs ++ dvs)) (upd (upd H dx (.own x)) x (.ins C dx [])) (fun v H2 => v = .non ∧ Q (.ref x) H2) E) :
    wpAny (model X.prog X.w) X.A (call (.ref C) us) (EP X pins σ Q) X.xe s := by
  have hq := h (s.heap.objs.size + 1) s.heap.objs.size (I.hok.fresh (Nat.le_succ _)) (I.hok.fresh (Nat.le_refl _)) (Nat.ne_of_lt (Nat.lt_succ_self _))
  have I2 := Inv.made (C := C) I
  have r2 : Vals (V.ref (s.heap.objs.size + 1) :: (vs ++ dvs)) (Value.ref (s.heap.objs.size + 1) :: (us ++ ds)) := .cons rfl (r.append hd)
  have hl : (Value.ref (s.heap.objs.size + 1) :: us ++ ds).length = ps.length := by
    have e := r2.length
    rw [F.len _ _ _ _ hq] at e
    exact e.symm
  refine wpAny_call (make_map (f := f) I.kIn M.makes M.init (beq_iff_eq.mp M.fn) (codeAny_mono (F.run _ X.stack _ _ ⟨Value.ref (s.heap.objs.size + 1) :: us, []⟩ (Value.ref (s.heap.objs.size + 1) :: (us ++ ds)) _ _ E (hr.make C us [])
    (I2.env0.make C us []) (hb _ (Value.ref (s.heap.objs.size + 1) :: us) I2.kIn hl) r2 hq) fun r s' hq' => ?_))
  cases r with
  | error e => exact hx pins σ _ _ e s' I2 hq'
  | ok fl =>
    cases fl with
    | ret u =>
      obtain ⟨v, H', I3, rv, ev, q3⟩ := I2.after hq'
      subst ev
      exact ⟨rv, ⟨V.ref (s.heap.objs.size + 1), H', I3, rfl, q3⟩⟩
    | next => exact False.elim hq'
    | brk => exact False.elim hq'
    | cont => exact False.elim hq'
theorem pe_make (M : Mk X.K C f) (F : FnOk X.prog X.w X.K X.mg X.base CX k f fd ps sp) (hr : Room (k + 1) X.A) (hg : Gl X x) (hm : X.mg x = some (.ref C)) (hb : Binds X.K fd ps ds) (hd : Vals dvs ds) (hx : Passes CX X E)
    (ha : PA X (e :: es) t) (hdb : (x == ("__debug__" : Str)) = false := by decide) (he : starEach (e :: es) X.env = (false, eval e X.env) :: starEach es X.env := by rfl) (hpl : (backTo pos (starEach es X.env)).any (·.1) = false := by rfl) :
    PE X (.Call (.Name x p) (e :: es) [] pos) (tMake C sp dvs E t) := by
  constructor
  intro pins s σ H Q I h
  refine wpAny_Call_Name_kw (ld_glob I hg hm ?_ hdb)
  refine PySem.W.callWith_K (h₀ := X.base) I.ok.mod.kin M.kp (thn (ha pos pins s σ H _ I h) fun us s1 ⟨vs, H1, I1, r, q⟩ => ⟨I1.kIn, ?_⟩) he hpl
  exact run_make M F hr hb hd hx I1 r q
theorem pe_make0 (M : Mk X.K C f) (F : FnOk X.prog X.w X.K X.mg X.base CX k f fd ps sp) (hr : Room (k + 1) X.A) (hg : Gl X x) (hm : X.mg x = some (.ref C)) (hb : Binds X.K fd ps ds) (hd : Vals dvs ds) (hx : Passes CX X E)
    (hdb : (x == ("__debug__" : Str)) = false := by decide) : PE X (.Call (.Name x p) [] [] pos) (tMake C sp dvs E tNil) := by
  constructor
  intro pins s σ H Q I h
  refine wpAny_Call_Name_kw (ld_glob I hg hm ?_ hdb)
  exact PySem.W.callWith_K0 I.kIn M.kp (run_make (us := []) M F hr hb hd hx I .nil h)
end

/-! ### keywords -/
/-- the values of the keywords, from the left -/
structure PK (X : Cx) (kws : List Keyword) (t : TA) : Prop where
  go : ∀ (pos : Pos) (pins : List (Addr × Obj)) (s : Shared) (σ : St) (H : Hp) (Q : List V → Hp → Prop), Inv X pins σ H s → t σ H Q → wpAny (model X.prog X.w) X.A (evalAll ((backToKw pos (keywordEach kws X.env)).map (·.2))) (AP X pins σ Q) X.xe s
instance {X : Cx} {kws : List Keyword} {t : TA} : CoeFun (PK X kws t) (fun _ => ∀ (pos : Pos) (pins : List (Addr × Obj)) (s : Shared) (σ : St) (H : Hp) (Q : List V → Hp → Prop), Inv X pins σ H s → t σ H Q → wpAny (model X.prog X.w) X.A (evalAll ((backToKw pos (keywordEach kws X.env)).map (·.2))) (AP X pins σ Q) X.xe s) := ⟨fun h => h.go⟩
section
variable {X : Cx} {CX : CXT} {k : Nat} {f C : Addr} {fd : FuncData} {ps ks : List Str} {sp : Sp} {E : XK} {x m : Str} {p pos apos kpos : Pos} {e o : Expr} {es : List Expr} {kws : List Keyword} {te ta : TE} {t tk : TA} {nm : Option Str}
theorem pk_nil : PK X [] tNil := ⟨fun _ _ _ _ H Q I h => wpAny_evalAll_nil ⟨[], H, I, .nil, h⟩⟩
theorem pk_cons (ha : PE X e te) (hr : PK X kws t) : PK X (⟨nm, e, kpos⟩ :: kws) (tCons te t) := by
  constructor
  intro pos pins s σ H Q I h
  show wpAny _ _ (evalAll ((do let v ← eval e X.env; standAt pos; pure v) :: (backToKw pos (keywordEach kws X.env)).map (·.2))) _ _ s
  refine wpAny_evalAll_cons (wpAny_bind (thn (ha pins s σ H _ I h) fun u s1 ⟨x, H1, I1, r1, q1⟩ => wpAny_bind (wpAny_standAt (wpAny_pure ?_))))
  exact thn (hr pos pins s1 σ H1 _ I1 q1) fun us s2 ⟨xs, H2, I2, r2, q2⟩ => ⟨x :: xs, H2, I2, .cons r1 r2, q2⟩

/-- how a call with keywords binds: g puts the positional values us and the keywords' values ws (names ks) in the parameters' order, defaults among them -/
structure KBinds (K : PySem.W.Frag) (fd : FuncData) (ps ks : List Str) (g : List Value → List Value → List Value) (gV : List V → List V → List V) : Prop where
  to : ∀ (s : Shared) (us ws : List Value), K.In s.heap → (g us ws).length = ps.length → BindsTo s fd ⟨us, ks.zip ws⟩ (ps.zip (g us ws))
  rel : ∀ {vs : List V} {us : List Value} {zs : List V} {ws : List Value}, Vals vs us → Vals zs ws → Vals (gV vs zs) (g us ws)
def tCallK (sp : Sp) (gV : List V → List V → List V) (E : XK) (t tk : TA) : TE := fun σ H Q => t σ H fun vs H1 => tk σ H1 fun zs H2 => sp (gV vs zs) H2 Q E
variable {g : List Value → List Value → List Value} {gV : List V → List V → List V}
theorem run_fnk {pins : List (Addr × Obj)} {σ : St} {H : Hp} {s : Shared} {Q : VK} {us ws : List Value} {vs zs : List V} (F : FnOk X.prog X.w X.K X.mg X.base CX k f fd ps sp) (hr : Room k X.A) (hb : KBinds X.K fd ps ks g gV) (hx : Passes CX X E)
    (I : Inv X pins σ H s) (r : Vals vs us) (rz : Vals zs ws) (h : sp (gV vs zs) H Q E) : wpAny (model X.prog X.w) X.A (call (.ref f) us (ks.zip ws)) (EP X pins σ Q) X.xe s := by
  have r2 := hb.rel r rz
  have hl : (g us ws).length = ps.length := by rw [← r2.length]; exact F.len _ _ _ _ h
  refine wpAny_call (codeAny_mono (F.run X.A X.stack s H ⟨us, ks.zip ws⟩ (g us ws) (gV vs zs) Q E hr I.env0 (hb.to s us ws I.kIn hl) r2 h) fun r s' hq => ?_)
  cases r with
  | error e => exact hx pins σ H s e s' I hq
  | ok fl =>
    cases fl with
    | ret u => exact I.after hq
    | next => exact False.elim hq
    | brk => exact False.elim hq
    | cont => exact False.elim hq
/-- f(e, .., k = v, ..) -/
theorem pe_callK (F : FnOk X.prog X.w X.K X.mg X.base CX k f fd ps sp) (hr : Room k X.A) (hg : Gl X x) (hm : X.mg x = some (.ref f)) (hk : PySem.W.keepIn X.K (.ref f) = true) (hb : KBinds X.K fd ps ks g gV) (hx : Passes CX X E)
    (ha : PA X (e :: es) t) (hkw : PK X kws tk) (hall : (backToKw pos (keywordEach kws X.env)).all (·.1.isSome) = true := by rfl) (hks : (backToKw pos (keywordEach kws X.env)).filterMap (·.1) = ks := by rfl)
    (hdb : (x == ("__debug__" : Str)) = false := by decide) (he : starEach (e :: es) X.env = (false, eval e X.env) :: starEach es X.env := by rfl)
    (hpl : ((backTo pos (starEach (e :: es) X.env)).any (·.1) || (backToKw pos (keywordEach kws X.env)).any (·.1.isNone)) = false := by rfl) :
    PE X (.Call (.Name x p) (e :: es) kws pos) (tCallK sp gV E t tk) := by
  constructor
  intro pins s σ H Q I h
  refine wpAny_Call_Name_kw (ld_glob I hg hm ?_ hdb)
  refine PySem.W.callWith_KW (h₀ := X.base) I.ok.mod.kin hk hall (thn (ha pos pins s σ H _ I h) fun us s1 ⟨vs, H1, I1, r, q⟩ => ?_) hpl he
  refine thn (hkw pos pins s1 σ H1 _ I1 q) fun ws s2 ⟨zs, H2, I2, rz, q2⟩ => ⟨I2.kIn, ?_⟩
  rw [hks]
  exact run_fnk F hr hb hx I2 r rz q2
end

/-! ### a def's body keeps its promise -/
/-- names: the parameters first -/
structure FnScope (N P : List Str) (sc : Scope) : Prop where
  kind : sc.kind = .function
  co : sc.isCoroutine = false
  gen : sc.isGenerator = false
  nd : N.Nodup
  pre : N.take P.length = P
  par : ∀ x ∈ P, sc.names.lookup x = some .local ∨ sc.names.lookup x = some .cell
  nofree : ∀ y ∈ sc.names, y.2 ≠ .free

theorem bindL_out {kindOf : Str → Option NameKind} {x : Str} : ∀ {binds : List (Str × Value)} {m : Str → Option Value}, (∀ v, (x, v) ∉ binds) → bindL kindOf binds m x = m x
  | [], _, _ => rfl
  | (n, v) :: r, m, h => by
    unfold bindL
    rw [bindL_out fun w hw => h w (List.mem_cons_of_mem _ hw)]
    split
    · have : x ≠ n := by rintro rfl; exact h v List.mem_cons_self
      simp [this]
    · rfl
theorem bindC_out {kindOf : Str → Option NameKind} {x : Str} : ∀ {binds : List (Str × Value)} {m : Str → Option Value}, (∀ v, (x, v) ∉ binds) → bindC kindOf binds m x = m x
  | [], _, _ => rfl
  | (n, v) :: r, m, h => by
    unfold bindC
    rw [bindC_out fun w hw => h w (List.mem_cons_of_mem _ hw)]
    split
    · rfl
    · have : x ≠ n := by rintro rfl; exact h v List.mem_cons_self
      simp [this]
theorem bindL_get {kindOf : Str → Option NameKind} {x : Str} {v : Value} : ∀ {P : List Str} {vs : List Value} {i : Nat} {m : Str → Option Value}, P.Nodup → P[i]? = some x → vs[i]? = some v → kindOf x = some .local →
    bindL kindOf (P.zip vs) m x = some v
  | [], _, _, _, _, h, _, _ => by simp at h
  | _ :: _, [], _, _, _, _, h, _ => by simp at h
  | p :: P, w :: vs, 0, m, nd, h1, h2, hk => by
    simp at h1 h2; subst h1; subst h2
    show bindL kindOf ((p, w) :: P.zip vs) m p = _
    unfold bindL
    rw [bindL_out fun v hv => (List.nodup_cons.mp nd).1 (List.of_mem_zip hv).1, if_pos hk]
    simp
  | p :: P, w :: vs, i + 1, m, nd, h1, h2, hk => by
    show bindL kindOf ((p, w) :: P.zip vs) m x = _
    unfold bindL
    exact bindL_get (i := i) (List.nodup_cons.mp nd).2 (by simpa using h1) (by simpa using h2) hk
theorem bindC_get {kindOf : Str → Option NameKind} {x : Str} {v : Value} : ∀ {P : List Str} {vs : List Value} {i : Nat} {m : Str → Option Value}, P.Nodup → P[i]? = some x → vs[i]? = some v → kindOf x ≠ some .local →
    bindC kindOf (P.zip vs) m x = some v
  | [], _, _, _, _, h, _, _ => by simp at h
  | _ :: _, [], _, _, _, _, h, _ => by simp at h
  | p :: P, w :: vs, 0, m, nd, h1, h2, hk => by
    simp at h1 h2; subst h1; subst h2
    show bindC kindOf ((p, w) :: P.zip vs) m p = _
    unfold bindC
    rw [bindC_out fun v hv => (List.nodup_cons.mp nd).1 (List.of_mem_zip hv).1, if_neg hk]
    simp
  | p :: P, w :: vs, i + 1, m, nd, h1, h2, hk => by
    show bindC kindOf ((p, w) :: P.zip vs) m x = _
    unfold bindC
    exact bindC_get (i := i) (List.nodup_cons.mp nd).2 (by simpa using h1) (by simpa using h2) hk

/-- the names' values at the entry -/
def start (N : List Str) (vs : List V) : St := vs.map some ++ List.replicate (N.length - vs.length) none

/-- the context of a def's body, at its entry; an exception leaves the frame, then lies as CX says -/
def cxOf (CX : CXT) (P : Program) (w : World) (K : PySem.W.Frag) (mg : Str → Option Value) (base : Heap) (N : List Str) (qual : Str) (scope : Scope) (f : Addr) (cd : Value) (A : Around) (outer : List Env) (s : Shared) (H : Hp) (E : XK) : Cx where
  prog := P
  w := w
  K := K
  mg := mg
  base := base
  A := A.deeper (envOfC qual scope s.heap.objs.size f cd)
  N := N
  s₀ := s
  H₀ := H
  env := envOfC qual scope s.heap.objs.size f cd
  outer := outer
  stack := envOfC qual scope s.heap.objs.size f cd :: outer
  ex := []
  calm := true
  fn := fun _ => true
  pn := []
  xe := fun e s' => wpAny (model P w) (A.deeper (envOfC qual scope s.heap.objs.size f cd)) (leaving (envOfC qual scope s.heap.objs.size f cd) e) (fun _ s'' => CX outer H s E e s'') (fun e' s'' => CX outer H s E e' s'') s'

theorem cell_has {sc : Scope} {n : Nat} {x : Str} (h : sc.names.lookup x = some .cell) : ∃ c, (cellsFrom n sc.names []).lookup x = some c := by
  have q := PySem.W.cellsFrom_some sc.names n [] (.inl h)
  exact Option.isSome_iff_exists.mp q

theorem inv_start {CX : CXT} {P : Program} {w : World} {K : PySem.W.Frag} {mg : Str → Option Value} {base : Heap} {N ps : List Str} {qual : Str} {scope : Scope} {f : Addr} {cd : Value} {A : Around} {outer : List Env} {s s1 : Shared} {H : Hp} {E : XK} {us : List Value} {vs : List V}
    (S : FnScope N ps scope) (hd : A.handled = none) (e0 : Env0 P w K mg base A outer s H) (hl : vs.length = ps.length) (r : Vals vs us)
    (x : InCallC s s.heap.objs.size (bindL (envOfC qual scope s.heap.objs.size f cd).kindOf (ps.zip us) fun _ => none) (cellsFrom (s.heap.objs.size + 1) scope.names []) (bindC (envOfC qual scope s.heap.objs.size f cd).kindOf (ps.zip us) fun _ => none) s1) :
    Inv (cxOf CX P w K mg base N qual scope f cd A outer s H E) [] (start N vs) H s1 := by
  have hpl : ps.length ≤ N.length := by have := congrArg List.length S.pre; rw [List.length_take] at this; omega
  obtain ⟨h1, tk, rfl, hk⟩ := x.done
  have noA : ∀ b : Addr, b ∉ (cxOf CX P w K mg base N qual scope f cd A outer s H E).ex := fun b z => absurd (show b ∈ ([] : List Addr) from z) (by simp)
  refine ⟨⟨e0.mod, S.kind, rfl, rfl, Nat.le_refl _, fun y z c h1 h2 => ?_, fun y hy => ?_, fun y c _ h => ?_, fun _ => hd, Around.frames_deeper e0.frames, .inr ⟨rfl, rfl⟩, fun b z => absurd z (noA b), e0.bs, e0.bsz, fun b _ _ => noA b, fun b z => absurd z (noA b), e0.funs, e0.frf⟩,
    rfl, e0.bare, Un.kept hk, ⟨_, x.toInCall.ns, fun i y v h1 h2 h3 => ?_⟩, fun y c h => ⟨_, x.cell y c h⟩, e0.hok.fresh (Nat.le_refl _), fun y c h => ?_, fun p hp => absurd (show p ∈ ([] : List (Addr × Obj)) from hp) (by simp), e0.hok.kept hk, ?_⟩
  · exact name_of_addr x.apart (PySem.mem_of_lookup h1) (PySem.mem_of_lookup h2)
  · have hy : scope.names.lookup y = some .cell ∨ scope.names.lookup y = some .free := hy
    rcases hy with hy | hy
    · exact cell_has hy
    · exact absurd rfl (S.nofree _ (PySem.mem_of_lookup hy))
  · exact Nat.le_of_lt (x.above y c (PySem.mem_of_lookup h))
  · have hi : i < vs.length := by
      unfold start at h2
      by_cases hi : i < vs.length
      · exact hi
      · rw [List.getElem?_append_right (by simpa using hi)] at h2
        rw [List.getElem?_replicate] at h2
        split at h2 <;> cases h2
    have ha : vs[i]? = some v := by
      unfold start at h2
      rw [List.getElem?_append_left (by simpa using hi), List.getElem?_map] at h2
      cases e : vs[i]? with
      | none => rw [e] at h2; cases h2
      | some a => rw [e] at h2; cases h2; rfl
    obtain ⟨u, hu, rv⟩ := r.get ha
    have hp : ps[i]? = some y := by
      rw [← S.pre, List.getElem?_take_of_lt (by omega)]; exact h1
    have ndP : ps.Nodup := by rw [← S.pre]; exact S.nd.sublist (List.take_sublist _ _)
    refine ⟨u, rv, ?_⟩
    rcases S.par y (List.mem_of_getElem? hp) with k | k
    · exact .inl ⟨k, bindL_get ndP hp hu k⟩
    · obtain ⟨c, e⟩ := cell_has (n := s.heap.objs.size + 1) k
      refine .inr ⟨.inl k, c, e, ?_⟩
      have q := x.cell y c e
      rw [bindC_get ndP hp hu (by show scope.names.lookup y ≠ _; rw [k]; decide)] at q
      exact q
  · exact e0.hok.fresh (Nat.le_of_lt (x.above y c (PySem.mem_of_lookup h)))
  · unfold start
    show _ = N.length
    rw [List.length_append, List.length_map, List.length_replicate]
    omega

/-- THE RULE: a def (or a method) of the text, by its body. The body's reading t is chosen for each entry; it is run at the parameters' values -/
theorem fn_of {CX : CXT} {P : Program} {w : World} {K : PySem.W.Frag} {mg : Str → Option Value} {base : Heap} {k : Nat} {f : Addr} {name qual : Str} {params : Arguments} {body : List Stmt} {scope : Scope} {dV kV doc pm cdv ct oc : Value} {an od : Option Addr}
    {osl : Array (Option Value)} {N ps : List Str} {sp : Sp} (lk : K.lookup f = some ⟨oc, od, .func (PySem.W.fnOf name qual params body scope dV kV doc pm an cdv ct), osl⟩) (hcd : PySem.W.codeIn K cdv qual = true) (S : FnScope N ps scope)
    (len : ∀ vs H Q E, sp vs H Q E → vs.length = ps.length)
    (hbody : ∀ (A : Around) (outer : List Env) (s : Shared) (H : Hp) (vs : List V) (Q : VK) (E : XK), Room k (A.deeper (envOfC qual scope s.heap.objs.size f cdv)) → sp vs H Q E →
      ∃ t, PSs (cxOf CX P w K mg base N qual scope f cdv A outer s H E) body t ∧ t { nx := fun _ H' => Q .non H', rt := Q } (start N vs) H) :
    FnOk P w K mg base CX (k + 1) f (PySem.W.fnOf name qual params body scope dV kV doc pm an cdv ct) ps sp := by
  refine ⟨len, fun A outer s H args us vs Q E hr e0 hb r hsp => ?_⟩
  have hl := len _ _ _ _ hsp
  have KX : K.In s.heap := e0.mod.kin.keeps fun b o e => (e0.bs b o e).1
  have lim : s.heap.NoLimit := e0.mod.nolimit.keeps fun b o e => (e0.bs b o e).1
  have hkind : ∀ y ∈ ps.zip us, scope.names.lookup y.1 = some .local ∨ (scope.names.lookup y.1 = some .cell ∧ ((cellsFrom (s.heap.objs.size + 1) scope.names []).lookup y.1).isSome = true) := fun ⟨n, v⟩ hy => by
    rcases S.par n (List.of_mem_zip hy).1 with q | q
    · exact .inl q
    · exact .inr ⟨q, PySem.W.cellsFrom_some _ _ _ (.inl q)⟩
  refine codeAny_call_function hr.depth (KX _ _ lk) rfl S.co S.gen rfl (PySem.W.codeRec_of KX hcd) (hb _ _ _ _ ?_)
  refine wpAny_newFunctionEnv_cells S.kind hkind fun env he s1 x => ?_
  subst he
  refine ⟨lim.keeps x.toInCall.keep, codeAny_func ?_⟩
  obtain ⟨t, ht, hq⟩ := hbody A outer s H vs Q E (hr.deeper _) hsp
  have I : Inv (cxOf CX P w K mg base N qual scope f cdv A outer s H E) [] (start N vs) H s1 := inv_start S hr.hd e0 hl r x
  refine wpAny_mono (ht [] s1 (start N vs) H _ I hq) (fun fl s' hs => ?_) fun e s' hs => hs
  have fin : ∀ {σ' : St} {H' : Hp} {v : V} {u : Value}, Inv (cxOf CX P w K mg base N qual scope f cdv A outer s H E) [] σ' H' s' → RelV v u → Q v H' → CE outer P w H s Q u s' :=
    fun {σ' H' v u} J rv q => ⟨v, H', J.os, J.bare, J.base, J.hok, rv, q⟩
  cases fl with
  | ret u =>
    obtain ⟨v, σ', H', J, rv, q⟩ := hs
    exact fin J rv q
  | next =>
    obtain ⟨σ', H', J, q⟩ := hs
    exact fin (v := V.non) (u := Value.none) J rfl q
  | brk =>
    obtain ⟨_, _, _, q⟩ := hs
    exact False.elim q
  | cont =>
    obtain ⟨_, _, _, q⟩ := hs
    exact False.elim q
end L2

namespace L2
open PySem PySem.Spec PyProof.Rows
section
variable {X : Cx} {x : Str} {p pos : Pos} {e : Expr} {es : List Expr} {t : TA} {id T : String} {r : List V → Hp → VK → Prop}

def tCB (r : List V → Hp → VK → Prop) (t : TA) : TE := fun σ H Q => t σ H fun vs H1 => r vs H1 Q
/-- f(e, ..), f a built-in function -/
theorem pe_callB (hc : CallR X (.builtin id) r) (hg : Gl X x) (hm : X.mg x = none) (hv : bootBuiltins x = some (.builtin id)) (ha : PA X (e :: es) t) (hn : x ≠ "__name__" := by decide) (hdb : (x == ("__debug__" : Str)) = false := by decide)
    (he : starEach (e :: es) X.env = (false, eval e X.env) :: starEach es X.env := by rfl) (hpl : (backTo pos (starEach es X.env)).any (·.1) = false := by rfl) : PE X (.Call (.Name x p) (e :: es) [] pos) (tCB r t) := by
  constructor
  intro pins s σ H Q I h
  refine wpAny_Call_Name_kw (ld_blt I hg hm hv ?_ hn hdb)
  exact PyProof.Rows.callWith_builtin1 (thn (ha pos pins s σ H _ I h) fun us s1 ⟨vs, H1, I1, r1, q1⟩ => hc pins s1 σ H1 vs us Q I1 r1 q1) he hpl
/-- T(e, ..), T a built-in type -/
theorem pe_callTy (hc : CallR X (.type T) r) (hg : Gl X x) (hm : X.mg x = none) (hv : bootBuiltins x = some (.type T)) (ha : PA X (e :: es) t) (hn : x ≠ "__name__" := by decide) (hdb : (x == ("__debug__" : Str)) = false := by decide)
    (he : starEach (e :: es) X.env = (false, eval e X.env) :: starEach es X.env := by rfl) (hpl : (backTo pos (starEach es X.env)).any (·.1) = false := by rfl) : PE X (.Call (.Name x p) (e :: es) [] pos) (tCB r t) := by
  constructor
  intro pins s σ H Q I h
  refine wpAny_Call_Name_kw (ld_blt I hg hm hv ?_ hn hdb)
  exact PyProof.Rows.callWith_type1 (thn (ha pos pins s σ H _ I h) fun us s1 ⟨vs, H1, I1, r1, q1⟩ => hc pins s1 σ H1 vs us Q I1 r1 q1) he hpl
/-- T() -/
theorem pe_callTy0 (hc : CallR X (.type T) r) (hg : Gl X x) (hm : X.mg x = none) (hv : bootBuiltins x = some (.type T)) (hn : x ≠ "__name__" := by decide) (hdb : (x == ("__debug__" : Str)) = false := by decide) :
    PE X (.Call (.Name x p) [] [] pos) (tCB r tNil) := by
  constructor
  intro pins s σ H Q I h
  refine wpAny_Call_Name_kw (ld_blt I hg hm hv ?_ hn hdb)
  exact PyProof.Rows.callWith_type0 (hc pins s σ H [] [] Q I .nil h)
end
end L2

namespace HT
open PySem PyProof.Rows

/-- t < u of tuples of ints -/
def lexLt : List Int → List Int → Bool
  | [], [] => false
  | [], _ :: _ => true
  | _ :: _, [] => false
  | x :: xs, y :: ys => if x = y then lexLt xs ys else decide (x < y)
theorem lexLt_cons (x y : Int) (xs ys : List Int) : lexLt (x :: xs) (y :: ys) = if x = y then lexLt xs ys else decide (x < y) := rfl
theorem lexLt_nil_nil : lexLt [] [] = false := rfl
theorem lexLt_nil_cons (y : Int) (ys : List Int) : lexLt [] (y :: ys) = true := rfl
theorem lexLt_cons_nil (x : Int) (xs : List Int) : lexLt (x :: xs) [] = false := rfl

theorem eqAt_int (A : Around) (s : Shared) (a : Int) (t : Tok) (c : Int) (u : Tok) : ∃ e, SeqAt.EqAt A s (.int a t) (.int c u) e ∧ (e = true ↔ a = c) :=
  ⟨(a == c), SeqAt.EqAt.int_int a t c u, by simp⟩
theorem rcLt_int (A : Around) (s : Shared) (a : Int) (t : Tok) (c : Int) (u : Tok) (prog : Program) (w : World) (E : Value → Shared → Prop) (Q : Value → Shared → Prop) (h : Q (.bool (decide (a < c))) s) :
    wpAny (model prog w) A (richCompare .Lt (.int a t) (.int c u)) Q E s :=
  (PyProof.Rows.lt_int h : wpAny (model prog w) A (compareOp .Lt (.int a t) (.int c u)) Q E s)

section
open PySem.SeqAt
open PySem.AutoSeq1 (wpAny_loadPart')
open PySem.MeetsSeq PySem.MeetsSeq2 PySem.MeetsSeq3

theorem tuple_lt_ints (l b : Addr) (items items2 : Array Value) (n n2 : Nat) (dd dd2 : Option Addr) (sl sl2 : Array (Option Value)) (ns ms : List Int) (hi : IntsAre items.toList ns) (hj : IntsAre items2.toList ms) :
    Meets (Builtin.«tuple.__lt__» ⟨[.ref l, .ref b], []⟩)
      (fun _ R s => s.heap.get? l = some { cls := .type "tuple", dict := dd, data := .seq items n, slots := sl } ∧ s.heap.get? b = some { cls := .type "tuple", dict := dd2, data := .seq items2 n2, slots := sl2 } ∧
        R (.ok (.ret (.bool (lexLt ns ms)))) s) :=
  .of_wp fun prog w A R s h => by
    obtain ⟨hp, g, d, tk, os⟩ := s; obtain ⟨hl, hb, h⟩ := h
    have f2 := AutoSeq1.sub_tuple_tuple
    have z1 : items.size = ns.length := by rw [← hi.length]; simp
    have z2 : items2.size = ms.length := by rw [← hj.length]; simp
    wp_walk using wpAny_loadPart' hl, wpAny_loadPart' hb, wpAny_forIn_list _ (fun rest b s' => b.1 = none ∧ s' = ⟨hp, g, d, tk, os⟩ ∧ ∃ (vs ws : List Value) (ns' ms' : List Int), rest = vs.zip ws ∧
      IntsAre vs ns' ∧ IntsAre ws ms' ∧ ns'.length + items2.size = ms'.length + items.size ∧ R (.ok (.ret (.bool (lexLt ns' ms')))) ⟨hp, g, d, tk, os⟩) _
    case turn =>
      rintro ⟨y, x⟩ rest b s' ⟨hb', rfl, vs, ws, ns', ms', hz, hvi, hwi, hlen, hR⟩
      cases hvi with
      | nil => rw [List.zip_nil_left] at hz; cases hz
      | cons a t hvi' =>
        cases hwi with
        | nil => rw [List.zip_nil_right] at hz; cases hz
        | cons c u hwi' =>
          rw [List.zip_cons_cons] at hz
          injection hz with hyx hrest
          injection hyx with hy hx
          subst hy hx
          rw [lexLt_cons] at hR
          simp only [List.length_cons] at hlen
          obtain ⟨e, he, hiff⟩ := eqAt_int A.in1 ⟨hp, g, d, tk, os⟩ a t c u
          refine wpAny_bind (he prog w _ _ ?_)
          cases e with
          | true =>
            rw [if_pos (hiff.mp rfl)] at hR
            wp_walk
            exact ⟨rfl, rfl, _, _, _, _, hrest, hvi', hwi', by omega, hR⟩
          | false =>
            rw [if_neg (fun q => absurd (hiff.mpr q) Bool.false_ne_true)] at hR
            have hri := rcLt_int A.in1 ⟨hp, g, d, tk, os⟩ a t c u prog w
            wp_walk using hri
            exact ⟨_, rfl, by simpa using hR⟩
    case fin =>
      rintro ⟨b1, b2⟩ s' ⟨hb', rfl, vs, ws, ns', ms', hz, hvi, hwi, hlen, hR⟩
      simp only at hb'
      subst hb'
      have hv : lexLt ns' ms' = decide (items.size < items2.size) := by
        cases hvi with
        | nil =>
          cases hwi with
          | nil =>
            simp only [List.length_nil] at hlen
            rw [lexLt_nil_nil]
            exact (decide_eq_false (by omega)).symm
          | cons c u hw =>
            simp only [List.length_nil, List.length_cons] at hlen
            rw [lexLt_nil_cons]
            exact (decide_eq_true (by omega)).symm
        | cons a t hv =>
          cases hwi with
          | nil =>
            simp only [List.length_nil, List.length_cons] at hlen
            rw [lexLt_cons_nil]
            exact (decide_eq_false (by omega)).symm
          | cons c u hw =>
            rw [List.zip_cons_cons] at hz
            cases hz
      rw [hv] at hR
      wp_walk
      exact ⟨_, rfl, by simpa [Builtin.Tuple.tupleCompareSizes] using hR⟩
    case h =>
      exact ⟨rfl, rfl, items.toList, items2.toList, ns, ms, rfl, hi, hj, by omega, h⟩
end

section
variable {prog : Program} {w : World} {A : Around} {E : Value → Shared → Prop} {s : Shared}

theorem lt_tupInts {l b : Addr} {items items2 : Array Value} {ns ms : List Int} {Q : Value → Shared → Prop} (hl : IsTup s.heap l items) (hb : IsTup s.heap b items2) (hi : IntsAre items.toList ns) (hj : IntsAre items2.toList ms)
    (hu : A.units < cLine) (h : Q (.bool (lexLt ns ms)) s) : wpAny (model prog w) A (compareOp .Lt (.ref l) (.ref b)) Q E s := by
  obtain ⟨⟨cls, dd, data, sl⟩, ho, hc, n, hd⟩ := id hl
  obtain ⟨⟨cls2, dd2, data2, sl2⟩, ho2, hc2, n2, hd2⟩ := id hb
  simp only at hc hd hc2 hd2
  subst hc hd hc2 hd2
  exact richCompare_meets_room (op := .Lt) ⟨_, ho, rfl⟩ ⟨_, ho2, rfl⟩ PySem.F.slot_tuple_lt PySem.F.entry_tuple_lt (PySem.F.args_tuple_lt_2 _ _) (tuple_lt_ints l b items items2 n n2 dd dd2 sl sl2 ns ms hi hj)
    ⟨ho, ho2, show Value.bool (lexLt ns ms) ≠ Value.notImplemented ∧ Q (.bool (lexLt ns ms)) s from ⟨(fun x => nomatch x), h⟩⟩ hu

/-- t + u, t not empty -/
theorem cat_tup {t b : Addr} {vs ws : List Value} {Q : Value → Shared → Prop} (ht : IsTup s.heap t vs.toArray) (hb : IsTup s.heap b ws.toArray) (hv : vs ≠ [])
    (h1 : ws = [] → Q (.ref t) s) (h2 : ws ≠ [] → Q (.ref s.heap.objs.size) { s with heap := s.heap.push { cls := .type "tuple", data := .seq (vs ++ ws).toArray } })
    (hsz : vs.length + ws.length ≤ sizeLine) : wpAny (model prog w) A (binaryOp .Add (.ref t) (.ref b)) Q E s := by
  obtain ⟨⟨cls, dd, data, sl⟩, ho, hc, n, hd⟩ := id ht
  obtain ⟨⟨cls2, dd2, data2, sl2⟩, ho2, hc2, n2, hd2⟩ := id hb
  simp only at hc hd hc2 hd2
  subst hc hd hc2 hd2
  have e : vs.toArray ++ ws.toArray = (vs ++ ws).toArray := by simp
  by_cases hw : ws = []
  · exact concat_meets ⟨_, ho, rfl⟩ ⟨_, ho2, rfl⟩ noFill_tuple_add seq_tuple_add PySem.F.slot_tuple_add PySem.F.entry_tuple_add (PySem.F.args_tuple_add_2 _ _)
      (tuple_addW1 t b vs.toArray ws.toArray n n2 dd dd2 sl sl2 (by simpa using hv) (by simp [hw])) ⟨ho, ho2, h1 hw⟩
  · refine concat_meets ⟨_, ho, rfl⟩ ⟨_, ho2, rfl⟩ noFill_tuple_add seq_tuple_add PySem.F.slot_tuple_add PySem.F.entry_tuple_add (PySem.F.args_tuple_add_2 _ _)
      (tuple_addW2 t b vs.toArray ws.toArray n n2 dd dd2 sl sl2 (by simpa using hv) (by simpa using hw) (by rw [List.size_toArray, List.size_toArray]; exact hsz)) ⟨ho, ho2, ?_⟩
    rw [e]
    exact h2 hw

/-! ### t[a:b], not the whole -/
/-- a slice's bound as a place among n (d where it is left out) -/
def sIx (n d : Nat) : Option Int → Nat
  | none => d
  | some v => if v < 0 then (v + (n : Int)).toNat else min v.toNat n
theorem sIx_none (n d : Nat) : sIx n d none = d := rfl
theorem sIx_nat (n d k : Nat) : sIx n d (some (k : Int)) = min k n := by
  show (if (k : Int) < 0 then ((k : Int) + (n : Int)).toNat else min (k : Int).toNat n) = min k n
  rw [if_neg (by omega), Int.toNat_natCast]
theorem sIx_le (n d : Nat) (hd : d ≤ n) (o : Option Int) : sIx n d o ≤ n := by
  cases o with
  | none => exact hd
  | some v =>
    show (if v < 0 then (v + (n : Int)).toNat else min v.toNat n) ≤ n
    by_cases hv : v < 0
    · rw [if_pos hv]; omega
    · rw [if_neg hv]; exact Nat.min_le_right _ _
theorem clip_eq (v : Int) (n d : Nat) : (if v < 0 then max (v + (n : Int)) 0 else min v (n : Int)) = ((sIx n d (some v) : Nat) : Int) := by
  show (if v < 0 then max (v + (n : Int)) 0 else min v (n : Int)) = (((if v < 0 then (v + (n : Int)).toNat else min v.toNat n) : Nat) : Int)
  by_cases hv : v < 0
  · simp only [if_pos hv]; omega
  · simp only [if_neg hv]; omega
theorem adjust_gen (lo hi : Option Int) (n : Nat) : Builtin.Slice.sliceAdjust lo hi 1 (n : Int) = (((sIx n 0 lo : Nat) : Int), ((sIx n n hi : Nat) : Int)) := by
  have h1 : ¬ ((1 : Int) < 0) := by omega
  unfold Builtin.Slice.sliceAdjust
  simp only [h1, if_false]
  refine Prod.ext ?_ ?_
  · cases lo with
    | none => rfl
    | some v => exact clip_eq v n 0
  · cases hi with
    | none => rfl
    | some v => exact clip_eq v n n
theorem places_gen (i j : Nat) : Builtin.Slice.slicePlaces (i : Int) (j : Int) 1 = j - i := by
  unfold Builtin.Slice.slicePlaces
  have h1 : (1 : Int) > 0 := by omega
  simp only [h1, if_true, Int.ediv_one]
  split <;> omega
theorem slicePart_ {v : Value} {o : Option Int} {Q : Option Int → Shared → Prop} (p : IsPart v o) (h : Q o s) : wpAny (model prog w) A (Builtin.Slice.slicePartIndex v) Q E s := by
  cases p with
  | none => exact slicePart_none h
  | int i t => exact slicePart_int h
theorem sliceApplied_gen {sl : Addr} {vl vu : Value} {lo hi : Option Int} {n : Nat} {Q : Int × Int × Nat → Shared → Prop} (hs : s.heap.IsSliceOf sl vl vu .none) (pl : IsPart vl lo) (pu : IsPart vu hi)
    (h : Q (((sIx n 0 lo : Nat) : Int), 1, sIx n n hi - sIx n 0 lo) s) : wpAny (model prog w) A (Builtin.Slice.sliceApplied (.ref sl) (pure (n : Int))) Q E s := by
  obtain ⟨os, hos, hcs, hds⟩ := id hs
  unfold Builtin.Slice.sliceApplied Builtin.Slice.sliceFields
  refine wpAny_bind (wpAny_bind (wpAny_field hos hds (x := vl) rfl (wpAny_bind (wpAny_field hos hds (x := vu) rfl (wpAny_bind (wpAny_field hos hds (x := .none) rfl (wpAny_pure ?_)))))))
  refine wpAny_bind (slicePart_none ?_)
  show wpAny _ _ (if ((1 : Int) == 0) = true then _ else _) _ _ s
  rw [if_neg (by decide)]
  refine wpAny_bind (slicePart_ pl (wpAny_bind (slicePart_ pu (wpAny_bind (wpAny_pure ?_)))))
  show wpAny _ _ (match Builtin.Slice.sliceAdjust lo hi 1 (n : Int) with | (lo, hi) => pure (lo, (1 : Int), Builtin.Slice.slicePlaces lo hi 1)) _ _ s
  rw [adjust_gen lo hi n]
  show wpAny _ _ (pure (((sIx n 0 lo : Nat) : Int), (1 : Int), Builtin.Slice.slicePlaces ((sIx n 0 lo : Nat) : Int) ((sIx n n hi : Nat) : Int) 1)) _ _ s
  rw [places_gen]
  exact wpAny_pure h
theorem pick_gen (xs : Array Value) (i k : Nat) : ((List.range k).filterMap fun (m : Nat) => xs[((i : Int) + (m : Int) * 1).toNat]?).toArray = ((xs.toList.drop i).take k).toArray := by
  have e : (fun (m : Nat) => xs[((i : Int) + (m : Int) * 1).toNat]?) = fun m => xs[i + m]? := by
    funext m
    have : ((i : Int) + (m : Int) * 1).toNat = i + m := by omega
    rw [this]
  rw [e]
  have := pick_run xs i k
  rw [List.filterMap_map] at this
  have e2 : ((fun x => xs[x]?) ∘ fun x => i + x) = fun m => xs[i + m]? := rfl
  rw [e2] at this
  rw [this]

theorem getItem_tuple_cut {t sl : Addr} {items : Array Value} {vl vu : Value} {lo hi : Option Int} {Q : Value → Shared → Prop} (ht : IsTup s.heap t items) (hs : s.heap.IsSliceOf sl vl vu .none) (pl : IsPart vl lo) (pu : IsPart vu hi)
    (hw : ¬ (sIx items.size 0 lo = 0 ∧ sIx items.size items.size hi = items.size))
    (h : Q (.ref s.heap.objs.size) { s with heap := s.heap.push { cls := .type "tuple", data := .seq ((items.toList.drop (sIx items.size 0 lo)).take (sIx items.size items.size hi - sIx items.size 0 lo)).toArray } })
    (hsz : items.size ≤ sizeLine) : wpAny (model prog w) A (getItem (.ref t) (.ref sl)) Q E s := by
  have htake : sizeOk (.seq ((items.toList.drop (sIx items.size 0 lo)).take (sIx items.size items.size hi - sIx items.size 0 lo)).toArray) := by
    show ((items.toList.drop (sIx items.size 0 lo)).take (sIx items.size items.size hi - sIx items.size 0 lo)).toArray.size ≤ sizeLine
    rw [List.size_toArray, List.length_take, List.length_drop, Array.length_toList]
    omega
  have hj : sIx items.size items.size hi ≤ items.size := sIx_le _ _ (Nat.le_refl _) hi
  obtain ⟨os, hos, hcs, hds⟩ := id hs
  have hTs : s.TypeIs (.ref sl) "slice" := ⟨os, hos, hcs⟩
  unfold getItem
  try with_reducible refine wpAny_holding ?_
  first | refine wpAny_bind (wpAny_pure ?_) | skip
  refine wpAny_bind (wpAny_sequenceKey ht.typeIs (by decide) ?_)
  refine wpAny_bind (wpAny_callSpecial?_slot (name := Str.ofString "__getitem__") ht.typeIs PyProof.Rows.slot_tuple_getitem
    (wpAny_call_entry PyProof.Rows.slot_tuple_getitem ht.typeIs entry_tuple_getitem ?_ (args_tuple_getitem _ _)))
  show wpAny _ _ (Builtin.Tuple.tupleItemsOf (.ref t) >>= _) _ _ s
  refine wpAny_bind (tupleItemsOf_ ht ?_)
  refine wpAny_bind (wpAny_typeOf hTs ?_)
  rw [if_pos (by decide)]
  refine wpAny_bind (sliceApplied_gen hs pl pu ?_)
  have hno : ¬ ((((sIx items.size 0 lo : Nat) : Int) == 0 && (1 : Int) == 1 && (sIx items.size items.size hi - sIx items.size 0 lo) == items.size) = true) := by
    intro q
    rw [Bool.and_eq_true, Bool.and_eq_true] at q
    have q1 : ((sIx items.size 0 lo : Nat) : Int) = 0 := eq_of_beq q.1.1
    have q2 : sIx items.size items.size hi - sIx items.size 0 lo = items.size := eq_of_beq q.2
    exact hw ⟨by omega, by omega⟩
  show wpAny _ _ (if (((sIx items.size 0 lo : Nat) : Int) == 0 && (1 : Int) == 1 && (sIx items.size items.size hi - sIx items.size 0 lo) == items.size) = true then _ else _) _ _ s
  rw [if_neg hno, pick_gen]
  first
    | exact wpAny_bind (m := Builtin.Tuple.tupleExact _) (wpAny_newObj_type (wpAny_pure ⟨_, rfl, wpAny_pure h⟩) htake)
    | exact wpAny_bind (m := Builtin.Tuple.tupleExact _) (wpAny_newObj_type (wpAny_bind (wpAny_pure (wpAny_pure ⟨_, rfl, wpAny_pure h⟩))) htake)
    | exact wpAny_bind (wpAny_bind (m := Builtin.Tuple.tupleExact _) (wpAny_newObj_type (wpAny_pure (wpAny_pure ⟨_, rfl, wpAny_pure h⟩)) htake))
    | exact wpAny_bind (wpAny_bind (m := Builtin.Tuple.tupleExact _) (wpAny_newObj_type (wpAny_pure ⟨_, rfl, wpAny_pure h⟩) htake))
end
end HT

namespace L2
open PySem PySem.Spec PyProof.Rows

/-! ### the parts of a slice -/
abbrev TO := St → Hp → (Option Int → Hp → Prop) → Prop
/-- a slice's part (left out, or an int) -/
structure PO (X : Cx) (e : Option Expr) (t : TO) : Prop where
  go : ∀ (pins : List (Addr × Obj)) (s : Shared) (σ : St) (H : Hp) (Q : Option Int → Hp → Prop), Inv X pins σ H s → t σ H Q →
    wpAny (model X.prog X.w) X.A (evalPart e X.env) (fun u s' => ∃ o H', Inv X pins σ H' s' ∧ IsPart u o ∧ Q o H') X.xe s
instance {X : Cx} {e : Option Expr} {t : TO} : CoeFun (PO X e t) (fun _ => ∀ (pins : List (Addr × Obj)) (s : Shared) (σ : St) (H : Hp) (Q : Option Int → Hp → Prop), Inv X pins σ H s → t σ H Q →
    wpAny (model X.prog X.w) X.A (evalPart e X.env) (fun u s' => ∃ o H', Inv X pins σ H' s' ∧ IsPart u o ∧ Q o H') X.xe s) := ⟨fun h => h.go⟩
def tNoPart : TO := fun _ H Q => Q none H
def tPart (t : TE) : TO := fun σ H Q => t σ H fun x H1 => ∃ i, x = .int i ∧ Q (some i) H1

theorem intsAre_of {ns : List Int} : ∀ {us : List Value}, Vals (ns.map V.int) us → IntsAre us ns := by
  induction ns with
  | nil => intro us r; rw [List.map_nil] at r; cases r; exact .nil
  | cons n ns ih =>
    intro us r
    rw [List.map_cons] at r
    cases r with
    | cons r1 r2 =>
      obtain ⟨t, e⟩ := r1
      subst e
      exact .cons n t (ih r2)

section
variable {X : Cx} {e : Expr} {te : TE} {lo hi : Option Expr} {tl th : TO} {pos p2 : Pos}

theorem po_none : PO X none tNoPart := by
  constructor
  intro pins s σ H Q I h
  rw [evalPart_none]
  exact wpAny_pure ⟨none, H, I, .none, h⟩
theorem po_some (h : PE X e te) : PO X (some e) (tPart te) := by
  constructor
  intro pins s σ H Q I hw
  rw [evalPart_some]
  refine thn (h pins s σ H _ I hw) fun u s1 ⟨x, H1, I1, r1, q1⟩ => ?_
  obtain ⟨i, rfl, q⟩ := q1
  obtain ⟨t, rfl⟩ := r1
  exact ⟨some i, H1, I1, .int i t, q⟩

/-- what a slice of a value is, by values: the slice object stands at sl -/
def SlR (X : Cx) (r : V → Option Int → Option Int → Hp → VK → Prop) : Prop :=
  ∀ (pins : List (Addr × Obj)) (s : Shared) (σ : St) (H : Hp) (x : V) (v vl vu : Value) (lo hi : Option Int) (sl : Addr) (Q : VK), Inv X pins σ H s → RelV x v → s.heap.IsSliceOf sl vl vu .none → IsPart vl lo → IsPart vu hi → r x lo hi H Q →
    ∃ T id, typeLookup (.type T) "__getitem__" = pure (some (.builtin id)) ∧ s.TypeIs v T ∧ wpAny (model X.prog X.w) X.A (getItem v (.ref sl)) (EP X pins σ Q) X.xe s
theorem SlR.or {r r' : V → Option Int → Option Int → Hp → VK → Prop} (h : SlR X r) (h' : SlR X r') : SlR X (fun x lo hi H Q => r x lo hi H Q ∨ r' x lo hi H Q) := by
  intro pins s σ H x v vl vu lo hi sl Q I rx hs pl pu q
  rcases q with q | q
  · exact h pins s σ H x v vl vu lo hi sl Q I rx hs pl pu q
  · exact h' pins s σ H x v vl vu lo hi sl Q I rx hs pl pu q
def tSl (r : V → Option Int → Option Int → Hp → VK → Prop) (te : TE) (tl th : TO) : TE := fun σ H Q => te σ H fun x H1 => tl σ H1 fun l H2 => th σ H2 fun u H3 => r x l u H3 Q
/-- a[lo:hi], any a -/
theorem pe_slice {r : V → Option Int → Option Int → Hp → VK → Prop} (hr : SlR X r) (he : PE X e te) (hl : PO X lo tl) (hu : PO X hi th) : PE X (.Subscript e (.Slice lo hi none p2) pos) (tSl r te tl th) := by
  constructor
  intro pins s σ H Q I h
  refine Subscript_ (thn (he pins s σ H _ I h) fun v s1 ⟨x, H1, I1, r1, q1⟩ => ?_)
  refine wpAny_Slice (thn (hl pins s1 σ H1 _ I1 q1) fun vl s2 ⟨l, H2, I2, pl, q2⟩ => thn (hu pins s2 σ H2 _ I2 q2) fun vu s3 ⟨u, H3, I3, pu, q3⟩ => ?_)
  rw [evalPart_none]
  refine wpAny_pure ?_
  have I4 : Inv X pins σ H3 { s3 with heap := s3.heap.push { cls := .type "slice", data := .fields #[vl, vu, .none] } } := I3.kept (t' := s3.toks) fun b ob q => Heap.get?_push_of_some _ q
  obtain ⟨T, id, hT, ht, hg⟩ := hr pins { s3 with heap := s3.heap.push { cls := .type "slice", data := .fields #[vl, vu, .none] } } σ H3 x v vl vu l u s3.heap.objs.size Q I4 r1 (Heap.IsSliceOf.new ..) pl pu q3
  show wpAny (model X.prog X.w) X.A (subscriptTail e (.Slice lo hi none p2) v (.ref s3.heap.objs.size)) (EP X pins σ Q) X.xe { s3 with heap := s3.heap.push { cls := .type "slice", data := .fields #[vl, vu, .none] } }
  exact tail_any (ops := [.ref s3.heap.objs.size, v]) ht hT hg (by with_unfolding_all rfl)

/-- the items of xs[lo:hi] -/
def cutV (xs : List V) (lo hi : Option Int) : List V := (xs.drop (HT.sIx xs.length 0 lo)).take (HT.sIx xs.length xs.length hi - HT.sIx xs.length 0 lo)
theorem cutV_length (xs : List V) (lo hi : Option Int) : (cutV xs lo hi).length ≤ xs.length := by
  unfold cutV
  rw [List.length_take, List.length_drop]
  omega
/-- t[lo:hi], not the whole of it (the whole would be t itself) -/
def rSlT (K : PySem.W.Frag) : V → Option Int → Option Int → Hp → VK → Prop := fun x lo hi H Q => ∃ a xs, x = .ref a ∧ SqT K H a xs ∧
  ¬ (HT.sIx xs.length 0 lo = 0 ∧ HT.sIx xs.length xs.length hi = xs.length) ∧ ∀ p, H p = none → Q (.ref p) (upd H p (.tup (cutV xs lo hi)))
theorem sl_tup : SlR X (rSlT X.K) := by
  intro pins s σ H x v vl vu lo hi sl Q I rx hs pl pu h
  obtain ⟨a, xs, rfl, hx, hw, q⟩ := h
  cases rx
  obtain ⟨its, r, ht, hz⟩ := I.tuple hx
  have hlen : its.toArray.size = xs.length := by rw [List.size_toArray]; exact r.length.symm
  refine ⟨"tuple", _, PyProof.Rows.slot_tuple_getitem.lookup, ht.typeIs, ?_⟩
  refine HT.getItem_tuple_cut ht hs pl pu (by rw [hlen]; exact hw) ?_ (by rw [hlen]; exact hz)
  rw [hlen]
  refine ⟨.ref s.heap.objs.size, _, I.laid (t' := s.toks) (o := .tup (cutV xs lo hi)) (fun b ob q => Heap.get?_push_of_some _ q) (Nat.le_refl _) ?_, rfl, q _ (I.hok.fresh (Nat.le_refl _))⟩
  exact ⟨Nat.le_trans (cutV_length xs lo hi) hz, _, (r.drop (HT.sIx xs.length 0 lo)).take (HT.sIx xs.length xs.length hi - HT.sIx xs.length 0 lo), IsTup.new _ _⟩

/-! ### t < u, t + u -/
def rLtT (K : PySem.W.Frag) : R2 := fun x y H Q => ∃ a b ns ms, x = .ref a ∧ y = .ref b ∧ SqT K H a (ns.map V.int) ∧ SqT K H b (ms.map V.int) ∧ Q (.bl (HT.lexLt ns ms)) H
theorem op_ltT (hu : X.A.units < cLine) : OpR X (compareOp .Lt) (rLtT X.K) := by
  intro pins s σ H x y v u Q I rx ry h
  obtain ⟨a, b, ns, ms, rfl, rfl, ha, hb, q⟩ := h
  cases rx
  cases ry
  obtain ⟨its, r1, p1, _⟩ := I.tuple ha
  obtain ⟨its2, r2, p2, _⟩ := I.tuple hb
  have i1 : IntsAre its.toArray.toList ns := intsAre_of r1
  have i2 : IntsAre its2.toArray.toList ms := intsAre_of r2
  exact HT.lt_tupInts p1 p2 i1 i2 hu ⟨.bl (HT.lexLt ns ms), H, I, rfl, q⟩
/-- t + u, t not empty: u empty gives t itself -/
def rCatT (K : PySem.W.Frag) : R2 := fun x y H Q => ∃ a b xs ys, x = .ref a ∧ y = .ref b ∧ SqT K H a xs ∧ SqT K H b ys ∧ xs ≠ [] ∧ xs.length + ys.length ≤ sizeLine ∧
  (ys = [] → Q (.ref a) H) ∧ (ys ≠ [] → ∀ p, H p = none → Q (.ref p) (upd H p (.tup (xs ++ ys))))
theorem Vals.nil_iff {xs : List V} {us : List Value} (r : Vals xs us) : us = [] ↔ xs = [] := by
  cases r with
  | nil => simp
  | cons _ _ => simp
theorem op_catT : OpR X (binaryOp .Add) (rCatT X.K) := by
  intro pins s σ H x y v u Q I rx ry h
  obtain ⟨a, b, xs, ys, rfl, rfl, ha, hb, hx, hz, q1, q2⟩ := h
  cases rx
  cases ry
  obtain ⟨its, r1, p1, _⟩ := I.tuple ha
  obtain ⟨its2, r2, p2, _⟩ := I.tuple hb
  refine HT.cat_tup p1 p2 (fun z => hx (r1.nil_iff.mp z)) (fun z => ⟨.ref a, H, I, rfl, q1 (r2.nil_iff.mp z)⟩) (fun z => ?_) (by rw [← r1.length, ← r2.length]; exact hz)
  refine ⟨.ref s.heap.objs.size, _, I.laid (t' := s.toks) (o := .tup (xs ++ ys)) (fun b ob q => Heap.get?_push_of_some _ q) (Nat.le_refl _) ?_, rfl, q2 (fun w => z (r2.nil_iff.mpr w)) _ (I.hok.fresh (Nat.le_refl _))⟩
  exact ⟨by rw [List.length_append]; exact hz, _, r1.append r2, IsTup.new _ _⟩
/-- tuple(t) -/
theorem call_tupleT : CallR X (.type "tuple") (fun xs H Q => ∃ a ys, xs = [.ref a] ∧ SqT X.K H a ys ∧ Q (.ref a) H) := by
  intro pins s σ H xs us Q I r h
  obtain ⟨a, ys, rfl, ha, q⟩ := h
  obtain ⟨u, rfl, ru⟩ := vals1 r
  cases ru
  obtain ⟨its, _, p1, _⟩ := I.tuple ha
  exact call_tuple_same (items := its.toArray) p1 ⟨.ref a, H, I, rfl, q⟩
end
end L2

namespace L2
open PySem PySem.Spec PyProof.Rows

/-! ### places -/
/-- the place that an index of any sign means -/
def ixN (n : Nat) (i : Int) : Option Nat := if 0 ≤ i then (if i < n then some i.toNat else none) else if -(n : Int) ≤ i then some (i + n).toNat else none
def atI {α : Type} (xs : List α) (i : Int) : Option α := (ixN xs.length i).bind fun j => xs[j]?
theorem ixN_seq {n : Nat} {i : Int} {j : Nat} (h : ixN n i = some j) : seqIndex? i n = some j ∧ j < n ∧ -(n : Int) ≤ i ∧ i < n := by
  unfold ixN at h
  by_cases h0 : 0 ≤ i
  · rw [if_pos h0] at h
    by_cases h1 : i < n
    · rw [if_pos h1] at h
      have e : i.toNat = j := Option.some.inj h
      exact ⟨by rw [seqIndex_of h0 h1, e], by omega, by omega, h1⟩
    · rw [if_neg h1] at h; cases h
  · rw [if_neg h0] at h
    by_cases h1 : -(n : Int) ≤ i
    · rw [if_pos h1] at h
      have e : (i + n).toNat = j := Option.some.inj h
      exact ⟨by rw [seqIndex_neg (by omega) h1, e], by omega, h1, by omega⟩
    · rw [if_neg h1] at h; cases h
theorem atI_get {α : Type} {xs : List α} {i : Int} {v : α} (h : atI xs i = some v) : ∃ j, seqIndex? i xs.length = some j ∧ xs[j]? = some v ∧ j < xs.length ∧ -(xs.length : Int) ≤ i ∧ i < xs.length := by
  unfold atI at h
  cases e : ixN xs.length i with
  | none => rw [e] at h; cases h
  | some j =>
    rw [e] at h
    obtain ⟨h1, h2, h3, h4⟩ := ixN_seq e
    exact ⟨j, h1, h, h2, h3, h4⟩
theorem atI_nat {α : Type} {xs : List α} {j : Nat} {v : α} (h : xs[j]? = some v) : atI xs (j : Int) = some v := by
  have hj : j < xs.length := (List.getElem?_eq_some_iff.mp h).1
  have e : ixN xs.length (j : Int) = some j := by
    unfold ixN
    rw [if_pos (by omega), if_pos (by omega)]; simp
  unfold atI; rw [e]; exact h
theorem atI_last {α : Type} (xs : List α) (v : α) : atI (xs ++ [v]) (-1) = some v := by
  have hl : (xs ++ [v]).length = xs.length + 1 := by simp
  have e : ixN (xs ++ [v]).length (-1) = some xs.length := by
    unfold ixN
    rw [hl, if_neg (by decide), if_pos (by omega)]
    congr 1
    omega
  unfold atI
  rw [e]
  show (xs ++ [v])[xs.length]? = some v
  simp

/-! ### what may be subscripted -/
/-- what stands as an index of a plain subscript -/
def PlainIx (b : Expr) : Prop := ∀ o i, subscripted b false o i = operate [o, i] (getItem o i)
/-- a subscript by values -/
def IxR (X : Cx) (r : R2) : Prop :=
  ∀ (value slice : Expr) (pins : List (Addr × Obj)) (s : Shared) (σ : St) (H : Hp) (x y : V) (v u : Value) (Q : VK), Inv X pins σ H s → RelV x v → RelV y u → r x y H Q →
    subscripted slice false v u = operate [v, u] (getItem v u) → wpAny (model X.prog X.w) X.A (subscriptTail value slice v u) (EP X pins σ Q) X.xe s
/-- a call of a builtin's method by values: the receiver, the arguments -/
def MtR (X : Cx) (id : String) (r : V → List V → Hp → VK → Prop) : Prop :=
  ∀ (pins : List (Addr × Obj)) (s : Shared) (σ : St) (H : Hp) (x : V) (xs : List V) (v : Value) (us : List Value) (Q : VK), Inv X pins σ H s → RelV x v → Vals xs us → r x xs H Q →
    wpAny (model X.prog X.w) X.A (call (.builtin id) (v :: us)) (EP X pins σ Q) X.xe s
section
variable {X : Cx} {a b : Expr} {ta tb : TE} {pos : Pos}
theorem IxR.or {r r' : R2} (h : IxR X r) (h' : IxR X r') : IxR X (fun x y H Q => r x y H Q ∨ r' x y H Q) := by
  intro value slice pins s σ H x y v u Q I rx ry q hs
  rcases q with q | q
  · exact h value slice pins s σ H x y v u Q I rx ry q hs
  · exact h' value slice pins s σ H x y v u Q I rx ry q hs
theorem MtR.or {id : String} {r r' : V → List V → Hp → VK → Prop} (h : MtR X id r) (h' : MtR X id r') : MtR X id (fun x xs H Q => r x xs H Q ∨ r' x xs H Q) := by
  intro pins s σ H x xs v us Q I rx rs q
  rcases q with q | q
  · exact h pins s σ H x xs v us Q I rx rs q
  · exact h' pins s σ H x xs v us Q I rx rs q
/-- a[b] -/
theorem pe_ix {r : R2} (hr : IxR X r) (ha : PE X a ta) (hb : PE X b tb) (hs : PlainIx b) : PE X (.Subscript a b pos) (tOp r ta tb) := by
  constructor
  intro pins s σ H Q I h
  exact Subscript_ (binT ha hb I h fun v u s2 x y H2 I2 rx ry q => hr a b pins s2 σ H2 x y v u Q I2 rx ry q (hs _ _))

def rIxL (K : PySem.W.Frag) : R2 := fun x y H Q => ∃ p xs i v, x = .ref p ∧ y = .int i ∧ SqL K H p xs ∧ atI xs i = some v ∧ Q v H
def rIxT (K : PySem.W.Frag) : R2 := fun x y H Q => ∃ p xs i v, x = .ref p ∧ y = .int i ∧ SqT K H p xs ∧ atI xs i = some v ∧ Q v H
def rIxS : R2 := fun x y H Q => ∃ z i c, x = .str z ∧ y = .int i ∧ z.length ≤ sizeLine ∧ atI z.cps.toList i = some c ∧ Q (.str ⟨#[c]⟩) H
theorem ix_list : IxR X (rIxL X.K) := by
  intro value slice pins s σ H x y v u Q I rx ry h hs
  obtain ⟨p, xs, i, z, rfl, rfl, hq, he, q⟩ := h
  cases rx
  obtain ⟨t, rfl⟩ := ry
  obtain ⟨its, r, pl, hz⟩ := I.list hq
  obtain ⟨j, h1, h2, h3, h4, h5⟩ := atI_get he
  obtain ⟨w, ew, rw'⟩ := r.get h2
  have hl := r.length
  have hn := line63
  have fin : EP X pins σ Q w s := ⟨z, H, I, rw', q⟩
  by_cases h0 : 0 ≤ i
  · have hj : i.toNat = j := by
      rw [seqIndex_of h0 h5] at h1
      exact Option.some.inj h1
    exact item_listR pl.isList h0 (by omega) (by rw [hj]; simpa using ew) fin hs
  · have hj : (i + (its.toArray.size : Int)).toNat = j := by
      rw [seqIndex_neg (by omega) h4] at h1
      rw [List.size_toArray, ← hl]
      exact Option.some.inj h1
    exact subscriptTail_builtinR (x := w) pl.isList.typeIs slot_list_getitem.lookup
      (wpAny_getItem_list_neg (Q := fun r s' => r = w ∧ EP X pins σ Q r s') pl.isList (by omega) (by rw [List.size_toArray] <;> omega) (by omega) (by rw [hj]; simpa using ew) ⟨rfl, fin⟩) hs
theorem ix_tup : IxR X (rIxT X.K) := by
  intro value slice pins s σ H x y v u Q I rx ry h hs
  obtain ⟨p, xs, i, z, rfl, rfl, hq, he, q⟩ := h
  cases rx
  obtain ⟨t, rfl⟩ := ry
  obtain ⟨its, r, pl, hz⟩ := I.tuple hq
  obtain ⟨j, h1, h2, h3, h4, h5⟩ := atI_get he
  obtain ⟨w, ew, rw'⟩ := r.get h2
  have hl := r.length
  have hn := line63
  have fin : EP X pins σ Q w s := ⟨z, H, I, rw', q⟩
  exact subscriptTail_builtinR (x := w) pl.typeIs slot_tuple_getitem.lookup
    (getItem_tuple (j := j) (Q := fun r s' => r = w ∧ EP X pins σ Q r s') pl (by omega) (by omega) (by rw [List.size_toArray, ← hl]; exact h1) (by simpa using ew) ⟨rfl, fin⟩) hs
theorem ix_str : IxR X rIxS := by
  intro value slice pins s σ H x y v u Q I rx ry h hs
  obtain ⟨z, i, c, rfl, rfl, hz, he, q⟩ := h
  obtain ⟨t, rfl⟩ := rx
  obtain ⟨t', rfl⟩ := ry
  obtain ⟨j, h1, h2, h3, h4, h5⟩ := atI_get he
  have hl : z.cps.toList.length = z.length := by simp [Str.length]
  rw [hl] at h1 h4 h5
  have hn := line63
  exact tail_any (typeIs_str s z t) slot_str_getitem.lookup (getItem_str (c := c) (by
    have e1 : decide (i < -(2 ^ 63 : Int)) = false := decide_eq_false (by omega)
    have e2 : decide (i ≥ 2 ^ 63) = false := decide_eq_false (by omega)
    rw [e1, e2, Bool.or_false]) (by rw [h1]; simpa using h2) ⟨.str ⟨#[c]⟩, H, I.tok _, ⟨_, rfl⟩, q⟩) hs
/-- list, tuple or str -/
def rIx (K : PySem.W.Frag) : R2 := fun x y H Q => rIxL K x y H Q ∨ rIxT K x y H Q ∨ rIxS x y H Q
theorem ix_seq : IxR X (rIx X.K) := ix_list.or (ix_tup.or ix_str)

/-! ### xs[i] = v, any sign -/
/-- the list's object behind a store -/
theorem mapSeq_set (its : List Value) (n j : Nat) (u : Value) : Obj.mapSeq (·.setIfInBounds j u) { cls := .type "list", data := .seq its.toArray n } = { cls := .type "list", data := .seq (its.set j u).toArray n } := by
  simp [Obj.mapSeq]
theorem Inv.lst {pins : List (Addr × Obj)} {σ : St} {H : Hp} {s : Shared} {p : Addr} {xs : List V} (I : Inv X pins σ H s) (h : H p = some (.lst xs)) :
    ∃ (its : List Value) (n : Nat), Vals xs its ∧ s.heap.get? p = some { cls := .type "list", data := .seq its.toArray n } ∧ xs.length ≤ sizeLine := by
  obtain ⟨z, its, n, r, e⟩ := I.hok p _ h
  exact ⟨its, n, r, e, z⟩
/-- the list at p is written by an update of its object -/
theorem Inv.lstUpd {pins : List (Addr × Obj)} {σ : St} {H : Hp} {s : Shared} {p : Addr} {xs ys : List V} {its its' : List Value} {n n' : Nat} {f : Obj → Obj} (I : Inv X pins σ H s) (h : H p = some (.lst xs))
    (ho : s.heap.get? p = some { cls := .type "list", data := .seq its.toArray n }) (hf : f { cls := .type "list", data := .seq its.toArray n } = { cls := .type "list", data := .seq its'.toArray n' }) (r : Vals ys its') (hz : ys.length ≤ sizeLine) (t : Nat) :
    Inv X pins σ (upd H p (.lst ys)) { s with heap := s.heap.update p f, toks := t } := by
  have e : (s.heap.update p f).get? p = some { cls := .type "list", data := .seq its'.toArray n' } := by
    rw [Heap.get?_update_self f ho (by rw [hf] <;> rfl), hf]
  refine I.write (x := p) (e := p) (by rw [h]; trivial) (.inl rfl) (fun b u hb q => (Heap.get?_update_other _ _ (Ne.symm hb)).trans q) ⟨_, e⟩ ?_
  exact ⟨hz, its', n', r, e⟩
def rSetL : V → V → V → Hp → (Hp → Prop) → Prop := fun o i v H Q => ∃ p xs k j, o = .ref p ∧ i = .int k ∧ H p = some (.lst xs) ∧ ixN xs.length k = some j ∧ Q (upd H p (.lst (xs.set j v)))
theorem set_list : PSet X rSetL := by
  intro pins s σ H o i v ov iv u Q I ro ri rv h
  obtain ⟨p, xs, k, j, rfl, rfl, hp, hj, q⟩ := h
  cases ro
  obtain ⟨t, rfl⟩ := ri
  obtain ⟨its, n, r, ho, hz⟩ := I.lst hp
  obtain ⟨h1, h2, h3, h4⟩ := ixN_seq hj
  have hl := r.length
  have hn := line63
  have I' : Inv X pins σ (upd H p (.lst (xs.set j v))) { s with heap := s.heap.update p (Obj.mapSeq (·.setIfInBounds j u)) } :=
    I.lstUpd hp ho (mapSeq_set its n j u) (r.set rv j) (by rw [List.length_set]; exact hz) s.toks
  by_cases h0 : 0 ≤ k
  · have hk : k.toNat = j := by
      rw [seqIndex_of h0 h4] at h1
      exact Option.some.inj h1
    exact PySem.W.ki_setAt ho h0 (by omega) (by rw [List.size_toArray, ← hl]; exact h4) (by rw [hk]; exact ⟨_, I', q⟩)
  · have hk : (k + (its.toArray.size : Int)).toNat = j := by
      rw [seqIndex_neg (by omega) h3] at h1
      rw [List.size_toArray, ← hl]
      exact Option.some.inj h1
    exact PySem.W.ki_setBack ho (by omega) (by rw [List.size_toArray, ← hl]; exact h3) (by omega) (by rw [hk]; exact ⟨_, I', q⟩)

/-! ### slices -/
theorem slice_bounds (lo hi : Option Int) (n : Nat) : (sliceBounds lo hi none n).1 = ((HT.sIx n 0 lo : Nat) : Int) ∧ (sliceBounds lo hi none n).2.1 = ((HT.sIx n n hi : Nat) : Int) ∧ (sliceBounds lo hi none n).2.2 = 1 := by
  refine ⟨?_, ?_, rfl⟩
  · cases lo with
    | none => simp [sliceBounds, HT.sIx]
    | some i =>
      simp only [sliceBounds, HT.sIx, Option.getD_none, show (1 : Int) > 0 by decide, if_true]
      by_cases h : i < 0
      · simp only [h, if_true] <;> omega
      · simp only [h, if_false] <;> omega
  · cases hi with
    | none => simp [sliceBounds, HT.sIx]
    | some i =>
      simp only [sliceBounds, HT.sIx, Option.getD_none, show (1 : Int) > 0 by decide, if_true]
      by_cases h : i < 0
      · simp only [h, if_true] <;> omega
      · simp only [h, if_false] <;> omega
theorem slicePick_cut (its : List Value) (lo hi : Option Int) : slicePick its.toArray lo hi none = ((its.drop (HT.sIx its.length 0 lo)).take (HT.sIx its.length its.length hi - HT.sIx its.length 0 lo)).toArray := by
  obtain ⟨h1, h2, h3⟩ := slice_bounds lo hi its.toArray.size
  unfold slicePick
  rw [h1, h2, h3]
  simp only [sliceRange_one, pick_run, List.size_toArray] <;> rfl
/-- xs[lo:hi] of a list: a new list -/
def rSlL (K : PySem.W.Frag) : V → Option Int → Option Int → Hp → VK → Prop := fun x lo hi H Q => ∃ a xs, x = .ref a ∧ SqL K H a xs ∧ ∀ p, H p = none → Q (.ref p) (upd H p (.lst (cutV xs lo hi)))
theorem sl_list : SlR X (rSlL X.K) := by
  intro pins s σ H x v vl vu lo hi sl Q I rx hs pl pu h
  obtain ⟨a, xs, rfl, hx, q⟩ := h
  cases rx
  obtain ⟨its, r, ht, hz⟩ := I.list hx
  have hlen := r.length
  refine ⟨"list", _, slot_list_getitem.lookup, ht.isList.typeIs, ?_⟩
  refine wpAny_getItem_list_slice ht.isList hs pl pu .none (by simp) ?_ (by rw [List.size_toArray] <;> omega)
  rw [slicePick_cut, ← hlen]
  refine ⟨.ref s.heap.objs.size, _, I.laid (t' := s.toks) (o := .lst (cutV xs lo hi)) (fun b ob q => Heap.get?_push_of_some _ q) (Nat.le_refl _) ?_, rfl, q _ (I.hok.fresh (Nat.le_refl _))⟩
  exact ⟨Nat.le_trans (cutV_length xs lo hi) hz, _, 0, (r.drop (HT.sIx xs.length 0 lo)).take (HT.sIx xs.length xs.length hi - HT.sIx xs.length 0 lo), Heap.get?_push_size _ rfl⟩

/-! ### in, not in: flat items -/
def flatV : V → Bool
  | .non => true
  | .bl _ => true
  | .int _ => true
  | .str _ => true
  | _ => false
/-- == of flat values -/
def eqV : V → V → Bool
  | .non, .non => true
  | .bl a, .bl b => a == b
  | .bl a, .int b => (if a then 1 else 0) == b
  | .int a, .bl b => a == (if b then 1 else 0)
  | .int a, .int b => a == b
  | .str a, .str b => a == b
  | _, _ => false
theorem eqAt_V {A : Around} {s : Shared} {y x : V} {u v : Value} (ry : RelV y u) (rx : RelV x v) (fy : flatV y = true) (fx : flatV x = true) : SeqAt.EqAt A s u v (eqV y x) := by
  cases y with
  | non =>
    cases ry
    cases x with
    | non => cases rx; exact SeqAt.EqAt.same _
    | bl b => cases rx; exact SeqAt.EqAt.none_bool b
    | int b => obtain ⟨t, rfl⟩ := rx; exact SeqAt.EqAt.none_int b t
    | str b => obtain ⟨t, rfl⟩ := rx; exact SeqAt.EqAt.none_str b t
    | _ => exact absurd (show false = true from fx) Bool.false_ne_true
  | bl a =>
    cases ry
    cases x with
    | non => cases rx; exact SeqAt.EqAt.bool_none a
    | bl b => cases rx; exact SeqAt.EqAt.bool_bool a b
    | int b => obtain ⟨t, rfl⟩ := rx; exact SeqAt.EqAt.bool_int a b t
    | str b => obtain ⟨t, rfl⟩ := rx; exact SeqAt.EqAt.bool_str a b t
    | _ => exact absurd (show false = true from fx) Bool.false_ne_true
  | int a =>
    obtain ⟨t', rfl⟩ := ry
    cases x with
    | non => cases rx; exact SeqAt.EqAt.int_none a t'
    | bl b => cases rx; exact SeqAt.EqAt.int_bool a t' b
    | int b => obtain ⟨t, rfl⟩ := rx; exact SeqAt.EqAt.int_int a t' b t
    | str b => obtain ⟨t, rfl⟩ := rx; exact SeqAt.EqAt.int_str a t' b t
    | _ => exact absurd (show false = true from fx) Bool.false_ne_true
  | str a =>
    obtain ⟨t', rfl⟩ := ry
    cases x with
    | non => cases rx; exact SeqAt.EqAt.str_none a t'
    | bl b => cases rx; exact SeqAt.EqAt.str_bool a t' b
    | int b => obtain ⟨t, rfl⟩ := rx; exact SeqAt.EqAt.str_int a t' b t
    | str b => obtain ⟨t, rfl⟩ := rx; exact SeqAt.EqAt.str_str a t' b t
    | _ => exact absurd (show false = true from fx) Bool.false_ne_true
  | _ => exact absurd (show false = true from fy) Bool.false_ne_true
/-- the items' answers, read off the values (a value's own answer does not lean on its token) -/
def eqU (x : V) (u : Value) : Bool := match u with
  | .none => eqV .non x
  | .bool b => eqV (.bl b) x
  | .int i _ => eqV (.int i) x
  | .str z _ => eqV (.str z) x
  | _ => false
theorem eqU_of {x y : V} {u : Value} (r : RelV y u) (f : flatV y = true) : eqU x u = eqV y x := by
  cases y with
  | non => cases r; rfl
  | bl b => cases r; rfl
  | int i => obtain ⟨t, rfl⟩ := r; rfl
  | str z => obtain ⟨t, rfl⟩ := r; rfl
  | _ => exact absurd (show false = true from f) Bool.false_ne_true
theorem any_eqU {x : V} : ∀ {xs : List V} {us : List Value}, Vals xs us → xs.all flatV = true → us.any (eqU x) = xs.any fun y => eqV y x
  | _, _, .nil, _ => rfl
  | y :: xs, u :: us, .cons r t, f => by
    rw [List.all_cons, Bool.and_eq_true] at f
    rw [List.any_cons, List.any_cons, eqU_of r f.1, any_eqU t f.2]
theorem mem_eqAt {A : Around} {s : Shared} {x : V} {v : Value} (rx : RelV x v) (fx : flatV x = true) : ∀ {xs : List V} {us : List Value}, Vals xs us → xs.all flatV = true → ∀ u ∈ us, SeqAt.EqAt A s u v (eqU x u)
  | _, _, .nil, _ => fun u hu => by cases hu
  | y :: xs, u :: us, .cons r t, f => fun u' hu => by
    rw [List.all_cons, Bool.and_eq_true] at f
    rcases List.mem_cons.mp hu with rfl | hu
    · rw [eqU_of r f.1]; exact eqAt_V r rx f.1 fx
    · exact mem_eqAt rx fx t f.2 u' hu
def inV (x : V) (xs : List V) : Bool := xs.any fun y => eqV y x
/-- x in a list or tuple of flat items -/
def rIn (K : PySem.W.Frag) (neg : Bool) : R2 := fun x y H Q => ∃ p xs, y = .ref p ∧ (SqL K H p xs ∨ SqT K H p xs) ∧ flatV x = true ∧ xs.all flatV = true ∧ Q (.bl (if neg then !inV x xs else inV x xs)) H
theorem op_in_seq : OpR X (compareOp .In) (rIn X.K false) := by
  intro pins s σ H x y v u Q I rx ry h
  obtain ⟨p, xs, rfl, hq, fx, fs, q⟩ := h
  cases ry
  rcases hq with hq | hq
  · obtain ⟨its, r, pl, hz⟩ := I.list hq
    refine SeqAt.in_listAt (eqU x) pl.isList (fun w hw => mem_eqAt rx fx r fs w (by simpa using hw)) ⟨.bl _, H, I, rfl, ?_⟩
    rw [show its.toArray.any (eqU x) = its.any (eqU x) by simp, any_eqU r fs]
    exact q
  · obtain ⟨its, r, pl, hz⟩ := I.tuple hq
    refine SeqAt.in_tupleAt (eqU x) pl (fun w hw => mem_eqAt rx fx r fs w (by simpa using hw)) ⟨.bl _, H, I, rfl, ?_⟩
    rw [show its.toArray.any (eqU x) = its.any (eqU x) by simp, any_eqU r fs]
    exact q
theorem op_notIn_seq : OpR X (compareOp .NotIn) (rIn X.K true) := by
  intro pins s σ H x y v u Q I rx ry h
  obtain ⟨p, xs, rfl, hq, fx, fs, q⟩ := h
  cases ry
  rcases hq with hq | hq
  · obtain ⟨its, r, pl, hz⟩ := I.list hq
    refine SeqAt.notIn_listAt (eqU x) pl.isList (fun w hw => mem_eqAt rx fx r fs w (by simpa using hw)) ⟨.bl _, H, I, rfl, ?_⟩
    rw [show its.toArray.any (eqU x) = its.any (eqU x) by simp, any_eqU r fs]
    exact q
  · obtain ⟨its, r, pl, hz⟩ := I.tuple hq
    refine SeqAt.notIn_tupleAt (eqU x) pl (fun w hw => mem_eqAt rx fx r fs w (by simpa using hw)) ⟨.bl _, H, I, rfl, ?_⟩
    rw [show its.toArray.any (eqU x) = its.any (eqU x) by simp, any_eqU r fs]
    exact q
theorem op_notIn_str : OpR X (compareOp .NotIn) (fun x y H Q => ∃ i j, x = .str i ∧ y = .str j ∧ Q (.bl (!(!(Builtin.Str.occurrences j i 0 j.length 1).isEmpty))) H) := by
  intro pins s σ H x y v u Q I rx ry h
  obtain ⟨i, j, rfl, rfl, q⟩ := h
  obtain ⟨t, rfl⟩ := rx
  obtain ⟨t', rfl⟩ := ry
  exact notIn_str ⟨.bl _, H, I, rfl, q⟩

/-! ### len, list(x), tuple(x) of any list or tuple that is read -/
theorem call_len_seq : CallR X (.builtin "len") (fun xs H Q => ∃ p ys, xs = [.ref p] ∧ (SqL X.K H p ys ∨ SqT X.K H p ys) ∧ Q (.int ys.length) H) := by
  intro pins s σ H xs us Q I r h
  obtain ⟨p, ys, rfl, hq, q⟩ := h
  obtain ⟨u, rfl, rx⟩ := vals1 r
  cases rx
  have hn := line63
  rcases hq with hq | hq
  · obtain ⟨its, r', pl, hz⟩ := I.list hq
    have hlen := r'.length
    exact Calls.call_len_list pl.isList (by simp only [List.size_toArray] <;> omega) ⟨.int ys.length, H, I.tok _, ⟨s.toks + 1, by rw [List.size_toArray, hlen]⟩, q⟩
  · obtain ⟨its, r', pl, hz⟩ := I.tuple hq
    have hlen := r'.length
    exact len_tuple pl (by simp only [List.size_toArray] <;> omega) ⟨.int ys.length, H, I.tok _, ⟨s.toks + 1, by rw [List.size_toArray, hlen]⟩, q⟩
theorem call_len_str : CallR X (.builtin "len") (fun xs H Q => ∃ z, xs = [.str z] ∧ z.length ≤ sizeLine ∧ Q (.int z.length) H) := by
  intro pins s σ H xs us Q I r h
  obtain ⟨z, rfl, hz, q⟩ := h
  obtain ⟨u, rfl, t, rfl⟩ := vals1 r
  have hn := line63
  exact len_str (by omega) ⟨.int z.length, H, I.tok _, ⟨_, rfl⟩, q⟩
theorem CallR.or {f : Value} {r r' : List V → Hp → VK → Prop} (h : CallR X f r) (h' : CallR X f r') : CallR X f (fun xs H Q => r xs H Q ∨ r' xs H Q) := by
  intro pins s σ H xs us Q I rs q
  rcases q with q | q
  · exact h pins s σ H xs us Q I rs q
  · exact h' pins s σ H xs us Q I rs q
theorem call_list_of : CallR X (.type "list") (fun xs H Q => ∃ p ys, xs = [.ref p] ∧ (SqL X.K H p ys ∨ SqT X.K H p ys) ∧ ∀ l, H l = none → Q (.ref l) (upd H l (.lst ys))) := by
  intro pins s σ H xs us Q I r h
  obtain ⟨p, ys, rfl, hq, q⟩ := h
  obtain ⟨u, rfl, rx⟩ := vals1 r
  cases rx
  have fin : ∀ (its : List Value), Vals ys its → ys.length ≤ sizeLine → ∀ (h' : Heap) (c' : Nat), (∀ b o', s.heap.get? b = some o' → h'.get? b = some o') →
      h'.get? s.heap.objs.size = some { cls := .type "list", dict := none, data := .seq its.toArray c', slots := #[] } → EP X pins σ Q (.ref s.heap.objs.size) { s with heap := h' } := fun its r' hz h' c' kp e =>
    ⟨.ref s.heap.objs.size, _, I.laid (t' := s.toks) kp (Nat.le_refl _) (show ObjOk X.prog X.w _ h' _ (.lst ys) from ⟨hz, its, c', r', e⟩), rfl, q _ (I.hok.fresh (Nat.le_refl _))⟩
  rcases hq with hq | hq
  · obtain ⟨its, r', pl, hz⟩ := I.list hq
    have hlen := r'.length
    obtain ⟨o, ho, hc, n, hd⟩ := pl.isList
    exact call_list_seq p (.inl rfl) ho hc hd (fun h' c' kp e => fin its r' hz h' c' kp e) (by simp only [List.size_toArray] <;> omega)
  · obtain ⟨its, r', pl, hz⟩ := I.tuple hq
    have hlen := r'.length
    obtain ⟨o, ho, hc, n, hd⟩ := pl
    exact call_list_seq p (.inr rfl) ho hc hd (fun h' c' kp e => fin its r' hz h' c' kp e) (by simp only [List.size_toArray] <;> omega)
theorem call_tuple_of : CallR X (.type "tuple") (fun xs H Q => ∃ p ys, xs = [.ref p] ∧ ((SqL X.K H p ys ∧ ∀ l, H l = none → Q (.ref l) (upd H l (.tup ys))) ∨ (SqT X.K H p ys ∧ Q (.ref p) H))) := by
  intro pins s σ H xs us Q I r h
  obtain ⟨p, ys, rfl, h⟩ := h
  obtain ⟨u, rfl, rx⟩ := vals1 r
  cases rx
  rcases h with ⟨hq, q⟩ | ⟨hq, q⟩
  · obtain ⟨its, r', pl, hz⟩ := I.list hq
    have hlen := r'.length
    refine call_tuple_list pl.isList (fun h' kp => ?_) (by simp only [List.size_toArray] <;> omega)
    have I1 : Inv X pins σ H { s with heap := h' } := I.kept (t' := s.toks) kp
    have I2 : Inv X pins σ (upd H h'.objs.size (.tup ys)) { s with heap := h'.push { cls := .type "tuple", data := .seq its.toArray } } :=
      I1.laid (t' := s.toks) (fun b o e => Heap.get?_push_of_some _ e) (Nat.le_refl _) (show ObjOk X.prog X.w _ _ _ (.tup ys) from ⟨hz, its, r', IsTup.new _ _⟩)
    exact ⟨.ref h'.objs.size, _, I2, rfl, q _ (I1.hok.fresh (Nat.le_refl _))⟩
  · obtain ⟨its, r', pl, hz⟩ := I.tuple hq
    exact call_tuple_same pl ⟨.ref p, H, I, rfl, q⟩

/-! ### the call of a builtin's method: o.m(..) -/
/-- the value is of that builtin type -/
def tyV (K : PySem.W.Frag) (T : String) (x : V) (H : Hp) : Prop := match x with
  | .str _ => T = "str"
  | .int _ => T = "int"
  | .ref p => (T = "list" ∧ ∃ xs, SqL K H p xs) ∨ (T = "tuple" ∧ ∃ o, K.lookup p = some o ∧ o.cls = .type "tuple" ∧ o.dict = none) ∨
      (T = "dict" ∧ ((∃ kvs, H p = some (.dK kvs)) ∨ ∃ kvs, H p = some (.dT kvs))) ∨ (T = "set" ∧ ∃ S n, H p = some (.set S n))
  | _ => False
theorem tyV_is {pins : List (Addr × Obj)} {σ : St} {H : Hp} {s : Shared} {T : String} {x : V} {v : Value} (I : Inv X pins σ H s) (r : RelV x v) (ty : tyV X.K T x H) :
    s.TypeIs v T ∧ ∀ a, v = .ref a → ∃ ob, s.heap.get? a = some ob ∧ ob.dict = none := by
  cases x with
  | str z =>
    obtain ⟨t, rfl⟩ := r
    cases (show T = "str" from ty)
    exact ⟨typeIs_str s z t, fun _ e => nomatch e⟩
  | int i =>
    obtain ⟨t, rfl⟩ := r
    cases (show T = "int" from ty)
    exact ⟨typeIs_int s i t, fun _ e => nomatch e⟩
  | ref p =>
    cases r
    rcases ty with ⟨rfl, xs, hq⟩ | ⟨rfl, o, hk, hc, hd⟩ | ⟨rfl, hk⟩ | ⟨rfl, S, n, hk⟩
    · obtain ⟨its, _, pl, _⟩ := I.list hq
      refine ⟨pl.isList.typeIs, fun a e => ?_⟩
      cases e
      obtain ⟨o, n, e, c, hd, _⟩ := pl
      exact ⟨o, e, hd⟩
    · refine ⟨⟨o, I.kIn p o hk, hc⟩, fun a e => ?_⟩
      cases e
      exact ⟨o, I.kIn _ o hk, hd⟩
    · have z : ∃ o, s.heap.get? p = some o ∧ o.ExactDict := by
        rcases hk with ⟨kvs, hk⟩ | ⟨kvs, hk⟩
        · obtain ⟨_, _, _, _, o, _, _, e, ex, _⟩ := I.hok p _ hk
          exact ⟨o, e, ex⟩
        · obtain ⟨_, _, _, _, o, _, _, e, ex, _⟩ := I.hok p _ hk
          exact ⟨o, e, ex⟩
      obtain ⟨o, e, ex⟩ := z
      refine ⟨⟨o, e, ex.1⟩, fun a e2 => ?_⟩
      cases e2
      exact ⟨o, e, ex.2.1⟩
    · obtain ⟨o, _, _, _, e, ex, _⟩ := I.hok p _ hk
      refine ⟨⟨o, e, ex.1⟩, fun a e2 => ?_⟩
      cases e2
      exact ⟨o, e, ex.2.1⟩
  | _ => exact False.elim ty
def tBM0 (K : PySem.W.Frag) (T : String) (r : V → List V → Hp → VK → Prop) (to : TE) : TE := fun σ H Q => to σ H fun x H1 => tyV K T x H1 ∧ r x [] H1 Q
def tBM (K : PySem.W.Frag) (T : String) (r : V → List V → Hp → VK → Prop) (to : TE) (t : TA) : TE := fun σ H Q => to σ H fun x H1 => tyV K T x H1 ∧ t σ H1 fun xs H2 => r x xs H2 Q
variable {o e : Expr} {es : List Expr} {to : TE} {t : TA} {name : Str} {apos cpos : Pos} {T id : String} {r : V → List V → Hp → VK → Prop}
theorem pe_bm0 (pa : PlainAttrs T) (slot : Slot T name id) (hty : typeOf (.builtin id) = pure (.type "method_descriptor")) (hm : MtR X id r) (ho : PE X o to)
    (hbase : attributeBase o name X.env (eval o X.env) = eval o X.env := by rfl) (hline : (apos.endLine == cpos.line) = true := by rfl) : PE X (.Call (.Attribute o name apos) [] [] cpos) (tBM0 X.K T r to) := by
  constructor
  intro pins s σ H Q I h
  refine wpAny_Call_method0_late hbase hline (thn (ho pins s σ H _ I h) fun v s1 ⟨x, H1, I1, r1, ty, q1⟩ => ?_)
  obtain ⟨h1, h2⟩ := tyV_is I1 r1 ty
  exact ⟨T, id, pa, slot, hty, h1, h2, Calls.callWith_builtin rfl (PySem.evalArgs_none (hm pins s1 σ H1 x [] v [] Q I1 r1 .nil q1))⟩
theorem pe_bm (pa : PlainAttrs T) (slot : Slot T name id) (hty : typeOf (.builtin id) = pure (.type "method_descriptor")) (hm : MtR X id r) (ho : PE X o to) (ha : PA X (e :: es) t)
    (hbase : attributeBase o name X.env (eval o X.env) = eval o X.env := by rfl)
    (hfew : ((backTo cpos (starEach (e :: es) X.env)).all (fun x => !x.1) && (backToKw cpos (keywordEach [] X.env)).all (fun x => x.1.isSome)
      && decide ((e :: es).length + ([] : List Keyword).length + (if ([] : List Keyword).isEmpty then 0 else 1) < 30)) = true := by rfl)
    (hline : (apos.endLine == cpos.line) = true := by rfl) (hs : starEach (e :: es) X.env = (false, eval e X.env) :: starEach es X.env := by rfl) (hplain : (backTo cpos (starEach es X.env)).any (·.1) = false := by rfl) :
    PE X (.Call (.Attribute o name apos) (e :: es) [] cpos) (tBM X.K T r to t) := by
  constructor
  intro pins s σ H Q I h
  refine wpAny_Call_method_late hbase hfew hline rfl (thn (ho pins s σ H _ I h) fun v s1 ⟨x, H1, I1, r1, ty, q1⟩ => ?_)
  obtain ⟨h1, h2⟩ := tyV_is I1 r1 ty
  refine ⟨T, id, pa, slot, hty, h1, h2, ?_⟩
  have hA := ha cpos pins s1 σ H1 _ I1 q1
  rw [hs] at hA ⊢
  refine Calls.callWith_builtin (by show (false || (backTo cpos (starEach es X.env)).any (·.1)) = false; rw [hplain] <;> rfl) (Calls.evalArgs_plain ?_)
  exact thn hA fun us s2 ⟨vs, H2, I2, r2, q2⟩ => hm pins s2 σ H2 x vs v us Q I2 r1 r2 q2
/- xs.append(e), list.index on a module's tuple .. are MtR facts of 06m -/
end
end L2

namespace L2
open PySem PySem.Spec PyProof.Rows

def MtM (X : Cx) (id : String) (r : V → List V → Hp → VK → Prop) : Prop :=
  ∀ (pins : List (Addr × Obj)) (s : Shared) (σ : St) (H : Hp) (x : V) (xs : List V) (v : Value) (us : List Value) (Q : VK), Inv X pins σ H s → RelV x v → Vals xs us → r x xs H Q →
    wpAny (model X.prog X.w) X.A (call (.builtin id) (v :: us)) (EP X pins σ Q) X.xe s

/-! ### lists of values -/
theorem Vals.one : ∀ {x : V} {us : List Value}, Vals [x] us → ∃ u, us = [u] ∧ RelV x u
  | _, _, .cons r .nil => ⟨_, rfl, r⟩
theorem Vals.two : ∀ {x y : V} {us : List Value}, Vals [x, y] us → ∃ u v, us = [u, v] ∧ RelV x u ∧ RelV y v
  | _, _, _, .cons r (.cons q .nil) => ⟨_, _, rfl, r, q⟩
theorem Vals.zero : ∀ {us : List Value}, Vals [] us → us = []
  | _, .nil => rfl
theorem Vals.dropLast {xs : List V} {us : List Value} (h : Vals xs us) : Vals xs.dropLast us.dropLast := by
  induction h with
  | nil => exact .nil
  | cons r t ih =>
    cases t with
    | nil => exact .nil
    | cons q t' => exact .cons r ih
theorem Vals.eraseIdx : ∀ {xs : List V} {us : List Value} (i : Nat), Vals xs us → Vals (xs.eraseIdx i) (us.eraseIdx i)
  | _, _, _, .nil => .nil
  | _, _, 0, .cons _ t => t
  | _, _, i + 1, .cons r t => .cons r (Vals.eraseIdx i t)
theorem Vals.reverse {xs : List V} {us : List Value} (h : Vals xs us) : Vals xs.reverse us.reverse := by
  induction h with
  | nil => exact .nil
  | cons r t ih => rw [List.reverse_cons, List.reverse_cons]; exact Vals.append ih (.cons r .nil)
theorem Vals.rep {xs : List V} {us : List Value} (h : Vals xs us) : ∀ k : Nat, Vals (List.replicate k xs).flatten (List.replicate k us).flatten
  | 0 => .nil
  | k + 1 => by
    rw [List.replicate_succ, List.replicate_succ, List.flatten_cons, List.flatten_cons]
    exact Vals.append h (Vals.rep h k)
theorem erase_last {α : Type} (l : List α) : l.eraseIdx (l.length - 1) = l.dropLast := by
  induction l with
  | nil => rfl
  | cons a r ih =>
    cases r with
    | nil => rfl
    | cons b r =>
      have e : (a :: b :: r).length - 1 = ((b :: r).length - 1) + 1 := by
        have h1 : (a :: b :: r).length = r.length + 2 := rfl
        have h2 : (b :: r).length = r.length + 1 := rfl
        omega
      rw [e, List.eraseIdx_cons_succ, ih]
      all_goals rfl
theorem len_erase {α : Type} : ∀ (l : List α) (i : Nat), (l.eraseIdx i).length ≤ l.length
  | [], _ => Nat.le_refl _
  | _ :: _, 0 => Nat.le_succ _
  | _ :: r, i + 1 => Nat.succ_le_succ (len_erase r i)
theorem foldl_rep (its : List Value) : ∀ (k : Nat) (acc : List Value),
    List.foldl (fun x1 x2 => x1 ++ x2) acc.toArray (List.replicate k its.toArray) = (acc ++ (List.replicate k its).flatten).toArray
  | 0, acc => by simp
  | k + 1, acc => by
    have e : acc.toArray ++ its.toArray = (acc ++ its).toArray := by simp
    have e2 : (acc ++ its) ++ (List.replicate k its).flatten = acc ++ (List.replicate (k + 1) its).flatten := by
      rw [List.replicate_succ, List.flatten_cons, List.append_assoc]
    rw [← e2, ← foldl_rep its k (acc ++ its), ← e, List.replicate_succ, List.foldl_cons]

section
variable {X : Cx} {pins : List (Addr × Obj)} {σ : St} {H : Hp} {s : Shared} {l b : Addr} {xs ys zs : List V}

/-! ### the two steps: a tracked list is rewritten, a new list is laid -/
theorem Inv.lset {its its' : List Value} {n : Nat} {f : Array Value → Array Value} {t' : Nat} (I : Inv X pins σ H s) (hH : H l = some (.lst xs))
    (e : s.heap.get? l = some { cls := .type "list", data := .seq its.toArray n }) (hf : f its.toArray = its'.toArray) (hv : Vals ys its') (hz : ys.length ≤ sizeLine) :
    Inv X pins σ (upd H l (.lst ys)) { s with heap := s.heap.update l (Obj.mapSeq f), toks := t' } := by
  have q := PySem.IsL.update e f
  rw [hf] at q
  refine I.write (x := l) (e := l) (by rw [hH]; exact trivial) (.inl rfl) (fun b' u hb hu => (Heap.get?_update_other s.heap (Obj.mapSeq f) (Ne.symm hb)).trans hu) ⟨_, q⟩ ?_
  exact ⟨hz, its', _, hv, q⟩
theorem Inv.lnew {its : List Value} {t' : Nat} (I : Inv X pins σ H s) (hv : Vals ys its) (hz : ys.length ≤ sizeLine) :
    Inv X pins σ (upd H s.heap.objs.size (.lst ys)) { s with heap := s.heap.push { cls := .type "list", data := .seq its.toArray }, toks := t' } :=
  I.laid (fun _ _ q => Heap.get?_push_of_some _ q) (Nat.le_refl _) ⟨hz, its, 0, hv, Heap.get?_push_size _ rfl⟩
theorem Inv.fresh (I : Inv X pins σ H s) : H s.heap.objs.size = none := I.hok.fresh (Nat.le_refl _)
theorem Inv.lstM (I : Inv X pins σ H s) (hH : H l = some (.lst xs)) : xs.length ≤ sizeLine ∧ ∃ (its : List Value) (n : Nat), Vals xs its ∧ xs.length = its.length ∧ s.heap.get? l = some { cls := .type "list", data := .seq its.toArray n } := by
  obtain ⟨z, its, n, r, e⟩ := I.hok l _ hH
  exact ⟨z, its, n, r, r.length, e⟩

theorem notLongL {n : Nat} (h : n ≤ sizeLine) : Builtin.List.listTooLong n = false := by
  unfold Builtin.List.listTooLong
  exact decide_eq_false (by omega)
end

section
variable {X : Cx}

/-! ### methods -/
def rAppend : V → List V → Hp → VK → Prop := fun x vs H Q => ∃ l xs y, x = .ref l ∧ vs = [y] ∧ H l = some (.lst xs) ∧ xs.length < sizeLine ∧ Q .non (upd H l (.lst (xs ++ [y])))
theorem mt_append : MtM X "list.append" rAppend := by
  intro pins s σ H x vs v us Q I rx rv h
  obtain ⟨l, xs, y, rfl, rfl, hH, hz, q⟩ := h
  cases rx
  obtain ⟨u, rfl, ru⟩ := rv.one
  obtain ⟨z, its, n, r, hl, e⟩ := I.lstM hH
  refine call_meets F.slot_list_append ⟨_, e, rfl⟩ F.entry_list_append (F.args_list_append_2 _ _) (PySem.list_append l its.toArray n u (by rw [List.size_toArray]; omega)) ⟨e, ?_⟩
  refine ⟨.non, _, I.lset (its' := its ++ [u]) hH e (by simp) (r.append (.cons ru .nil)) ?_, rfl, q⟩
  rw [List.length_append, List.length_singleton]
  omega

def rExtend : V → List V → Hp → VK → Prop := fun x vs H Q => ∃ l b xs zs, x = .ref l ∧ vs = [.ref b] ∧ H l = some (.lst xs) ∧ H b = some (.lst zs) ∧ xs.length + zs.length ≤ sizeLine ∧ Q .non (upd H l (.lst (xs ++ zs)))
theorem mt_extend : MtM X "list.extend" rExtend := by
  intro pins s σ H x vs v us Q I rx rv h
  obtain ⟨l, b, xs, zs, rfl, rfl, hH, hB, hz, q⟩ := h
  cases rx
  obtain ⟨u, rfl, ru⟩ := rv.one
  cases ru
  obtain ⟨z, its, n, r, hl, e⟩ := I.lstM hH
  obtain ⟨z2, its2, n2, r2, hl2, e2⟩ := I.lstM hB
  have hsz : its.toArray.size + its2.toArray.size ≤ sizeLine := by rw [List.size_toArray, List.size_toArray]; omega
  have hlong : ¬ (!its.toArray.isEmpty && Builtin.List.listTooLong (its.toArray.size + its2.toArray.size)) = true := by
    rw [notLongL hsz, Bool.and_false]
    exact Bool.false_ne_true
  refine call_meets F.slot_list_extend ⟨_, e, rfl⟩ F.entry_list_extend (F.args_list_extend_2 _ _)
    (AutoSeq1.list_extend_list_list_0 l its.toArray n b its2.toArray n2 hlong (by rw [List.size_toArray]; omega) (by omega)) ⟨e, e2, ?_⟩
  refine ⟨.non, _, I.lset (its' := its ++ its2) hH e (by simp) (r.append r2) ?_, rfl, q⟩
  rw [List.length_append]
  omega

def rPop : V → List V → Hp → VK → Prop := fun x vs H Q => ∃ l xs y, x = .ref l ∧ vs = [] ∧ H l = some (.lst xs) ∧ xs[xs.length - 1]? = some y ∧ Q y (upd H l (.lst xs.dropLast))
theorem mt_pop : MtM X "list.pop" rPop := by
  intro pins s σ H x vs v us Q I rx rv h
  obtain ⟨l, xs, y, rfl, rfl, hH, hy, q⟩ := h
  cases rx
  have hus := rv.zero
  subst hus
  obtain ⟨z, its, n, r, hl, e⟩ := I.lstM hH
  obtain ⟨u, hu, ru⟩ := r.get hy
  have hy' : its.toArray[its.toArray.size - 1]? = some u := by
    show its.toArray[its.length - 1]? = some u
    rw [← Array.getElem?_toList, ← hl]
    exact hu
  refine call_meets F.slot_list_pop ⟨_, e, rfl⟩ F.entry_list_pop (F.args_list_pop_1 _) (MeetsSeq.list_pop_last l its.toArray n u hy' (by rw [List.size_toArray]; omega)) ⟨e, ?_⟩
  refine ⟨y, _, I.lset (its' := its.dropLast) hH e ?_ r.dropLast ?_, ru, q⟩
  · show its.toArray.eraseIdxIfInBounds (its.toArray.size - 1) = its.dropLast.toArray
    rw [List.size_toArray, List.eraseIdxIfInBounds_toArray, erase_last]
  · rw [List.length_dropLast]
    omega

def rPopAt : V → List V → Hp → VK → Prop := fun x vs H Q => ∃ l xs i k y, x = .ref l ∧ vs = [.int i] ∧ H l = some (.lst xs) ∧ -(2 ^ 63) ≤ i ∧ i < 2 ^ 63 ∧ seqIndex? i xs.length = some k ∧ xs[k]? = some y ∧ Q y (upd H l (.lst (xs.eraseIdx k)))
theorem mt_popAt : MtM X "list.pop" rPopAt := by
  intro pins s σ H x vs v us Q I rx rv h
  obtain ⟨l, xs, i, k, y, rfl, rfl, hH, h1, h2, hk, hy, q⟩ := h
  cases rx
  obtain ⟨u, rfl, ru⟩ := rv.one
  obtain ⟨t, rfl⟩ := ru
  obtain ⟨z, its, n, r, hl, e⟩ := I.lstM hH
  obtain ⟨w, hw, rw'⟩ := r.get hy
  refine call_meets F.slot_list_pop ⟨_, e, rfl⟩ F.entry_list_pop (F.args_list_pop_2 _ _)
    (MeetsSeq.list_pop_at l its.toArray n i t k w (fitsIndex_both h1 h2) (by rw [List.size_toArray, ← hl]; exact hk) (by rw [← Array.getElem?_toList]; exact hw) (by rw [List.size_toArray]; omega)) ⟨e, ?_⟩
  refine ⟨y, _, I.lset (its' := its.eraseIdx k) hH e ?_ (r.eraseIdx k) ?_, rw', q⟩
  · show its.toArray.eraseIdxIfInBounds k = (its.eraseIdx k).toArray
    rw [List.eraseIdxIfInBounds_toArray]
  · have := len_erase xs k
    omega

def rReverse : V → List V → Hp → VK → Prop := fun x vs H Q => ∃ l xs, x = .ref l ∧ vs = [] ∧ H l = some (.lst xs) ∧ Q .non (upd H l (.lst xs.reverse))
theorem mt_reverse : MtM X "list.reverse" rReverse := by
  intro pins s σ H x vs v us Q I rx rv h
  obtain ⟨l, xs, rfl, rfl, hH, q⟩ := h
  cases rx
  have hus := rv.zero
  subst hus
  obtain ⟨z, its, n, r, hl, e⟩ := I.lstM hH
  refine call_meets F.slot_list_reverse ⟨_, e, rfl⟩ F.entry_list_reverse (F.args_list_reverse_1 _) (AutoSeq1.list_reverse_list_0 l its.toArray n (by rw [List.size_toArray]; omega)) ⟨e, ?_⟩
  refine ⟨.non, _, I.lset (its' := its.reverse) hH e (by simp) r.reverse ?_, rfl, q⟩
  rw [List.length_reverse]
  omega

def rClear : V → List V → Hp → VK → Prop := fun x vs H Q => ∃ l xs, x = .ref l ∧ vs = [] ∧ H l = some (.lst xs) ∧ Q .non (upd H l (.lst []))
theorem mt_clear : MtM X "list.clear" rClear := by
  intro pins s σ H x vs v us Q I rx rv h
  obtain ⟨l, xs, rfl, rfl, hH, q⟩ := h
  cases rx
  have hus := rv.zero
  subst hus
  obtain ⟨z, its, n, r, hl, e⟩ := I.lstM hH
  refine call_meets F.slot_list_clear ⟨_, e, rfl⟩ F.entry_list_clear (F.args_list_clear_1 _) (AutoSeq1.list_clear_list_0 l its.toArray n (by rw [List.size_toArray]; omega)) ⟨e, ?_⟩
  exact ⟨.non, _, I.lset (its' := []) (ys := []) hH e rfl .nil (Nat.zero_le _), rfl, q⟩

/-! ### list + list, list += list, list * int -/
def rCat : R2 := fun x y H Q => ∃ l b xs zs, x = .ref l ∧ y = .ref b ∧ H l = some (.lst xs) ∧ H b = some (.lst zs) ∧ xs.length + zs.length ≤ sizeLine ∧ ∀ p, H p = none → Q (.ref p) (upd H p (.lst (xs ++ zs)))
theorem op_cat : OpR X (binaryOp .Add) rCat := by
  intro pins s σ H x y v u Q I rx ry h
  obtain ⟨l, b, xs, zs, rfl, rfl, hH, hB, hz, q⟩ := h
  cases rx
  cases ry
  obtain ⟨z, its, n, r, hl, e⟩ := I.lstM hH
  obtain ⟨z2, its2, n2, r2, hl2, e2⟩ := I.lstM hB
  refine PySem.P.add_list e e2 ?_ (by rw [List.size_toArray, List.size_toArray]; omega)
  have ea : its.toArray ++ its2.toArray = (its ++ its2).toArray := by simp
  rw [ea]
  exact ⟨.ref _, _, I.lnew (t' := s.toks) (r.append r2) (by rw [List.length_append]; omega), rfl, q _ I.fresh⟩
/-- a list times an int (a negative one is nothing) -/
def rRep : R2 := fun x y H Q => ∃ l k xs, x = .ref l ∧ y = .int k ∧ H l = some (.lst xs) ∧ -(2 ^ 63) ≤ k ∧ k < 2 ^ 63 ∧ xs.length * k.toNat ≤ sizeLine ∧
  ∀ p, H p = none → Q (.ref p) (upd H p (.lst (List.replicate k.toNat xs).flatten))
theorem len_rep {α : Type} (xs : List α) (k : Nat) : (List.replicate k xs).flatten.length = k * xs.length := by
  induction k with
  | zero => simp
  | succ k ih => rw [List.replicate_succ, List.flatten_cons, List.length_append, ih, Nat.succ_mul, Nat.add_comm]
theorem op_rep : OpR X (binaryOp .Mult) rRep := by
  intro pins s σ H x y v u Q I rx ry h
  obtain ⟨l, k, xs, rfl, rfl, hH, h1, h2, hz, q⟩ := h
  cases rx
  obtain ⟨t, rfl⟩ := ry
  obtain ⟨z, its, n, r, hl, e⟩ := I.lstM hH
  have hlen : its.toArray.size * k.toNat ≤ sizeLine := by rw [List.size_toArray, ← hl]; exact hz
  have hcap : ¬ its.toArray.size * k.toNat > (2 ^ 63 - 1) / 8 := by
    have : (sizeLine : Nat) ≤ (2 ^ 63 - 1) / 8 := by decide
    omega
  have hfit : ¬ (!Builtin.List.listFitsIndex k) = true := by
    rw [fitsIndex_both h1 h2]
    exact Bool.false_ne_true
  have hlong : ¬ Builtin.List.listTooLong (its.toArray.size * k.toNat) = true := by
    rw [notLongL hlen]
    exact Bool.false_ne_true
  have hnew : List.foldl (fun x1 x2 => x1 ++ x2) #[] (List.replicate (if its.toArray.isEmpty = true then 0 else k.toNat) its.toArray) = (List.replicate k.toNat its).flatten.toArray := by
    have f0 : ∀ m : Nat, List.foldl (fun x1 x2 => x1 ++ x2) #[] (List.replicate m its.toArray) = (List.replicate m its).flatten.toArray := fun m => by
      have := foldl_rep its m []
      rw [List.nil_append] at this
      exact this
    rw [f0]
    cases its with
    | nil => simp
    | cons a r' => rw [if_neg (by simp)]
  refine wpAny_binaryOp_repeat_ref (T := "list") (U := "int") (by decide) ⟨_, e, rfl⟩ (fun s' => typeIs_int s' k t) noFill_list_mul F.fills_int_mul F.slot_int_rmul repeat_list F.slot_int_index.lookup
    (call_meets F.slot_int_rmul (typeIs_int s k t) F.entry_int_rmul (F.args_int_rmul_2 _ _) (int___rmul___int_list k t l its.toArray n)
      ⟨e, rfl, ⟨_, e, rfl⟩, call_meets F.slot_list_mul ⟨_, e, rfl⟩ F.entry_list_mul (F.args_list_mul_2 _ _) (AutoListH.list___mul___list_int_3 l its.toArray n k t hfit hcap hlong) ⟨e, ?_⟩⟩)
  rw [hnew]
  exact ⟨.ref _, _, I.lnew (t' := s.toks) (r.rep k.toNat) (by rw [len_rep, Nat.mul_comm]; exact hz), rfl, q _ I.fresh⟩

/-! ### del xs[i] -/
theorem del_list {pins : List (Addr × Obj)} {s : Shared} {σ : St} {H : Hp} {l : Addr} {xs : List V} {i : Int} {t : Tok} {k : Nat} {Q : Unit → Shared → Prop} (I : Inv X pins σ H s) (hH : H l = some (.lst xs))
    (h1 : -(2 ^ 63) ≤ i) (h2 : i < 2 ^ 63) (hk : seqIndex? i xs.length = some k) (h : ∀ s', Inv X pins σ (upd H l (.lst (xs.eraseIdx k))) s' → Q () s') :
    wpAny (model X.prog X.w) X.A (delItem (.ref l) (.int i t)) Q X.xe s := by
  obtain ⟨z, its, n, r, hl, e⟩ := I.lstM hH
  refine PySem.P.delItem_list (k := k) e (fitsIndex_both h1 h2) (by rw [List.size_toArray, ← hl]; exact hk) (h _ ?_) (by rw [List.size_toArray]; omega)
  refine I.lset (its' := its.eraseIdx k) (t' := s.toks) hH e ?_ (r.eraseIdx k) ?_
  · show its.toArray.eraseIdxIfInBounds k = (its.eraseIdx k).toArray
    rw [List.eraseIdxIfInBounds_toArray]
  · have := len_erase xs k
    omega
end

/-! ### xs[a:b] = ys -/
section
variable {prog : Program} {w : World} {A : Around} {E : Value → Shared → Prop} {s : Shared}
theorem splice_eq (its its2 : List Value) (a c : Nat) : its.toArray.extract 0 a ++ its2.toArray ++ its.toArray.extract c its.toArray.size = (its.take a ++ its2 ++ its.drop c).toArray := by
  apply Array.toList_inj.mp
  first
    | (simp
       exact List.take_of_length_le (by simp))
    | simp [List.take_of_length_le]
    | simp
theorem bounds_run {a c n : Nat} (hac : a ≤ c) (hc : c ≤ n) : sliceBounds (some (a : Int)) (some (c : Int)) none n = ((a : Int), (c : Int), 1) := by
  simp only [sliceBounds, Option.getD_none]
  have h1 : ¬ ((a : Int) < 0) := by omega
  have h2 : ¬ ((c : Int) < 0) := by omega
  simp only [h1, h2, if_false, show (1 : Int) > 0 by decide, if_true]
  congr 1
  · omega
  · congr 1; omega
set_option maxRecDepth 100000 in
/-- list.__setitem__ with a slice of step one and another list -/
theorem setItem_slice {l b sl : Addr} {items new : Array Value} {n n2 : Nat} {vl vu : Value} {a c : Nat} {Q : Unit → Shared → Prop}
    (e : s.heap.get? l = some { cls := .type "list", data := .seq items n }) (e2 : s.heap.get? b = some { cls := .type "list", data := .seq new n2 }) (hne : l ≠ b)
    (hs : s.heap.IsSliceOf sl vl vu .none) (pl : IsPart vl (some (a : Int))) (pu : IsPart vu (some (c : Int))) (hac : a ≤ c) (hc : c ≤ items.size)
    (hsz : items.size + new.size ≤ sizeLine) (h : Q () { s with heap := s.heap.update l (Obj.mapSeq fun xs => xs.extract 0 a ++ new ++ xs.extract c xs.size) }) :
    wpAny (model prog w) A (setItem (.ref l) (.ref sl) (.ref b)) Q E s := by
  have hl : s.heap.IsList l items := PySem.IsL.isList e
  have hb : s.heap.IsList b new := PySem.IsL.isList e2
  obtain ⟨os, hos, hcs, hds⟩ := id hs
  have hTs : s.TypeIs (.ref sl) "slice" := ⟨os, hos, hcs⟩
  have hstep : ¬ ((rawPart none == rawInt 0) = true) := Bool.false_ne_true
  have hsame : Builtin.List.listSameRef (.ref l) (.ref b) = false := by
    unfold Builtin.List.listSameRef
    exact beq_eq_false_iff_ne.mpr hne
  have hmax : (max (a : Int) (c : Int)).toNat = c := by omega
  have hz' : ((fun xs : Array Value => xs.extract 0 a ++ new ++ xs.extract c xs.size) items).size ≤ sizeLine + 1 := by
    simp only [Array.size_append, Array.size_extract]
    omega
  unfold setItem
  try with_reducible refine wpAny_holding ?_
  first | refine wpAny_bind (wpAny_pure ?_) | skip
  refine wpAny_bind (wpAny_sequenceKey hl.typeIs (by decide) ?_)
  refine wpAny_bind (wpAny_callSpecial?_slot (name := Str.ofString "__setitem__") hl.typeIs slot_list_setitem
    (wpAny_call_entry slot_list_setitem hl.typeIs entry_list_setitem ?_ (args_list_setitem _ _ _)))
  show wpAny _ _ (Builtin.List.listSubscript? (.ref sl) >>= _) _ _ s
  refine wpAny_bind ?_
  unfold Builtin.List.listSubscript?
  refine wpAny_bind (wpAny_specialOf hTs slice_no_index ?_)
  simp only [Option.isNone_none, if_true]
  refine wpAny_pure ?_
  show wpAny _ _ (typeOf (.ref sl) >>= _) _ _ s
  refine wpAny_bind (wpAny_typeOf hTs ?_)
  first
    | rw [if_neg (by decide)]
    | refine PySem.W.KFB.if_not (by decide) ?_
  rw [listSliceParts_eq]
  refine wpAny_bind (wpAny_bind (wpAny_field hos hds (x := .none) rfl (wpAny_bind (wpAny_listPart .none ?_))))
  rw [if_neg hstep]
  refine wpAny_bind (wpAny_field hos hds (x := vl) rfl (wpAny_bind (wpAny_listPart pl ?_)))
  refine wpAny_bind (wpAny_field hos hds (x := vu) rfl (wpAny_bind (wpAny_listPart pu (wpAny_pure ?_))))
  first
    | simp only [hsame, Bool.false_eq_true, if_false]
    | refine PySem.W.KFB.if_not hsame ?_
    | (dsimp only
       rw [if_neg (by rw [hsame]; exact Bool.false_ne_true)])
  refine wpAny_bind (m := Builtin.List.listAllItems (.ref b) "must assign iterable to extended slice") ?_
  unfold Builtin.List.listAllItems
  refine wpAny_bind (wpAny_typeOf hb.typeIs ?_)
  first
    | refine PySem.W.KFB.if_so (by decide) ?_
    | rw [if_pos (by decide)]
    | simp only [beq_self_eq_true, Bool.true_or, if_true]
  unfold Builtin.List.listItems
  refine wpAny_bind (wpAny_seqItems e2 rfl (wpAny_pure ?_))
  refine wpAny_bind (wpAny_bind (wpAny_seqItems e rfl (wpAny_pure ?_)))
  refine wpAny_bind (wpAny_of_eq ((sliceIndices_raw (some (a : Int)) (some (c : Int)) none items.size (by simp)).trans (congrArg (pure : Int × Int × Int → Sem (Int × Int × Int)) (bounds_run hac hc))) ?_)
  show wpAny _ _ (if ((1 : Int) == 1) = true then _ else _) _ _ s
  rw [if_pos (by decide)]
  refine wpAny_bind (wpAny_rule ?_)
  first
    | simp only [notLongL hsz, Bool.false_eq_true, if_false]
    | refine PySem.W.KFB.if_not (notLongL hsz) ?_
  first | refine wpAny_bind (wpAny_pure ?_) | skip
  show wpAny _ _ (updateSeq l (fun xs => xs.extract 0 ((a : Int)).toNat ++ new ++ xs.extract (max (a : Int) (c : Int)).toNat xs.size) >>= _) _ _ s
  rw [hmax, Int.toNat_natCast]
  refine wpAny_bind (wpAny_updateSeq (hz := Nat.le_trans (Nat.le_add_right _ _) hsz) (_hz' := hz') e rfl ?_)
  refine wpAny_bind (wpAny_letGo ?_)
  first
    | exact wpAny_bind (wpAny_pure (wpAny_pure ⟨.none, rfl, wpAny_pure h⟩))
    | exact wpAny_pure ⟨.none, rfl, wpAny_pure h⟩
end

section
variable {X : Cx}
/-- xs[a:c] = ys of another list, at the value level: sl is the slice object that was just made -/
theorem set_slice {pins : List (Addr × Obj)} {s : Shared} {σ : St} {H : Hp} {l b sl : Addr} {xs ys : List V} {a c : Int} {vl vu : Value} {Q : Unit → Shared → Prop} (I : Inv X pins σ H s)
    (hH : H l = some (.lst xs)) (hB : H b = some (.lst ys)) (hne : l ≠ b) (hs : s.heap.IsSliceOf sl vl vu .none) (ra : RelV (.int a) vl) (rc : RelV (.int c) vu) (h0 : 0 ≤ a) (hac : a ≤ c) (hc : c ≤ xs.length)
    (hz : xs.length + ys.length ≤ sizeLine) (h : ∀ s', Inv X pins σ (upd H l (.lst (xs.take a.toNat ++ ys ++ xs.drop c.toNat))) s' → Q () s') :
    wpAny (model X.prog X.w) X.A (setItem (.ref l) (.ref sl) (.ref b)) Q X.xe s := by
  obtain ⟨ta, rfl⟩ := ra
  obtain ⟨tc, rfl⟩ := rc
  obtain ⟨z, its, n, r, hl, e⟩ := I.lstM hH
  obtain ⟨z2, its2, n2, r2, hl2, e2⟩ := I.lstM hB
  obtain ⟨a', rfl⟩ := Int.eq_ofNat_of_zero_le h0
  obtain ⟨c', rfl⟩ := Int.eq_ofNat_of_zero_le (Int.le_trans h0 hac)
  simp only [Int.toNat_natCast] at h
  refine setItem_slice (a := a') (c := c') e e2 hne hs (.int _ _) (.int _ _) (by omega) (by rw [List.size_toArray]; omega) (by rw [List.size_toArray, List.size_toArray]; omega) (h _ ?_)
  refine I.lset (its' := its.take a' ++ its2 ++ its.drop c') (t' := s.toks) hH e ?_ (Vals.append (Vals.append (r.take _) r2) (r.drop _)) ?_
  · exact splice_eq its its2 a' c'
  · rw [List.length_append, List.length_append, List.length_take, List.length_drop]
    omega
end
end L2

namespace Att
open PySem PySem.W PySem.Calls PyProof.Rows

/-! ### the script -/
theorem ints_of_wellAll {P : Params} {h : Heap} : ∀ (ns : List Int) (vs : List Value), WellAll P h vs (ns.map WData.int) → IntsAre vs ns := by
  intro ns
  induction ns with
  | nil =>
    intro vs w
    rw [List.map_nil] at w
    cases w
    exact .nil
  | cons n ns ih =>
    intro vs w
    rw [List.map_cons] at w
    cases w with
    | cons a b =>
      cases a
      exact .cons _ _ (ih _ b)

theorem script_of {l : OpenLaw} {n : Nat} (hn : l.most = some n) {P : Params} {h : Heap} {args : List WData} {vals : List Value}
    (hpre : l.row.toRowW.claim.pre args = true) (hwl : WellAll P h vals args) :
    ∃ a vs ns, vals = [Value.ref a] ∧ args = [WData.list (ns.map WData.int)] ∧ h.get? a = some { cls := .type "list", data := .seq vs.toArray } ∧ IntsAre vs ns ∧ ns.length ≤ n := by
  have hsh : WShape.hasAll [] args [.list .int] = true := (pre_splitW hpre).1
  have hc : l.pre.holds [] { args := args } = true := (pre_splitW hpre).2
  obtain ⟨d, r, rfl, h1, h2⟩ := hasAllW_cons hsh
  obtain rfl := hasAllW_nil h2
  obtain ⟨xs, rfl, h3⟩ := hasW_list h1
  obtain ⟨ns, rfl⟩ := items_int h3
  have hlen : ns.length ≤ n := by
    unfold OpenLaw.pre at hc
    have h4 : (WTm.not (.lt (.lit (.int (n : Int))) (.len (.arg 0)))).holds [] { args := [.list (ns.map .int)] } = true := by
      have h4 := (holds_andW hc).1
      rw [hn] at h4
      exact h4
    have h5 := condW_of h4 (w_not (w_lt w_lit (w_len_list (w_arg rfl))))
    rw [List.length_map] at h5
    refine Nat.le_of_not_lt fun q => ?_
    have q' : (n : Int) < ((ns.length : Nat) : Int) := by omega
    first
      | (rw [decide_eq_true q'] at h5; exact absurd h5 (by decide))
      | (simp at h5; omega)
  cases hwl with
  | cons w1 w2 =>
    cases w2
    cases w1 with
    | list ho hall => exact ⟨_, _, ns, rfl, rfl, ho, ints_of_wellAll ns _ hall, hlen⟩

theorem post_true (l : OpenLaw) (args : List WData) : l.row.toRowW.claim.post args (.bool true) args = true :=
  postW_of (r := l.row.toRowW) (X := (true == true))
    (show WShape.has [] (.bool true) .bool = true by first | rfl | decide | simp [WShape.has, WShape.arms, WShape.armsAll])
    (show (WTm.eq .res (.lit (.bool true))).value [] { args := args, res := some (.bool true), after := args } = some (.bool (true == true)) from w_eq_bool (w_res rfl) w_lit) rfl

/-! ### the attachment: holds_open's last premise (the goal 'hc' behind k_head) from a wpAny of the law's body -/
theorem attach {l : OpenLaw} {n : Nat} {q : Program} {loose : List Str} {XP : (Str → Option Value) → Heap → Prop} {YP : World → Heap → Prop} {d : DefRec} {x : Str}
    (hn : l.most = some n) (hdf : d.params.defaults = [])
    (hbind : ∀ pm cd doc v : Value, bindArgs (docDef d.name d.params d.body d.scope pm cd doc) ⟨[v], []⟩ = pure [(x, v)])
    (hx : d.scope.names.lookup x = some .local ∨ d.scope.names.lookup x = some .cell)
    (hk : d.scope.kind = .function) (hco : d.scope.isCoroutine = false) (hgen : d.scope.isGenerator = false)
    (body : ∀ (w : World) (s₀ s₁ s : Shared) (mg mb : Str → Option Value) (fa : Addr) (o : Obj) (pm cd doc : Value) (a : Addr) (vs : List Value) (ns : List Int),
      Ground q loose [] XP w s₀ mg mb s₁.heap → YP w s₁.heap →
      s₁.heap.get? fa = some o → o.data = .func (docDef d.name d.params d.body d.scope pm cd doc) → s₁.heap.CodeRec cd d.name → mg d.name = some (.ref fa) →
      s₁.heap.get? a = some { cls := .type "list", data := .seq vs.toArray } → IntsAre vs ns → ns.length ≤ n →
      s.gens = #[] → s.os = s₁.os →
      Fr s₁.heap s₁.heap.objs.size s.heap (bindL (envOfC d.name d.scope s₁.heap.objs.size fa cd).kindOf [(x, .ref a)] fun _ => none) →
      Cl s₁.heap.objs.size (cellsFrom (s₁.heap.objs.size + 1) d.scope.names []) s.heap (bindC (envOfC d.name d.scope s₁.heap.objs.size fa cd).kindOf [(x, .ref a)] fun _ => none) →
      wpAny (model l.prog w) (callerA.deeper (envOfC d.name d.scope s₁.heap.objs.size fa cd)) (execs d.body (envOfC d.name d.scope s₁.heap.objs.size fa cd))
        (fun f s' => f = .ret (.bool true) ∧ OldK s₁.heap s'.heap ∧ s'.os = s₁.os ∧ AllBare s'.gens) (fun _ _ => False) s) :
    WalkO q loose XP YP l.row.toRowW d [] (fun f vs => PySem.call f vs) := by
  intro w s₀ s₁ mg mb G Y fa o pm cd doc dV kV ho hd hcd hD hmg hg args vals as hpre hlay hrd hwl hlo
  obtain rfl : dV = .none := Dflts.none hD hdf
  obtain rfl : kV = .none := Dflts.noKw hD
  obtain ⟨a, vs, ns, rfl, rfl, hobj, hints, hlen⟩ := script_of hn hpre hwl
  refine enter_call ?_
  refine call_cells_ret (o := o) (by rw [depth_caller]; decide) ho (fd_plain hd) G.T.nolimit hcd (hbind pm cd doc (.ref a)) (fun y hy => ?_) (fun h₁ tk F X => ?_) hco hgen hk
  · obtain rfl : y = (x, Value.ref a) := List.mem_singleton.mp hy
    rcases hx with e | e
    · exact .inl e
    · exact .inr ⟨e, cellsFrom_some _ _ _ (.inl e)⟩
  · refine wpAny_mono (body w s₀ s₁ { s₁ with heap := h₁, toks := tk } mg mb fa o pm cd doc a vs ns G Y ho (fd_plain hd) hcd hmg hobj hints hlen hg rfl F X) (fun f s' hq => ?_) (fun _ _ hq => hq)
    obtain ⟨rfl, h2, h3, h4⟩ := hq
    exact ⟨.inl ⟨.bool true, .bool true, [], rfl, fun _ => rfl, .bool true, post_true l _, fun _ => ⟨List.Pairwise.nil, fun _ hm => (nomatch hm)⟩⟩, h2, h3, h4⟩

/-- the same from a codeAny of the CALL (for a layer whose function contracts speak of calls) -/
theorem attach_call {l : OpenLaw} {n : Nat} {q : Program} {loose : List Str} {XP : (Str → Option Value) → Heap → Prop} {YP : World → Heap → Prop} {d : DefRec}
    (hn : l.most = some n) (hdf : d.params.defaults = [])
    (call : ∀ (w : World) (s₀ s₁ : Shared) (mg mb : Str → Option Value) (fa : Addr) (o : Obj) (pm cd doc : Value) (a : Addr) (vs : List Value) (ns : List Int),
      Ground q loose [] XP w s₀ mg mb s₁.heap → YP w s₁.heap →
      s₁.heap.get? fa = some o → o.data = .func (docDef d.name d.params d.body d.scope pm cd doc) → s₁.heap.CodeRec cd d.name → mg d.name = some (.ref fa) →
      s₁.heap.get? a = some { cls := .type "list", data := .seq vs.toArray } → IntsAre vs ns → ns.length ≤ n → s₁.gens = #[] →
      codeAny (model l.prog w) callerA (.call (.ref fa) ⟨[.ref a], []⟩) (fun r s' => r = .ok (.ret (.bool true)) ∧ OldK s₁.heap s'.heap ∧ s'.os = s₁.os ∧ AllBare s'.gens) s₁) :
    WalkO q loose XP YP l.row.toRowW d [] (fun f vs => PySem.call f vs) := by
  intro w s₀ s₁ mg mb G Y fa o pm cd doc dV kV ho hd hcd hD hmg hg args vals as hpre hlay hrd hwl hlo
  obtain rfl : dV = .none := Dflts.none hD hdf
  obtain rfl : kV = .none := Dflts.noKw hD
  obtain ⟨a, vs, ns, rfl, rfl, hobj, hints, hlen⟩ := script_of hn hpre hwl
  refine enter_call (codeAny_mono (call w s₀ s₁ mg mb fa o pm cd doc a vs ns G Y ho (fd_plain hd) hcd hmg hobj hints hlen hg) fun r s' hq => ?_)
  obtain ⟨rfl, h2, h3, h4⟩ := hq
  exact ⟨.inl ⟨.bool true, .bool true, [], rfl, fun _ => rfl, .bool true, post_true l _, fun _ => ⟨List.Pairwise.nil, fun _ hm => (nomatch hm)⟩⟩, h2, h3, h4⟩

/-- the same where the top left finished generators (o_head chose holds_openN): nothing may have changed at all and no generator may be left -/
theorem attachN {l : OpenLaw} {n : Nat} {q : Program} {loose : List Str} {XP : (Str → Option Value) → Heap → Prop} {YP : World → Heap → Prop} {d : DefRec} {x : Str}
    (hn : l.most = some n) (hdf : d.params.defaults = [])
    (hbind : ∀ pm cd doc v : Value, bindArgs (docDef d.name d.params d.body d.scope pm cd doc) ⟨[v], []⟩ = pure [(x, v)])
    (hx : d.scope.names.lookup x = some .local ∨ d.scope.names.lookup x = some .cell)
    (hk : d.scope.kind = .function) (hco : d.scope.isCoroutine = false) (hgen : d.scope.isGenerator = false)
    (body : ∀ (w : World) (s₀ s₁ s : Shared) (mg mb : Str → Option Value) (fa : Addr) (o : Obj) (pm cd doc : Value) (a : Addr) (vs : List Value) (ns : List Int),
      Ground q loose [] XP w s₀ mg mb s₁.heap → YP w s₁.heap →
      s₁.heap.get? fa = some o → o.data = .func (docDef d.name d.params d.body d.scope pm cd doc) → s₁.heap.CodeRec cd d.name → mg d.name = some (.ref fa) →
      s₁.heap.get? a = some { cls := .type "list", data := .seq vs.toArray } → IntsAre vs ns → ns.length ≤ n →
      s.gens = #[] → s.os = s₁.os →
      Fr s₁.heap s₁.heap.objs.size s.heap (bindL (envOfC d.name d.scope s₁.heap.objs.size fa cd).kindOf [(x, .ref a)] fun _ => none) →
      Cl s₁.heap.objs.size (cellsFrom (s₁.heap.objs.size + 1) d.scope.names []) s.heap (bindC (envOfC d.name d.scope s₁.heap.objs.size fa cd).kindOf [(x, .ref a)] fun _ => none) →
      wpAny (model l.prog w) (callerA.deeper (envOfC d.name d.scope s₁.heap.objs.size fa cd)) (execs d.body (envOfC d.name d.scope s₁.heap.objs.size fa cd))
        (fun f s' => f = .ret (.bool true) ∧ (∀ b o, s₁.heap.get? b = some o → s'.heap.get? b = some o) ∧ s'.os = s₁.os ∧ s'.gens = #[]) (fun _ _ => False) s) :
    WalkN q loose XP YP l.row.toRowW d [] (fun f vs => PySem.call f vs) := by
  intro w s₀ s₁ mg mb G Y fa o pm cd doc dV kV ho hd hcd hD hmg hg args vals as hpre hlay hrd hwl hlo
  obtain rfl : dV = .none := Dflts.none hD hdf
  obtain rfl : kV = .none := Dflts.noKw hD
  obtain ⟨a, vs, ns, rfl, rfl, hobj, hints, hlen⟩ := script_of hn hpre hwl
  refine enter_callW ?_
  refine call_cells_ret (o := o) (by rw [depth_caller]; decide) ho (fd_plain hd) G.T.nolimit hcd (hbind pm cd doc (.ref a)) (fun y hy => ?_) (fun h₁ tk F X => ?_) hco hgen hk
  · obtain rfl : y = (x, Value.ref a) := List.mem_singleton.mp hy
    rcases hx with e | e
    · exact .inl e
    · exact .inr ⟨e, cellsFrom_some _ _ _ (.inl e)⟩
  · refine wpAny_mono (body w s₀ s₁ { s₁ with heap := h₁, toks := tk } mg mb fa o pm cd doc a vs ns G Y ho (fd_plain hd) hcd hmg hobj hints hlen hg rfl F X) (fun f s' hq => ?_) (fun _ _ hq => hq)
    obtain ⟨rfl, h2, h3, h4⟩ := hq
    exact ⟨.inl ⟨.bool true, .bool true, [], rfl, fun _ => rfl, .bool true, post_true l _, fun _ => ⟨List.Pairwise.nil, fun _ hm => (nomatch hm)⟩⟩, h2, h3, h4⟩

/-! ### rules over ANY heap (no ledger) from facts about the written part K: the library's own take a ledger (News) for what they write -/
section
variable {prog : Program} {w : World} {A : Around} {E : Value → Shared → Prop} {s : Shared} {K : Frag}

/-- a def of the module, or a method (qual 'C.m'), entered: the frame is the next address; cells behind it -/
theorem call_fn {R : Result → Shared → Prop} {name qual : Str} {params : Arguments} {body : List Stmt} {scope : Scope} {dV kV doc pm cdv ct oc : Value} {an od : Option Addr} {osl : Array (Option Value)} {f : Addr} {args : Args} {binds : List (Str × Value)}
    (X : K.In s.heap) (hlim : s.heap.NoLimit) (ho : K.lookup f = some ⟨oc, od, .func (fnOf name qual params body scope dV kV doc pm an cdv ct), osl⟩) (hcd : codeIn K cdv qual = true) (hroom : A.depth < recursionLimit)
    (hbind : BindsTo s (fnOf name qual params body scope dV kV doc pm an cdv ct) args binds)
    (hkind : (binds.all fun y => scope.names.lookup y.1 == some .local || scope.names.lookup y.1 == some .cell) = true)
    (h : ∀ s₁, InCallC s s.heap.objs.size (bindL (envOfC qual scope s.heap.objs.size f cdv).kindOf binds fun _ => none) (cellsFrom (s.heap.objs.size + 1) scope.names [])
        (bindC (envOfC qual scope s.heap.objs.size f cdv).kindOf binds fun _ => none) s₁ →
      wpAny (model prog w) (A.deeper (envOfC qual scope s.heap.objs.size f cdv)) (execs body (envOfC qual scope s.heap.objs.size f cdv))
        (fun fl s' => R (.ok (.ret (match fl with | .ret v => v | _ => .none))) s')
        (fun e s' => wpAny (model prog w) (A.deeper (envOfC qual scope s.heap.objs.size f cdv)) (leaving (envOfC qual scope s.heap.objs.size f cdv) e) (fun _ s'' => R (.error e) s'') (fun e' s'' => R (.error e') s'') s') s₁)
    (hco : scope.isCoroutine = false) (hgen : scope.isGenerator = false) (hk : scope.kind = .function) : codeAny (model prog w) A (.call (.ref f) args) R s := by
  refine codeAny_call_function hroom (X _ _ ho) rfl hco hgen rfl (codeRec_of X hcd) (hbind _ _ _ _ ?_)
  refine wpAny_newFunctionEnv_cells hk (kindsX hkind _) fun env he s₁ x => ?_
  subst he
  exact ⟨hlim.keeps x.toInCall.keep, codeAny_func (h s₁ x)⟩

/-- C(..): dict at size, instance at size + 1, then __init__ -/
theorem make_obj {R : Result → Shared → Prop} {C fI : Addr} {rest : List Value} {kw : List (Str × Value)}
    (X : K.In s.heap) (hm : makesIn K C = true) (hi : findIn K (.ref C) "__init__" = some (some (.ref fI))) (hf : isFn K (.ref fI) = true)
    (h : codeAny (model prog w) (A.under (.builtin "type.__call__" ⟨.ref C :: rest, kw⟩)) (.call (.ref fI) ⟨.ref (s.heap.objs.size + 1) :: rest, kw⟩) (InitBack (s.heap.objs.size + 1) R)
      { s with heap := (s.heap.push emptyDict).push (instObj C s.heap.objs.size) }) : codeAny (model prog w) A (.call (.ref C) ⟨rest, kw⟩) R s := by
  obtain ⟨hh, g, d, t, os⟩ := s
  exact make_core (makes_of X hm) (looks_findIn X hi) (fun self => bind_fn X self (beq_iff_eq.mp hf)) (.inl rfl) h

/-- x.name where the instance's dict holds the name and the class does not -/
theorem get_field {x C : Addr} {ox : Obj} {es : List DictEntry} {n : Nat} {name : Str} {expr : Bool} {v : Value} {Q : Value → Shared → Prop}
    (X : K.In s.heap) (I : PySem.W.InstAt s.heap x ox C (some (dictOf es n))) (hg : plainGet K C name = true) (hh : hasDictIn K C = true) (ha : findIn K (.ref C) name = some none)
    (hl : getL name es = some (some v)) (hv : handedIn v = true) (h : Q v { s with toks := s.toks + 1 }) : wpAny (model prog w) A (getAttr (.ref x) name expr) Q E s :=
  get_value X I (plainGet_of hg).1 (findObj_own hh ha rfl hl) hv h

/-- x.m(..): the method found in the class -/
theorem get_method {x C f : Addr} {ox : Obj} {es : List DictEntry} {n : Nat} {name : Str} {pl : Sem Bool} {Q : Value × List Value → Shared → Prop}
    (X : K.In s.heap) (I : PySem.W.InstAt s.heap x ox C (some (dictOf es n))) (hg : plainGet K C name = true) (hf : findIn K (.ref C) name = some (some (.ref f))) (ht : isFn K (.ref f) = true)
    (hl : getL name es = some none) (h : Q (.ref f, [.ref x]) s) : wpAny (model prog w) A (getMethod (.ref x) name pl) Q E s :=
  method_fn X I (plainGet_of hg).1 (plainGet_of hg).2 hf (beq_iff_eq.mp ht) (by show (lookIn name (dictOf es n)).map _ = _; rw [lookIn_dict, hl]; rfl) h

/-! the whole heap as the ledger: makes every rule that writes through a ledger a rule over any heap -/
def noObjs (h : Heap) : Heap := { h with objs := #[] }
theorem noObjs_get (h : Heap) (b : Addr) : (noObjs h).get? b = none := by
  cases e : (noObjs h).get? b with
  | none => rfl
  | some o => exact absurd (Heap.lt_size e) (Nat.not_lt_zero _)
def ledger (h : Heap) (L d : Addr) : List (Addr × Obj) := (List.range h.objs.size).filterMap fun a => if a = L ∨ a = d then none else (h.get? a).map fun o => (a, o)
theorem mem_ledger {h : Heap} {L d a : Addr} {o : Obj} : (a, o) ∈ ledger h L d ↔ a ≠ L ∧ a ≠ d ∧ h.get? a = some o := by
  unfold ledger
  rw [List.mem_filterMap]
  constructor
  · rintro ⟨b, _, e⟩
    split at e
    · cases e
    · rename_i hb
      obtain ⟨o', ho, e'⟩ := Option.map_eq_some_iff.mp e
      cases e'
      exact ⟨fun q => hb (.inl q), fun q => hb (.inr q), ho⟩
  · rintro ⟨n1, n2, ho⟩
    refine ⟨a, List.mem_range.mpr (Heap.lt_size ho), ?_⟩
    rw [if_neg (show ¬ (a = L ∨ a = d) from fun q => q.elim n1 n2), ho] <;> rfl
theorem news_ledger {h : Heap} {L d : Addr} {od : Obj} (hne : d ≠ L) (ho : h.get? d = some od) : News (noObjs h) L h ([] ++ (d, od) :: ledger h L d) := by
  rintro ⟨a, o⟩ hp
  rcases List.mem_cons.mp hp with e | hp
  · cases e
    exact ⟨ho, hne, noObjs_get _ _⟩
  · obtain ⟨n1, n2, e⟩ := mem_ledger.mp hp
    exact ⟨e, n1, noObjs_get _ _⟩
theorem fr_all {h : Heap} {L : Addr} {m : Str → Option Value} (n : h.Ns L m) : Fr (noObjs h) L h m :=
  ⟨n, fun b o e => (by rw [noObjs_get] at e; cases e), Nat.zero_le _⟩
/-- Upd of the head entry (for append_K, setItem_K ..) -/
theorem upd_ledger {h : Heap} {L d : Addr} {o o' : Obj} : Upd d o o' ((d, o) :: ledger h L d) ((d, o') :: ledger h L d) :=
  .head fun ⟨_, _⟩ hp => (mem_ledger.mp hp).2.1

/-- x.name = v over any heap: L is any namespace of the heap (the frame's, say): its map stays, its object is not told; all else but the dict stays -/
theorem set_field {x C dx L : Addr} {ox : Obj} {m : Str → Option Value} {es es' : List DictEntry} {n n' : Nat} {name : Str} {v : Value} {Q : Unit → Shared → Prop}
    (X : K.In s.heap) (I : PySem.W.InstAt s.heap x ox C (some (dictOf es n))) (hd : ox.dict = some dx) (hL : s.heap.Ns L m) (hne : dx ≠ L)
    (hs : findIn K (.ref C) "__setattr__" = some (some (.builtin "object.__setattr__"))) (hp : plainOver K C = true) (ht : takerIn K C name = some none) (hh : hasDictIn K C = true) (hl : (getL name es).isSome = true)
    (e : (putL name (PyData.keyHash w.params name) (.str name (s.toks + 1)) v es, putN name es n) = (es', n')) (hz : es'.length ≤ 1000)
    (h : ∀ h' : Heap, h'.Ns L m → h'.get? dx = some (dictOf es' n') → (∀ b o, b ≠ dx → b ≠ L → s.heap.get? b = some o → h'.get? b = some o) → Q () { s with heap := h', toks := s.toks + 2 }) :
    wpAny (model prog w) A (setAttr (.ref x) name v) Q E s := by
  obtain ⟨e1, e2⟩ := Prod.mk.inj e
  have hdx : s.heap.get? dx = some (dictOf es n) := by
    have := I.dict
    rw [hd] at this
    exact this
  refine set_plain X I hs (osa_dict (s := { s with toks := s.toks + 1 }) (h₀ := noObjs s.heap) (L := L) (m := m) (od := dictOf es n) (od' := dictOf es' n') (es := es') (n := n') (pre := []) (post := ledger s.heap L dx)
    (fr_all hL) (news_ledger hne hdx) X I hd hp ht hh hl (fun _ q => nomatch q) (fun ⟨_, _⟩ q => (mem_ledger.mp q).2.1) (by rw [putName_dict, e1, e2]) rfl hz fun h' F' N' => ?_)
  exact h h' F'.ns (N'.get (List.Mem.head _)) fun b o n1 n2 ho => N'.get (List.Mem.tail _ (mem_ledger.mpr ⟨n2, n1, ho⟩))
end
end Att

namespace L2
open PySem PySem.Spec PyProof.Rows

theorem vals_ints : ∀ {vs : List Value} {ns : List Int}, IntsAre vs ns → Vals (ns.map V.int) vs
  | _, _, .nil => .nil
  | _, _, .cons n t h => .cons ⟨t, rfl⟩ (vals_ints h)

/-- nothing is tracked but the script, known to the object (or it is an object of the module) -/
def Only (H : Hp) : Prop := ∀ b, H b = none ∨ ∃ o xs, H b = some (.frz o (.lst xs))

/-- THE HEAD: the law's promise, at the heap behind the top. F, the promise of the law's def, may use that base is part of the heap (so K.In base, base.Ns mainGlobals mg stand in Mod) -/
theorem law_call {P : Program} {w : World} {K : PySem.W.Frag} {mg mb : Str → Option Value} {CX : CXT} {k : Nat} {fa a : Addr} {fd : FuncData} {x : Str} {sp : Sp} {s₁ : Shared} {vs : List Value} {ns : List Int}
    (KX : K.In s₁.heap) (hns : s₁.heap.Ns mainGlobals mg) (hb : s₁.heap.Ns builtinsNs mb) (hbb : ∀ x : Str, x ≠ "__name__" → mb x = bootBuiltins x) (hlim : s₁.heap.NoLimit) (hg : s₁.gens = #[])
    (ha : s₁.heap.get? a = some { cls := .type "list", data := .seq vs.toArray }) (hi : IntsAre vs ns) (hl : ns.length ≤ sizeLine) (hr : Room k callerA)
    (F : ∀ base : Heap, K.In base → base.Ns mainGlobals mg → FnOk P w K mg base CX k fa fd [x] sp) (hbind : ∀ (s : Shared) (u : Value), BindsTo s fd ⟨[u], []⟩ [(x, u)])
    (hsp : ∀ H : Hp, Only H → SqL K H a (ns.map V.int) → sp [.ref a] H (fun v _ => v = .bl true) fun _ _ _ => False)
    (hCX : ∀ H e s', CX [] H s₁ (fun _ _ _ => False) e s' → False) :
    codeAny (model P w) callerA (.call (.ref fa) ⟨[.ref a], []⟩) (fun r s' => r = .ok (.ret (.bool true)) ∧ OldK s₁.heap s'.heap ∧ s'.os = s₁.os ∧ AllBare s'.gens) s₁ := by
  have rv := vals_ints hi
  have lenV := hi.length
  -- from an abstract heap in which nothing but the script may be tracked
  have core : ∀ H : Hp, Only H → SqL K H a (ns.map V.int) → HOk P w H s₁.heap → (∀ b, H b ≠ none → b = a) → (H a ≠ none → K.lookup a = none) →
      codeAny (model P w) callerA (.call (.ref fa) ⟨[.ref a], []⟩) (fun r s' => r = .ok (.ret (.bool true)) ∧ OldK s₁.heap s'.heap ∧ s'.os = s₁.os ∧ AllBare s'.gens) s₁ := by
    intro H hO hS hok hA hK
    have base_of : ∀ {b : Addr} {o : Obj}, s₁.heap.get? b = some o → H b = none → (hidT s₁.heap H).get? b = some o := fun e n => hidT_get e n
    have noA : ∀ {b : Addr} {o : Obj} {es : Array DictEntry} {ep : Nat}, s₁.heap.get? b = some o → o.data = .dict es ep → H b = none := fun {b o es ep} e d => by
      cases q : H b with
      | none => rfl
      | some u =>
        have e' : b = a := hA b (by rw [q]; simp)
        subst e'
        rw [ha] at e; cases e
        have d' : Data.seq vs.toArray _ = Data.dict es ep := d
        cases d'
    have nsK : ∀ {b : Addr} {m : Str → Option Value}, s₁.heap.Ns b m → (hidT s₁.heap H).Ns b m := fun {b m} ⟨o, es, ep, e, d, r⟩ => ⟨o, es, ep, base_of e (noA e d), d, r⟩
    have hKb : K.In (hidT s₁.heap H) := fun b o e => base_of (KX b o e) (by
      cases q : H b with
      | none => rfl
      | some u =>
        have e' : b = a := hA b (by rw [q]; simp)
        subst e'
        rw [hK (by rw [q]; simp)] at e; cases e)
    have hM : Mod K mg (hidT s₁.heap H) := ⟨hKb, nsK hns, ⟨mb, nsK hb, hbb⟩, let ⟨mc, h1, h2⟩ := hlim; ⟨mc, nsK h1, h2⟩⟩
    have e0 : Env0 P w K mg (hidT s₁.heap H) callerA [] s₁ H := ⟨rfl, hM, fun b o e => of_hidT e, Nat.le_of_eq (hidT_size _ _), trivial, fun b hb => absurd (show b ∈ ([] : List Addr) from hb) (by simp), hok, .of_eq hg⟩
    refine codeAny_mono ((F _ hKb (nsK hns)).run callerA [] s₁ H ⟨[.ref a], []⟩ [.ref a] [.ref a] _ _ hr e0 (hbind s₁ (.ref a)) (.cons rfl .nil) (hsp H hO hS)) fun r s' h => ?_
    cases r with
    | error e => exact (hCX H e s' h).elim
    | ok fl =>
      cases fl with
      | next => exact False.elim h
      | brk => exact False.elim h
      | cont => exact False.elim h
      | ret u =>
        obtain ⟨v, H', os, bare, un, hok', r', q⟩ := h
        have q' : v = .bl true := q
        subst q'
        obtain rfl : u = Value.bool true := r'
        refine ⟨rfl, OldK.of_keep fun b o e => ?_, os, bare⟩
        cases q : H b with
        | none => exact un.keep b o e q (by intro z; exact absurd (show b ∈ ([] : List Addr) from z) (by simp)) (by simp)
        | some u =>
          rcases hO b with z | ⟨ob, xs, z⟩
          · rw [q] at z; cases z
          · have z2 := un.frzs b ob _ z
            obtain ⟨e1, _⟩ := hok b _ z
            obtain ⟨e2, _⟩ := hok' b _ z2
            rw [e] at e1; cases e1
            exact e2
  cases hk : K.lookup a with
  | some o =>
    -- the script is one of the module's own objects
    have e := KX a o hk
    rw [ha] at e
    cases e
    refine core (fun _ => none) (fun _ => .inl rfl) (.inr ⟨_, vs.toArray, _, hk, rfl, rfl, rfl, by rw [List.size_toArray, lenV]; exact hl, by simpa using rv⟩) (fun b u z => by have z' : (none : Option HO) = some u := z; cases z') (fun b z => absurd rfl z) fun z => absurd rfl z
  | none =>
    refine core (fun b => if b = a then some (.frz { cls := .type "list", data := .seq vs.toArray } (.lst (ns.map V.int))) else none) (fun b => ?_) (.inl (.inr ⟨{ cls := .type "list", data := .seq vs.toArray }, if_pos rfl⟩)) (fun b u z => ?_) (fun b z => ?_) fun _ => hk
    · by_cases hb : b = a
      · exact .inr ⟨_, _, if_pos hb⟩
      · exact .inl (if_neg hb)
    · by_cases hb : b = a
      · have z' := (if_pos hb).symm.trans z
        cases z'
        subst hb
        exact ⟨ha, by rw [List.length_map]; exact hl, vs, _, rv, ha⟩
      · have z' := (if_neg hb).symm.trans z
        cases z'
    · by_cases hb : b = a
      · exact hb
      · exact absurd (if_neg hb) z
end L2

namespace L2
open PySem PySem.Spec PyProof.Rows

abbrev KOf {K : PySem.W.Frag} {h : Heap} (_ : K.In h) : PySem.W.Frag := K

/-- the goal that k_head leaves (case hc), from the law's promise. F gives the function object fd (K's own) once, then the promise over every base -/
theorem walk_of {l : PySem.W.OpenLaw} {n k : Nat} {q : Program} {loose : List Str} {XP : (Str → Option Value) → Heap → Prop} {YP : World → Heap → Prop} {d : DefRec} {K : Params → PySem.W.Frag} {CX : World → CXT} {sp : World → Sp} {x : Str}
    (hn : l.most = some n) (hn2 : n ≤ sizeLine) (hdf : d.params.defaults = []) (hr : Room k callerA)
    (hY : ∀ (w : World) (h : Heap), YP w h → (K w.params).In h)
    (F : ∀ (w : World) (mg : Str → Option Value) (fa : Addr) (h : Heap), (K w.params).In h → h.Ns mainGlobals mg → mg d.name = some (.ref fa) →
      ∃ fd : FuncData, (∀ (s : Shared) (u : Value), BindsTo s fd ⟨[u], []⟩ [(x, u)]) ∧
        ∀ base : Heap, (K w.params).In base → base.Ns mainGlobals mg → FnOk l.prog w (K w.params) mg base (CX w) k fa fd [x] (sp w))
    (hsp : ∀ (w : World) (H : Hp) (a : Addr) (ns : List Int), ns.length ≤ n → Only H → SqL (K w.params) H a (ns.map V.int) → sp w [.ref a] H (fun v _ => v = .bl true) fun _ _ _ => False)
    (hCX : ∀ (w : World) (H : Hp) (s : Shared) (e : Value) (s' : Shared), CX w [] H s (fun _ _ _ => False) e s' → False) :
    PySem.W.WalkO q loose XP YP l.row.toRowW d [] (fun f vs => PySem.call f vs) := by
  refine Att.attach_call hn hdf fun w s₀ s₁ mg mb fa o pm cd doc a vs ns G Y ho hd hcd hmg hobj hints hlen hg => ?_
  have KX := hY w _ Y
  obtain ⟨fd, hb, hF⟩ := F w mg fa _ KX G.T.g hmg
  exact law_call KX G.T.g G.T.b G.T.builtins G.T.nolimit hg hobj hints (Nat.le_trans hlen hn2) hr hF hb (fun H hO hS => hsp w H a ns hlen hO hS) fun H e s' => hCX w H s₁ e s'
/-- the same where the promise hangs on the written part alone: (sp := My.sp_law), no hole under a binder -/
theorem walk_ofK {l : PySem.W.OpenLaw} {n k : Nat} {q : Program} {loose : List Str} {XP : (Str → Option Value) → Heap → Prop} {YP : World → Heap → Prop} {d : DefRec} {K : Params → PySem.W.Frag} {CX : CXT} {sp : PySem.W.Frag → Sp} {x : Str}
    (hn : l.most = some n) (hn2 : n ≤ sizeLine) (hdf : d.params.defaults = []) (hr : Room k callerA)
    (hY : ∀ (w : World) (h : Heap), YP w h → (K w.params).In h)
    (F : ∀ (w : World) (mg : Str → Option Value) (fa : Addr) (h : Heap), (K w.params).In h → h.Ns mainGlobals mg → mg d.name = some (.ref fa) →
      ∃ fd : FuncData, (∀ (s : Shared) (u : Value), BindsTo s fd ⟨[u], []⟩ [(x, u)]) ∧
        ∀ base : Heap, (K w.params).In base → base.Ns mainGlobals mg → FnOk l.prog w (K w.params) mg base CX k fa fd [x] (sp (K w.params)))
    (hsp : ∀ (K : PySem.W.Frag) (H : Hp) (a : Addr) (ns : List Int), ns.length ≤ n → Only H → SqL K H a (ns.map V.int) → sp K [.ref a] H (fun v _ => v = .bl true) fun _ _ _ => False)
    (hCX : ∀ (H : Hp) (s : Shared) (e : Value) (s' : Shared), CX [] H s (fun _ _ _ => False) e s' → False) :
    PySem.W.WalkO q loose XP YP l.row.toRowW d [] (fun f vs => PySem.call f vs) :=
  walk_of (K := K) (CX := fun _ => CX) (sp := fun w => sp (K w.params)) hn hn2 hdf hr hY F (fun w H a ns h1 h2 h3 => hsp (K w.params) H a ns h1 h2 h3) fun _ H s e s' => hCX H s e s'
end L2

/- THE LAST THEOREM (shape; LID, My.* are yours):
   My.Adr: a structure of the addresses that your layer names (classes, functions); My.Txt K t: a structure (Prop) of the equations over K;
   My.txt_mk : {K} {implicit addresses ..} (e1 : nsIn K mainGlobals "law" = some (some (.ref f))) (e2 : K.lookup f = some ⟨oc, od, .func (fnOf "law" "law" params body scope dV kV doc pm an cdv ct), sl⟩) (e3 : codeIn K cdv "law" = true) .. : ∃ t, My.Txt K t

set_option maxRecDepth 100000 in
set_option maxHeartbeats 0 in
theorem PySem.Challenge.cw_LID_holds : PySem.Challenge.rw_LID.Holds := by
  w_on; o_law; k_head; (case hw => w_witness2)
  k_fill
  refine L2.walk_of (l := PySem.Challenge.rw_LID) (n := 63) (k := 40) (x := "script") (CX := fun w => ..) (sp := fun _ => My.sp_law) rfl (by decide) rfl ⟨rfl, by decide, by decide⟩ (fun w h Y => PySem.W.kIn_of Y) ?F ?S ?C
  case F =>
    intro w mg fa h KX G hmg
    have T : ∃ t, My.Txt (L2.KOf KX) t := by
      dsimp only [L2.KOf]                          -- K must stand as «<heap const> w.params» for k_is
      refine' My.txt_mk ?e1 ?e2 ?e3 ..
      (case e1 => PySem.W.k_is)                    -- in the order: a name -> its address -> its object -> its parts
      (case e2 => PySem.W.k_is)
      ..
    obtain ⟨t, T⟩ := T
    have e0 := hmg.symm.trans (PySem.W.mg_of KX G T.law)
    cases e0                                       -- fa is the law's own address
    exact ⟨_, fun s u => .of_eq rfl, fun base kb nb => My.law_fn T kb nb⟩     -- if «.of_eq rfl» comes too early: refine' ⟨_, ?b, fun base kb nb => My.law_fn T kb nb⟩; exact fun s u => .of_eq rfl
  case S => exact fun w H a ns hl hO hS => ..
  case C => exact ..
(the tactic k_is has no namespace: write k_is) -/

/-! SHORT WORDS over the layer: a def of the text, its body, what a loop and a test want. -/
namespace L2
open PySem PySem.Spec PyProof.Rows

/-! ### the text by places -/
/-- the j-th statement of a class's body -/
def inClass (s : Stmt) (j : Nat) : Stmt := match s with
  | .ClassDef _ _ _ body _ _ _ _ _ _ _ => body.getD j (.Pass ⟨0, 0, 0, 0⟩)
  | _ => .Pass ⟨0, 0, 0, 0⟩
def defArgs (s : Stmt) : Arguments := match s with
  | .FunctionDef _ a _ _ _ _ _ _ _ _ => a
  | _ => { posonlyargs := [], args := [], vararg := none, kwonlyargs := [], kw_defaults := [], kwarg := none, defaults := [] }
def defBody (s : Stmt) : List Stmt := match s with
  | .FunctionDef _ _ b _ _ _ _ _ _ _ => b
  | _ => []
def defScope (s : Stmt) : Scope := match s with
  | .FunctionDef _ _ _ _ _ _ sc _ _ _ => sc
  | _ => { kind := .function, names := [], isGenerator := false, isCoroutine := false }

/-! ### no exception leaves a def -/
abbrev CX0 : CXT := fun _ _ _ _ _ _ => False
abbrev E0 : XK := fun _ _ _ => False
theorem pass0 {X : Cx} : Passes CX0 X E0 := fun _ _ _ _ _ _ _ h => h.elim

/-! ### a def (or method) of the text as it stands behind the top -/
structure Fun (K : PySem.W.Frag) (x qual : Str) (st : Stmt) (f : Addr) (fd : FuncData) : Prop where
  ex : ∃ (oc : Value) (od : Option Addr) (kV doc pm : Value) (an : Option Addr) (cdv ct : Value) (osl : Array (Option Value)),
    fd = PySem.W.fnOf x qual (defArgs st) (defBody st) (defScope st) .none kV doc pm an cdv ct ∧ K.lookup f = some ⟨oc, od, .func fd, osl⟩ ∧ PySem.W.codeIn K cdv qual = true
  kp : PySem.W.keepIn K (.ref f) = true
section
variable {P : Program} {w : World} {K : PySem.W.Frag} {mg : Str → Option Value} {base : Heap}
/-- THE RULE for a def: its body as a term of rules, and the reading of that term -/
theorem Fun.ok {x qual : Str} {st : Stmt} {f : Addr} {fd : FuncData} {N ps : List Str} {k : Nat} {sp : Sp} (F : Fun K x qual st f fd) (S : FnScope N ps (defScope st)) (len : ∀ vs H Q E, sp vs H Q E → vs.length = ps.length)
    (hbody : ∀ (cdv : Value) (A : Around) (outer : List Env) (s : Shared) (H : Hp) (vs : List V) (Q : VK) (E : XK), Room k (A.deeper (envOfC qual (defScope st) s.heap.objs.size f cdv)) → sp vs H Q E →
      ∃ t, PSs (cxOf CX0 P w K mg base N qual (defScope st) f cdv A outer s H E).nox (defBody st) t ∧ t { nx := fun _ H' => Q .non H', rt := Q } (start N vs) H) : FnOk P w K mg base CX0 (k + 1) f fd ps sp := by
  obtain ⟨oc, od, kV, doc, pm, an, cdv, ct, osl, rfl, lk, hcd⟩ := F.ex
  refine fn_of lk hcd S len fun A outer s H vs Q E hr hsp => ?_
  obtain ⟨t, h, q⟩ := hbody cdv A outer s H vs Q E hr hsp
  exact ⟨t, h.nox, q⟩
/-- how its arguments bind (no defaults): h is «fun _ _ _ _ _ _ us hl => match us, hl with | [_, _], _ => rfl», one _ a parameter -/
theorem Fun.binds {x qual : Str} {st : Stmt} {f : Addr} {fd : FuncData} {ps : List Str} (F : Fun K x qual st f fd)
    (h : ∀ (kV doc pm : Value) (an : Option Addr) (cdv ct : Value) (us : List Value), us.length = ps.length → bindArgs (PySem.W.fnOf x qual (defArgs st) (defBody st) (defScope st) .none kV doc pm an cdv ct) ⟨us, []⟩ = pure (ps.zip us)) : Binds K fd ps [] := by
  obtain ⟨oc, od, kV, doc, pm, an, cdv, ct, osl, rfl, lk, hcd⟩ := F.ex
  exact .all (h kV doc pm an cdv ct)
theorem fun_mk {x qual : Str} {st : Stmt} {f : Addr} {oc : Value} {od an : Option Addr} {osl : Array (Option Value)} {kV doc pm cdv ct : Value} (l : K.lookup f = some ⟨oc, od, .func (PySem.W.fnOf x qual (defArgs st) (defBody st) (defScope st) .none kV doc pm an cdv ct), osl⟩)
    (c : PySem.W.codeIn K cdv qual = true) (k : PySem.W.keepIn K (.ref f) = true) : Fun K x qual st f (PySem.W.fnOf x qual (defArgs st) (defBody st) (defScope st) .none kV doc pm an cdv ct) := ⟨⟨oc, od, kV, doc, pm, an, cdv, ct, osl, rfl, l, c⟩, k⟩
end
theorem hu_of {A : Around} {k : Nat} (hr : Room k A) : A.units + 1 < cLine := Nat.lt_of_le_of_lt (Nat.add_le_add_left (by decide : 1 ≤ 64) _) hr.units
theorem small1000 {n : Nat} (h : n ≤ 1000) : n < sizeLine := Nat.lt_of_le_of_lt h (by decide)

/-! ### expressions in short: the name that stands in the i-th slot -/
section
variable {X : Cx}
theorem pv (i : Nat) {x : Str} {pos : Pos} (hN : X.N[i]? = some x := by rfl) (hv : Vis X.env.scope x := by first | exact Or.inl rfl | exact Or.inr (Or.inl rfl) | exact Or.inr (Or.inr rfl)) (hd : (x == ("__debug__" : Str)) = false := by decide)
    (hcd : (x == ("__classdict__" : Str)) = false := by decide) : PE X (.Name x pos) (tVar i) := pe_var hN hv hd hcd
end

/-! ### tests -/
theorem iteF {A B : Prop} (h : B) : if false = true then A else B := by
  rw [if_neg Bool.false_ne_true]
  exact h
theorem iteT {A B : Prop} (h : A) : if true = true then A else B := by
  rw [if_pos rfl]
  exact h
theorem ite2 {c A B : Prop} [Decidable c] (h1 : c → A) (h2 : ¬ c → B) : if c then A else B := by
  by_cases h : c
  · rw [if_pos h]
    exact h1 h
  · rw [if_neg h]
    exact h2 h
theorem iteNS {c A B : Prop} [Decidable c] (hc : c) (h : B) : if (!decide c) = true then A else B := by
  rw [decide_eq_true hc]
  exact iteF h

/-! ### heaps -/
/-- all that was tracked is as it was -/
def Same (H H' : Hp) : Prop := ∀ b o, H b = some o → H' b = some o
theorem Same.refl (H : Hp) : Same H H := fun _ _ h => h
theorem Same.trans {H H1 H2 : Hp} (a : Same H H1) (b : Same H1 H2) : Same H H2 := fun c o h => b c o (a c o h)
theorem Same.free {H H' : Hp} (e : Same H H') {l : Addr} (h : H' l = Option.none) : H l = Option.none := by
  cases q : H l with
  | none => rfl
  | some o =>
    rw [e l o q] at h
    cases h
theorem Same.seq {K : PySem.W.Frag} {H H' : Hp} {a : Addr} {xs : List V} (e : Same H H') (h : SqL K H a xs) : SqL K H' a xs := by
  rcases h with (h | ⟨o, h⟩) | h
  · exact .inl (.inl (e _ _ h))
  · exact .inl (.inr ⟨o, e _ _ h⟩)
  · exact .inr h

end L2

namespace L2
open PySem PySem.Spec PyProof.Rows

/-! ### lists of pairs as tables -/
section
variable {κ : Type} [DecidableEq κ]
def valV (kvs : List (κ × V)) (k : κ) : Option V := (kvs.find? fun kv => decide (kv.1 = k)).map (·.2)
/-- in its place, or at the end -/
def putK (kvs : List (κ × V)) (k : κ) (v : V) : List (κ × V) :=
  if (kvs.any fun kv => decide (kv.1 = k)) = true then kvs.map (fun kv => if kv.1 = k then (kv.1, v) else kv) else kvs ++ [(k, v)]
def dropK (kvs : List (κ × V)) (k : κ) : List (κ × V) := kvs.filter fun kv => decide (kv.1 ≠ k)

theorem valV_nil {k : κ} : valV ([] : List (κ × V)) k = none := rfl
theorem valV_pos {p : κ × V} {r : List (κ × V)} {k : κ} (e : p.1 = k) : valV (p :: r) k = some p.2 := by simp [valV, List.find?_cons, e]
theorem valV_neg {p : κ × V} {r : List (κ × V)} {k : κ} (e : ¬ p.1 = k) : valV (p :: r) k = valV r k := by simp [valV, List.find?_cons, e]
theorem valV_any (k : κ) : ∀ kvs : List (κ × V), (kvs.any fun kv => decide (kv.1 = k)) = (valV kvs k).isSome
  | [] => rfl
  | p :: r => by
    rw [List.any_cons]
    by_cases e : p.1 = k
    · simp only [valV_pos e, decide_eq_true e, Bool.true_or, Option.isSome_some]
    · rw [valV_neg e, decide_eq_false e, Bool.false_or]; exact valV_any k r
theorem valV_map (k j : κ) (y : V) : ∀ kvs : List (κ × V), valV (kvs.map fun kv => if kv.1 = k then (kv.1, y) else kv) j = (valV kvs j).map fun x => if j = k then y else x
  | [] => rfl
  | p :: r => by
    have ih := valV_map k j y r
    rw [List.map_cons]
    by_cases h : p.1 = k
    · rw [if_pos h]
      by_cases e : p.1 = j
      · rw [valV_pos (p := (p.1, y)) e, valV_pos e, Option.map_some, if_pos (e.symm.trans h)]
      · rw [valV_neg (p := (p.1, y)) e, valV_neg e, ih]
    · rw [if_neg h]
      by_cases e : p.1 = j
      · rw [valV_pos (p := p) e, valV_pos e, Option.map_some, if_neg (fun z => h (e.trans z))]
      · rw [valV_neg (p := p) e, valV_neg e, ih]
theorem valV_snoc (k j : κ) (y : V) : ∀ kvs : List (κ × V), valV kvs k = none → valV (kvs ++ [(k, y)]) j = if j = k then some y else valV kvs j
  | [], _ => by
    by_cases e : k = j
    · rw [if_pos e.symm]; exact valV_pos (p := (k, y)) e
    · rw [if_neg (fun z => e z.symm)]; exact valV_neg (p := (k, y)) e
  | p :: r, hn => by
    rw [List.cons_append]
    have hk : ¬ p.1 = k := fun z => by rw [valV_pos z] at hn; cases hn
    rw [valV_neg hk] at hn
    have ih := valV_snoc k j y r hn
    by_cases e : p.1 = j
    · rw [valV_pos e, valV_pos e, if_neg (fun z => hk (e.trans z))]
    · rw [valV_neg e, valV_neg e, ih]
theorem valV_put (kvs : List (κ × V)) (k j : κ) (y : V) : valV (putK kvs k y) j = if j = k then some y else valV kvs j := by
  unfold putK
  by_cases a : (kvs.any fun kv => decide (kv.1 = k)) = true
  · rw [if_pos a, valV_map]
    rw [valV_any] at a
    by_cases e : j = k
    · obtain ⟨x, hx⟩ := Option.isSome_iff_exists.mp a
      rw [if_pos e, e, hx, Option.map_some, if_pos rfl]
    · rw [if_neg e]
      cases valV kvs j with
      | none => rfl
      | some x => rw [Option.map_some, if_neg e]
  · rw [if_neg a]
    refine valV_snoc k j y kvs ?_
    rw [valV_any] at a
    cases q : valV kvs k with
    | none => rfl
    | some x => rw [q] at a; exact (a rfl).elim
theorem length_putK (kvs : List (κ × V)) (k : κ) (v : V) : (putK kvs k v).length ≤ kvs.length + 1 := by
  unfold putK
  split
  · rw [List.length_map]; omega
  · rw [List.length_append, List.length_cons, List.length_nil]; omega
theorem putK_new {kvs : List (κ × V)} {k : κ} (v : V) (h : valV kvs k = none) : putK kvs k v = kvs ++ [(k, v)] := by
  unfold putK
  rw [valV_any, h]
  exact if_neg (by decide)

theorem RelO.isSome_eq {o : Option V} {u : Option Value} (r : RelO o u) : o.isSome = u.isSome := by
  cases o with
  | none => cases u with
    | none => rfl
    | some _ => exact (show False from r).elim
  | some _ => cases u with
    | none => exact (show False from r).elim
    | some _ => rfl
theorem RelO.getD {o : Option V} {u : Option Value} {d : V} {d' : Value} (r : RelO o u) (rd : RelV d d') : RelV (o.getD d) (u.getD d') := by
  cases o with
  | none => cases u with
    | none => exact rd
    | some _ => exact (show False from r).elim
  | some _ => cases u with
    | none => exact (show False from r).elim
    | some _ => exact r

/-- raw tables of the same keys -/
theorem KV.val {kvs : List (κ × V)} {vs : List (κ × Value)} (r : KV kvs vs) (k : κ) : RelO (valV kvs k) (valueAt vs k) := by
  unfold KV at r
  induction r with
  | nil => exact True.intro
  | @cons p q ps qs h t ih =>
    obtain ⟨h1, h2⟩ := h
    by_cases e : p.1 = k
    · have e' : q.1 = k := h1.symm.trans e
      have b : valueAt (q :: qs) k = some q.2 := by simp [valueAt, List.find?_cons, e']
      rw [valV_pos e, b]; exact h2
    · have e' : ¬ q.1 = k := fun z => e (h1.trans z)
      have b : valueAt (q :: qs) k = valueAt qs k := by simp [valueAt, List.find?_cons, e']
      rw [valV_neg e, b]; exact ih
theorem KV.any {kvs : List (κ × V)} {vs : List (κ × Value)} (r : KV kvs vs) (k : κ) : (kvs.any fun kv => decide (kv.1 = k)) = vs.any fun kv => decide (kv.1 = k) := by
  unfold KV at r
  induction r with
  | nil => rfl
  | cons h t ih => rw [List.any_cons, List.any_cons, ih, h.1]
theorem KV.repl {kvs : List (κ × V)} {vs : List (κ × Value)} (r : KV kvs vs) (k : κ) {y : V} {u : Value} (ry : RelV y u) :
    KV (kvs.map fun kv => if kv.1 = k then (kv.1, y) else kv) (vs.map fun kv => if kv.1 = k then (kv.1, u) else kv) := by
  unfold KV at r ⊢
  induction r with
  | nil => exact .nil
  | @cons p q ps qs h t ih =>
    rw [List.map_cons, List.map_cons]
    refine .cons ?_ ih
    obtain ⟨h1, h2⟩ := h
    by_cases e : p.1 = k
    · rw [if_pos e, if_pos (h1.symm.trans e)]; exact ⟨h1, ry⟩
    · rw [if_neg e, if_neg (fun z => e (h1.trans z))]; exact ⟨h1, h2⟩
theorem KV.put {kvs : List (κ × V)} {vs : List (κ × Value)} (r : KV kvs vs) (k : κ) {y : V} {u : Value} (ry : RelV y u) : KV (putK kvs k y) (stored vs k u) := by
  unfold putK stored
  rw [r.any k]
  by_cases e : (vs.any fun kv => decide (kv.1 = k)) = true
  · rw [if_pos e, if_pos e]; exact r.repl k ry
  · rw [if_neg e, if_neg e]; exact Paired.snoc r ⟨rfl, ry⟩
theorem KV.drop {kvs : List (κ × V)} {vs : List (κ × Value)} (r : KV kvs vs) (k : κ) : KV (dropK kvs k) (without vs k) := by
  unfold KV at r ⊢
  unfold dropK without
  induction r with
  | nil => exact .nil
  | @cons p q ps qs h t ih =>
    obtain ⟨h1, h2⟩ := h
    rw [List.filter_cons, List.filter_cons]
    by_cases e : p.1 = k
    · have a : ¬ decide (p.1 ≠ k) = true := by simp [e]
      have b : ¬ decide (q.1 ≠ k) = true := by simp [h1.symm.trans e]
      rw [if_neg a, if_neg b]; exact ih
    · have e' : ¬ q.1 = k := fun z => e (h1.trans z)
      have a : decide (p.1 ≠ k) = true := by simp [e]
      have b : decide (q.1 ≠ k) = true := by simp [e']
      rw [if_pos a, if_pos b]; exact .cons ⟨h1, h2⟩ ih
theorem KV.keys {kvs : List (κ × V)} {vs : List (κ × Value)} (r : KV kvs vs) : kvs.map (·.1) = vs.map (·.1) := by
  unfold KV at r
  induction r with
  | nil => rfl
  | cons h t ih => rw [List.map_cons, List.map_cons, ih, h.1]
theorem KV.length {kvs : List (κ × V)} {vs : List (κ × Value)} (r : KV kvs vs) : kvs.length = vs.length := Paired.length r
theorem dropK_le (kvs : List (κ × V)) (k : κ) : (dropK kvs k).length ≤ kvs.length := List.length_filter_le _ _
end


/-! ### a tracked dict, its keys ints and texts or tuples of these -/
theorem kV_is {P : Program} {w : World} {k : Key} {u : Value} (r : RelV (kV k) u) : (mixKind P w).is k u = true := by
  cases k with
  | inl i => obtain ⟨t, e⟩ := (show ∃ t, u = Value.int i t from r); subst e; exact mixKind_int P w i t
  | inr x => obtain ⟨t, e⟩ := (show ∃ t, u = Value.str x t from r); subst e; exact mixKind_str P w x t
theorem kV_inj {a b : Key} (e : kV a = kV b) : a = b := by
  cases a with
  | inl i => cases b with
    | inl j => have e' : V.int i = V.int j := e; injection e' with e'; rw [e']
    | inr y => exact nomatch (show V.int i = V.str y from e)
  | inr x => cases b with
    | inl j => exact nomatch (show V.str x = V.int j from e)
    | inr y => have e' : V.str x = V.str y := e; injection e' with e'; rw [e']
theorem kVs_inj : ∀ {a b : List Key}, a.map kV = b.map kV → a = b
  | [], [], _ => rfl
  | [], _ :: _, e => by simp at e
  | _ :: _, [], e => by simp at e
  | x :: xs, y :: ys, e => by
    rw [List.map_cons, List.map_cons] at e
    injection e with e1 e2
    rw [kV_inj e1, kVs_inj e2]
theorem items_are {P : Program} {w : World} : ∀ {ks : List Key} {us : List Value}, Vals (ks.map kV) us → ItemsAre (mixKind P w) ks us
  | [], _, r => by rw [List.map_nil] at r; cases r; exact .nil
  | k :: ks, _, r => by
    rw [List.map_cons] at r
    cases r with
    | cons h t => exact .cons (kV_is h) (items_are t)

/-- raw entries of a dict with tuple keys -/
abbrev KT (H : Hp) : List (List Key × V) → List (List Key × Addr × Value) → Prop := Paired fun p q => p.1 = q.1 ∧ H q.2.1 = some (.tup (p.1.map kV)) ∧ RelV p.2 q.2.2
theorem KT.val {H : Hp} {kvs : List (List Key × V)} {xs : List (List Key × Addr × Value)} (r : KT H kvs xs) (k : List Key) : RelO (valV kvs k) ((atKey xs k).map (·.2)) := by
  induction r with
  | nil => exact True.intro
  | @cons p q ps qs h t ih =>
    obtain ⟨h1, _, h2⟩ := h
    by_cases e : p.1 = k
    · have e' : q.1 = k := h1.symm.trans e
      have b : atKey (q :: qs) k = some q.2 := by simp [atKey, List.find?_cons, e']
      rw [valV_pos e, b]; exact h2
    · have e' : ¬ q.1 = k := fun z => e (h1.trans z)
      have b : atKey (q :: qs) k = atKey qs k := by simp [atKey, List.find?_cons, e']
      rw [valV_neg e, b]; exact ih
theorem KT.repl {H : Hp} {kvs : List (List Key × V)} {xs : List (List Key × Addr × Value)} (r : KT H kvs xs) (k : List Key) {y : V} {u : Value} (ry : RelV y u) :
    KT H (kvs.map fun kv => if kv.1 = k then (kv.1, y) else kv) (xs.map (putAt k u)) := by
  induction r with
  | nil => exact .nil
  | @cons p q ps qs h t ih =>
    rw [List.map_cons, List.map_cons]
    refine .cons ?_ ih
    obtain ⟨h1, h2, h3⟩ := h
    unfold putAt
    by_cases e : p.1 = k
    · rw [if_pos e, if_pos (h1.symm.trans e)]; exact ⟨h1, h2, ry⟩
    · rw [if_neg e, if_neg (fun z => e (h1.trans z))]; exact ⟨h1, h2, h3⟩
theorem KT.put {H : Hp} {kvs : List (List Key × V)} {xs : List (List Key × Addr × Value)} (r : KT H kvs xs) (k : List Key) {b : Addr} {y : V} {u : Value} (hb : H b = some (.tup (k.map kV))) (ry : RelV y u) :
    KT H (putK kvs k y) (storedH xs k b u) := by
  have e : (kvs.any fun kv => decide (kv.1 = k)) = (atKey xs k).isSome := by
    rw [valV_any, (r.val k).isSome_eq, Option.isSome_map]
  unfold putK storedH
  rw [e]
  by_cases q : (atKey xs k).isSome = true
  · rw [if_pos q, if_pos q]; exact r.repl k ry
  · rw [if_neg q, if_neg q]; exact Paired.snoc r ⟨rfl, hb, ry⟩
theorem KT.keeps {H H' : Hp} {kvs : List (List Key × V)} {xs : List (List Key × Addr × Value)} (r : KT H kvs xs) (ht : ∀ b ys, H b = some (.tup ys) → H' b = some (.tup ys)) : KT H' kvs xs :=
  Paired.mapP r fun _ _ z => ⟨z.1, ht _ _ z.2.1, z.2.2⟩

section
variable {P : Program} {w : World} {H : Hp} {h : Heap} {a : Addr}
theorem rd_of {u : HO} (ok : HOk P w H h) (e : Rd H a u) : ObjOk P w H h a u := e.ok ok
theorem dk_rd {kvs : List (Key × V)} (ok : HOk P w H h) (e : Rd H a (.dK kvs)) : kvs.length ≤ sizeLine ∧ (a == sysModules) = false ∧ ∃ vs, KV kvs vs ∧ h.DictOf (mixKind P w) a vs :=
  show ObjOk P w H h a (.dK kvs) from rd_of ok e
theorem dk_of {kvs : List (Key × V)} (ok : HOk P w H h) (e : H a = some (.dK kvs)) : kvs.length ≤ sizeLine ∧ (a == sysModules) = false ∧ ∃ vs, KV kvs vs ∧ h.DictOf (mixKind P w) a vs := dk_rd ok (.inl e)
/-- a tracked tuple of ints and texts is a key -/
theorem key_of {ks : List Key} (ok : HOk P w H h) (e : H a = some (.tup (ks.map kV))) : (tupleKind (mixKind P w)).is h ks a := by
  obtain ⟨_, its, r, o, h1, h2, n, h3⟩ := (show ObjOk P w H h a (.tup (ks.map kV)) from ok a _ e)
  exact ⟨o, its.toArray, n, h1, h2, h3, by simpa using items_are r⟩
theorem dt_rd {kvs : List (List Key × V)} (ok : HOk P w H h) (e : Rd H a (.dT kvs)) : kvs.length ≤ sizeLine ∧ (a == sysModules) = false ∧
    ∃ xs, KT H kvs xs ∧ h.DictOfH (tupleKind (mixKind P w)) a xs := by
  obtain ⟨z, y, xs, r, o, es, ep, h1, h2, h3, h4, h5⟩ := (show ObjOk P w H h a (.dT kvs) from rd_of ok e)
  refine ⟨z, y, xs, r, o, es, ep, h1, h2, h3, h4, fun x hx => ?_, h5⟩
  have all : ∀ {l : List (List Key × V)} {m : List (List Key × Addr × Value)}, KT H l m → ∀ x ∈ m, (tupleKind (mixKind P w)).is h x.1 x.2.1 := by
    intro l m q
    induction q with
    | nil => intro x hx; exact nomatch hx
    | @cons p q ps qs hq t ih =>
      intro x hx
      rcases List.mem_cons.mp hx with e | hx
      · subst e
        exact key_of ok (by rw [← hq.1]; exact hq.2.1)
      · exact ih x hx
  exact all r x hx
theorem dt_of {kvs : List (List Key × V)} (ok : HOk P w H h) (e : H a = some (.dT kvs)) : kvs.length ≤ sizeLine ∧ (a == sysModules) = false ∧
    ∃ xs, KT H kvs xs ∧ h.DictOfH (tupleKind (mixKind P w)) a xs := dt_rd ok (.inl e)
end

/-- what the dict at a holds at the key y -/
def DGet (H : Hp) (a : Addr) (y : V) (r : Option V) : Prop :=
  (∃ kvs k, Rd H a (.dK kvs) ∧ y = kV k ∧ r = valV kvs k) ∨ ∃ kvs k b, Rd H a (.dT kvs) ∧ y = .ref b ∧ H b = some (.tup (k.map kV)) ∧ r = valV kvs k
/-- the heap behind a[y] = v -/
def DPut (H : Hp) (a : Addr) (y v : V) (H' : Hp) : Prop :=
  (∃ kvs k, H a = some (.dK kvs) ∧ y = kV k ∧ kvs.length < sizeLine ∧ H' = upd H a (.dK (putK kvs k v))) ∨
  ∃ kvs k b, H a = some (.dT kvs) ∧ y = .ref b ∧ H b = some (.tup (k.map kV)) ∧ kvs.length < sizeLine ∧ H' = upd H a (.dT (putK kvs k v))
theorem DGet.k {H : Hp} {a : Addr} {kvs : List (Key × V)} {k : Key} (e : H a = some (.dK kvs)) : DGet H a (kV k) (valV kvs k) := .inl ⟨kvs, k, .inl e, rfl, rfl⟩
theorem DGet.t {H : Hp} {a b : Addr} {kvs : List (List Key × V)} {k : List Key} (e : H a = some (.dT kvs)) (eb : H b = some (.tup (k.map kV))) : DGet H a (.ref b) (valV kvs k) := .inr ⟨kvs, k, b, .inl e, rfl, eb, rfl⟩
theorem DPut.k {H : Hp} {a : Addr} {kvs : List (Key × V)} {k : Key} {v : V} (e : H a = some (.dK kvs)) (hl : kvs.length < sizeLine) : DPut H a (kV k) v (upd H a (.dK (putK kvs k v))) := .inl ⟨kvs, k, e, rfl, hl, rfl⟩
theorem DPut.t {H : Hp} {a b : Addr} {kvs : List (List Key × V)} {k : List Key} {v : V} (e : H a = some (.dT kvs)) (eb : H b = some (.tup (k.map kV))) (hl : kvs.length < sizeLine) :
    DPut H a (.ref b) v (upd H a (.dT (putK kvs k v))) := .inr ⟨kvs, k, b, e, rfl, eb, hl, rfl⟩


section
variable {X : Cx} {pins : List (Addr × Obj)} {σ : St} {H : Hp} {s : Shared} {a : Addr} {y v : V} {u r : Value} {o : Option V} {A : Around} {E : Value → Shared → Prop}

theorem Inv.big (I : Inv X pins σ H s) : sysModules < s.heap.objs.size := by
  have h : mainGlobals < s.heap.objs.size := (I.mod.glob.keeps I.bk).lt
  exact Nat.lt_trans (by decide) h

/-- d[y], there -/
theorem d_getItem {Q : Value → Shared → Prop} (hu : A.units + 1 < cLine) (I : Inv X pins σ H s) (g : DGet H a y (some v)) (ry : RelV y u) (h : ∀ w' s', Inv X pins σ H s' → RelV v w' → Q w' s') :
    wpAny (model X.prog X.w) A (getItem (.ref a) u) Q E s := by
  rcases g with ⟨kvs, k, e, ey, l⟩ | ⟨kvs, k, b, e, ey, eb, l⟩
  · subst ey
    obtain ⟨z, hd, vs, rel, dd⟩ := dk_rd I.hok e
    obtain ⟨w', hw, rw'⟩ := RelO.some_of (v := v) (o := valueAt vs k) (by rw [l]; exact rel.val k)
    exact wpAny_getItem_of (kV_is ry) dd.mapOf hw (h w' _ (I.tok _) rw')
  · subst ey
    cases (show u = Value.ref b from ry)
    obtain ⟨z, hd, xs, rel, dd⟩ := dt_rd I.hok e
    obtain ⟨w', hw, rw'⟩ := RelO.some_of (v := v) (o := (atKey xs k).map (·.2)) (by rw [l]; exact rel.val k)
    obtain ⟨p, hp, hp2⟩ := Option.map_eq_some_iff.mp hw
    refine wpAny_getItem_heap (tupleKind_room_in1 hu) (key_of I.hok eb) dd hp ?_
    rw [hp2]
    exact h w' _ (I.tok _) rw'
/-- y in d -/
theorem d_in {Q : Value → Shared → Prop} (hu : A.units + 1 < cLine) (I : Inv X pins σ H s) (g : DGet H a y o) (ry : RelV y u) (h : ∀ s', Inv X pins σ H s' → Q (.bool o.isSome) s') :
    wpAny (model X.prog X.w) A (compareOp .In u (.ref a)) Q E s := by
  rcases g with ⟨kvs, k, e, ey, l⟩ | ⟨kvs, k, b, e, ey, eb, l⟩
  · subst ey
    obtain ⟨z, hd, vs, rel, dd⟩ := dk_rd I.hok e
    refine wpAny_in_of (kV_is ry) hd dd.mapOf ?_
    rw [← (rel.val k).isSome_eq, ← l]
    exact h _ (I.tok _)
  · subst ey
    cases (show u = Value.ref b from ry)
    obtain ⟨z, hd, xs, rel, dd⟩ := dt_rd I.hok e
    refine wpAny_in_heap (tupleKind_room_in1 hu) (key_of I.hok eb) hd dd ?_
    have q := (rel.val k).isSome_eq
    rw [Option.isSome_map] at q
    rw [← q, ← l]
    exact h _ (I.tok _)
theorem d_notIn {Q : Value → Shared → Prop} (hu : A.units + 1 < cLine) (I : Inv X pins σ H s) (g : DGet H a y o) (ry : RelV y u) (h : ∀ s', Inv X pins σ H s' → Q (.bool (!o.isSome)) s') :
    wpAny (model X.prog X.w) A (compareOp .NotIn u (.ref a)) Q E s := by
  rcases g with ⟨kvs, k, e, ey, l⟩ | ⟨kvs, k, b, e, ey, eb, l⟩
  · subst ey
    obtain ⟨z, hd, vs, rel, dd⟩ := dk_rd I.hok e
    refine wpAny_notIn_of (kV_is ry) hd dd.mapOf ?_
    rw [← (rel.val k).isSome_eq, ← l]
    exact h _ (I.tok _)
  · subst ey
    cases (show u = Value.ref b from ry)
    obtain ⟨z, hd, xs, rel, dd⟩ := dt_rd I.hok e
    refine wpAny_notIn_heap (tupleKind_room_in1 hu) (key_of I.hok eb) hd dd ?_
    have q := (rel.val k).isSome_eq
    rw [Option.isSome_map] at q
    rw [← q, ← l]
    exact h _ (I.tok _)
/-- a dict's object is replaced -/
theorem d_write {h' : Heap} {t' : Nat} {ob : HO} (I : Inv X pins σ H s) (mu : Mut (H a)) (hs : Heap.SameBut a s.heap h') (he : ∃ q, h'.get? a = some q) (new : ObjOk X.prog X.w (upd H a ob) h' a ob) :
    Inv X pins σ (upd H a ob) { s with heap := h', toks := t' } :=
  I.write (x := a) (e := a) mu (.inl rfl) (fun b q hb z => (hs.2 b hb).trans z) he new
theorem dk_new {P : Program} {w : World} {H' : Hp} {h' : Heap} {kvs : List (Key × V)} {vs : List (Key × Value)} (z : kvs.length ≤ sizeLine) (hd : (a == sysModules) = false) (rel : KV kvs vs) (dd : h'.DictOf (mixKind P w) a vs) :
    ObjOk P w H' h' a (.dK kvs) := ⟨z, hd, vs, rel, dd⟩
/-- d[y] = v -/
theorem d_setItem {H' : Hp} {Q : Unit → Shared → Prop} (hu : A.units + 1 < cLine) (I : Inv X pins σ H s) (g : DPut H a y v H') (ry : RelV y u) (rv : RelV v r) (h : ∀ s', Inv X pins σ H' s' → Q () s') :
    wpAny (model X.prog X.w) A (setItem (.ref a) u r) Q E s := by
  rcases g with ⟨kvs, k, e, ey, l, eH⟩ | ⟨kvs, k, b, e, ey, eb, l, eH⟩
  · subst ey eH
    obtain ⟨z, hd, vs, rel, dd⟩ := dk_of I.hok e
    have hz : vs.length ≤ sizeLine := by rw [← rel.length]; exact z
    have hl : (putK kvs k v).length ≤ sizeLine := by have := length_putK kvs k v; omega
    refine wpAny_setItem_pairs (hsz := hz) (kV_is ry) dd fun h' dd' hs => h _ ?_
    have he : ∃ q, h'.get? a = some q := let ⟨q, _, _, hq, _⟩ := dd'; ⟨q, hq⟩
    exact d_write I (by rw [e]; exact True.intro) hs he (dk_new hl hd (rel.put k rv) dd')
  · subst ey eH
    cases (show u = Value.ref b from ry)
    obtain ⟨z, hd, xs, rel, dd⟩ := dt_of I.hok e
    have hz : xs.length ≤ sizeLine := by rw [← Paired.length rel]; exact z
    have hl : (putK kvs k v).length ≤ sizeLine := by have := length_putK kvs k v; omega
    refine wpAny_setItem_heap (hsz := hz) (tupleKind_room_in1 hu) (key_of I.hok eb) dd fun h' dd' hs => h _ ?_
    obtain ⟨q, es, ep, hq, h2, h3, h4, _, h5⟩ := dd'
    refine d_write I (by rw [e]; exact True.intro) hs ⟨q, hq⟩ ⟨hl, hd, _, (rel.put k eb rv).keeps fun c ys ec => ?_, q, es, ep, hq, h2, h3, h4, h5⟩
    rw [upd_ne (ne_of ec e (fun z => nomatch z))]
    exact ec
end

section
variable {X : Cx} {pins : List (Addr × Obj)} {σ : St} {H : Hp} {s : Shared} {a : Addr} {kvs : List (Key × V)} {k : Key} {u : Value} {A : Around} {E : Value → Shared → Prop}
/-- del d[k] -/
theorem d_delItem {Q : Unit → Shared → Prop} (I : Inv X pins σ H s) (e : H a = some (.dK kvs)) (ry : RelV (kV k) u) (l : (valV kvs k).isSome = true) (h : ∀ s', Inv X pins σ (upd H a (.dK (dropK kvs k))) s' → Q () s') :
    wpAny (model X.prog X.w) A (delItem (.ref a) u) Q E s := by
  obtain ⟨z, hd, vs, rel, dd⟩ := dk_of I.hok e
  refine wpAny_delItem_slot dd.typeIs (by decide) PySem.F.slot_dict_delitem
    (call_meetsIn PySem.F.slot_dict_delitem dd.typeIs PySem.F.entry_dict_delitem (PySem.F.args_dict_delitem_2 _ _) (meets_dict_delitem_pairs (mixKind X.prog X.w) a (kV_is ry)) ⟨vs, dd, by rw [← rel.length]; exact z, by rw [← (rel.val k).isSome_eq]; exact l, fun h' dd' hs => h _ ?_⟩)
  have he : ∃ q, h'.get? a = some q := let ⟨q, _, _, hq, _⟩ := dd'; ⟨q, hq⟩
  exact d_write I (by rw [e]; exact True.intro) hs he (dk_new (Nat.le_trans (dropK_le kvs k) z) hd (rel.drop k) dd')
/-- d.pop(k[, x]), there -/
theorem d_pop {v : V} {more : List Value} {Q : Value → Shared → Prop} (I : Inv X pins σ H s) (e : H a = some (.dK kvs)) (ry : RelV (kV k) u) (l : valV kvs k = some v) (hm : more = [] ∨ ∃ x, more = [x])
    (h : ∀ w' s', Inv X pins σ (upd H a (.dK (dropK kvs k))) s' → RelV v w' → Q w' s') : wpAny (model X.prog X.w) A (call (.builtin "dict.pop") (.ref a :: u :: more)) Q E s := by
  obtain ⟨z, hd, vs, rel, dd⟩ := dk_of I.hok e
  obtain ⟨w', hw, rw'⟩ := RelO.some_of (v := v) (o := valueAt vs k) (by rw [← l]; exact rel.val k)
  have hp : (keyPart u).isSome = true := by
    cases k with
    | inl i => obtain ⟨t, q⟩ := (show ∃ t, u = Value.int i t from ry); subst q; rfl
    | inr x => obtain ⟨t, q⟩ := (show ∃ t, u = Value.str x t from ry); subst q; rfl
  have ha : argsOk "dict.pop" ⟨.ref a :: u :: more, []⟩ := by
    rcases hm with q | ⟨x, q⟩
    · subst q; exact PySem.F.args_dict_pop_2 _ _
    · subst q; exact PySem.F.args_dict_pop_3 _ _ _
  refine call_meetsIn PySem.F.slot_dict_pop dd.typeIs PySem.F.entry_dict_pop ha (meets_dict_pop_there (mixKind X.prog X.w) a (kV_is ry) more hm hp)
    ⟨vs, w', dd, by rw [← rel.length]; exact z, hw, fun h' dd' hs => h w' _ ?_ rw'⟩
  have he : ∃ q, h'.get? a = some q := let ⟨q, _, _, hq, _⟩ := dd'; ⟨q, hq⟩
  exact d_write I (by rw [e]; exact True.intro) hs he (dk_new (Nat.le_trans (dropK_le kvs k) z) hd (rel.drop k) dd')
/-- d.pop(k, x), not there -/
theorem d_popD {r : Value} {Q : Value → Shared → Prop} (I : Inv X pins σ H s) (e : H a = some (.dK kvs)) (ry : RelV (kV k) u) (l : valV kvs k = none) (h : ∀ s', Inv X pins σ H s' → Q r s') :
    wpAny (model X.prog X.w) A (call (.builtin "dict.pop") [.ref a, u, r]) Q E s := by
  obtain ⟨z, hd, vs, rel, dd⟩ := dk_of I.hok e
  have hn : valueAt vs k = none := RelO.none_of (by rw [← l]; exact rel.val k)
  have hp : (keyPart u).isSome = true := by
    cases k with
    | inl i => obtain ⟨t, q⟩ := (show ∃ t, u = Value.int i t from ry); subst q; rfl
    | inr x => obtain ⟨t, q⟩ := (show ∃ t, u = Value.str x t from ry); subst q; rfl
  exact call_meetsIn PySem.F.slot_dict_pop dd.typeIs PySem.F.entry_dict_pop (PySem.F.args_dict_pop_3 _ _ _) (meets_dict_pop_default (mixKind X.prog X.w) a (kV_is ry) hd hp r) ⟨vs, dd, hn, h _ (I.tok _)⟩
/-- d.clear() -/
theorem d_clear {Q : Value → Shared → Prop} (I : Inv X pins σ H s) (e : H a = some (.dK kvs)) (h : ∀ s', Inv X pins σ (upd H a (.dK [])) s' → Q .none s') : wpAny (model X.prog X.w) A (call (.builtin "dict.clear") [.ref a]) Q E s := by
  obtain ⟨z, hd, vs, rel, dd⟩ := dk_of I.hok e
  refine call_meetsIn PySem.F.slot_dict_clear dd.typeIs PySem.F.entry_dict_clear (PySem.F.args_dict_clear_1 _) (meets_dict_clear (mixKind X.prog X.w) a) ⟨vs, dd, by rw [← rel.length]; exact z, fun h' dd' hs => h _ ?_⟩
  have he : ∃ q, h'.get? a = some q := let ⟨q, _, _, hq, _⟩ := dd'; ⟨q, hq⟩
  exact d_write (t' := s.toks) I (by rw [e]; exact True.intro) hs he (dk_new (Nat.zero_le _) hd .nil dd')
/-- len(d) -/
theorem d_len {Q : Value → Shared → Prop} (I : Inv X pins σ H s) (e : Rd H a (.dK kvs)) (h : ∀ t s', Inv X pins σ H s' → Q (.int kvs.length t) s') : wpAny (model X.prog X.w) A (call (.builtin "len") [.ref a]) Q E s := by
  obtain ⟨z, hd, vs, rel, dd⟩ := dk_rd I.hok e
  refine call_len_dict hd dd (by rw [← rel.length]; rw [sizeLine_eq] at z; omega) ?_
  rw [← rel.length]
  exact h _ _ (I.tok _)
/-- if d -/
theorem d_truth {Q : Bool → Shared → Prop} (I : Inv X pins σ H s) (e : Rd H a (.dK kvs)) (h : ∀ s', Inv X pins σ H s' → Q (!kvs.isEmpty) s') : wpAny (model X.prog X.w) A (truthy (.ref a)) Q E s := by
  obtain ⟨z, hd, vs, rel, dd⟩ := dk_rd I.hok e
  refine wpAny_truthy_dict hd dd (by rw [← rel.length]; rw [sizeLine_eq] at z; omega) ?_
  have q : kvs.isEmpty = vs.isEmpty := by cases rel <;> rfl
  rw [← q]
  exact h _ (I.tok _)
end


/-! ### readings and rules -/
/-- the element of a subscription, not a slice -/
def NoSl (i : Expr) : Prop := ∀ ov iv, subscripted i false ov iv = operate [ov, iv] (getItem ov iv)
theorem subD_of {prog : Program} {w : World} {A : Around} {E : Value → Shared → Prop} {s : Shared} {env : Env} {value slice : Expr} {pos : Pos} {T id : String} {Q : Value → Shared → Prop}
    (hl : typeLookup (.type T) "__getitem__" = pure (some (.builtin id))) (hs : NoSl slice)
    (h : wpAny (model prog w) A (eval value env) (fun o s₁ => wpAny (model prog w) A (eval slice env) (fun i s₂ => s₂.TypeIs o T ∧ wpAny (model prog w) A (getItem o i) Q E s₂) E s₁) E s) :
    wpAny (model prog w) A (eval (.Subscript value slice pos) env) Q E s := by
  refine Subscript_ (wpAny_mono h (fun o s₁ h₁ => wpAny_mono h₁ (fun i s₂ h₂ => ?_) fun _ _ x => x) fun _ _ x => x)
  obtain ⟨hT, h₂⟩ := h₂
  unfold subscriptTail
  refine wpAny_bind ?_
  rw [getitemInPython_of_ne hT.not_modules]
  refine wpAny_bind (wpAny_specialOf hT hl ?_)
  have fin : wpAny (model prog w) A (subscripted slice false o i) (fun r s₃ => wpAny (model prog w) A (letTemporaryGo value o r >>= fun _ => pure r) Q E s₃) E s₂ := by
    rw [hs o i]
    exact wpAny_operating (wpAny_mono h₂ (fun r s₃ h₃ => wpAny_bind (wpAny_letTemporaryGo (wpAny_pure h₃))) fun _ _ x => x)
  first
    | exact wpAny_pure (wpAny_bind fin)
    | exact wpAny_bind (wpAny_pure (wpAny_bind fin))
    | exact wpAny_bind fin

theorem dict_typeIs {X : Cx} {pins : List (Addr × Obj)} {σ : St} {H : Hp} {s : Shared} {a : Addr} {y : V} {o : Option V} (I : Inv X pins σ H s) (g : DGet H a y o) : s.TypeIs (.ref a) "dict" := by
  rcases g with ⟨kvs, k, e, _, _⟩ | ⟨kvs, k, b, e, _, _, _⟩
  · obtain ⟨_, _, vs, _, dd⟩ := dk_rd I.hok e
    exact dd.typeIs
  · obtain ⟨_, _, xs, _, dd⟩ := dt_rd I.hok e
    exact dd.typeIs
theorem dict_noDict {X : Cx} {pins : List (Addr × Obj)} {σ : St} {H : Hp} {s : Shared} {a : Addr} {y : V} {o : Option V} (I : Inv X pins σ H s) (g : DGet H a y o) :
    ∀ b, Value.ref a = .ref b → ∃ ob, s.heap.get? b = some ob ∧ ob.dict = none := fun b q => by
  cases q
  rcases g with ⟨kvs, k, e, _, _⟩ | ⟨kvs, k, b, e, _, _, _⟩
  · obtain ⟨_, _, vs, _, ob, _, _, h1, h2, _⟩ := dk_rd I.hok e
    exact ⟨ob, h1, h2.2.1⟩
  · obtain ⟨_, _, xs, _, ob, _, _, h1, h2, _⟩ := dt_rd I.hok e
    exact ⟨ob, h1, h2.2.1⟩

/-- d[y] -/
def tDGet (td ty : TE) : TE := fun σ H Q => td σ H fun x H1 => ty σ H1 fun y H2 => ∃ a v, x = .ref a ∧ DGet H2 a y (some v) ∧ Q v H2
/-- y in d, y not in d -/
def tDIn (ty td : TE) : TE := fun σ H Q => ty σ H fun y H1 => td σ H1 fun x H2 => ∃ a o, x = .ref a ∧ DGet H2 a y o ∧ Q (.bl o.isSome) H2
def tDNotIn (ty td : TE) : TE := fun σ H Q => ty σ H fun y H1 => td σ H1 fun x H2 => ∃ a o, x = .ref a ∧ DGet H2 a y o ∧ Q (.bl (!o.isSome)) H2
/-- d[y] = v -/
def sDPut (td ty tv : TE) : TS := fun D σ H => tv σ H fun v H1 => td σ H1 fun x H2 => ty σ H2 fun y H3 => ∃ a H4, x = .ref a ∧ DPut H3 a y v H4 ∧ D.nx σ H4
/-- d[y] op= v -/
def sDAug (td ty tv : TE) (rd : V → V → Hp → VK → Prop) : TS := fun D σ H => td σ H fun x H1 => ty σ H1 fun y H2 => ∃ a v, x = .ref a ∧ DGet H2 a y (some v) ∧
  tv σ H2 fun y2 H3 => rd v y2 H3 fun z H4 => ∃ H5, DPut H4 a y z H5 ∧ D.nx σ H5
/-- del d[y] -/
def sDDel (td ty : TE) : TS := fun D σ H => td σ H fun x H1 => ty σ H1 fun y H2 => ∃ a kvs k, x = .ref a ∧ H2 a = some (.dK kvs) ∧ y = kV k ∧ (valV kvs k).isSome = true ∧ D.nx σ (upd H2 a (.dK (dropK kvs k)))

section
variable {X : Cx} {o i e value : Expr} {pos pos' tpos : Pos} {td ty tv : TE}
theorem pe_dget (hu : X.A.units + 1 < cLine) (ho : PE X o td) (hi : PE X i ty) (hs : NoSl i) : PE X (.Subscript o i pos) (tDGet td ty) := by
  constructor
  intro pins s σ H Q I h
  refine subD_of PySem.F.slot_dict_getitem.lookup hs (thn (ho pins s σ H _ I h) fun u s1 ⟨x, H1, I1, rx, q1⟩ => thn (hi pins s1 σ H1 _ I1 q1) fun iv s2 ⟨y, H2, I2, ry, a, v, ex, g, q2⟩ => ?_)
  subst ex
  obtain rfl : u = Value.ref a := rx
  exact ⟨dict_typeIs I2 g, d_getItem hu I2 g ry fun w' s3 I3 rw' => ⟨v, H2, I3, rw', q2⟩⟩
theorem pc_din (hu : X.A.units + 1 < cLine) (hi : PE X i ty) (ho : PE X o td) : PC X .In i o (tDIn ty td) := by
  constructor
  intro pins s σ H Q I h
  refine thn (hi pins s σ H _ I h) fun iv s1 ⟨y, H1, I1, ry, q1⟩ => thn (ho pins s1 σ H1 _ I1 q1) fun u s2 ⟨x, H2, I2, rx, a, ov, ex, g, q2⟩ => ?_
  subst ex
  obtain rfl : u = Value.ref a := rx
  exact d_in hu I2 g ry fun s3 I3 => ⟨.bl ov.isSome, H2, I3, rfl, q2⟩
theorem pc_dnotin (hu : X.A.units + 1 < cLine) (hi : PE X i ty) (ho : PE X o td) : PC X .NotIn i o (tDNotIn ty td) := by
  constructor
  intro pins s σ H Q I h
  refine thn (hi pins s σ H _ I h) fun iv s1 ⟨y, H1, I1, ry, q1⟩ => thn (ho pins s1 σ H1 _ I1 q1) fun u s2 ⟨x, H2, I2, rx, a, ov, ex, g, q2⟩ => ?_
  subst ex
  obtain rfl : u = Value.ref a := rx
  exact d_notIn hu I2 g ry fun s3 I3 => ⟨.bl (!ov.isSome), H2, I3, rfl, q2⟩
theorem ps_dput (hu : X.A.units + 1 < cLine) (ho : PE X o td) (hi : PE X i ty) (hv : PE X value tv) (hs : swapsWith value (some (.Subscript o i pos')) pos.line X.env = pure false) :
    PS X (.Assign [.Subscript o i pos'] value pos) (sDPut td ty tv) := by
  constructor
  intro pins s σ H D I h
  refine wpAny_Assign_Subscript (thn (hv pins s σ H _ I h) fun r s1 ⟨v, H1, I1, rv, q1⟩ => thn (ho pins s1 σ H1 _ I1 q1) fun u s2 ⟨x, H2, I2, rx, q2⟩ => thn (hi pins s2 σ H2 _ I2 q2) fun iv s3 ⟨y, H3, I3, ry, a, H4, ex, g, q3⟩ => ?_) hs
  subst ex
  obtain rfl : u = Value.ref a := rx
  exact d_setItem hu I3 g ry rv fun s4 I4 => ⟨σ, H4, I4, q3⟩
theorem ps_daug {op : Operator} {rd : V → V → Hp → VK → Prop} (hu : X.A.units + 1 < cLine) (ho : PE X o td) (hi : PE X i ty) (hv : PE X value tv) (hop : InOp X op rd)
    (ha : ∀ ov iv new, augStore i ov iv new = (do holding [new, ov, iv] (setItem ov iv new); release [new, ov, iv] []; pure .next)) : PS X (.AugAssign (.Subscript o i tpos) op value pos) (sDAug td ty tv rd) := by
  constructor
  intro pins s σ H D I h
  refine wpAny_AugAssign_SubscriptAny (thn (ho pins s σ H _ I h) fun u s1 ⟨x, H1, I1, rx, q1⟩ => thn (hi pins s1 σ H1 _ I1 q1) fun iv s2 ⟨y, H2, I2, ry, a, v, ex, g, q2⟩ => ?_) ha
  subst ex
  obtain rfl : u = Value.ref a := rx
  refine d_getItem hu I2 g ry fun w' s3 I3 rw' => thn (hv pins s3 σ H2 _ I3 q2) fun w2 s4 ⟨y2, H3, I4, ry2, q3⟩ => thn (hop pins s4 σ H3 v y2 w' w2 _ I4 rw' ry2 q3) fun w3 s5 ⟨z, H4, I5, rz, H5, g5, q4⟩ => ?_
  exact d_setItem hu I5 g5 ry rz fun s6 I6 => ⟨σ, H5, I6, q4⟩
theorem ps_ddel (ho : PE X o td) (hi : PE X i ty) : PS X (.Delete [.Subscript o i tpos] pos) (sDDel td ty) := by
  constructor
  intro pins s σ H D I h
  refine wpAny_Delete (wpAny_deleteEach_cons (wpAny_delete_Subscript (thn (ho pins s σ H _ I h) fun u s1 ⟨x, H1, I1, rx, q1⟩ => thn (hi pins s1 σ H1 _ I1 q1) fun iv s2 ⟨y, H2, I2, ry, a, kvs, k, ex, e, ey, l, q2⟩ => ?_)))
  subst ex ey
  obtain rfl : u = Value.ref a := rx
  exact d_delItem I2 e ry l fun s3 I3 => wpAny_deleteEach_nil ⟨σ, _, I3, q2⟩
end


/-! ### displays -/
theorem dk_empty {P : Program} {w : World} {H : Hp} (h : Heap) (hb : sysModules < h.objs.size) : ObjOk P w H (h.push { cls := .type "dict", data := .dict #[] }) h.objs.size (.dK []) :=
  ⟨Nat.zero_le _, beq_eq_false_iff_ne.mpr (Ne.symm (Nat.ne_of_lt hb)), [], .nil, Heap.DictOf.new h⟩
theorem dt_empty {P : Program} {w : World} {H : Hp} (h : Heap) (hb : sysModules < h.objs.size) : ObjOk P w H (h.push { cls := .type "dict", data := .dict #[] }) h.objs.size (.dT []) :=
  ⟨Nat.zero_le _, beq_eq_false_iff_ne.mpr (Ne.symm (Nat.ne_of_lt hb)), [], .nil, _, #[], 0, Heap.get?_push_size _ rfl, ⟨rfl, rfl, rfl⟩, rfl, rfl, List.nodup_nil⟩
/-- {}, to be a dict of the kind that is wanted -/
def tDNewK : TE := fun _ H Q => ∀ p, H p = none → Q (.ref p) (upd H p (.dK []))
def tDNewT : TE := fun _ H Q => ∀ p, H p = none → Q (.ref p) (upd H p (.dT []))
section
variable {X : Cx} {pos : Pos}
theorem pe_dnewK : PE X (.Dict [] [] pos) tDNewK := ⟨fun pins s σ H Q I h =>
  wpAny_Dict_empty ⟨.ref s.heap.objs.size, _, I.laid (a := s.heap.objs.size) (o := .dK []) (t' := s.toks) (fun _ _ q => Heap.get?_push_of_some _ q) (Nat.le_refl _) (dk_empty s.heap I.big), rfl, h _ (I.hok.fresh (Nat.le_refl _))⟩⟩
theorem pe_dnewT : PE X (.Dict [] [] pos) tDNewT := ⟨fun pins s σ H Q I h =>
  wpAny_Dict_empty ⟨.ref s.heap.objs.size, _, I.laid (a := s.heap.objs.size) (o := .dT []) (t' := s.toks) (fun _ _ q => Heap.get?_push_of_some _ q) (Nat.le_refl _) (dt_empty s.heap I.big), rfl, h _ (I.hok.fresh (Nat.le_refl _))⟩⟩
end

/-- the pairs of a display, from the left -/
def tPairs : List (TE × TE) → St → Hp → (List (V × V) → Hp → Prop) → Prop
  | [], _, H, Q => Q [] H
  | (tk, tv) :: r, σ, H, Q => tk σ H fun x H1 => tv σ H1 fun y H2 => tPairs r σ H2 fun ps H3 => Q ((x, y) :: ps) H3
abbrev VV : List (V × V) → List (Value × Value) → Prop := Paired fun p q => RelV p.1 q.1 ∧ RelV p.2 q.2
structure PPs (X : Cx) (pos : Pos) (keys : List (Option Expr)) (values : List Expr) (trs : List (TE × TE)) : Prop where
  go : ∀ (pins : List (Addr × Obj)) (s : Shared) (σ : St) (H : Hp) (Q : List (V × V) → Hp → Prop), Inv X pins σ H s → tPairs trs σ H Q →
    wpAny (model X.prog X.w) X.A (evalPairs (pairTrees keys values X.env pos)) (fun vs s' => ∃ ps H', Inv X pins σ H' s' ∧ VV ps vs ∧ Q ps H') X.xe s
instance {X : Cx} {pos : Pos} {keys : List (Option Expr)} {values : List Expr} {trs : List (TE × TE)} : CoeFun (PPs X pos keys values trs) (fun _ => ∀ (pins : List (Addr × Obj)) (s : Shared) (σ : St) (H : Hp) (Q : List (V × V) → Hp → Prop), Inv X pins σ H s → tPairs trs σ H Q →
    wpAny (model X.prog X.w) X.A (evalPairs (pairTrees keys values X.env pos)) (fun vs s' => ∃ ps H', Inv X pins σ H' s' ∧ VV ps vs ∧ Q ps H') X.xe s) := ⟨fun h => h.go⟩
theorem pps_nil {X : Cx} {pos : Pos} : PPs X pos [] [] [] := ⟨fun pins s σ H Q I h => pairTrees_nil_walk ⟨[], H, I, .nil, h⟩⟩
theorem pps_cons {X : Cx} {pos : Pos} {k v : Expr} {ks : List (Option Expr)} {vs : List Expr} {tk tv : TE} {trs : List (TE × TE)} (hk : PE X k tk) (hv : PE X v tv) (hr : PPs X pos ks vs trs) :
    PPs X pos (some k :: ks) (v :: vs) ((tk, tv) :: trs) := ⟨fun pins s σ H Q I h =>
  pairTrees_cons_walk (thn (hk pins s σ H _ I h) fun u s1 ⟨x, H1, I1, rx, q1⟩ => thn (hv pins s1 σ H1 _ I1 q1) fun w2 s2 ⟨y, H2, I2, ry, q2⟩ =>
    thn (hr pins s2 σ H2 _ I2 q2) fun ws s3 ⟨ps, H3, I3, rel, q3⟩ => ⟨(x, y) :: ps, H3, I3, .cons ⟨rx, ry⟩ rel, q3⟩)⟩

def mergeK (kvs more : List (Key × V)) : List (Key × V) := more.foldl (fun acc kv => putK acc kv.1 kv.2) kvs
theorem KV.merge : ∀ {more : List (Key × V)} {rs : List (Key × Value)} {kvs : List (Key × V)} {vs : List (Key × Value)}, KV more rs → KV kvs vs → KV (mergeK kvs more) (merged vs rs) := by
  intro more rs kvs vs r
  unfold KV at r
  induction r generalizing kvs vs with
  | nil => intro q; exact q
  | @cons p q ps qs h t ih =>
    intro r0
    have e : KV (putK kvs p.1 p.2) (stored vs q.1 q.2) := by
      have := r0.put p.1 h.2
      rw [← h.1]; exact this
    exact ih e
theorem length_mergeK : ∀ (more kvs : List (Key × V)), (mergeK kvs more).length ≤ kvs.length + more.length
  | [], kvs => by show kvs.length ≤ kvs.length + 0; omega
  | p :: r, kvs => by
    have h1 := length_mergeK r (putK kvs p.1 p.2)
    have h2 := length_putK kvs p.1 p.2
    show (mergeK (putK kvs p.1 p.2) r).length ≤ _
    rw [List.length_cons]; omega
theorem carries_of {P : Program} {w : World} : ∀ {kvs : List (Key × V)} {ws : List (Value × Value)}, VV (kvs.map fun kv => (kV kv.1, kv.2)) ws → ∃ rs, Carries (mixKind P w) ws rs ∧ KV kvs rs
  | [], _, r => by rw [List.map_nil] at r; cases r; exact ⟨[], True.intro, .nil⟩
  | p :: kvs, _, r => by
    rw [List.map_cons] at r
    cases r with
    | @cons a b as bs h t =>
      obtain ⟨rs, c, q⟩ := carries_of (P := P) (w := w) t
      obtain ⟨b1, b2⟩ := b
      exact ⟨(p.1, b2) :: rs, ⟨kV_is h.1, rfl, c⟩, .cons ⟨rfl, h.2⟩ q⟩
/-- {k: v, ..} with keys ints and texts; the new dict stands empty while the pairs are made -/
def tDisp (trs : List (TE × TE)) : TE := fun σ H Q => ∀ p, H p = none → tPairs trs σ (upd H p (.dK [])) fun ps H2 => H2 p = some (.dK []) ∧ ∃ kvs : List (Key × V), ps = kvs.map (fun kv => (kV kv.1, kv.2)) ∧ kvs.length ≤ 15 ∧ Q (.ref p) (upd H2 p (.dK (mergeK [] kvs)))
theorem pe_disp {X : Cx} {pos : Pos} {keys : List (Option Expr)} {values : List Expr} {trs : List (TE × TE)} (h : PPs X pos keys values trs) (hall : keys.all (·.isSome) = true) (hl : keys.length = values.length) (h0 : keys ≠ [])
    (h15 : keys.length ≤ 15) : PE X (.Dict keys values pos) (tDisp trs) := by
  constructor
  intro pins s σ H Q I q
  have hn := I.hok.fresh (Nat.le_refl s.heap.objs.size)
  have I1 := I.laid (a := s.heap.objs.size) (o := .dK []) (h' := s.heap.push { cls := .type "dict", data := .dict #[] }) (t' := s.toks) (fun _ _ q => Heap.get?_push_of_some _ q) (Nat.le_refl _) (dk_empty s.heap I.big)
  refine wpAny_Dict_walk (knd := mixKind X.prog X.w) hall hl h0 h15 (thn (h pins _ σ _ _ I1 (q _ hn)) fun ws s2 ⟨ps, H2, I2, rel, e, kvs, ep, lk, q2⟩ => ?_)
  subst ep
  obtain ⟨rs, c, rk⟩ := carries_of (P := X.prog) (w := X.w) rel
  obtain ⟨z, hd, vs0, r0, dd⟩ := dk_of I2.hok e
  cases r0
  refine ⟨rs, c, dd, fun h' dd' hs => ⟨.ref s.heap.objs.size, _, ?_, rfl, q2⟩⟩
  have hz : (mergeK [] kvs).length ≤ sizeLine := by
    have h1 := length_mergeK kvs []
    rw [List.length_nil] at h1
    rw [sizeLine_eq]; omega
  have he : ∃ q, h'.get? s.heap.objs.size = some q := let ⟨q, _, _, hq, _⟩ := dd'; ⟨q, hq⟩
  exact d_write I2 (by rw [e]; exact True.intro) hs he (dk_new hz hd (rk.merge .nil) dd')


/-! ### methods -/
/-- a method call o.m(e) of a built-in, with one argument: what must be seen of the text -/
structure M1 (X : Cx) (o : Expr) (m : Str) (apos : Pos) (e : Expr) (cpos : Pos) : Prop where
  base : attributeBase o m X.env (eval o X.env) = eval o X.env
  few : ((backTo cpos (starEach [e] X.env)).all (fun x => !x.1) && (backToKw cpos (keywordEach [] X.env)).all (fun x => x.1.isSome)
    && decide (([e] : List Expr).length + ([] : List Keyword).length + (if ([] : List Keyword).isEmpty then 0 else 1) < 30)) = true
  line : (apos.endLine == cpos.line) = true
  trees : backTo cpos (starEach [e] X.env) = [(false, eval e X.env)]
structure M2 (X : Cx) (o : Expr) (m : Str) (apos : Pos) (e f : Expr) (cpos : Pos) : Prop where
  base : attributeBase o m X.env (eval o X.env) = eval o X.env
  few : ((backTo cpos (starEach [e, f] X.env)).all (fun x => !x.1) && (backToKw cpos (keywordEach [] X.env)).all (fun x => x.1.isSome)
    && decide (([e, f] : List Expr).length + ([] : List Keyword).length + (if ([] : List Keyword).isEmpty then 0 else 1) < 30)) = true
  line : (apos.endLine == cpos.line) = true
  trees : backTo cpos (starEach [e, f] X.env) = [(false, eval e X.env), (false, eval f X.env)]

/-- a is a dict, whatever its keys -/
def IsD (H : Hp) (a : Addr) : Prop := (∃ kvs, Rd H a (.dK kvs)) ∨ ∃ kvs, Rd H a (.dT kvs)
theorem isD_at {X : Cx} {pins : List (Addr × Obj)} {σ : St} {H : Hp} {s : Shared} {a : Addr} (I : Inv X pins σ H s) (d : IsD H a) :
    s.TypeIs (.ref a) "dict" ∧ (∀ b, Value.ref a = .ref b → ∃ ob, s.heap.get? b = some ob ∧ ob.dict = none) ∧ (a == sysModules) = false := by
  rcases d with ⟨kvs, e⟩ | ⟨kvs, e⟩
  · obtain ⟨_, hd, vs, _, dd⟩ := dk_rd I.hok e
    refine ⟨dd.typeIs, fun b q => ?_, hd⟩
    cases q
    obtain ⟨ob, _, _, h1, h2, _⟩ := dd
    exact ⟨ob, h1, h2.2.1⟩
  · obtain ⟨_, hd, xs, _, dd⟩ := dt_rd I.hok e
    refine ⟨dd.typeIs, fun b q => ?_, hd⟩
    cases q
    obtain ⟨ob, _, _, h1, h2, _⟩ := dd
    exact ⟨ob, h1, h2.2.1⟩

section
variable {X : Cx} {pins : List (Addr × Obj)} {σ : St} {H : Hp} {s : Shared} {a : Addr} {y d : V} {u r : Value} {o : Option V} {A : Around} {E : Value → Shared → Prop}
/-- d.get(y) -/
theorem d_get1 {Q : Value → Shared → Prop} (hu : A.units + 1 < cLine) (I : Inv X pins σ H s) (g : DGet H a y o) (ry : RelV y u) (h : ∀ w' s', Inv X pins σ H s' → RelV (o.getD .non) w' → Q w' s') :
    wpAny (model X.prog X.w) A (call (.builtin "dict.get") [.ref a, u]) Q E s := by
  rcases g with ⟨kvs, k, e, ey, l⟩ | ⟨kvs, k, b, e, ey, eb, l⟩
  · subst ey
    obtain ⟨z, hd, vs, rel, dd⟩ := dk_rd I.hok e
    refine call_meetsIn PySem.F.slot_dict_get dd.typeIs PySem.F.entry_dict_get (PySem.F.args_dict_get_2 _ _) (meets_dict_get (mixKind X.prog X.w) a (kV_is ry) hd) ⟨_, dd.mapOf, h _ _ (I.tok _) ?_⟩
    rw [l]
    exact (rel.val k).getD rfl
  · subst ey
    cases (show u = Value.ref b from ry)
    obtain ⟨z, hd, xs, rel, dd⟩ := dt_rd I.hok e
    refine call_meetsIn PySem.F.slot_dict_get dd.typeIs PySem.F.entry_dict_get (PySem.F.args_dict_get_2 _ _) (meetsH_dict_get (tupleKind (mixKind X.prog X.w)) a b hd) ⟨tupleKind_room_in1 hu, k, xs, key_of I.hok eb, dd, h _ _ (I.tok _) ?_⟩
    rw [l]
    exact (rel.val k).getD rfl
/-- d.get(y, x) -/
theorem d_get2 {Q : Value → Shared → Prop} (hu : A.units + 1 < cLine) (I : Inv X pins σ H s) (g : DGet H a y o) (ry : RelV y u) (rd : RelV d r) (h : ∀ w' s', Inv X pins σ H s' → RelV (o.getD d) w' → Q w' s') :
    wpAny (model X.prog X.w) A (call (.builtin "dict.get") [.ref a, u, r]) Q E s := by
  rcases g with ⟨kvs, k, e, ey, l⟩ | ⟨kvs, k, b, e, ey, eb, l⟩
  · subst ey
    obtain ⟨z, hd, vs, rel, dd⟩ := dk_rd I.hok e
    refine call_meetsIn PySem.F.slot_dict_get dd.typeIs PySem.F.entry_dict_get (PySem.F.args_dict_get_3 _ _ _) (meets_dict_get_default (mixKind X.prog X.w) a (kV_is ry) hd r) ⟨_, dd.mapOf, h _ _ (I.tok _) ?_⟩
    rw [l]
    exact (rel.val k).getD rd
  · subst ey
    cases (show u = Value.ref b from ry)
    obtain ⟨z, hd, xs, rel, dd⟩ := dt_rd I.hok e
    refine call_meetsIn PySem.F.slot_dict_get dd.typeIs PySem.F.entry_dict_get (PySem.F.args_dict_get_3 _ _ _) (meetsH_dict_get_default (tupleKind (mixKind X.prog X.w)) a b hd r) ⟨tupleKind_room_in1 hu, k, xs, key_of I.hok eb, dd, h _ _ (I.tok _) ?_⟩
    rw [l]
    exact (rel.val k).getD rd
end

def tDGet1 (td ty : TE) : TE := fun σ H Q => td σ H fun x H1 => ∃ a, x = .ref a ∧ IsD H1 a ∧ ty σ H1 fun y H2 => ∃ o, DGet H2 a y o ∧ Q (o.getD .non) H2
def tDGet2 (td ty tx : TE) : TE := fun σ H Q => td σ H fun x H1 => ∃ a, x = .ref a ∧ IsD H1 a ∧ ty σ H1 fun y H2 => tx σ H2 fun z H3 => ∃ o, DGet H3 a y o ∧ Q (o.getD z) H3
/-- d.pop(k): there; d.pop(k, x): there or not -/
def tDPop1 (td ty : TE) : TE := fun σ H Q => td σ H fun x H1 => ∃ a, x = .ref a ∧ IsD H1 a ∧ ty σ H1 fun y H2 => ∃ kvs k v, H2 a = some (.dK kvs) ∧ y = kV k ∧ valV kvs k = some v ∧ Q v (upd H2 a (.dK (dropK kvs k)))
def tDPop2 (td ty tx : TE) : TE := fun σ H Q => td σ H fun x H1 => ∃ a, x = .ref a ∧ IsD H1 a ∧ ty σ H1 fun y H2 => tx σ H2 fun z H3 => ∃ kvs k, H3 a = some (.dK kvs) ∧ y = kV k ∧
  (∀ v, valV kvs k = some v → Q v (upd H3 a (.dK (dropK kvs k)))) ∧ (valV kvs k = none → Q z H3)
section
variable {X : Cx} {o e f : Expr} {apos cpos : Pos} {td ty tx : TE}
theorem pe_dget1 (hu : X.A.units + 1 < cLine) (ho : PE X o td) (he : PE X e ty) (m : M1 X o "get" apos e cpos) : PE X (.Call (.Attribute o "get" apos) [e] [] cpos) (tDGet1 td ty) := by
  constructor
  intro pins s σ H Q I h
  refine wpAny_Call_method m.base m.few m.line PySem.F.plainAttrs_dict PySem.F.slot_dict_get PySem.F.type_dict_get (thn (ho pins s σ H _ I h) fun u s1 ⟨x, H1, I1, rx, a, ex, d, q1⟩ => ?_)
  subst ex
  obtain rfl : u = Value.ref a := rx
  obtain ⟨t1, t2, _⟩ := isD_at I1 d
  refine ⟨t1, t2, ?_⟩
  rw [m.trees]
  refine Calls.callWith_builtin rfl (Calls.evalArgs_plain (Calls.spliced_cons (thn (he pins s1 σ H1 _ I1 q1) fun iv s2 ⟨y, H2, I2, ry, ov, g, q2⟩ => Calls.spliced_nil ?_)))
  exact d_get1 hu I2 g ry fun w' s3 I3 rw' => ⟨_, H2, I3, rw', q2⟩
theorem pe_dget2 (hu : X.A.units + 1 < cLine) (ho : PE X o td) (he : PE X e ty) (hf : PE X f tx) (m : M2 X o "get" apos e f cpos) : PE X (.Call (.Attribute o "get" apos) [e, f] [] cpos) (tDGet2 td ty tx) := by
  constructor
  intro pins s σ H Q I h
  refine wpAny_Call_method m.base m.few m.line PySem.F.plainAttrs_dict PySem.F.slot_dict_get PySem.F.type_dict_get (thn (ho pins s σ H _ I h) fun u s1 ⟨x, H1, I1, rx, a, ex, d, q1⟩ => ?_)
  subst ex
  obtain rfl : u = Value.ref a := rx
  obtain ⟨t1, t2, _⟩ := isD_at I1 d
  refine ⟨t1, t2, ?_⟩
  rw [m.trees]
  refine Calls.callWith_builtin rfl (Calls.evalArgs_plain (Calls.spliced_cons (thn (he pins s1 σ H1 _ I1 q1) fun iv s2 ⟨y, H2, I2, ry, q2⟩ =>
    Calls.spliced_cons (thn (hf pins s2 σ H2 _ I2 q2) fun fv s3 ⟨z, H3, I3, rz, ov, g, q3⟩ => Calls.spliced_nil ?_))))
  exact d_get2 hu I3 g ry rz fun w' s4 I4 rw' => ⟨_, H3, I4, rw', q3⟩
theorem pe_dpop1 (ho : PE X o td) (he : PE X e ty) (m : M1 X o "pop" apos e cpos) : PE X (.Call (.Attribute o "pop" apos) [e] [] cpos) (tDPop1 td ty) := by
  constructor
  intro pins s σ H Q I h
  refine wpAny_Call_method m.base m.few m.line PySem.F.plainAttrs_dict PySem.F.slot_dict_pop PySem.F.type_dict_pop (thn (ho pins s σ H _ I h) fun u s1 ⟨x, H1, I1, rx, a, ex, d, q1⟩ => ?_)
  subst ex
  obtain rfl : u = Value.ref a := rx
  obtain ⟨t1, t2, _⟩ := isD_at I1 d
  refine ⟨t1, t2, ?_⟩
  rw [m.trees]
  refine Calls.callWith_builtin rfl (Calls.evalArgs_plain (Calls.spliced_cons (thn (he pins s1 σ H1 _ I1 q1) fun iv s2 ⟨y, H2, I2, ry, kvs, k, v, ea, ey, l, q2⟩ => Calls.spliced_nil ?_)))
  subst ey
  exact d_pop I2 ea ry l (.inl rfl) fun w' s3 I3 rw' => ⟨v, _, I3, rw', q2⟩
theorem pe_dpop2 (ho : PE X o td) (he : PE X e ty) (hf : PE X f tx) (m : M2 X o "pop" apos e f cpos) : PE X (.Call (.Attribute o "pop" apos) [e, f] [] cpos) (tDPop2 td ty tx) := by
  constructor
  intro pins s σ H Q I h
  refine wpAny_Call_method m.base m.few m.line PySem.F.plainAttrs_dict PySem.F.slot_dict_pop PySem.F.type_dict_pop (thn (ho pins s σ H _ I h) fun u s1 ⟨x, H1, I1, rx, a, ex, d, q1⟩ => ?_)
  subst ex
  obtain rfl : u = Value.ref a := rx
  obtain ⟨t1, t2, _⟩ := isD_at I1 d
  refine ⟨t1, t2, ?_⟩
  rw [m.trees]
  refine Calls.callWith_builtin rfl (Calls.evalArgs_plain (Calls.spliced_cons (thn (he pins s1 σ H1 _ I1 q1) fun iv s2 ⟨y, H2, I2, ry, q2⟩ =>
    Calls.spliced_cons (thn (hf pins s2 σ H2 _ I2 q2) fun fv s3 ⟨z, H3, I3, rz, kvs, k, ea, ey, q3, q4⟩ => Calls.spliced_nil ?_))))
  subst ey
  cases l : valV kvs k with
  | some v => exact d_pop I3 ea ry l (.inr ⟨fv, rfl⟩) fun w' s4 I4 rw' => ⟨v, _, I4, rw', q3 v l⟩
  | none => exact d_popD I3 ea ry l fun s4 I4 => ⟨z, H3, I4, rz, q4 l⟩
end

/-! ### dict(d): a copy -/
section
variable {X : Cx} {pins : List (Addr × Obj)} {σ : St} {H : Hp} {s : Shared} {a : Addr} {kvs : List (Key × V)} {A : Around} {E : Value → Shared → Prop}
theorem d_copyOf {Q : Value → Shared → Prop} (I : Inv X pins σ H s) (e : Rd H a (.dK kvs)) (h : ∀ p s', H p = none → Inv X pins σ (upd H p (.dK kvs)) s' → Q (.ref p) s') : wpAny (model X.prog X.w) A (call (.type "dict") [.ref a]) Q E s := by
  obtain ⟨z, hd, vs, rel, dd⟩ := dk_rd I.hok e
  refine kt_call_dict hd dd (by rw [← rel.length]; exact z) fun h' dd' hs => ?_
  refine h _ _ (I.hok.fresh (Nat.le_refl _)) (I.laid (a := s.heap.objs.size) (o := .dK kvs) (t' := s.toks) (fun b q hq => ?_) (Nat.le_refl _) (dk_new z (beq_eq_false_iff_ne.mpr (Ne.symm (Nat.ne_of_lt I.big))) rel dd'))
  exact (hs.2 b (Nat.ne_of_lt (Heap.lt_size hq))).trans (Heap.get?_push_of_some _ hq)
end


section
variable {X : Cx} {pins : List (Addr × Obj)} {σ : St} {H : Hp} {s : Shared} {a : Addr} {y : V} {u : Value} {A : Around} {E : Value → Shared → Prop}
/-- d[y], not there: a KeyError -/
theorem d_missing {Q : Value → Shared → Prop} (hu : A.units + 1 < cLine) (hh : A.handled = none) (I : Inv X pins σ H s) (g : DGet H a y none) (ry : RelV y u)
    (h : ∀ h' e t', Heap.NewExc s.heap h' e "KeyError" → E (.ref e) { s with heap := h', toks := t' }) : wpAny (model X.prog X.w) A (getItem (.ref a) u) Q E s := by
  rcases g with ⟨kvs, k, e, ey, l⟩ | ⟨kvs, k, b, e, ey, eb, l⟩
  · subst ey
    obtain ⟨z, hd, vs, rel, dd⟩ := dk_rd I.hok e
    have hn : valueAt vs k = none := RelO.none_of (by rw [l]; exact rel.val k)
    exact wpAny_getItem_missing_of (kV_is ry) hd hh dd.mapOf hn fun h' ex ne => h h' ex _ ne
  · subst ey
    cases (show u = Value.ref b from ry)
    obtain ⟨z, hd, xs, rel, dd⟩ := dt_rd I.hok e
    have hn : (atKey xs k).map (·.2) = none := RelO.none_of (by rw [l]; exact rel.val k)
    exact wpAny_getItem_missing_heap (tupleKind_room_in1 hu) (key_of I.hok eb) hd hh dd (Option.map_eq_none_iff.mp hn) fun h' ex ne => h h' ex _ ne
end
end L2
namespace Br
def rise (c : Nat) : Int := if c = 40 then 1 else -1
def lev : List Nat → Int
  | [] => 0
  | c :: r => rise c + lev r
theorem lev_append (a b : List Nat) : lev (a ++ b) = lev a + lev b := by
  induction a with
  | nil => simp [lev]
  | cons c r ih => simp only [List.cons_append, lev, ih]; omega
theorem lev_snoc (a : List Nat) (c : Nat) : lev (a ++ [c]) = lev a + rise c := by
  rw [lev_append]; simp [lev]
theorem rise_cases (c : Nat) : rise c = 1 ∨ rise c = -1 := by unfold rise; split <;> simp
theorem rise_bounds (c : Nat) : -1 ≤ rise c ∧ rise c ≤ 1 := by rcases rise_cases c with h | h <;> omega
theorem take_succ_snoc {r : List Nat} {k : Nat} (h : k < r.length) : r.take (k + 1) = r.take k ++ [r[k]] := by
  rw [List.take_succ_eq_append_getElem h]
theorem lev_take_succ {r : List Nat} {k : Nat} (h : k < r.length) : lev (r.take (k + 1)) = lev (r.take k) + rise r[k] := by
  rw [take_succ_snoc h, lev_snoc]
/-- only brackets -/
def IsBr (r : List Nat) : Prop := ∀ c ∈ r, c = 40 ∨ c = 41
theorem IsBr.append {a b : List Nat} (ha : IsBr a) (hb : IsBr b) : IsBr (a ++ b) := fun c hc =>
  (List.mem_append.mp hc).elim (ha c) (hb c)
theorem IsBr.take {a : List Nat} (ha : IsBr a) (n : Nat) : IsBr (a.take n) := fun c hc => ha c (List.mem_of_mem_take hc)
theorem IsBr.drop {a : List Nat} (ha : IsBr a) (n : Nat) : IsBr (a.drop n) := fun c hc => ha c (List.mem_of_mem_drop hc)
/-- whole -/
def Whole (r : List Nat) : Prop := IsBr r ∧ (∀ k, k ≤ r.length → 0 ≤ lev (r.take k)) ∧ lev r = 0
/-- the law's walk -/
def gain (c : Nat) : Int := if c = 40 then 1 else if c = 41 then -1 else -999
def lw : Int → List Nat → Bool
  | h, [] => h == 0
  | h, c :: r => if h + gain c < 0 then false else lw (h + gain c) r
theorem lw_iff : ∀ (r : List Nat) (h : Int), 0 ≤ h → h + r.length ≤ 998 →
    (lw h r = true ↔ IsBr r ∧ (∀ k, k ≤ r.length → 0 ≤ h + lev (r.take k)) ∧ h + lev r = 0)
  | [], h, h0, _ => by
    simp [lw, lev, IsBr]
    intro e; omega
  | c :: r, h, h0, hl => by
    have hl' : h + ((r.length : Int) + 1) ≤ 998 := by simpa using hl
    unfold lw
    by_cases hc : c = 40
    · have g : gain c = 1 := by simp [gain, hc]
      have g' : rise c = 1 := by simp [rise, hc]
      rw [if_neg (by omega), g]
      rw [lw_iff r (h + 1) (by omega) (by omega)]
      constructor
      · rintro ⟨b, k, e⟩
        refine ⟨fun d hd => ?_, fun j hj => ?_, ?_⟩
        · rcases List.mem_cons.mp hd with rfl | hd
          · exact .inl hc
          · exact b d hd
        · cases j with
          | zero => simp [lev]; exact h0
          | succ j =>
            have := k j (by simpa using hj)
            simp only [List.take_succ_cons, lev, g']; omega
        · simp only [lev, g']; omega
      · rintro ⟨b, k, e⟩
        refine ⟨fun d hd => b d (List.mem_cons_of_mem _ hd), fun j hj => ?_, ?_⟩
        · have := k (j + 1) (by simpa using hj)
          simp only [List.take_succ_cons, lev, g'] at this; omega
        · simp only [lev, g'] at e; omega
    · by_cases hc' : c = 41
      · have g : gain c = -1 := by simp [gain, hc']
        have g' : rise c = -1 := by simp [rise, hc']
        by_cases hz : h + gain c < 0
        · rw [if_pos hz]
          constructor
          · intro q; cases q
          · rintro ⟨b, k, e⟩
            have := k 1 (by simp)
            simp [lev, g'] at this; omega
        · rw [if_neg hz, g]
          rw [lw_iff r (h + -1) (by omega) (by omega)]
          constructor
          · rintro ⟨b, k, e⟩
            refine ⟨fun d hd => ?_, fun j hj => ?_, ?_⟩
            · rcases List.mem_cons.mp hd with rfl | hd
              · exact .inr hc'
              · exact b d hd
            · cases j with
              | zero => simp [lev]; exact h0
              | succ j =>
                have := k j (by simpa using hj)
                simp only [List.take_succ_cons, lev, g']; omega
            · simp only [lev, g']; omega
          · rintro ⟨b, k, e⟩
            refine ⟨fun d hd => b d (List.mem_cons_of_mem _ hd), fun j hj => ?_, ?_⟩
            · have := k (j + 1) (by simpa using hj)
              simp only [List.take_succ_cons, lev, g'] at this; omega
            · simp only [lev, g'] at e; omega
      · have g : gain c = -999 := by simp [gain, hc, hc']
        rw [if_pos (by omega)]
        constructor
        · intro q; cases q
        · rintro ⟨b, _, _⟩
          rcases b c List.mem_cons_self with q | q
          · exact absurd q hc
          · exact absurd q hc'
theorem lw_whole {r : List Nat} (h : r.length ≤ 998) : lw 0 r = true ↔ Whole r := by
  rw [lw_iff r 0 (by omega) (by omega)]; unfold Whole; simp
/-- the levels of all heads -/
def heads (r : List Nat) : List Int := (List.range (r.length + 1)).map fun k => lev (r.take k)
theorem heads_length (r : List Nat) : (heads r).length = r.length + 1 := by simp [heads]
theorem heads_get {r : List Nat} {k : Nat} (h : k ≤ r.length) : (heads r)[k]? = some (lev (r.take k)) := by
  simp [heads, Nat.lt_succ_of_le h]
/-- k is the last of the lowest -/
structure Last (r : List Nat) (k : Nat) : Prop where
  le : k ≤ r.length
  low : ∀ j, j ≤ r.length → lev (r.take k) ≤ lev (r.take j)
  last : ∀ j, k < j → j ≤ r.length → lev (r.take k) < lev (r.take j)
theorem Last.uniq {r : List Nat} {i k : Nat} (a : Last r i) (b : Last r k) : i = k := by
  rcases Nat.lt_trichotomy i k with h | h | h
  · have := a.last k h b.le; have := b.low i a.le; omega
  · exact h
  · have := b.last i h a.le; have := a.low k b.le; omega
theorem lev_full {r : List Nat} : lev (r.take r.length) = lev r := by rw [List.take_length]
theorem Last.lt {r : List Nat} {k : Nat} (a : Last r k) (h1 : lev r = 1) : k < r.length := by
  rcases Nat.lt_or_ge k r.length with h | h
  · exact h
  · have e : k = r.length := by have := a.le; omega
    have := a.low 0 (Nat.zero_le _)
    rw [e, lev_full, h1] at this
    simp [lev] at this
/-- the levels of what is turned -/
theorem turn_lo {r : List Nat} {k j : Nat} (hk : k ≤ r.length) (hj : k + j ≤ r.length) : lev ((r.drop k ++ r.take k).take j) = lev (r.take (k + j)) - lev (r.take k) := by
  have e : (r.drop k ++ r.take k).take j = (r.drop k).take j := by
    rw [List.take_append_of_le_length]; simp; omega
  have e2 : r.take (k + j) = r.take k ++ (r.drop k).take j := by rw [List.take_add]
  rw [e, e2, lev_append]; omega
theorem turn_hi {r : List Nat} {k j : Nat} (hk : k ≤ r.length) (hj : r.length ≤ k + j) (hj2 : j ≤ r.length) : lev ((r.drop k ++ r.take k).take j) = lev r - lev (r.take k) + lev (r.take (k + j - r.length)) := by
  have e : (r.drop k ++ r.take k).take j = r.drop k ++ r.take (k + j - r.length) := by
    rw [List.take_append, List.take_of_length_le (by simp; omega), List.take_take]
    congr 2
    simp; omega
  have e2 : lev r = lev (r.take k) + lev (r.drop k) := by rw [← lev_append, List.take_append_drop]
  rw [e, lev_append, e2]; omega
theorem whole_cons {c : Nat} {w : List Nat} (h : c = 40 ∧ Whole w) : ∀ j, 1 ≤ j → j ≤ w.length + 1 → 1 ≤ lev ((c :: w).take j) := by
  intro j h1 h2
  obtain ⟨j, rfl⟩ : ∃ i, j = i + 1 := ⟨j - 1, by omega⟩
  have := h.2.2.1 j (by omega)
  simp only [List.take_succ_cons, lev, rise, h.1]; simp; omega
/-- (d): the place from which a row is one bracket and a whole row behind it -/
theorem due_iff {r : List Nat} (hb : IsBr r) (h1 : lev r = 1) {k : Nat} (hk : k < r.length) :
    (r[k] = 40 ∧ Whole (r.drop (k + 1) ++ r.take k)) ↔ Last r k := by
  have er : r.drop k ++ r.take k = r[k] :: (r.drop (k + 1) ++ r.take k) := by
    rw [List.drop_eq_getElem_cons hk]; rfl
  have el : (r.drop (k + 1) ++ r.take k).length + 1 = r.length := by simp; omega
  constructor
  · intro h
    have q := whole_cons h
    rw [el, ← er] at q
    refine ⟨Nat.le_of_lt hk, fun j hj => ?_, fun j hj hj2 => ?_⟩
    · rcases Nat.lt_or_ge k j with hkj | hkj
      · have := q (j - k) (by omega) (by omega)
        rw [turn_lo (Nat.le_of_lt hk) (by omega)] at this
        have e : k + (j - k) = j := by omega
        rw [e] at this; omega
      · have := q (r.length - k + j) (by omega) (by omega)
        rw [turn_hi (Nat.le_of_lt hk) (by omega) (by omega), h1] at this
        have e : k + (r.length - k + j) - r.length = j := by omega
        rw [e] at this; omega
    · have := q (j - k) (by omega) (by omega)
      rw [turn_lo (Nat.le_of_lt hk) (by omega)] at this
      have e : k + (j - k) = j := by omega
      rw [e] at this; omega
  · intro h
    have q : ∀ j, 1 ≤ j → j ≤ r.length → 1 ≤ lev ((r.drop k ++ r.take k).take j) := by
      intro j hj1 hj2
      rcases Nat.lt_or_ge r.length (k + j) with hh | hh
      · rw [turn_hi (Nat.le_of_lt hk) (Nat.le_of_lt hh) hj2, h1]
        have := h.low (k + j - r.length) (by omega)
        omega
      · rw [turn_lo (Nat.le_of_lt hk) hh]
        have := h.last (k + j) (by omega) hh
        omega
    have c1 : rise r[k] = 1 := by
      have := q 1 (by omega) (by omega)
      rw [er] at this
      simp [lev] at this
      have := rise_bounds r[k]; omega
    have c40 : r[k] = 40 := by
      unfold rise at c1
      split at c1
      · assumption
      · cases c1
    refine ⟨c40, (hb.drop _).append (hb.take _), fun j hj => ?_, ?_⟩
    · have := q (j + 1) (by omega) (by omega)
      rw [er] at this
      simp only [List.take_succ_cons, lev, c1] at this; omega
    · have e : lev (r.drop k ++ r.take k) = 1 := by
        rw [lev_append, Int.add_comm, ← lev_append, List.take_append_drop, h1]
      rw [er] at e
      simp only [lev, c1] at e; omega
/-- turned by one -/
theorem Last.turn {r : List Nat} (h1 : lev r = 1) {k : Nat} (h : Last r k) : Last (r.drop 1 ++ r.take 1) (if k = 0 then r.length - 1 else k - 1) := by
  have hk := h.lt h1
  have hl : (r.drop 1 ++ r.take 1).length = r.length := by simp; omega
  have lo : ∀ j, 1 + j ≤ r.length → lev ((r.drop 1 ++ r.take 1).take j) = lev (r.take (1 + j)) - lev (r.take 1) := fun j hj => turn_lo (by omega) hj
  have hi : lev ((r.drop 1 ++ r.take 1).take r.length) = 1 := by
    rw [turn_hi (by omega) (by omega) (by omega), h1]
    have e : 1 + r.length - r.length = 1 := by omega
    rw [e]; omega
  have z : lev (r.take 0) = 0 := by simp [lev]
  by_cases k0 : k = 0
  · subst k0
    rw [if_pos rfl]
    have a1 : 1 ≤ lev (r.take 1) := by have := h.last 1 (by omega) (by omega); omega
    have e1 : 1 + (r.length - 1) = r.length := by omega
    have en : lev ((r.drop 1 ++ r.take 1).take (r.length - 1)) = 1 - lev (r.take 1) := by
      rw [lo _ (by omega), e1, lev_full, h1]
    refine ⟨by omega, fun j hj => ?_, fun j hj hj2 => ?_⟩
    · rw [hl] at hj
      rw [en]
      rcases Nat.lt_or_ge j r.length with q | q
      · rw [lo j (by omega)]
        have := h.last (1 + j) (by omega) (by omega); omega
      · have e : j = r.length := by omega
        rw [e, hi]; omega
    · rw [hl] at hj2
      have e : j = r.length := by omega
      rw [e, hi, en]; omega
  · rw [if_neg k0]
    have e1 : 1 + (k - 1) = k := by omega
    have en : lev ((r.drop 1 ++ r.take 1).take (k - 1)) = lev (r.take k) - lev (r.take 1) := by
      rw [lo _ (by omega), e1]
    have l0 := h.low 0 (by omega)
    have l1 := h.low 1 (by omega)
    have r1 : -1 ≤ lev (r.take 1) ∧ lev (r.take 1) ≤ 1 := by
      rw [lev_take_succ (k := 0) (by omega), z]
      have := rise_bounds r[0]; omega
    refine ⟨by omega, fun j hj => ?_, fun j hj hj2 => ?_⟩
    · rw [hl] at hj
      rw [en]
      rcases Nat.lt_or_ge j r.length with q | q
      · rw [lo j (by omega)]
        have := h.low (1 + j) (by omega); omega
      · have e : j = r.length := by omega
        rw [e, hi]; omega
    · rw [hl] at hj2
      rw [en]
      rcases Nat.lt_or_ge j r.length with q | q
      · rw [lo j (by omega)]
        have := h.last (1 + j) (by omega) (by omega); omega
      · have e : j = r.length := by omega
        rw [e, hi]
        have := h.last r.length (by omega) (Nat.le_refl _)
        rw [lev_full, h1] at this; omega
/-- a row that grows, of n pairs at last -/
structure Grow (r : List Nat) (n h : Int) : Prop where
  br : IsBr r
  low : ∀ k, k ≤ r.length → 0 ≤ lev (r.take k)
  lv : lev r = h
  top : h + r.length ≤ 2 * n
  par : (h + r.length) % 2 = 0
theorem Grow.nil {n : Int} (h : 0 ≤ n) : Grow [] n 0 := ⟨(fun _ z => nomatch z), (fun k _ => by rw [List.take_nil]; exact Int.le_refl 0), rfl, (by show (0 : Int) + ((0 : Nat) : Int) ≤ 2 * n; omega), rfl⟩
theorem Grow.pos {r : List Nat} {n h : Int} (g : Grow r n h) : 0 ≤ h := by
  have := g.low r.length (Nat.le_refl _)
  rw [List.take_length, g.lv] at this; exact this
theorem low_snoc {r : List Nat} {c : Nat} (g : ∀ k, k ≤ r.length → 0 ≤ lev (r.take k)) (h : 0 ≤ lev r + rise c) : ∀ k, k ≤ (r ++ [c]).length → 0 ≤ lev ((r ++ [c]).take k) := fun k hk => by
  rw [List.length_append, List.length_singleton] at hk
  rcases Nat.lt_or_ge r.length k with q | q
  · rw [List.take_of_length_le (by simp; omega), lev_snoc]; exact h
  · rw [List.take_append_of_le_length q]; exact g k q
theorem IsBr.snoc {r : List Nat} {c : Nat} (h : IsBr r) (hc : c = 40 ∨ c = 41) : IsBr (r ++ [c]) := h.append fun d hd => by
  have : d = c := by simpa using hd
  rw [this]; exact hc
theorem Grow.up {r : List Nat} {n h : Int} (g : Grow r n h) (ht : h + r.length + 2 ≤ 2 * n) : Grow (r ++ [40]) n (h + 1) := by
  have p := g.pos
  have l := g.lv
  have q := g.par
  have e : rise 40 = 1 := rfl
  refine ⟨g.br.snoc (.inl rfl), low_snoc g.low (by omega), by rw [lev_snoc]; omega, ?_, ?_⟩
  · rw [List.length_append, List.length_singleton]; omega
  · rw [List.length_append, List.length_singleton]; omega
theorem Grow.down {r : List Nat} {n h : Int} (g : Grow r n h) (hh : 1 ≤ h) : Grow (r ++ [41]) n (h - 1) := by
  have l := g.lv
  have q := g.par
  have t := g.top
  have e : rise 41 = -1 := rfl
  refine ⟨g.br.snoc (.inr rfl), low_snoc g.low (by omega), by rw [lev_snoc]; omega, ?_, ?_⟩
  · rw [List.length_append, List.length_singleton]; omega
  · rw [List.length_append, List.length_singleton]; omega
theorem Grow.whole {r : List Nat} {n h : Int} (g : Grow r n h) (hl : (r.length : Int) = 2 * n) : Whole r := by
  have p := g.pos
  have t := g.top
  exact ⟨g.br, g.low, by rw [g.lv]; omega⟩
/-- the places of level M -/
def lows (r : List Nat) (M : Int) (n : Nat) : List Int := ((List.range n).filter fun k => decide (lev (r.take k) = M)).map fun (k : Nat) => (k : Int)
theorem lows_succ (r : List Nat) (M : Int) (n : Nat) : lows r M (n + 1) = lows r M n ++ (if lev (r.take n) = M then [(n : Int)] else []) := by
  unfold lows
  rw [List.range_succ, List.filter_append, List.map_append]
  by_cases h : lev (r.take n) = M <;> simp [h]
theorem mem_lows {r : List Nat} {M a : Int} {n : Nat} : a ∈ lows r M n ↔ ∃ k : Nat, a = k ∧ k < n ∧ lev (r.take k) = M := by
  unfold lows
  constructor
  · intro h
    obtain ⟨k, hk, rfl⟩ := List.mem_map.mp h
    obtain ⟨h1, h2⟩ := List.mem_filter.mp hk
    exact ⟨k, rfl, List.mem_range.mp h1, of_decide_eq_true h2⟩
  · rintro ⟨k, rfl, h1, h2⟩
    exact List.mem_map.mpr ⟨k, List.mem_filter.mpr ⟨List.mem_range.mpr h1, decide_eq_true h2⟩, rfl⟩
theorem mem_heads {r : List Nat} {a : Int} : a ∈ heads r ↔ ∃ k, k ≤ r.length ∧ lev (r.take k) = a := by
  unfold heads
  constructor
  · intro h
    obtain ⟨k, hk, e⟩ := List.mem_map.mp h
    exact ⟨k, Nat.le_of_lt_succ (List.mem_range.mp hk), e⟩
  · rintro ⟨k, hk, e⟩
    exact List.mem_map.mpr ⟨k, List.mem_range.mpr (Nat.lt_succ_of_le hk), e⟩
theorem lows_pos {r : List Nat} {M : Int} (h : M ∈ heads r) : 0 < (lows r M (r.length + 1)).length := by
  obtain ⟨k, hk, e⟩ := mem_heads.mp h
  exact List.length_pos_of_mem (mem_lows.mpr ⟨k, rfl, Nat.lt_succ_of_le hk, e⟩)
theorem last_of {r : List Nat} {M a : Int} (hle : ∀ b, b ∈ heads r → M ≤ b) (ha : a ∈ lows r M (r.length + 1)) (hmax : ∀ b, b ∈ lows r M (r.length + 1) → b ≤ a) : ∃ k : Nat, a = k ∧ Last r k := by
  obtain ⟨k, rfl, hk, e⟩ := mem_lows.mp ha
  refine ⟨k, rfl, Nat.le_of_lt_succ hk, fun j hj => ?_, fun j hj hj2 => ?_⟩
  · rw [e]; exact hle _ (mem_heads.mpr ⟨j, hj, rfl⟩)
  · rw [e]
    have h1 := hle _ (mem_heads.mpr ⟨j, hj2, rfl⟩)
    rcases Int.lt_or_eq_of_le h1 with q | q
    · exact q
    · have := hmax (j : Int) (mem_lows.mpr ⟨j, rfl, Nat.lt_succ_of_le hj2, q.symm⟩)
      omega
theorem lev_erase : ∀ (r : List Nat) (k : Nat) (h : k < r.length), lev (r.eraseIdx k) + rise r[k] = lev r
  | _ :: r, 0, _ => by simp only [List.eraseIdx_zero, List.tail_cons, List.getElem_cons_zero, lev]; omega
  | c :: r, k + 1, h => by
    have := lev_erase r k (by simpa using h)
    simp only [List.eraseIdx_cons_succ, List.getElem_cons_succ, lev]; omega
theorem IsBr.erase {r : List Nat} (h : IsBr r) (k : Nat) : IsBr (r.eraseIdx k) := fun c hc => h c (List.mem_of_mem_eraseIdx hc)
theorem lev_reps (a b : Nat) : lev (List.replicate a 40 ++ List.replicate b 41) = (a : Int) - b := by
  have l : ∀ a : Nat, lev (List.replicate a 40) = a := fun a => by
    induction a with
    | zero => rfl
    | succ a ih => rw [List.replicate_succ, lev, ih]; simp [rise]; omega
  have r : ∀ b : Nat, lev (List.replicate b 41) = -(b : Int) := fun b => by
    induction b with
    | zero => rfl
    | succ a ih => rw [List.replicate_succ, lev, ih]; simp [rise]; omega
  rw [lev_append, l, r]; omega
theorem isBr_reps (a b : Nat) : IsBr (List.replicate a 40 ++ List.replicate b 41) := fun c hc => by
  rcases List.mem_append.mp hc with h | h
  · exact .inl (List.eq_of_mem_replicate h)
  · exact .inr (List.eq_of_mem_replicate h)
/-- the place that the law finds -/
def due (r : List Nat) (n : Nat) : List Int := ((List.range n).filter fun k => decide (r[k]? = some 40) && lw 0 (r.drop (k + 1) ++ r.take k)).map fun (k : Nat) => (k : Int)
theorem due_one {r : List Nat} (hb : IsBr r) (h1 : lev r = 1) (hl : r.length ≤ 900) {k : Nat} (h : Last r k) : due r r.length = [(k : Int)] := by
  have hk := h.lt h1
  have key : ∀ j, j < r.length → ((decide (r[j]? = some 40) && lw 0 (r.drop (j + 1) ++ r.take j)) = true ↔ j = k) := fun j hj => by
    rw [Bool.and_eq_true, decide_eq_true_iff, lw_whole (by simp; omega), List.getElem?_eq_getElem hj, Option.some.injEq, due_iff hb h1 hj]
    exact ⟨fun q => q.uniq h, fun q => q ▸ h⟩
  have filt : ∀ n, n ≤ r.length → (List.range n).filter (fun k => decide (r[k]? = some 40) && lw 0 (r.drop (k + 1) ++ r.take k)) = if k < n then [k] else [] := fun n => by
    induction n with
    | zero => intro _; simp
    | succ n ih =>
      intro hn
      rw [List.range_succ, List.filter_append, ih (by omega)]
      have q := key n (by omega)
      by_cases e : n = k
      · subst e
        rw [if_neg (Nat.lt_irrefl _), if_pos (Nat.lt_succ_self _)]
        simp [q.mpr rfl]
      · have : (decide (r[n]? = some 40) && lw 0 (r.drop (n + 1) ++ r.take n)) = false := by
          cases z : (decide (r[n]? = some 40) && lw 0 (r.drop (n + 1) ++ r.take n)) with
          | false => rfl
          | true => exact absurd (q.mp z) e
        have fl : [n].filter (fun k => decide (r[k]? = some 40) && lw 0 (r.drop (k + 1) ++ r.take k)) = [] := by
          rw [List.filter_cons, this]; rfl
        rw [fl]
        by_cases l : k < n
        · rw [if_pos l, if_pos (show k < n + 1 by omega)]; rfl
        · rw [if_neg l, if_neg (show ¬ k < n + 1 by omega)]; rfl
  unfold due
  rw [filt r.length (Nat.le_refl _), if_pos hk]
  rfl
theorem due_succ (r : List Nat) (n : Nat) : due r (n + 1) = due r n ++ (if (decide (r[n]? = some 40) && lw 0 (r.drop (n + 1) ++ r.take n)) = true then [(n : Int)] else []) := by
  unfold due
  rw [List.range_succ, List.filter_append, List.map_append]
  cases h : (decide (r[n]? = some 40) && lw 0 (r.drop (n + 1) ++ r.take n)) <;> simp [h]
theorem turn_one {k n : Nat} (hk : k < n) : (((if k = 0 then n - 1 else k - 1 : Nat) : Int)) = ((k : Int) - 1) % (n : Int) := by
  by_cases h : k = 0
  · subst h
    rw [if_pos rfl]
    have : ((0 : Nat) : Int) - 1 = ((n : Int) - 1) + (n : Int) * (-1) := by omega
    rw [this, Int.add_mul_emod_self_left, Int.emod_eq_of_lt (by omega) (by omega)]
    omega
  · rw [if_neg h, Int.emod_eq_of_lt (by omega) (by omega)]
    omega
end Br

/-! ### comprehensions of lists, with one clause and at most one test -/
namespace L2
open PySem PySem.Spec PyProof.Rows

theorem forIn_cl {env : Env} : ∀ (names : List (Str × NameKind)) (acc : List (Str × Addr)), (∀ y ∈ names, y.2 = .free → ∃ c, env.cells.lookup y.1 = some c) → (∀ x c, acc.lookup x = some c → env.cells.lookup x = some c) →
    ∃ cl, (forIn names acc fun x r => if (x.2 == NameKind.free) = true then do let a ← cellOf env x.1; pure (ForInStep.yield ((x.1, a) :: r)) else pure (ForInStep.yield r) : Sem (List (Str × Addr))) = pure cl ∧
      (∀ x c, cl.lookup x = some c → env.cells.lookup x = some c) ∧ (∀ x, (acc.lookup x).isSome = true → (cl.lookup x).isSome = true) ∧ (∀ y ∈ names, y.2 = .free → (cl.lookup y.1).isSome = true)
  | [], acc, _, h => ⟨acc, rfl, h, fun _ e => e, fun y hy => nomatch hy⟩
  | y :: r, acc, hf, h => by
    by_cases hk : (y.2 == NameKind.free) = true
    · obtain ⟨c, hc⟩ := hf y List.mem_cons_self (eq_of_beq hk)
      obtain ⟨cl, e1, e2, e3, e4⟩ := forIn_cl r ((y.1, c) :: acc) (fun z hz => hf z (List.mem_cons_of_mem _ hz)) (fun x d e => by
        rw [List.lookup_cons] at e
        cases hx : x == y.1 with
        | true => rw [hx] at e; rw [eq_of_beq hx, hc]; exact e
        | false => rw [hx] at e; exact h x d e)
      have self : (((y.1, c) :: acc).lookup y.1).isSome = true := by rw [List.lookup_cons, beq_self_eq_true]; rfl
      refine ⟨cl, ?_, e2, fun x e => e3 x ?_, fun z hz hzf => ?_⟩
      · rw [List.forIn_cons, if_pos hk]
        have : cellOf env y.1 = pure c := by unfold cellOf; rw [hc]
        rw [this]
        exact e1
      · rw [List.lookup_cons]
        cases hx : x == y.1 with
        | true => rfl
        | false => exact e
      · rcases List.mem_cons.mp hz with rfl | hz
        · exact e3 _ self
        · exact e4 z hz hzf
    · obtain ⟨cl, e1, e2, e3, e4⟩ := forIn_cl r acc (fun z hz => hf z (List.mem_cons_of_mem _ hz)) h
      refine ⟨cl, ?_, e2, e3, fun z hz hzf => ?_⟩
      · rw [List.forIn_cons, if_neg hk]
        exact e1
      · rcases List.mem_cons.mp hz with rfl | hz
        · exact absurd (by rw [hzf]; rfl) hk
        · exact e4 z hz hzf
theorem closure_of {scope : Scope} {env : Env} (h : ∀ y ∈ scope.names, y.2 = .free → ∃ c, env.cells.lookup y.1 = some c) :
    ∃ cl, closureFor scope env = pure cl ∧ (∀ x c, cl.lookup x = some c → env.cells.lookup x = some c) ∧ ∀ y ∈ scope.names, y.2 = .free → ∃ c, cl.lookup y.1 = some c := by
  obtain ⟨cl, e1, e2, _, e4⟩ := forIn_cl (env := env) scope.names [] h (fun x c e => by cases e)
  refine ⟨cl, ?_, e2, fun y hy hf => Option.isSome_iff_exists.mp (e4 y hy hf)⟩
  simp only [closureFor]
  rw [e1]
  rfl
/-- what a name is in the block -/
theorem lookup_relabel {scope : Scope} {env : Env} {x : Str} {k : NameKind} (h : (relabel scope env).names.lookup x = some k) : scope.names.lookup x = some k ∨ (k = .cell ∧ scope.names.lookup x = some .free) := by
  have all : ∀ names : List (Str × NameKind), (names.map fun (n, k) => if (k == NameKind.free && env.scope.kind == .function && env.kindOf n == some .cell) then (n, NameKind.cell) else (n, k)).lookup x = some k →
      names.lookup x = some k ∨ (k = .cell ∧ names.lookup x = some .free) := by
    intro names
    induction names with
    | nil => intro h; cases h
    | cons y r ih =>
      obtain ⟨n, k'⟩ := y
      intro h
      have h' : List.lookup x ((if (k' == NameKind.free && env.scope.kind == .function && env.kindOf n == some .cell) = true then (n, NameKind.cell) else (n, k')) :: (r.map fun (n, k) => if (k == NameKind.free && env.scope.kind == .function && env.kindOf n == some .cell) then (n, NameKind.cell) else (n, k))) = some k := h
      rw [List.lookup_cons]
      by_cases hc : (k' == NameKind.free && env.scope.kind == .function && env.kindOf n == some .cell) = true
      · rw [if_pos hc, List.lookup_cons] at h'
        cases hx : x == n with
        | true =>
          rw [hx] at h'
          have hk : k' = .free := by
            rw [Bool.and_eq_true, Bool.and_eq_true] at hc
            exact eq_of_beq hc.1.1
          exact .inr ⟨(Option.some.inj h').symm, by rw [hk]⟩
        | false => rw [hx] at h'; exact ih h'
      · rw [if_neg hc, List.lookup_cons] at h'
        cases hx : x == n with
        | true => rw [hx] at h'; exact .inl h'
        | false => rw [hx] at h'; exact ih h'
  exact all scope.names h
theorem relabel_kind {scope : Scope} {env : Env} : (relabel scope env).kind = scope.kind := rfl

/-- the context of a comprehension's block: no exception leaves it -/
def cxB (X : Cx) (scope : Scope) (cl : List (Str × Addr)) (C : Addr) (N : List Str) (s₀ : Shared) (H₀ : Hp) (ex : List Addr) (pn : List (Addr × Obj)) : Cx where
  prog := X.prog
  w := X.w
  K := X.K
  mg := X.mg
  base := X.base
  A := X.A
  N := N
  s₀ := s₀
  H₀ := H₀
  env := compEnvC scope cl C X.env
  outer := X.stack
  stack := X.stack
  ex := ex
  fn := fun _ => false
  calm := X.calm
  pn := pn
  xe := fun _ _ => False

/-- the block's names: the target, then the names around (a name that the block doesn't see may stand under any other name) -/
structure BScope (esc : Scope) (EN : List Str) (scope : Scope) (tgt : Str) (N : List Str) : Prop where
  kind : scope.kind = .function
  nocell : ∀ y ∈ scope.names, y.2 ≠ .cell
  names : ∀ y ∈ scope.names, y.2 = .local → scope.names.lookup y.1 = some .local ∧ (y.1 = tgt ∨ y.1 ∉ N)
  tl : scope.names.lookup tgt = some .local
  fr : ∀ y ∈ scope.names, y.2 = .free → esc.names.lookup y.1 = some .cell ∨ esc.names.lookup y.1 = some .free
  hd : N[0]? = some tgt
  nd : N.Nodup
  len : N.length = EN.length + 1
  rest : ∀ p ∈ (N.drop 1).zip EN, p.1 = p.2 ∨ scope.names.lookup p.1 = none

/-- the tests of a clause -/
structure PIfs (X : Cx) (ifs : List Expr) (t : TT) : Prop where
  go : ∀ (pins : List (Addr × Obj)) (s : Shared) (σ : St) (H : Hp) (Q : Bool → Hp → Prop), Inv X pins σ H s → t σ H Q →
    wpAny (model X.prog X.w) X.A (forIn ifs true fun c r => if r = true then do let ok ← isTrue c X.env (eval c X.env); pure (ForInStep.yield ok) else pure (ForInStep.yield r)) (TP X pins σ Q) X.xe s
instance {X : Cx} {ifs : List Expr} {t : TT} : CoeFun (PIfs X ifs t) (fun _ => ∀ (pins : List (Addr × Obj)) (s : Shared) (σ : St) (H : Hp) (Q : Bool → Hp → Prop), Inv X pins σ H s → t σ H Q →
    wpAny (model X.prog X.w) X.A (forIn ifs true fun c r => if r = true then do let ok ← isTrue c X.env (eval c X.env); pure (ForInStep.yield ok) else pure (ForInStep.yield r)) (TP X pins σ Q) X.xe s) := ⟨fun h => h.go⟩
def tNoIf : TT := fun _ H Q => Q true H
theorem pifs_nil {X : Cx} : PIfs X [] tNoIf := ⟨fun _ _ _ H _ I h => wpAny_tests_nil ⟨H, I, h⟩⟩
theorem pifs_one {X : Cx} {c : Expr} {t : TT} (h : PT X c t) : PIfs X [c] t := ⟨fun pins s σ H Q I q => wpAny_tests_one (h pins s σ H Q I q)⟩

/-- the reading: D, the new list; W: what holds between two turns, by the turn and a measure; N: what a turn reaches -/
def tComp (wi : TI) (tt : TT) (te : TE) : TE := fun σ H Q => wi σ H fun J H1 => ∀ D, H1 D = none → ∃ W : Nat → Nat → List V → Hp → Prop, (∃ m, W 0 m [] (upd H1 D (.lst []))) ∧ ∀ i m ys H, W i m ys H →
  (J.stop i H ∧ Q (.ref D) H) ∨ (J.go i H ∧ ∃ N : List V → Hp → Prop, (∀ ys' H', N ys' H' → ∃ m', m' < m ∧ W (i + 1) m' ys' H') ∧ ∀ x H', J.yld i H x H' → tt (some x :: σ) H' fun b H2 =>
    if b = true then te (some x :: σ) H2 fun y H3 => H3 D = some (.lst ys) ∧ ys.length < sizeLine ∧ N (ys ++ [y]) (upd H3 D (.lst (ys ++ [y]))) else N ys H2)

section
variable {X : Cx} {elt iter : Expr} {ifs : List Expr} {tgt : Str} {px pos : Pos} {scope : Scope} {N : List Str} {wi : TI} {tt : TT} {te : TE}

/-- what a turn is to bring, in the reading -/
abbrev CompTurn (J : It) (D : Addr) (tt : TT) (te : TE) (σ : St) (Qd : Hp → Prop) (W : Nat → Nat → List V → Hp → Prop) : Prop :=
  ∀ i m ys H, W i m ys H → (J.stop i H ∧ Qd H) ∨ (J.go i H ∧ ∃ N : List V → Hp → Prop, (∀ ys' H', N ys' H' → ∃ m', m' < m ∧ W (i + 1) m' ys' H') ∧ ∀ x H', J.yld i H x H' → tt (some x :: σ) H' fun b H2 =>
    if b = true then te (some x :: σ) H2 fun y H3 => H3 D = some (.lst ys) ∧ ys.length < sizeLine ∧ N (ys ++ [y]) (upd H3 D (.lst (ys ++ [y]))) else N ys H2)

/-- the block's loop; RR: what is wanted behind it -/
theorem comp_run {esc : Scope} {EN : List Str} (S : BScope esc EN scope tgt N) (hsc : X.env.scope = esc) (hEN : X.N = EN) (hc : X.calm = true)
    (ht : ∀ cl C s₀ H₀ ex pn, PIfs (cxB X scope cl C N s₀ H₀ ex pn) ifs tt) (he : ∀ cl C s₀ H₀ ex pn, PE (cxB X scope cl C N s₀ H₀ ex pn) elt te)
    {pins : List (Addr × Obj)} {σ : St} {H3 : Hp} {s3 : Shared} {it D C : Addr} {fp : List Addr} {tn : Nat → Heap → Prop} {J : It} {Q : VK} {cl : List (Str × Addr)} {h₁ : Heap} {m1 : Str → Option Value}
    (hcl1 : ∀ x c, cl.lookup x = some c → X.env.cells.lookup x = some c) (hcl2 : ∀ y ∈ scope.names, y.2 = .free → ∃ c, cl.lookup y.1 = some c)
    (I3 : Inv X pins σ H3 s3) (T : Turn X.prog X.w X.K (.Name tgt px) J fp it tn) (st : tn 0 s3.heap) (hf : ∀ b ∈ fp, FpOk X pins H3 b)
    (hC : C = s3.heap.objs.size) (hns₁ : h₁.Ns C m1) (old : ∀ b o, s3.heap.get? b = some o → h₁.get? b = some o)
    {W : Nat → Nat → List V → Hp → Prop} {m0 : Nat} (w0 : W 0 m0 [] H3) (turn : CompTurn J D tt te σ (fun H => Q (.ref D) H) W) {RR : Value → Addr → Result → Shared → Prop}
    (hRR : ∀ (s4 : Shared) (m : Str → Option Value) (H4 : Hp), Inv X pins σ H4 s4 → s4.heap.Ns C m → H4 C = none → C ≠ X.env.locals → (∀ x c, X.env.cells.lookup x = some c → c ≠ C) → X.s₀.heap.objs.size ≤ C → (∀ p ∈ X.pn ++ pins, p.1 ≠ C) → Q (.ref D) H4 → RR (.ref D) C (.ok .next) s4)
    (s' : Shared) (hs' : s' = { s3 with heap := h₁ }) :
    codeAny (model X.prog X.w) X.A (.compLoop (.ListComp elt [⟨.Name tgt px, iter, ifs, 0⟩] scope pos) 0 (.ref it) (.ref D) (compEnvC scope cl C X.env)) (RR (.ref D) C) s' := by
  subst hs'
  subst hC
  have free3 : ∀ a, s3.heap.objs.size ≤ a → H3 a = none := fun a ha => I3.hok.fresh ha
  have fne : ∀ b ∈ fp, b ≠ s3.heap.objs.size := fun b hb => by
    obtain ⟨o, e, _⟩ := T.obj _ _ st b hb
    exact Nat.ne_of_lt (Heap.lt_size e)
  have inStack : ∀ b, b ≠ X.env.locals → b ∉ X.fs → b ∉ frs X.stack := fun b h1 h2 hb => (List.mem_cons.mp (I3.stkSub b hb)).elim h1 h2
  have cellLt : ∀ x c, X.env.cells.lookup x = some c → c < s3.heap.objs.size := fun x c e => by
    obtain ⟨v, o, ho, _⟩ := I3.cell x c e
    exact Heap.lt_size ho
  have okB : (cxB X scope cl s3.heap.objs.size N s3 H3 fp (X.pn ++ pins)).Ok := by
    refine ⟨I3.ok.mod, S.kind, I3.ok.glob, I3.ok.blt, Nat.le_refl _, fun x y c h1 h2 => I3.ok.inj x y c (hcl1 x c h1) (hcl1 y c h2), fun x hx => ?_, fun x c h => (nomatch h), fun h => I3.ok.hd h, I3.ok.frames, .inl rfl, fun b hb => ?_,
      fun b o e => I3.bs b o e, Nat.le_trans I3.ok.bsz I3.sz, fun b o e hb => ?_, fun b hb => inStack b (hf b hb).2.1 (hf b hb).2.2.1, I3.stack, I3.stkFree⟩
    · have hx' : (relabel scope X.env).names.lookup x = some .cell ∨ (relabel scope X.env).names.lookup x = some .free := hx
      have hfree : scope.names.lookup x = some .free := by
        rcases hx' with h | h
        · rcases lookup_relabel h with q | q
          · exact absurd rfl (S.nocell _ (PySem.mem_of_lookup q))
          · exact q.2
        · rcases lookup_relabel h with q | q
          · exact q
          · exact absurd q.1 (by decide)
      exact hcl2 (x, .free) (PySem.mem_of_lookup hfree) rfl
    · exact ⟨fne b hb, fun x c e => (hf b hb).2.2.2.2.1 x c (hcl1 x c e)⟩
    · rcases (hf b hb).2.2.2.1 with z | z
      · exact I3.ok.noex b o e z
      · exact absurd (Nat.lt_of_lt_of_le (Heap.lt_size e) (Nat.le_trans I3.ok.bsz z)) (Nat.lt_irrefl _)
  have Ib : Inv (cxB X scope cl s3.heap.objs.size N s3 H3 fp (X.pn ++ pins)) [] (none :: σ) H3 { s3 with heap := h₁ } := by
    refine ⟨okB, rfl, I3.bare, Un.kept old, ⟨_, hns₁, fun i x v h1 h2 h3 => ?_⟩, fun x c e => ?_, free3 _ (Nat.le_refl _), fun x c e => I3.freeC x c (hcl1 x c e), fun p hp => ?_, I3.hok.kept old, ?_⟩
    · cases i with
      | zero => cases h2
      | succ i =>
        have h2' : σ[i]? = some (some v) := by simpa using h2
        have h1' : N[i + 1]? = some x := h1
        have hxt : x ≠ tgt := fun e => by
          have := nodup_ix S.nd h1' (e ▸ S.hd); omega
        have hvis : (relabel scope X.env).names.lookup x = some .local ∨ (relabel scope X.env).names.lookup x = some .cell ∨ (relabel scope X.env).names.lookup x = some .free := h3
        have hfree : scope.names.lookup x = some .free := by
          rcases hvis with h | h | h
          · rcases lookup_relabel h with q | q
            · rcases (S.names _ (PySem.mem_of_lookup q) rfl).2 with z | z
              · exact absurd z hxt
              · exact absurd (List.mem_of_getElem? h1') z
            · exact absurd q.1 (by decide)
          · rcases lookup_relabel h with q | q
            · exact absurd rfl (S.nocell _ (PySem.mem_of_lookup q))
            · exact q.2
          · rcases lookup_relabel h with q | q
            · exact q
            · exact absurd q.1 (by decide)
        have hXN : X.N[i]? = some x := by
          have hi : i < σ.length := (List.getElem?_eq_some_iff.mp h2').1
          have hi2 : i < EN.length := by have := I3.len; rw [hEN] at this; omega
          have hz : ((N.drop 1).zip EN)[i]? = some (x, EN[i]) := by
            rw [List.getElem?_zip_eq_some]
            refine ⟨?_, by simp [hi2]⟩
            rw [List.getElem?_drop, Nat.add_comm]; exact h1'
          rcases S.rest _ (List.mem_of_getElem? hz) with q | q
          · have q' : x = EN[i] := q
            rw [hEN, q']; simp [hi2]
          · have q' : scope.names.lookup x = none := q
            rw [hfree] at q'; cases q'
        have hk : X.env.scope.names.lookup x = some .cell ∨ X.env.scope.names.lookup x = some .free := by
          rw [hsc]; exact S.fr (x, .free) (PySem.mem_of_lookup hfree) rfl
        obtain ⟨mX, hnX, hl⟩ := I3.loc
        obtain ⟨u, r, l⟩ := hl i x v hXN h2' (.inr hk)
        refine ⟨u, r, .inr ⟨?_, ?_⟩⟩
        · rcases hvis with h | h | h
          · rcases lookup_relabel h with q | q
            · rw [hfree] at q; cases q
            · exact absurd q.1 (by decide)
          · exact .inl h
          · exact .inr h
        · rcases l with ⟨z, _⟩ | ⟨_, c, e, z⟩
          · have z' : X.env.scope.names.lookup x = some .local := z
            rcases hk with q | q
            · rw [q] at z'; cases z'
            · rw [q] at z'; cases z'
          · obtain ⟨c', e'⟩ := hcl2 (x, .free) (PySem.mem_of_lookup hfree) rfl
            have := hcl1 x c' e'
            rw [e] at this; cases this
            obtain ⟨o, ho, hd⟩ := z
            exact ⟨c, e', o, old _ _ ho, hd⟩
    · obtain ⟨v, o, ho, hd⟩ := I3.cell x c (hcl1 x c e)
      exact ⟨v, o, old _ _ ho, hd⟩
    · have hp' : p ∈ X.pn ++ pins := by
        rcases List.mem_append.mp hp with z | z
        · exact z
        · cases z
      obtain ⟨e, n, ne, nf, d⟩ := I3.pin p hp'
      exact ⟨old _ _ e, n, Nat.ne_of_lt (Heap.lt_size e), inStack p.1 ne nf, d⟩
    · show (none :: σ).length = N.length
      rw [S.len, List.length_cons, I3.len, hEN]
  have stB : tn 0 h₁ := T.keep _ _ _ st fun b hb o e => old b o e
  have stat : ∀ {H' : Hp}, (∀ b ∈ fp, H' b = none) → ∀ b ∈ fp, FpOk (cxB X scope cl s3.heap.objs.size N s3 H3 fp (X.pn ++ pins)) [] H' b := fun hn b hb =>
    ⟨hn b hb, fne b hb, inStack b (hf b hb).2.1 (hf b hb).2.2.1, .inl hb, fun x c e => (hf b hb).2.2.2.2.1 x c (hcl1 x c e), fun p hp => (hf b hb).2.2.2.2.2 p (by
      rcases List.mem_append.mp hp with z | z
      · exact z
      · cases z)⟩
  have hg : PG (cxB X scope cl s3.heap.objs.size N s3 H3 fp (X.pn ++ pins)) (.Name tgt px) (gName 0) := pg_name S.nd S.hd (.inl (lookup_relabel_local S.tl)) (.inr (lookup_relabel_local S.tl))
  refine codeAny_compLoop_tests (fun n s' => ∃ i ys hd H', Inv (cxB X scope cl s3.heap.objs.size N s3 H3 fp (X.pn ++ pins)) [] (hd :: σ) H' s' ∧ tn i s'.heap ∧ (∀ b ∈ fp, H' b = none) ∧ W i n ys H') ?_ m0
    ⟨0, [], none, _, Ib, stB, fun b hb => (hf b hb).1, w0⟩
  rintro n s4 ⟨i, ys, hd, H4, I4, st4, fr4, w4⟩
  rcases turn i n ys H4 w4 with ⟨stop, q⟩ | ⟨go, Nx, hNx, step⟩
  · refine thn (T.done (cxB X scope cl s3.heap.objs.size N s3 H3 fp (X.pn ++ pins)) rfl rfl rfl hc i [] s4 (hd :: σ) H4 _ I4 (stat fr4) st4 stop) fun r s5 ⟨hr5, I5⟩ => ?_
    subst hr5
    obtain ⟨m5, hn5, _⟩ := id I5.loc
    have IX : Inv X pins σ H4 s5 := I3.call' I5.os I5.base I5.hok I5.bare fun b hb => ⟨(hf b hb).2.2.2.1, (hf b hb).2.1, (hf b hb).2.2.2.2.1, (hf b hb).2.2.2.2.2⟩
    exact hRR s5 m5 H4 IX hn5 I5.free (Nat.ne_of_gt I3.lt) (fun x c e => Nat.ne_of_lt (cellLt x c e)) I3.sz (fun p hp => Nat.ne_of_lt (Heap.lt_size (I3.pin p hp).1)) q
  · refine wpAny_mono (T.item (cxB X scope cl s3.heap.objs.size N s3 H3 fp (X.pn ++ pins)) rfl rfl rfl hc i [] s4 (hd :: σ) H4 (fun _ _ => False) I4 (stat fr4) st4 go) (fun r s5 h5 => ?_) fun _ _ f => f.elim
    obtain ⟨u, hr5, h5⟩ := h5
    subst hr5
    show wpAny (model X.prog X.w) X.A ((pure () : Sem Unit) >>= fun _ => assign (.Name tgt px) (compEnvC scope cl s3.heap.objs.size X.env) u) _ _ s5
    refine wpAny_bind (wpAny_mono h5 (fun _ s6 h6 => ?_) fun _ _ f => f.elim)
    obtain ⟨x, H6, I6, r6, y6, st6, fr6⟩ := h6
    have I6' := I6.pinned (stat fr6) (T.obj _ _ st6)
    refine wpAny_mono (hg _ s6 (hd :: σ) H6 x u (fun σ' H' => σ' = some x :: σ ∧ H' = H6) I6' r6 ⟨rfl, rfl⟩) (fun _ s7 h7 => ?_) fun _ _ f => f.elim
    obtain ⟨σ7, H7, I7, rfl, rfl⟩ := h7
    have again : ∀ {s9 : Shared} {ys' : List V} {H9 : Hp}, Inv (cxB X scope cl s3.heap.objs.size N s3 H3 fp (X.pn ++ pins)) ([] ++ pinsAt fp s6.heap) (some x :: σ) H9 s9 → Nx ys' H9 →
        ∃ m, m < n ∧ ∃ i ys hd H', Inv (cxB X scope cl s3.heap.objs.size N s3 H3 fp (X.pn ++ pins)) [] (hd :: σ) H' s9 ∧ tn i s9.heap ∧ (∀ b ∈ fp, H' b = none) ∧ W i m ys H' := fun {s9 ys' H9} I9 n9 => by
      obtain ⟨m', hm, w9⟩ := hNx ys' H9 n9
      refine ⟨m', hm, i + 1, ys', some x, H9, I9.unpinned, T.keep _ _ _ st6 fun b hb o e => (I9.pin (b, o) (List.mem_append_right _ (List.mem_append_right _ (mem_pinsAt hb e)))).1, fun b hb => ?_, w9⟩
      obtain ⟨o, e, d⟩ := T.obj _ _ st6 b hb
      exact (I9.pin (b, o) (List.mem_append_right _ (List.mem_append_right _ (mem_pinsAt hb e)))).2.1
    refine wpAny_mono (ht cl s3.heap.objs.size s3 H3 fp (X.pn ++ pins) _ s7 (some x :: σ) H7 _ I7 (step x H7 y6)) (fun ok s8 h8 => ?_) fun _ _ f => f.elim
    obtain ⟨H8, I8, q8⟩ := h8
    cases ok with
    | false => exact again I8 q8
    | true =>
      show wpAny (model X.prog X.w) X.A (eval elt (compEnvC scope cl s3.heap.objs.size X.env)) _ _ s8
      refine wpAny_mono (he cl s3.heap.objs.size s3 H3 fp (X.pn ++ pins) _ s8 (some x :: σ) H8 _ I8 q8) (fun y s9 h9 => ?_) fun _ _ f => f.elim
      obtain ⟨v, H9, I9, r9, e9, l9, n9⟩ := h9
      refine wpAny_mono (mt_append (X := cxB X scope cl s3.heap.objs.size N s3 H3 fp (X.pn ++ pins)) _ s9 (some x :: σ) H9 (.ref D) [v] (.ref D) [y] (fun _ H' => Nx (ys ++ [v]) H') I9 rfl (.cons r9 .nil) ⟨D, ys, v, rfl, rfl, e9, l9, n9⟩) (fun _ s10 h10 => ?_) fun _ _ f => f.elim
      obtain ⟨_, H10, I10, _, n10⟩ := h10
      exact again I10 n10

theorem comp_block {esc : Scope} {EN : List Str} (S : BScope esc EN scope tgt N) (hsc : X.env.scope = esc) (hEN : X.N = EN) (hc : X.calm = true)
    (ht : ∀ cl C s₀ H₀ ex pn, PIfs (cxB X scope cl C N s₀ H₀ ex pn) ifs tt) (he : ∀ cl C s₀ H₀ ex pn, PE (cxB X scope cl C N s₀ H₀ ex pn) elt te)
    {pins : List (Addr × Obj)} {σ : St} {H2 : Hp} {s2 : Shared} {it : Addr} {fp : List Addr} {tn : Nat → Heap → Prop} {J : It} {Q : VK} {cl : List (Str × Addr)}
    (hcl1 : ∀ x c, cl.lookup x = some c → X.env.cells.lookup x = some c) (hcl2 : ∀ y ∈ scope.names, y.2 = .free → ∃ c, cl.lookup y.1 = some c)
    (I2 : Inv X pins σ H2 s2) (T : Turn X.prog X.w X.K (.Name tgt px) J fp it tn) (st : tn 0 s2.heap) (hf : ∀ b ∈ fp, FpOk X pins H2 b)
    (hr : ∀ D, H2 D = none → ∃ W : Nat → Nat → List V → Hp → Prop, (∃ m, W 0 m [] (upd H2 D (.lst []))) ∧ CompTurn J D tt te σ (fun H => Q (.ref D) H) W)
    {E : Value → Shared → Prop} {RR : Value → Addr → Result → Shared → Prop}
    (hRR : ∀ (D C : Addr) (s4 : Shared) (m : Str → Option Value) (H4 : Hp), Inv X pins σ H4 s4 → s4.heap.Ns C m → H4 C = none → C ≠ X.env.locals → (∀ x c, X.env.cells.lookup x = some c → c ≠ C) → X.s₀.heap.objs.size ≤ C → (∀ p ∈ X.pn ++ pins, p.1 ≠ C) → Q (.ref D) H4 → RR (.ref D) C (.ok .next) s4) :
    wpAny (model X.prog X.w) X.A (newList []) (fun acc s₃ => wpAny (model X.prog X.w) X.A (newFunctionEnv scope X.env.globals cl [] X.env.qual none .none (some X.env)) (fun cenv s₄ =>
      codeAny (model X.prog X.w) X.A (.compStart (.ListComp elt [⟨.Name tgt px, iter, ifs, 0⟩] scope pos) 0 (.ref it) acc { cenv with scope := relabel scope X.env }) (RR acc cenv.locals) s₄) E s₃) E s2 := by
  refine wpAny_newObj_type (wpAny_newFunctionEnv S.nocell (by intro y hy; simp at hy) (fun h₁ hns₁ hsb₁ => ?_) S.kind)
  dsimp only at hns₁ hsb₁ ⊢
  have hDn : H2 s2.heap.objs.size = none := I2.hok.fresh (Nat.le_refl _)
  have I3 : Inv X pins σ (upd H2 s2.heap.objs.size (.lst [])) { s2 with heap := s2.heap.push { cls := .type "list", dict := none, data := .seq ([] : List Value).toArray } } :=
    I2.laid (t' := s2.toks) (fun b o e => Heap.get?_push_of_some _ e) (Nat.le_refl _) ⟨Nat.zero_le _, [], 0, .nil, Heap.get?_push_size _ rfl⟩
  obtain ⟨W, ⟨m0, w0⟩, turn⟩ := hr _ hDn
  have st3 : tn 0 (s2.heap.push { cls := .type "list", dict := none, data := .seq ([] : List Value).toArray }) := T.keep _ _ _ st fun b hb o e => Heap.get?_push_of_some _ e
  have hf3 : ∀ b ∈ fp, FpOk X pins (upd H2 s2.heap.objs.size (.lst [])) b := fun b hb => by
    obtain ⟨o, e, _⟩ := T.obj _ _ st b hb
    exact ⟨by rw [upd_ne (Nat.ne_of_lt (Heap.lt_size e))]; exact (hf b hb).1, (hf b hb).2⟩
  have old : ∀ b o, (s2.heap.push { cls := .type "list", dict := none, data := .seq ([] : List Value).toArray }).get? b = some o → h₁.get? b = some o := fun b o e =>
    hsb₁.extBut b o (Nat.ne_of_lt (Heap.lt_size e)) (Heap.get?_push_of_some _ e)
  have loop := comp_run (elt := elt) (iter := iter) (pos := pos) S hsc hEN hc ht he hcl1 hcl2 I3 T st3 hf3 rfl hns₁ old w0 turn (RR := RR) (fun s4 m H4 a b c d e f g q => hRR _ _ s4 m H4 a b c d e f g q)
  exact codeAny_compStart_list (loop _ rfl) (T.self _ 0 _ _ _ (T.keep _ _ _ st3 fun b hb o e => old b o e) (loop _ rfl))

/-- [elt for tgt in iter if ..] -/
theorem pe_comp {esc : Scope} {EN : List Str} (S : BScope esc EN scope tgt N) (hsc : X.env.scope = esc) (hEN : X.N = EN) (hc : X.calm = true) (hi : PI X (.Name tgt px) iter wi)
    (ht : ∀ cl C s₀ H₀ ex pn, PIfs (cxB X scope cl C N s₀ H₀ ex pn) ifs tt) (he : ∀ cl C s₀ H₀ ex pn, PE (cxB X scope cl C N s₀ H₀ ex pn) elt te)
    (hs : ∀ x, foldedSetIterable iter X.env x = pure x := by intro _; rfl) : PE X (.ListComp elt [⟨.Name tgt px, iter, ifs, 0⟩] scope pos) (tComp wi tt te) := by
  constructor
  intro pins s σ H Q I h
  rw [eval_ListComp]
  obtain ⟨cl, hclos, hcl1, hcl2⟩ := closure_of (scope := scope) (env := X.env) fun y hy hf => I.ok.has y.1 (by
    show X.env.scope.names.lookup y.1 = _ ∨ X.env.scope.names.lookup y.1 = _
    rw [hsc]; exact S.fr y hy hf)
  refine wpAny_comprehension_free (use := none) rfl hs hclos S.kind (fun y hy hl => (S.names y hy hl).1) (thn (hi pins s σ H _ I h) fun xv s1 h1 => thn h1 fun itv s2 h2 => ?_)
  obtain ⟨it, fp, tn, J, H2, rfl, I2, T, st, hf, hr⟩ := h2
  refine comp_block (Q := Q) (RR := fun acc C => compPost (model X.prog X.w) X.A X.xe none (EP X pins σ Q) acc C) S hsc hEN hc ht he hcl1 hcl2 I2 T st hf hr ?_
  intro D C s4 m H4 I4 hn4 h1 h2 h3 h4 h5 q
  exact ⟨m, hn4, fun h' hs' => ⟨.ref D, H4, I4.turned (t' := s4.toks) (fun b o hb e => (hs'.2 b hb).trans e) h1 h2 (.inr h4) h3 h5, rfl, q⟩⟩

/-- name = [elt for tgt in iter if ..], the name a local one on the same row: stored ahead of what the block lets go -/
theorem ps_comp {esc : Scope} {EN : List Str} {i : Nat} {y : Str} {py spos : Pos} (S : BScope esc EN scope tgt N) (hsc : X.env.scope = esc) (hEN : X.N = EN) (hc : X.calm = true) (hi : PI X (.Name tgt px) iter wi)
    (ht : ∀ cl C s₀ H₀ ex pn, PIfs (cxB X scope cl C N s₀ H₀ ex pn) ifs tt) (he : ∀ cl C s₀ H₀ ex pn, PE (cxB X scope cl C N s₀ H₀ ex pn) elt te)
    (hN : X.N.Nodup) (hix : X.N[i]? = some y) (hy : X.env.scope.names.lookup y = some .local)
    (hsw : swapsWith (.ListComp elt [⟨.Name tgt px, iter, ifs, 0⟩] scope pos) (some (.Name y py)) spos.line X.env = pure true)
    (hs : ∀ x, foldedSetIterable iter X.env x = pure x := by intro _; rfl) : PS X (.Assign [.Name y py] (.ListComp elt [⟨.Name tgt px, iter, ifs, 0⟩] scope pos) spos) (tAsg (tComp wi tt te) (gName i)) := by
  constructor
  intro pins s σ H D I h
  rw [exec_Assign_Name_used _ _ _ _ hsw]
  obtain ⟨cl, hclos, hcl1, hcl2⟩ := closure_of (scope := scope) (env := X.env) fun y hy hf => I.ok.has y.1 (by
    show X.env.scope.names.lookup y.1 = _ ∨ X.env.scope.names.lookup y.1 = _
    rw [hsc]; exact S.fr y hy hf)
  refine wpAny_bind (wpAny_standAt (wpAny_bind ?_))
  show wpAny _ X.A (do let _ ← comprehension (.ListComp elt [⟨.Name tgt px, iter, ifs, 0⟩] scope pos) scope X.env _ (newList []) false (eval iter X.env) (some (assign (.Name y py) X.env))) _ _ s
  refine wpAny_bind (wpAny_mono (wpAny_comprehension_free (use := some (assign (.Name y py) X.env)) (Q := fun _ s' => SP X pins D .next s') rfl hs hclos S.kind (fun y hy hl => (S.names y hy hl).1)
    (thn (hi pins s σ H _ I h) fun xv s1 h1 => thn h1 fun itv s2 h2 => ?_)) (fun _ s' hq => wpAny_pure (wpAny_pure hq)) fun _ _ e => e)
  obtain ⟨it, fp, tn, J, H2, rfl, I2, T, st, hf, hr⟩ := h2
  refine comp_block (Q := fun x H1 => gName i x σ H1 D.nx) (RR := fun acc C => compPost (model X.prog X.w) X.A X.xe (some (assign (.Name y py) X.env)) (fun _ s' => SP X pins D .next s') acc C) S hsc hEN hc ht he hcl1 hcl2 I2 T st hf hr ?_
  intro Da C s4 m H4 I4 hn4 h1 h2 h3 h4 h5 q
  show wpAny _ X.A (assign (.Name y py) X.env (.ref Da)) _ _ s4
  refine wpAny_assign_Name (store_ok2 I4 hN hix (.inl hy) (show RelV (.ref Da) (.ref Da) from rfl) (fun s5 I5 ch => ?_) (.inr hy))
  obtain ⟨a, hsb, ha⟩ := ch
  have haC : C ≠ a := by
    rcases ha with e | e
    · rw [e]; exact h2
    · exact fun z => h3 _ _ e z.symm
  refine ⟨m, hn4.sameBut hsb haC, fun h' hs' => ?_⟩
  exact ⟨_, H4, I5.turned (t' := s5.toks) (fun b o hb e => (hs'.2 b hb).trans e) h1 h2 (.inr h4) h3 h5, q⟩
end

/-! ### the forms one uses -/
/-- over a range; a turn that keeps ys as f says -/
theorem comp_range {lo : Int} {n : Nat} {D : Addr} {tt : TT} {te : TE} {σ : St} {Qd : Hp → Prop} {H1 : Hp} (Pv : Nat → List V → Hp → Prop) (h0 : Pv 0 [] (upd H1 D (.lst [])))
    (hs : ∀ i ys H, i < n → Pv i ys H → tt (some (.int (lo + i)) :: σ) H fun b H2 => if b = true then te (some (.int (lo + i)) :: σ) H2 fun y H3 => H3 D = some (.lst ys) ∧ ys.length < sizeLine ∧ Pv (i + 1) (ys ++ [y]) (upd H3 D (.lst (ys ++ [y]))) else Pv (i + 1) ys H2)
    (hd : ∀ ys H, Pv n ys H → Qd H) :
    ∃ W : Nat → Nat → List V → Hp → Prop, (∃ m, W 0 m [] (upd H1 D (.lst []))) ∧ CompTurn (Itr lo n) D tt te σ Qd W := by
  refine ⟨fun i m ys H => m = n - i ∧ i ≤ n ∧ Pv i ys H, ⟨n, by simp, Nat.zero_le _, h0⟩, ?_⟩
  rintro i m ys H ⟨rfl, hi, p⟩
  by_cases hlt : i < n
  · refine .inr ⟨hlt, Pv (i + 1), fun ys' H' p' => ⟨n - (i + 1), by omega, rfl, hlt, p'⟩, fun x H' y => ?_⟩
    obtain ⟨e, y⟩ := y
    subst e y
    exact hs i ys H' hlt p
  · have e : i = n := by omega
    subst e
    exact .inl ⟨Nat.le_refl _, hd ys H p⟩
/-- over a list that the turns leave as it is -/
theorem comp_list {K : PySem.W.Frag} {a : Addr} {xs : List V} {D : Addr} {tt : TT} {te : TE} {σ : St} {Qd : Hp → Prop} {H1 : Hp} (Pv : Nat → List V → Hp → Prop) (h0 : Pv 0 [] (upd H1 D (.lst []))) (hl : ∀ i ys H, i ≤ xs.length → Pv i ys H → SqL K H a xs)
    (hs : ∀ i x ys H, xs[i]? = some x → Pv i ys H → tt (some x :: σ) H fun b H2 => if b = true then te (some x :: σ) H2 fun y H3 => H3 D = some (.lst ys) ∧ ys.length < sizeLine ∧ Pv (i + 1) (ys ++ [y]) (upd H3 D (.lst (ys ++ [y]))) else Pv (i + 1) ys H2)
    (hd : ∀ ys H, Pv xs.length ys H → Qd H) :
    ∃ W : Nat → Nat → List V → Hp → Prop, (∃ m, W 0 m [] (upd H1 D (.lst []))) ∧ CompTurn (Itl K a) D tt te σ Qd W := by
  refine ⟨fun i m ys H => m = xs.length - i ∧ i ≤ xs.length ∧ Pv i ys H, ⟨xs.length, by simp, Nat.zero_le _, h0⟩, ?_⟩
  rintro i m ys H ⟨rfl, hi, p⟩
  have q := hl i ys H hi p
  by_cases hlt : i < xs.length
  · refine .inr ⟨⟨xs, xs[i], q, by simp [hlt]⟩, Pv (i + 1), fun ys' H' p' => ⟨xs.length - (i + 1), by omega, rfl, hlt, p'⟩, fun x H' y => ?_⟩
    obtain ⟨e, y⟩ := y
    subst e
    exact hs i x ys H' (y xs q) p
  · have e : i = xs.length := by omega
    subst e
    exact .inl ⟨⟨xs, q, Nat.le_refl _⟩, hd ys H p⟩
end L2

/-! ### texts: walked, cut, joined; least and greatest of a list -/
namespace L2
open PySem PySem.Spec PyProof.Rows

/-- the signs of a text -/
abbrev cs (x : Str) : List Nat := x.cps.toList
theorem cs_length (x : Str) : (cs x).length = x.length := by simp [cs, Str.length]
theorem cs_one (c : Nat) : cs ⟨#[c]⟩ = [c] := rfl
theorem cs_append (x y : Str) : cs (x ++ y) = cs x ++ cs y := by
  show (x.cps ++ y.cps).toList = _
  simp [cs]
theorem cs_inj {x y : Str} (h : cs x = cs y) : x = y := by
  obtain ⟨a⟩ := x
  obtain ⟨b⟩ := y
  have : a = b := Array.toList_inj.mp h
  rw [this]
/-- the signs of x, one by one -/
def Its (x : Str) : It := ⟨fun i _ => i < x.cps.size, fun i H v H' => H' = H ∧ ∃ c, (cs x)[i]? = some c ∧ v = .str ⟨#[c]⟩, fun i _ => i = x.cps.size⟩
theorem turn_str {P : Program} {w : World} {K : PySem.W.Frag} {tg : Expr} {it : Addr} {ty : String} {x : Str} {t : Tok}
    (W : ∀ A' : Around, A'.handled = none → Walks P w A' it [it] [it] x.cps.size (SignAt x) (fun i h => h.IsStrIter it ty x t i))
    (self : ∀ (A : Around) (i : Nat) (s : Shared) (Q : Value → Shared → Prop) (E : Value → Shared → Prop), s.heap.IsStrIter it ty x t i → Q (.ref it) s → wpAny (model P w) A (pyIter (.ref it)) Q E s) :
    Turn P w K tg (Its x) [it] it (fun i h => h.IsStrIter it ty x t i) where
  mem := by simp
  obj := fun i h st b hb => by
    have e : b = it := by simpa using hb
    subst e
    obtain ⟨o, e, c, d⟩ := st
    exact ⟨o, e, fun v z => by rw [d] at z; cases z⟩
  keep := fun i h h' st k => by
    obtain ⟨o, e, r⟩ := st
    exact ⟨o, k it (by simp) o e, r⟩
  item := by
    intro X hP hw hK hc i pins s σ H E I hf st hg
    subst hP hw hK
    obtain ⟨f0, f1, f2, f3, f4, f5⟩ := hf it (by simp)
    refine (W X.A (I.ok.hd hc)).item i s _ _ hg st fun v h' tk hv st' kk => ?_
    obtain ⟨c, u, hcx, rfl⟩ := hv
    have I1 : Inv X pins σ H { s with heap := h', toks := tk } := I.turned (fun b o hb e => kk b o (by simpa using hb) e) f0 f1 f3 f4 f5
    have hgo : letOwnedTupleGo tg (.ref it) (.str ⟨#[c]⟩ u) = pure () := by unfold letOwnedTupleGo; cases tg <;> rfl
    refine ⟨_, rfl, ?_⟩
    rw [hgo]
    exact wpAny_pure ⟨.str ⟨#[c]⟩, H, I1, ⟨u, rfl⟩, ⟨rfl, c, by simpa [cs] using hcx, rfl⟩, st', fun b hb => (hf b hb).1⟩
  done := by
    intro X hP hw hK hc i pins s σ H E I hf st hg
    subst hP hw hK
    obtain ⟨f0, f1, f2, f3, f4, f5⟩ := hf it (by simp)
    have e : i = x.cps.size := hg
    subst e
    exact (W X.A (I.ok.hd hc)).done s _ _ st fun h' tk kk => ⟨rfl, I.turned (fun b o hb e => kk b o (by simpa using hb) e) f0 f1 f3 f4 f5⟩
  self := self
section
variable {X : Cx} {tg : Expr}
def iStr (tl : TE) : TI := fun σ H R => tl σ H fun x H1 => ∃ z, x = .str z ∧ R (Its z) H1
/-- for c in a text -/
theorem pi_str {l : Expr} {tl : TE} (hl : PE X l tl) : PI X tg l (iStr tl) := by
  constructor
  intro pins s σ H R I h
  refine thn (hl pins s σ H _ I h) fun v s1 ⟨x, H1, I1, r1, q1⟩ => ?_
  obtain ⟨z, rfl, q⟩ := q1
  obtain ⟨t, rfl⟩ := r1
  have fp : ∀ b ∈ [s1.heap.objs.size], FpOk X pins H1 b := fun b hb => by
    have e : b = s1.heap.objs.size := by simpa using hb
    subst e
    exact I1.fpOk (Nat.le_refl _) (I1.hok.fresh (Nat.le_refl _))
  cases ha : z.cps.all (· < 128)
  · refine wpAny_pyIter_wide ha ?_
    exact ⟨s1.heap.objs.size, [s1.heap.objs.size], _, _, H1, rfl, I1.kept (t' := s1.toks) fun b o e => Heap.get?_push_of_some _ e, turn_str (ty := "str_iterator") (x := z) (t := t) (fun A' hA => Walks.strWide hA _ z t)
      (fun _ _ _ _ _ st h => wpAny_pyIter_striter_wide st h), ⟨_, Heap.get?_push_size _ rfl, rfl, rfl⟩, fp, q⟩
  · refine wpAny_pyIter_ascii ha ?_
    exact ⟨s1.heap.objs.size, [s1.heap.objs.size], _, _, H1, rfl, I1.kept (t' := s1.toks) fun b o e => Heap.get?_push_of_some _ e, turn_str (ty := "str_ascii_iterator") (x := z) (t := t) (fun A' hA => Walks.strAscii hA _ z t)
      (fun _ _ _ _ _ st h => wpAny_pyIter_striter_ascii st h), ⟨_, Heap.get?_push_size _ rfl, rfl, rfl⟩, fp, q⟩
end
theorem for_str {z : Str} {g : TG} {tb : TS} {D : Ends} {σ : St} {H : Hp} (Pv : Nat → St → Hp → Prop) (h0 : Pv 0 σ H)
    (hs : ∀ i c σ H, (cs z)[i]? = some c → Pv i σ H → g (.str ⟨#[c]⟩) σ H fun σ2 H2 => tb { D with nx := Pv (i + 1), ct := Pv (i + 1), bk := D.nx } σ2 H2) (hd : ∀ σ H, Pv (cs z).length σ H → D.nx σ H) :
    ∃ W : Nat → Nat → St → Hp → Prop, (∃ m, W 0 m σ H) ∧ ∀ i m σ H, W i m σ H →
      ((Its z).stop i H ∧ D.nx σ H) ∨ ((Its z).go i H ∧ ∃ N : St → Hp → Prop, (∀ σ' H', N σ' H' → ∃ m', m' < m ∧ W (i + 1) m' σ' H') ∧ ∀ x H', (Its z).yld i H x H' → g x σ H' fun σ2 H2 => tb { D with nx := N, ct := N, bk := D.nx } σ2 H2) := by
  have hz : (cs z).length = z.cps.size := by simp [cs]
  refine ⟨fun i m σ H => m = z.cps.size - i ∧ i ≤ z.cps.size ∧ Pv i σ H, ⟨z.cps.size, by simp, Nat.zero_le _, h0⟩, ?_⟩
  rintro i m σ H ⟨rfl, hi, p⟩
  by_cases hlt : i < z.cps.size
  · refine .inr ⟨hlt, Pv (i + 1), fun σ' H' p' => ⟨z.cps.size - (i + 1), by omega, rfl, hlt, p'⟩, fun x H' y => ?_⟩
    obtain ⟨e, c, hc, rfl⟩ := y
    subst e
    exact hs i c σ H' hc p
  · have e : i = z.cps.size := by omega
    refine .inl ⟨e, hd σ H ?_⟩
    rw [hz, ← e]; exact p
theorem comp_str {z : Str} {D : Addr} {tt : TT} {te : TE} {σ : St} {Qd : Hp → Prop} {H1 : Hp} (Pv : Nat → List V → Hp → Prop) (h0 : Pv 0 [] (upd H1 D (.lst [])))
    (hs : ∀ i c ys H, (cs z)[i]? = some c → Pv i ys H → tt (some (.str ⟨#[c]⟩) :: σ) H fun b H2 => if b = true then te (some (.str ⟨#[c]⟩) :: σ) H2 fun y H3 => H3 D = some (.lst ys) ∧ ys.length < sizeLine ∧ Pv (i + 1) (ys ++ [y]) (upd H3 D (.lst (ys ++ [y]))) else Pv (i + 1) ys H2)
    (hd : ∀ ys H, Pv (cs z).length ys H → Qd H) :
    ∃ W : Nat → Nat → List V → Hp → Prop, (∃ m, W 0 m [] (upd H1 D (.lst []))) ∧ CompTurn (Its z) D tt te σ Qd W := by
  have hz : (cs z).length = z.cps.size := by simp [cs]
  refine ⟨fun i m ys H => m = z.cps.size - i ∧ i ≤ z.cps.size ∧ Pv i ys H, ⟨z.cps.size, by simp, Nat.zero_le _, h0⟩, ?_⟩
  rintro i m ys H ⟨rfl, hi, p⟩
  by_cases hlt : i < z.cps.size
  · refine .inr ⟨hlt, Pv (i + 1), fun ys' H' p' => ⟨z.cps.size - (i + 1), by omega, rfl, hlt, p'⟩, fun x H' y => ?_⟩
    obtain ⟨e, c, hc, rfl⟩ := y
    subst e
    exact hs i c ys H' hc p
  · have e : i = z.cps.size := by omega
    refine .inl ⟨e, hd ys H ?_⟩
    rw [hz, ← e]; exact p

/-! ### a text's cut -/
theorem sliceIdx_cut (lo hi : Option Int) (n : Nat) : Builtin.Str.strSliceIndices lo hi 1 n = (List.range (HT.sIx n n hi - HT.sIx n 0 lo)).map (HT.sIx n 0 lo + ·) := by
  rw [← sliceRange_one]
  unfold Builtin.Str.strSliceIndices
  dsimp only
  congr 1
  · cases lo with
    | none => simp [HT.sIx]
    | some v =>
      show (if (1 : Int) > 0 then max 0 (min (if v < 0 then v + (n : Int) else v) n) else _) = _
      rw [if_pos (by decide), ← HT.clip_eq v n 0]
      split <;> omega
  · cases hi with
    | none => simp [HT.sIx]
    | some v =>
      show (if (1 : Int) > 0 then max 0 (min (if v < 0 then v + (n : Int) else v) n) else _) = _
      rw [if_pos (by decide), ← HT.clip_eq v n n]
      split <;> omega
theorem cs_slice (x : Str) (lo hi : Option Int) : cs (Txt.slice x lo hi) = ((cs x).drop (HT.sIx x.length 0 lo)).take (HT.sIx x.length x.length hi - HT.sIx x.length 0 lo) := by
  unfold Txt.slice
  rw [sliceIdx_cut, pick_run]
  have hl0 : HT.sIx x.length 0 lo ≤ x.length := HT.sIx_le _ _ (Nat.zero_le _) lo
  have hl1 : HT.sIx x.length x.length hi ≤ x.length := HT.sIx_le _ _ (Nat.le_refl _) hi
  split
  · rename_i h
    rw [Bool.and_eq_true] at h
    have h2 := eq_of_beq h.2
    rw [List.length_map, List.length_range] at h2
    have e0 : HT.sIx x.length 0 lo = 0 := by omega
    have e1 : HT.sIx x.length x.length hi = x.length := by omega
    rw [e0, e1, List.drop_zero, Nat.sub_zero, ← cs_length, List.take_length]
  · rfl
def rSlS : V → Option Int → Option Int → Hp → VK → Prop := fun x lo hi H Q => ∃ z, x = .str z ∧ z.length ≤ sizeLine ∧ Q (.str (Txt.slice z lo hi)) H
section
variable {X : Cx}
theorem sl_str : SlR X rSlS := by
  intro pins s σ H x v vl vu lo hi sl Q I rx hs pl pu h
  obtain ⟨z, rfl, hz, q⟩ := h
  obtain ⟨t, rfl⟩ := rx
  have fin : ∀ t' k, EP X pins σ Q (.str (Txt.slice z lo hi) t') { s with toks := k } := fun t' k => ⟨.str _, H, I.tok k, ⟨t', rfl⟩, q⟩
  have hle := Nat.le_trans (Txt.slice_le z lo hi) hz
  obtain ⟨o, ho, hc, hd⟩ := hs
  refine ⟨"str", _, F.slot_str_getitem.lookup, typeIs_str _ _ _, ?_⟩
  cases pl with
  | none =>
    cases pu with
    | none => exact wpAny_getItem_str_slice (l := none) (u := none) (st := none) ⟨o, ho, hc, hd⟩ rfl (post_val_or_str ⟨hle, fin⟩)
    | int j u => exact wpAny_getItem_str_slice (l := none) (u := some (j, u)) (st := none) ⟨o, ho, hc, hd⟩ rfl (post_val_or_str ⟨hle, fin⟩)
  | int i t1 =>
    cases pu with
    | none => exact wpAny_getItem_str_slice (l := some (i, t1)) (u := none) (st := none) ⟨o, ho, hc, hd⟩ rfl (post_val_or_str ⟨hle, fin⟩)
    | int j u => exact wpAny_getItem_str_slice (l := some (i, t1)) (u := some (j, u)) (st := none) ⟨o, ho, hc, hd⟩ rfl (post_val_or_str ⟨hle, fin⟩)

/-! ### the least, the greatest of a list of ints -/
theorem ints_items {its : List Value} {ns : List Int} (hi : IntsAre its ns) : ∃ xs : Array (Int × Tok), its.toArray = intItems xs ∧ ns = xs.toList.map (·.1) := by
  obtain ⟨xs, e⟩ := hi.allInts.items
  refine ⟨xs, e, ?_⟩
  have a := hi.numsOf
  have b := nums_intItems xs
  rw [← e] at b
  exact a.symm.trans b
theorem call_minL (hc : X.calm = true) : CallR X (.builtin "min") (fun xs H Q => ∃ (p : Addr) (ns : List Int), xs = [.ref p] ∧ SqL X.K H p (ns.map V.int) ∧ 0 < ns.length ∧ ∀ M, M ∈ ns → (∀ a, a ∈ ns → M ≤ a) → Q (.int M) H) := by
  intro pins s σ H xs us Q I r h
  obtain ⟨p, ns, rfl, hq, hne, q⟩ := h
  obtain ⟨u, rfl, rx⟩ := vals1 r
  cases rx
  obtain ⟨its, rv, pl, hz⟩ := I.list hq
  obtain ⟨ys, e1, e2⟩ := ints_items (intsAre_of rv)
  have hl := pl.isList
  rw [e1] at hl
  have hlen : ns.length = ys.size := by rw [e2]; simp
  refine min_intList (I.ok.hd hc) hl (by omega) fun v h' tk hv hk => ?_
  obtain ⟨t, rfl⟩ := intItems_at hv
  obtain ⟨b1, b2⟩ := argBest_lt (numAt ys) (ys.size - 1)
  refine ⟨.int _, H, I.kept hk, ⟨t, rfl⟩, q _ ?_ fun a ha => ?_⟩
  · rw [numAt_eq, e2]
    exact getD_mem (by rw [← e2]; omega)
  · rw [e2] at ha
    obtain ⟨j, hj, ea⟩ := mem_getD ha
    have := b2 j (by rw [← e2] at hj; omega)
    rw [← ea, ← numAt_eq]
    exact this
theorem call_maxL (hc : X.calm = true) : CallR X (.builtin "max") (fun xs H Q => ∃ (p : Addr) (ns : List Int), xs = [.ref p] ∧ SqL X.K H p (ns.map V.int) ∧ 0 < ns.length ∧ ∀ M, M ∈ ns → (∀ a, a ∈ ns → a ≤ M) → Q (.int M) H) := by
  intro pins s σ H xs us Q I r h
  obtain ⟨p, ns, rfl, hq, hne, q⟩ := h
  obtain ⟨u, rfl, rx⟩ := vals1 r
  cases rx
  obtain ⟨its, rv, pl, hz⟩ := I.list hq
  obtain ⟨ys, e1, e2⟩ := ints_items (intsAre_of rv)
  have hl := pl.isList
  rw [e1] at hl
  have hlen : ns.length = ys.size := by rw [e2]; simp
  refine max_intList (I.ok.hd hc) hl (by omega) fun v h' tk hv hk => ?_
  obtain ⟨t, rfl⟩ := intItems_at hv
  obtain ⟨b1, b2⟩ := argBest_gt (numAt ys) (ys.size - 1)
  refine ⟨.int _, H, I.kept hk, ⟨t, rfl⟩, q _ ?_ fun a ha => ?_⟩
  · rw [numAt_eq, e2]
    exact getD_mem (by rw [← e2]; omega)
  · rw [e2] at ha
    obtain ⟨j, hj, ea⟩ := mem_getD ha
    have := b2 j (by rw [← e2] at hj; omega)
    rw [← ea, ← numAt_eq]
    exact this

/-! ### sep.join(list of texts) -/
theorem strsAre_of {ts : List Str} : ∀ {us : List Value}, Vals (ts.map V.str) us → StrsAre us ts := by
  induction ts with
  | nil => intro us r; rw [List.map_nil] at r; cases r; exact .nil
  | cons n ns ih =>
    intro us r
    rw [List.map_cons] at r
    cases r with
    | cons r1 r2 =>
      obtain ⟨t, e⟩ := r1
      subst e
      exact .cons n t (ih r2)
def rJoin (K : PySem.W.Frag) : V → List V → Hp → VK → Prop := fun x vs H Q => ∃ (z : Str) (p : Addr) (ts : List Str), x = .str z ∧ vs = [.ref p] ∧ SqL K H p (ts.map V.str) ∧ (ts.map (·.length)).sum + ts.length * z.length ≤ 16777216 ∧ Q (.str (Txt.join z ts)) H
theorem mt_join : MtR X "str.join" (rJoin X.K) := by
  intro pins s σ H x vs v us Q I rx rv h
  obtain ⟨z, p, ts, rfl, rfl, hq, hz, q⟩ := h
  obtain ⟨t, rfl⟩ := rx
  obtain ⟨u, rfl, ru⟩ := vals1 rv
  cases ru
  obtain ⟨its, r', pl, _⟩ := I.list hq
  exact join_list pl.isList (strsAre_of r') hz fun t' k => ⟨.str _, H, I.tok k, ⟨t', rfl⟩, q⟩
/-- the signs of what is joined without a sign between -/
theorem cs_join (ts : List Str) : cs (Txt.join ⟨#[]⟩ ts) = (ts.map cs).flatten := by
  have e : Txt.join ⟨#[]⟩ ts = Str.join ⟨#[]⟩ ts := StrLaws.glued_eq_join _ _
  rw [e]
  have all : ∀ ts : List Str, cs (Str.join ⟨#[]⟩ ts) = (ts.map cs).flatten := by
    intro ts
    induction ts with
    | nil => rfl
    | cons x r ih =>
      cases r with
      | nil => simp [Str.join]
      | cons y r =>
        show cs (x ++ (⟨#[]⟩ : Str) ++ Str.join ⟨#[]⟩ (y :: r)) = _
        rw [cs_append, cs_append, ih]
        simp
  exact all ts

/-! ### isinstance(x, C), C a name of Python's or of the module's -/
theorem call_isinst (c : V) (cv : Value) (hcv : ∀ u, RelV c u → u = cv) : CallR X (.builtin "isinstance") (fun xs H Q => ∃ x t b, xs = [x, c] ∧ TyOf X.K H x t ∧ PySem.W.kitOne X.K t cv = some b ∧ Q (.bl b) H) := by
  intro pins s σ H xs us Q I r h
  obtain ⟨x, t, b, rfl, ty, e, q⟩ := h
  obtain ⟨u, w', rfl, r1, r2⟩ := vals2 r
  cases hcv _ r2
  exact isinst_ok I r1 ty e fun tk => ⟨.bl b, H, I.tok tk, rfl, q⟩

/-! ### lists of ints: ==, != -/
theorem ints_all (ns ms : List Int) (h : ns.length = ms.length) : (List.range ns.length).all (fun j => ns.getD j 0 == ms.getD j 0) = decide (ns = ms) := by
  rw [Bool.eq_iff_iff, List.all_eq_true, decide_eq_true_iff]
  constructor
  · intro q
    refine List.ext_getElem h fun j h1 h2 => ?_
    have := eq_of_beq (q j (List.mem_range.mpr h1))
    rw [List.getD_eq_getElem?_getD, List.getD_eq_getElem?_getD, List.getElem?_eq_getElem h1, List.getElem?_eq_getElem h2] at this
    exact this
  · rintro rfl j _
    exact beq_self_eq_true _
theorem ints_at {its : List Value} {ns : List Int} (r : Vals (ns.map V.int) its) {j : Nat} (h : j < its.toArray.size) : ∃ t, its.toArray[j] = .int (ns.getD j 0) t := by
  have hl := r.length
  rw [List.length_map] at hl
  have hj : j < ns.length := by rw [hl]; simpa using h
  obtain ⟨u, hu, ru⟩ := r.get (i := j) (x := .int (ns.getD j 0)) (by rw [List.getElem?_map, List.getD_eq_getElem?_getD, List.getElem?_eq_getElem hj]; rfl)
  obtain ⟨t, rfl⟩ := ru
  refine ⟨t, ?_⟩
  have h' : j < its.length := by simpa using h
  rw [List.getElem?_eq_getElem h'] at hu
  have := Option.some.inj hu
  simpa using this
def rEqLI (K : PySem.W.Frag) (neg : Bool) : R2 := fun x y H Q => ∃ (p q : Addr) (ns ms : List Int), x = .ref p ∧ y = .ref q ∧ SqL K H p (ns.map V.int) ∧ SqL K H q (ms.map V.int) ∧ Q (.bl (if neg then !decide (ns = ms) else decide (ns = ms))) H
theorem op_neLI (hu : X.A.units < cLine) : OpR X (compareOp .NotEq) (rEqLI X.K true) := by
  intro pins s σ H x y v u Q I rx ry h
  obtain ⟨p, q, ns, ms, rfl, rfl, hp, hq, k⟩ := h
  cases rx
  cases ry
  obtain ⟨its, r1, pl1, _⟩ := I.list hp
  obtain ⟨its2, r2, pl2, _⟩ := I.list hq
  have l1 := r1.length
  have l2 := r2.length
  rw [List.length_map] at l1 l2
  by_cases hl : ns.length = ms.length
  · have e := SeqAt.RcNeAt.lists (A := X.A) (e := fun j => ns.getD j 0 == ms.getD j 0) pl1.isList pl2.isList (by simp; omega) hu fun j h1 h2 => by
      obtain ⟨t1, e1⟩ := ints_at r1 h1
      obtain ⟨t2, e2⟩ := ints_at r2 h2
      rw [e1, e2]
      exact SeqAt.EqAt.int_int _ _ _ _
    have ez : its.toArray.size = ns.length := by simp; omega
    rw [ez, ints_all ns ms hl] at e
    exact EqBoolInt.of_rcne e ⟨.bl _, H, I, rfl, k⟩
  · have e := SeqAt.RcNeAt.lists_lengths (A := X.A) pl1.isList pl2.isList (by simp; omega) hu
    have kz : Q (.bl true) H := by
      rw [decide_eq_false (fun z => hl (by rw [z]))] at k
      exact k
    exact EqBoolInt.of_rcne e ⟨.bl _, H, I, rfl, kz⟩

/-! ### with the written part named: for a comprehension's block -/
section
variable {K : PySem.W.Frag} {a b o e : Expr} {es : List Expr} {ta tb to : TE} {t : TA} {pos apos cpos : Pos} {name : Str} {T id : String} {r : V → List V → Hp → VK → Prop}
theorem ix_listK (hK : X.K = K) : IxR X (rIxL K) := by subst hK; exact ix_list
theorem ix_tupK (hK : X.K = K) : IxR X (rIxT K) := by subst hK; exact ix_tup
theorem sl_listK (hK : X.K = K) : SlR X (rSlL K) := by subst hK; exact sl_list
def rLen (K : PySem.W.Frag) : List V → Hp → VK → Prop := fun xs H Q => ∃ p ys, xs = [.ref p] ∧ (SqL K H p ys ∨ SqT K H p ys) ∧ Q (.int ys.length) H
theorem call_lenK (hK : X.K = K) : CallR X (.builtin "len") (rLen K) := by subst hK; exact call_len_seq
theorem mt_joinK (hK : X.K = K) : MtR X "str.join" (rJoin K) := by subst hK; exact mt_join
theorem pe_bmK (hK : X.K = K) (pa : PlainAttrs T) (slot : Slot T name id) (hty : typeOf (.builtin id) = pure (.type "method_descriptor")) (hm : MtR X id r) (ho : PE X o to) (ha : PA X (e :: es) t)
    (hbase : attributeBase o name X.env (eval o X.env) = eval o X.env := by rfl)
    (hfew : ((backTo cpos (starEach (e :: es) X.env)).all (fun x => !x.1) && (backToKw cpos (keywordEach [] X.env)).all (fun x => x.1.isSome)
      && decide ((e :: es).length + ([] : List Keyword).length + (if ([] : List Keyword).isEmpty then 0 else 1) < 30)) = true := by rfl)
    (hline : (apos.endLine == cpos.line) = true := by rfl) (hs : starEach (e :: es) X.env = (false, eval e X.env) :: starEach es X.env := by rfl) (hplain : (backTo cpos (starEach es X.env)).any (·.1) = false := by rfl) :
    PE X (.Call (.Attribute o name apos) (e :: es) [] cpos) (tBM K T r to t) := by subst hK; exact pe_bm pa slot hty hm ho ha hbase hfew hline hs hplain
end
end
end L2

/-! ### exceptions: raised, passed on, caught -/
namespace L2
open PySem PySem.Spec PyProof.Rows

section
variable {P : Program} {w : World} {H H' H0 : Hp} {h h0 h1 h2 h' : Heap} {a : Addr} {o : HO} {fs : List Addr}
theorem ObjOk.obj (x : ObjOk P w H h a o) : ∃ ob, h.get? a = some ob := by
  cases o with
  | lst xs => obtain ⟨_, _, _, _, e⟩ := x; exact ⟨_, e⟩
  | tup xs => obtain ⟨_, _, _, ob, e, _⟩ := x; exact ⟨_, e⟩
  | dK kvs => obtain ⟨_, _, _, _, ob, _, _, e, _⟩ := x; exact ⟨_, e⟩
  | dT kvs => obtain ⟨_, _, _, _, ob, _, _, e, _⟩ := x; exact ⟨_, e⟩
  | set S n => obtain ⟨ob, _, _, _, e, _⟩ := x; exact ⟨_, e⟩
  | ins C dx fs => obtain ⟨_, _, _, e, _⟩ := x; exact ⟨_, e⟩
  | own y => exact x
  | xd fs => obtain ⟨_, ⟨_, _, _, e, _⟩, _⟩ := x; exact ⟨_, e⟩
  | rng lo hi => obtain ⟨_, _, _, e⟩ := x; exact ⟨_, e⟩
  | frz ob u => obtain ⟨e, _⟩ := x; exact ⟨_, e⟩
  | tbl ps => exact ⟨_, (show h.get? a = some _ from x)⟩
  | met f y => exact ⟨_, (show h.get? a = some _ from x)⟩
  | ext φ => exact x.2.1
theorem HOk.none_of (x : HOk P w H h) (e : h.get? a = none) : H a = none := by
  cases q : H a with
  | none => rfl
  | some u =>
    obtain ⟨ob, z⟩ := (x a u q).obj
    rw [e] at z; cases z
theorem Un.none_of {ex : List Addr} (u : Un fs [] H H' h h1) (e : h1.get? a = none) : h.get? a = none := by
  cases q : h.get? a with
  | none => rfl
  | some ob =>
    obtain ⟨o', z⟩ := u.there a ob q (by simp)
    rw [e] at z; cases z
/-- what was there goes on being there, but for slots of frames -/
theorem Un.shift (u : Un fs [] H H' h h1) (k : ∀ b ob o, h.get? b = some ob → b ∉ fs → h1.get? b = some o → h2.get? b = some o)
    (ks : ∀ b ob o, h.get? b = some ob → b ∈ fs → h1.get? b = some o → ∃ sl, h2.get? b = some { o with slots := sl }) : Un fs [] H H' h h2 where
  keep := fun b ob q n hb hx => k b ob ob q hb (u.keep b ob q n hb hx)
  slot := fun b ob q n hb hx => by
    obtain ⟨sl, e1⟩ := u.slot b ob q n hb hx
    obtain ⟨sl2, e2⟩ := ks b ob _ q hb e1
    exact ⟨sl2, e2⟩
  free := u.free
  there := fun b ob q hx => by
    obtain ⟨o', e1⟩ := u.there b ob q hx
    by_cases hb : b ∈ fs
    · obtain ⟨sl, e2⟩ := ks b ob o' q hb e1
      exact ⟨_, e2⟩
    · exact ⟨_, k b ob o' q hb e1⟩
  tups := u.tups
  frzs := u.frzs
  tbls := u.tbls

/-- an exception at a, of the class at C, its last entry at T, in no frame: new since h0, not tracked -/
structure Fl (H : Hp) (h0 h : Heap) (a T C : Addr) : Prop where
  na : h0.get? a = none
  nT : h0.get? T = none
  ua : H a = none
  uT : H T = none
  tr : ∃ a0 oe vs oT ts, h.get? a = some oe ∧ (oe.cls = .ref C ∧ vs[0]? = some a0) ∧ oe.data = .fields vs ∧ vs[1]? = some (.ref T) ∧ T ≠ a ∧ h.get? T = some oT ∧ oT.data = .fields ts ∧ ts[3]? = some .none

/-- a station of the exception's: all is kept but the records of its own and the slots of frames -/
theorem fly_step {base0 : Heap} {st : List Env} {S0 : List Addr} {C : Addr} {a0 : Value} (u : Un fs [] H0 H h0 h1) (hok : HOk P w H h1) (ff : h1.FunFrames base0 st) (fu : ∀ b ∈ frs st, H b = none)
    (hS0 : ∀ b ∈ S0, h0.get? b = none ∧ H b = none) (ha : a ∈ S0) (hst : ∀ b ∈ frs st, b ∈ fs ∨ h0.get? b = none) (hfs : ∀ b ∈ fs, b ∈ frs st)
    (k1 : (PySem.W.hideAll h1 (S0 ++ frs st)).StaysIn h') (k2 : h'.FunFrames (PySem.W.hideAll h1 (S0 ++ frs st)) st) (k3 : h'.TracedW (PySem.W.hideAll h1 (S0 ++ frs st)) a (.ref C) a0) (k4 : h1.UpToSlots h') :
    ∃ T, Un fs [] H0 H h0 h' ∧ HOk P w H h' ∧ Fl H h0 h' a T C := by
  have kk : ∀ b ob, b ∉ S0 → b ∉ frs st → h1.get? b = some ob → h'.get? b = some ob := fun b ob n1 n2 e =>
    k1 b ob (PySem.W.hideAll_get _ e fun z => (List.mem_append.mp z).elim n1 n2)
  have u' : Un fs [] H0 H h0 h' := u.shift (fun b ob ox q hb e => kk b ox (fun z => by rw [(hS0 b z).1] at q; cases q) (fun z => (hst b z).elim hb fun z2 => by rw [z2] at q; cases q) e) (fun b ob ox q hb e => by
    obtain ⟨_, oy, ey, ny⟩ := ff.mem (hfs b hb)
    rw [e] at ey; cases ey
    exact k4 b ox e ny)
  have ok' : HOk P w H h' := fun b v e => (hok b v e).stay (fun c x hc q => by
    have hct : ∃ y, H c = some y := by
      rcases hc with z | z
      · exact ⟨v, by rw [z]; exact e⟩
      · exact ⟨_, z⟩
    obtain ⟨y, hy⟩ := hct
    exact kk c x (fun z => by rw [(hS0 c z).2] at hy; cases hy) (fun z => by rw [fu c z] at hy; cases hy) q) (fun _ q => q) fun _ _ q => q
  obtain ⟨oe, vs, T, oT, ts, he, hc, hd, e1, hnT, hTe, hT, hdT, e3⟩ := k3
  have nf : T ∉ frs st := fun z => by
    obtain ⟨_, oy, ey, ny⟩ := k2.mem z
    rw [hT] at ey; cases ey
    exact ny ts hdT
  have cs : T ∈ S0 ∨ h1.get? T = none := by
    by_cases z : T ∈ S0
    · exact .inl z
    · refine .inr ?_
      cases q : h1.get? T with
      | none => rfl
      | some ox =>
        have := PySem.W.hideAll_get (S0 ++ frs st) q fun z2 => (List.mem_append.mp z2).elim z nf
        rw [hnT] at this; cases this
  refine ⟨T, u', ok', (hS0 a ha).1, ?_, (hS0 a ha).2, ?_, a0, oe, vs, oT, ts, he, hc, hd, e1, hTe, hT, hdT, e3⟩
  · exact cs.elim (fun z => (hS0 T z).1) fun z => u.none_of (ex := []) z
  · exact cs.elim (fun z => (hS0 T z).2) fun z => hok.none_of z
end

/-- how an exception lies behind a call -/
def CX1 (P : Program) (w : World) : CXT := fun outer H s E e s' => ∃ a T C H', e = .ref a ∧ s'.os = s.os ∧ AllBare s'.gens ∧ Un (frs outer) [] H H' s.heap s'.heap ∧ HOk P w H' s'.heap ∧ Fl H' s.heap s'.heap a T C ∧ E (.ref C) none H'
/-- no exception is wished: none comes -/
theorem pass1 {P : Program} {w : World} {X : Cx} : Passes (CX1 P w) X E0 := fun _ _ _ _ _ _ _ h => by
  obtain ⟨_, _, _, _, _, _, _, _, _, _, q⟩ := h
  exact q.elim

section
variable {P : Program} {w : World} {K : PySem.W.Frag} {mg : Str → Option Value} {base : Heap} {N : List Str} {qual : Str} {scope : Scope} {f : Addr} {cdv : Value} {A : Around} {outer : List Env} {s₀ : Shared} {H₀ : Hp} {E : XK}
theorem mem_frs {env : Env} {L : Addr} (hf : env.frame = some L) {b : Addr} : b ∈ frs (env :: outer) ↔ b = L ∨ b ∈ frs outer := by
  unfold frs
  rw [List.filterMap_cons, hf]
  exact List.mem_cons
/-- the exception is made in this body: it leaves -/
theorem leave_new {pins : List (Addr × Obj)} {σ : St} {H : Hp} {s1 : Shared} {a t C : Addr} (I : Inv (cxOf (CX1 P w) P w K mg base N qual scope f cdv A outer s₀ H₀ E) pins σ H s1)
    (he : s1.heap.get? a = some { cls := .ref C, data := .fields #[.ref t, .none, .none, .none, .bool false, .none] }) (na : s₀.heap.get? a = none) (ua : H a = none) (hE : E (.ref C) none H) :
    (cxOf (CX1 P w) P w K mg base N qual scope f cdv A outer s₀ H₀ E).xe (.ref a) s1 := by
  have nL : s₀.heap.get? s₀.heap.objs.size = none := Heap.get?_none_of_le (Nat.le_refl _)
  have hin : ∀ env ∈ envOfC qual scope s₀.heap.objs.size f cdv :: outer, ∀ b, env.frame = some b → b ∈ [a] ++ frs (envOfC qual scope s₀.heap.objs.size f cdv :: outer) := fun env hm b hb =>
    List.mem_append_right _ (List.mem_filterMap.mpr ⟨env, hm, hb⟩)
  refine wpAny_leaving_firstW (base := PySem.W.hideAll s1.heap ([a] ++ frs (envOfC qual scope s₀.heap.objs.size f cdv :: outer))) (L := s₀.heap.objs.size) I.ok.frames (PySem.W.funFrames_hide I.stack hin) rfl he
    (fun b ob e => PySem.W.of_hideAll _ e) (PySem.W.hideAll_none _ (by simp)) rfl rfl rfl fun h' hL => ?_
  obtain ⟨k1, k2, k3, k4⟩ := hL
  obtain ⟨T, u, ok, fl⟩ := fly_step (P := P) (w := w) (fs := frs outer) (H0 := H₀) (h0 := s₀.heap) (a := a) I.base I.hok I.stack I.stkFree (S0 := [a]) (fun b hb => by
    have e : b = a := by simpa using hb
    subst e; exact ⟨na, ua⟩) (by simp) (fun b hb => ((mem_frs rfl).mp hb).elim (fun z => .inr (by rw [z]; exact nL)) .inl) (fun b hb => (mem_frs rfl).mpr (.inr hb)) k1 k2 k3 k4
  exact ⟨a, T, C, H, rfl, I.os, I.bare, u, ok, fl, hE⟩
/-- an exception of a callee leaves this body too -/
theorem pass_on : Passes (CX1 P w) (cxOf (CX1 P w) P w K mg base N qual scope f cdv A outer s₀ H₀ E) E := by
  rintro pins σ H s e s1 I ⟨a, T, C, H', rfl, os, bare, un, hok, fl, hE⟩
  have I1 := I.call' os un hok bare (fun b z => absurd z (by simp))
  obtain ⟨na, nT, ua, uT, a0, oe, vs, oT, ts, he, hc, hd, e1, hTe, hT, hdT, e3⟩ := fl
  have nL : s₀.heap.get? s₀.heap.objs.size = none := Heap.get?_none_of_le (Nat.le_refl _)
  have hin : ∀ env ∈ envOfC qual scope s₀.heap.objs.size f cdv :: outer, ∀ b, env.frame = some b → b ∈ [a, T] ++ frs (envOfC qual scope s₀.heap.objs.size f cdv :: outer) := fun env hm b hb =>
    List.mem_append_right _ (List.mem_filterMap.mpr ⟨env, hm, hb⟩)
  refine wpAny_leaving_nextW (base := PySem.W.hideAll s1.heap ([a, T] ++ frs (envOfC qual scope s₀.heap.objs.size f cdv :: outer))) (L := s₀.heap.objs.size) I1.ok.frames (PySem.W.funFrames_hide I1.stack hin) rfl
    ⟨oe, vs, T, oT, ts, he, hc, hd, e1, PySem.W.hideAll_none _ (by simp), hTe, hT, hdT, e3⟩ (fun b ob e => PySem.W.of_hideAll _ e) (PySem.W.hideAll_none _ (by simp)) fun h' hL => ?_
  obtain ⟨k1, k2, k3, k4⟩ := hL
  have b0 : ∀ b, s.heap.get? b = none → s₀.heap.get? b = none := fun b z => I.base.none_of (ex := []) z
  obtain ⟨T2, u, ok, fl⟩ := fly_step (P := P) (w := w) (fs := frs outer) (H0 := H₀) (h0 := s₀.heap) (a := a) I1.base I1.hok I1.stack I1.stkFree (S0 := [a, T]) (fun b hb => by
    rcases List.mem_cons.mp hb with z | z
    · rw [z]; exact ⟨b0 a na, ua⟩
    · have z : b = T := by simpa using z
      rw [z]; exact ⟨b0 T nT, uT⟩) (by simp) (fun b hb => ((mem_frs rfl).mp hb).elim (fun z => .inr (by rw [z]; exact nL)) .inl) (fun b hb => (mem_frs rfl).mpr (.inr hb)) k1 k2 k3 k4
  exact ⟨a, T2, C, H', rfl, I1.os, I1.bare, u, ok, fl, hE⟩
end

/-! ### own classes of errors, in the written part -/
abbrev bmV : List Value := [.type "ValueError", .type "Exception", .type "BaseException", .type "object"]
theorem cls_obj {K : PySem.W.Frag} {h : Heap} {C : Addr} {bmB : List Value} {nid : String} (KX : K.In h) (q : PySem.W.excIn K C bmB nid = true) :
    ∃ bm Nn nm qn bs hd sn sub ab col dd k0 k1 k2 k3 k5 mN, K.lookup C = some (excClassObj nm qn C Nn bs bm hd sn sub ab col dd k0 k1 k2 k3 k5 nid) ∧ mN "__init__" = none ∧ ∀ h', K.In h' → h'.Ns Nn mN ∧ OwnTail h' bmB bm := by
  unfold PySem.W.excIn at q
  split at q
  · rename_i dct cdat sl look
    split at q
    · rename_i D bm k0 k1 k2 k3 nw k5 em es
      simp only [Bool.and_eq_true, beq_iff_eq, Bool.not_eq_true'] at q
      obtain ⟨⟨⟨⟨⟨e1, e2⟩, nodel⟩, tail⟩, nsok⟩, noin⟩ := q
      subst e1 e2
      obtain ⟨nm, bs, mro, ns, qn, hd, sn, sub, ab, col, dl⟩ := cdat
      dsimp only at em nodel nsok noin
      subst em nodel
      have esl : sl = #[k0, k1, k2, k3, some (.builtin nw), k5] := by
        obtain ⟨l⟩ := sl
        simp only at es
        rw [es]
      subst esl
      refine ⟨bm, ns, nm, qn, bs, hd, sn, sub, ab, col, dct, k0, k1, k2, k3, k5, h.nsMap ns, look, PySem.W.nsMap_none_of_in KX nsok noin, fun h' KX' => ⟨?_, PySem.W.tail_of_in KX' tail⟩⟩
      have n0 : h.Ns ns (h.nsMap ns) := .of_isNs (PySem.W.isNs_of_in KX nsok)
      obtain ⟨o, es, ep, ho, r⟩ := n0
      have lo : ∃ oN, K.lookup ns = some oN := by
        unfold PySem.W.nsOkIn at nsok
        split at nsok
        · exact ⟨_, by assumption⟩
        · cases nsok
      obtain ⟨oN, lo⟩ := lo
      have e0 := KX _ _ lo
      rw [ho] at e0
      cases e0
      exact ⟨_, es, ep, KX' _ _ lo, r⟩
    · cases q
  · cases q

section
variable {P : Program} {w : World} {K : PySem.W.Frag} {mg : Str → Option Value} {base : Heap} {N : List Str} {qual : Str} {scope : Scope} {f : Addr} {cdv : Value} {A : Around} {outer : List Env} {s₀ : Shared} {H₀ : Hp} {E : XK}
/-- raise C('..') -/
theorem ps_raise {x : Str} {C : Addr} {np cpos zp pos : Pos} {z : Str} {j : _} (hg : Gl (cxOf (CX1 P w) P w K mg base N qual scope f cdv A outer s₀ H₀ E) x) (hm : mg x = some (.ref C)) (q : PySem.W.excIn K C bmV "ValueError.__new__" = true)
    (hdb : (x == ("__debug__" : Str)) = false := by decide) :
    PS (cxOf (CX1 P w) P w K mg base N qual scope f cdv A outer s₀ H₀ E) (.Raise (some (.Call (.Name x np) [.Constant (.str z) j zp] [] cpos)) none pos) (fun _ _ H => E (.ref C) none H) := by
  constructor
  intro pins s σ H D I h
  obtain ⟨bm, Nn, nm, qn, bs, hd, sn, sub, ab, col, dd, k0, k1, k2, k3, k5, mN, look, hni, more⟩ := cls_obj I.kIn q
  refine wpAny_Raise_call_subT (C := C) (nm := nm) (q := qn) (N := Nn) (bs := bs) (bm := bm) (hdct := hd) (sn := sn) (sub := sub) (ab := ab) (col := col) (dd := dd) (k0 := k0) (k1 := k1) (k2 := k2) (k3 := k3) (k5 := k5)
    PySem.F.excBase_ValueError (mN := mN) ((more _ I.kIn).2.hasType (by decide)) (I.ok.hd rfl) rfl hni (ld_glob I hg hm ⟨rfl, ?_⟩ hdb)
  have pa : PA (cxOf (CX1 P w) P w K mg base N qual scope f cdv A outer s₀ H₀ E) [.Constant (.str z) j zp] (tCons (tC (.str z)) tNil) := pa_cons pe_str pa_nil
  refine Calls.evalArgs_plain (wpAny_mono (pa cpos pins s σ H (fun vs H1 => vs = [.str z] ∧ H1 = H) I ⟨rfl, rfl⟩) (fun us s2 h2 => ?_) fun _ _ y => y)
  obtain ⟨vs, H1, I2, r, rfl, rfl⟩ := h2
  have hl : us.length = 1 := r.length.symm
  refine ⟨rfl, by rw [hl]; decide, I2.kIn _ _ look, (more _ I2.kIn).1, (more _ I2.kIn).2, fun h' e hx => ?_⟩
  obtain ⟨t, he, _, _⟩ := hx.there
  have I3 : Inv (cxOf (CX1 P w) P w K mg base N qual scope f cdv A outer s₀ H₀ E) pins σ H1 { s2 with heap := h' } := I2.kept (t' := s2.toks) hx.keeps
  exact leave_new I3 he (I2.base.none_of (ex := []) hx.new) (I2.hok.none_of hx.new) h
/-- a def that may raise: its body -/
theorem Fun.okX {x qual : Str} {st : Stmt} {f : Addr} {fd : FuncData} {N ps : List Str} {k : Nat} {sp : Sp} (F : Fun K x qual st f fd) (S : FnScope N ps (defScope st)) (len : ∀ vs H Q E, sp vs H Q E → vs.length = ps.length)
    (hbody : ∀ (cdv : Value) (A : Around) (outer : List Env) (s : Shared) (H : Hp) (vs : List V) (Q : VK) (E : XK), Room k (A.deeper (envOfC qual (defScope st) s.heap.objs.size f cdv)) → sp vs H Q E →
      ∃ t, PSs (cxOf (CX1 P w) P w K mg base N qual (defScope st) f cdv A outer s H E) (defBody st) t ∧ t { nx := fun _ H' => Q .non H', rt := Q } (start N vs) H) : FnOk P w K mg base (CX1 P w) (k + 1) f fd ps sp := by
  obtain ⟨oc, od, kV, doc, pm, an, cdv, ct, osl, rfl, lk, hcd⟩ := F.ex
  exact fn_of lk hcd S len fun A outer s H vs Q E hr hsp => hbody cdv A outer s H vs Q E hr hsp
/-- one that doesn't -/
theorem Fun.ok1 {x qual : Str} {st : Stmt} {f : Addr} {fd : FuncData} {N ps : List Str} {k : Nat} {sp : Sp} (F : Fun K x qual st f fd) (S : FnScope N ps (defScope st)) (len : ∀ vs H Q E, sp vs H Q E → vs.length = ps.length)
    (hbody : ∀ (cdv : Value) (A : Around) (outer : List Env) (s : Shared) (H : Hp) (vs : List V) (Q : VK) (E : XK), Room k (A.deeper (envOfC qual (defScope st) s.heap.objs.size f cdv)) → sp vs H Q E →
      ∃ t, PSs (cxOf (CX1 P w) P w K mg base N qual (defScope st) f cdv A outer s H E).nox (defBody st) t ∧ t { nx := fun _ H' => Q .non H', rt := Q } (start N vs) H) : FnOk P w K mg base (CX1 P w) (k + 1) f fd ps sp := by
  obtain ⟨oc, od, kV, doc, pm, an, cdv, ct, osl, rfl, lk, hcd⟩ := F.ex
  refine fn_of lk hcd S len fun A outer s H vs Q E hr hsp => ?_
  obtain ⟨t, h, q⟩ := hbody cdv A outer s H vs Q E hr hsp
  exact ⟨t, h.nox, q⟩
end

/-! ### isinstance(e, C) of an exception -/
/-- an exception of the class at C stands at a -/
def XAt (a C : Addr) (h : Heap) : Prop := ∃ o vs, h.get? a = some o ∧ o.cls = .ref C ∧ o.data = .fields vs
abbrev exO (a C : Addr) : HO := .ext (XAt a C)
/-- what the written part says of an own class of errors -/
structure XCl (K : PySem.W.Frag) (C : Addr) : Prop where
  q : PySem.W.excIn K C bmV "ValueError.__new__" = true
  ga : PySem.W.findIn K (.ref C) "__getattribute__" = some (some (.builtin "BaseException.__getattribute__"))
  gt : PySem.W.findIn K (.ref C) "__getattr__" = some none
  cl : PySem.W.findIn K (.ref C) "__class__" = some (some (.builtin "object.__class__"))
  gg : PySem.W.specialIn K (.builtin "object.__class__") "__get__" = some (some (.builtin "getset_descriptor.__get__"))
  tk : PySem.W.takesIn K (.builtin "object.__class__") = some true
  mo : PySem.W.mroIn K C (.type "object") = some true
  mb : PySem.W.mroIn K C (.type "BaseException") = some true
  ct : PySem.W.typeIn K (.ref C) = some (.type "type")
theorem XAt.ty {a C : Addr} {h : Heap} {M : Model} (p : XAt a C h) : PySem.W.Looks M h (typeOf (.ref a)) (.ref C) := by
  obtain ⟨o, vs, ho, hc, hd⟩ := p
  exact hc ▸ (PySem.W.Looks.ld ho).andThen .now
theorem XCl.look {K : PySem.W.Frag} {C : Addr} (c : XCl K C) : ∃ oC, K.lookup C = some oC ∧ ∃ cd, oC.data = .cls cd := by
  have q := c.q
  unfold PySem.W.excIn at q
  split at q
  · exact ⟨_, by assumption, _, rfl⟩
  · cases q
theorem XCl.ist {K : PySem.W.Frag} {C : Addr} (c : XCl K C) {M : Model} {h : Heap} (X : K.In h) : PySem.W.Looks M h (isType (.ref C)) true := by
  obtain ⟨oC, look, cd, hd⟩ := c.look
  obtain ⟨c1, d1, da, sl⟩ := oC
  cases hd
  intro A' Q' E' s' k q
  unfold isType loadHead
  exact wpAny_bind (wpAny_loadPart (k _ _ (X _ _ look)) (wpAny_pure q))
section
variable {K : PySem.W.Frag} {a C : Addr} {prog : Program} {w : World} {A : Around} {E : Value → Shared → Prop} {s : Shared}
open Builtin Builtin.ObjectAttr in
theorem exc_find {M : Model} {h : Heap} (c : XCl K C) (X : K.In h) : PySem.W.Looks M h (find (.ref a) (.ref C) "__class__") (.bind (.builtin "getset_descriptor.__get__") (.builtin "object.__class__")) := by
  have l1 := PySem.W.looks_findIn (M := M) X c.cl
  have l2 := PySem.W.looks_specialIn (M := M) X c.gg
  have l3 := PySem.W.looks_takesIn (M := M) X c.tk
  have l4 : PySem.W.Looks M h (dataDescriptor? (some (.builtin "object.__class__")) (some (.builtin "getset_descriptor.__get__"))) (some (.builtin "getset_descriptor.__get__", .builtin "object.__class__")) := l3.andThen .now
  exact l1.andThen (PySem.W.Looks.andThen (t := getOf (some (.builtin "object.__class__"))) l2 (l4.andThen (PySem.W.Looks.tag .now)))
theorem exc_cget {R : Result → Shared → Prop} {tp : Value} (c : XCl K C) (X : K.In s.heap) (p : XAt a C s.heap) (h : R (.ok (.ret (.ref C))) s) :
    codeAny (model prog w) A (.call (.builtin "getset_descriptor.__get__") ⟨[.builtin "object.__class__", .ref a, tp], []⟩) R s := by
  obtain ⟨hp, g, dr, t, os⟩ := s
  have t0 := p.ty (M := model prog w)
  have t1 := PySem.W.looks_mroIn (M := model prog w) X c.mo
  refine codeAny_call_builtin PySem.W.KF.slot_gs.plain PySem.W.KF.entry_gs (PySem.W.KF.slot_gs.check _ _ _ _ _ _ _ _ PySem.W.KF.type_class (PySem.W.KF.args_gs _ _ _) ?_)
  unfold Builtin.«getset_descriptor.__get__» Builtin.Getset_descriptor.descrGet
  rw [PySem.W.dga_obj]; refine wpAny_bind (wpAny_pure ?_)
  unfold Builtin.Getset_descriptor.descrGetter Builtin.Getset_descriptor.descrCheckInstance Builtin.Getset_descriptor.descrNameAndClass isInstance; simp only [PySem.W.KF.owner_class]
  repeat lk
  refine ⟨Code.quiet_builtin _ (by decide +kernel), codeAny_builtin PySem.W.KF.entry_class ?_⟩
  unfold Builtin.«object.__class__» shownTypeOf
  repeat lk
  exact h
theorem exc_chk {M : Model} {nameV : Value} {Q : Unit → Shared → Prop} (c : XCl K C) (X : K.In s.heap) (p : XAt a C s.heap) (h : Q () s) : wpAny M A (checkBuiltinCall "BaseException.__getattribute__" ⟨[.ref a, nameV], []⟩) Q E s := by
  have hk : builtinKind "BaseException.__getattribute__" = some .slot := by decide +kernel
  have hs : splitId "BaseException.__getattribute__" = some ("BaseException", "__getattribute__") := by decide +kernel
  have l5 : PySem.W.Looks M s.heap (isInstance (.ref a) (.type "BaseException")) true := (p.ty (M := M)).andThen (PySem.W.looks_mroIn (M := M) X c.mb)
  have ha := PySem.F.args_bexc_ga (.ref a) nameV
  exact PySem.W.check_slot (i := "BaseException.__getattribute__") (owner := "BaseException") (n := "__getattribute__") (self := .ref a) (rest := [nameV]) (kw := []) hk hs l5 ha h
theorem exc_ent {tk : Tok} {Q : Fin → Shared → Prop} (c : XCl K C) (X : K.In s.heap) (p : XAt a C s.heap) (h : Q (.done (.ret (.ref C))) s) :
    wpAny (model prog w) A (Builtin.«object.__getattribute__» ⟨[.ref a, .str "__class__" tk], []⟩) Q E s := by
  obtain ⟨hh, g, d, t, os⟩ := s
  have t0 := p.ty (M := model prog w)
  have l3 := exc_find (a := a) (M := model prog w) c X
  unfold Builtin.«object.__getattribute__»
  refine wpAny_bind (wpAny_pure ?_)
  refine wpAny_bind (wpAny_pure ?_)
  refine wpAny_bind (t0.at (wpAny_bind (l3.at ?_)))
  dsimp only
  unfold Builtin.ObjectAttr.bindTo
  dsimp only
  refine wpAny_bind (wpAny_holding (wpAny_call (exc_cget c X p ?_)))
  exact wpAny_pure h
theorem exc_ga {tk : Tok} {R : Result → Shared → Prop} (c : XCl K C) (X : K.In s.heap) (p : XAt a C s.heap) (h : R (.ok (.ret (.ref C))) s) :
    codeAny (model prog w) A (.call (.builtin "BaseException.__getattribute__") ⟨[.ref a, .str "__class__" tk], []⟩) R s :=
  codeAny_call_builtin PySem.F.attr_ValueError.ga.plain PySem.F.entry_bexc_ga (exc_chk c X p (exc_ent c X p h))
theorem exc_class {Q : Option Value → Shared → Prop} (c : XCl K C) (X : K.In s.heap) (p : XAt a C s.heap) (h : Q (some (.ref C)) { s with toks := s.toks + 1 }) : wpAny (model prog w) A (getAttr? (.ref a) "__class__") Q E s := by
  obtain ⟨hh, g, d, t, os⟩ := s
  have t0 := p.ty (M := model prog w)
  have l1 := PySem.W.looks_findIn (M := model prog w) X c.ga
  have l2 := PySem.W.looks_findIn (M := model prog w) X c.gt
  have gb := PySem.F.attr_ValueError.ga.bind (.ref a)
  unfold getAttr? getAttrBy? getAttrBy
  refine wpAny_bind (wpAny_mkText (wpAny_bind (wpAny_attempt (wpAny_holding (wpAny_bind (t0.at (wpAny_bind (l1.at ?_))))))))
  have n1 : (Value.builtin "BaseException.__getattribute__" == Value.builtin "object.__getattribute__") = false := by decide +kernel
  dsimp only
  rw [n1, Bool.and_false, if_neg Bool.false_ne_true]
  unfold getAttrByItsOwn
  refine wpAny_bind (l2.at ?_)
  refine wpAny_bind (wpAny_attempt (wpAny_holding ?_))
  unfold callGetattribute
  rw [Bool.false_and, if_neg Bool.false_ne_true]
  unfold boundAndCalled
  rw [gb]
  refine wpAny_bind (wpAny_pure ?_)
  dsimp only [List.cons_append, List.nil_append]
  refine wpAny_call (exc_ga (s := ⟨hh, g, d, t + 1, os⟩) c X p ?_)
  dsimp only
  have hho : handedOut (.ref C) = pure (.ref C) := rfl
  rw [hho]
  exact wpAny_pure (wpAny_pure h)
theorem kitx_exc (c : XCl K C) : PySem.W.KitX K (.ref a) (.ref C) (XAt a C) where
  ty := fun _ _ _ p => p.ty
  it := fun _ _ X _ => c.ist X
  ne := fun h tp dd its n sl X htp => by
    obtain ⟨oC, look, cd, hd⟩ := c.look
    refine Bool.eq_false_iff.mpr fun q => ?_
    have e : C = tp := Value.ref.inj (beq_iff_eq.mp q)
    subst e
    have z := (X _ _ look).symm.trans htp
    rw [← Option.some.inj z.symm] at hd
    cases hd
  ca := fun X p k => exc_class c X p k
end
section
variable {X : Cx}
theorem call_isExc {K : PySem.W.Frag} (hK : X.K = K) (cv : V) (cu : Value) (hcv : ∀ u, RelV cv u → u = cu) : CallR X (.builtin "isinstance") (fun xs H Q => ∃ a C b, xs = [.ref a, cv] ∧ H a = some (exO a C) ∧ XCl K C ∧ PySem.W.kitOne K (.ref C) cu = some b ∧ Q (.bl b) H) := by
  subst hK
  intro pins s σ H xs us Q I r h
  obtain ⟨a, C, b, rfl, ea, c, e, q⟩ := h
  obtain ⟨u, w', rfl, r1, r2⟩ := vals2 r
  cases hcv _ r2
  cases (show u = Value.ref a from r1)
  have p : XAt a C s.heap := (show ObjOk X.prog X.w H s.heap a (exO a C) from I.hok a _ ea).1
  exact PySem.W.kia_one (kitx_exc c) I.kIn p e (fun z => nomatch z) fun tk => ⟨.bl b, H, I.tok tk, rfl, q⟩

/-! ### try .. except .. as .. -/
theorem Cx.Ok.repn (o : X.Ok) (pn : List (Addr × Obj)) : ({ X with pn := pn } : Cx).Ok := ⟨o.mod, o.kind, o.glob, o.blt, o.above, o.inj, o.has, o.cab, o.hd, o.frames, o.stk, o.exf, o.bs, o.bsz, o.noex, o.exfs, o.funs, o.frf⟩
theorem Cx.Ok.unpn {pn : List (Addr × Obj)} (o : ({ X with pn := pn } : Cx).Ok) : X.Ok := ⟨o.mod, o.kind, o.glob, o.blt, o.above, o.inj, o.has, o.cab, o.hd, o.frames, o.stk, o.exf, o.bs, o.bsz, o.noex, o.exfs, o.funs, o.frf⟩
variable {pins : List (Addr × Obj)} {σ : St} {H : Hp} {s : Shared}
theorem Inv.repn (I : Inv X pins σ H s) : Inv { X with pn := X.pn ++ pins } [] σ H s :=
  ⟨I.ok.repn _, I.os, I.bare, I.base, I.loc, I.cell, I.free, I.freeC, fun p hp => I.pin p (by simpa using hp), I.hok, I.len⟩
theorem Inv.unpn (I : Inv { X with pn := X.pn ++ pins } [] σ H s) : Inv X pins σ H s :=
  ⟨I.ok.unpn, I.os, I.bare, I.base, I.loc, I.cell, I.free, I.freeC, fun p hp => I.pin p (List.mem_append_left _ hp), I.hok, I.len⟩
theorem SP.unpn {D : Ends} {f : Flow} {s' : Shared} (h : SP { X with pn := X.pn ++ pins } [] D f s') : SP X pins D f s' := by
  cases f with
  | next => obtain ⟨σ', H', I, q⟩ := h; exact ⟨σ', H', I.unpn, q⟩
  | brk => obtain ⟨σ', H', I, q⟩ := h; exact ⟨σ', H', I.unpn, q⟩
  | cont => obtain ⟨σ', H', I, q⟩ := h; exact ⟨σ', H', I.unpn, q⟩
  | ret u => obtain ⟨v, σ', H', I, r, q⟩ := h; exact ⟨v, σ', H', I.unpn, r, q⟩
/-- the context of a try's body -/
abbrev tcx (X : Cx) (pn : List (Addr × Obj)) (E : XK) : Cx := Cx.wish { X with pn := pn } fun e s' => ∃ σ H s, Inv { X with pn := pn } [] σ H s ∧ CX1 X.prog X.w X.stack H s E e s'
theorem passT {P : Program} {w : World} {pn : List (Addr × Obj)} {E : XK} (h1 : X.prog = P) (h2 : X.w = w) : Passes (CX1 P w) (tcx X pn E) E := fun pins σ H s e s' I h => by
  subst h1 h2
  exact ⟨σ, H, s, (I.pins_of (pins' := []) fun p hp => nomatch hp).unwish, h⟩
/-- the context of an except's suite -/
abbrev hcx (X : Cx) (e : Value) : Cx := { X with A := X.A.mark (some e), calm := false, xe := fun _ _ => False }
theorem Inv.held (I : Inv X pins σ H s) (e : Value) : Inv (hcx X e) pins σ H s :=
  ⟨⟨I.ok.mod, I.ok.kind, I.ok.glob, I.ok.blt, I.ok.above, I.ok.inj, I.ok.has, I.ok.cab, (fun z => nomatch z), I.ok.frames, I.ok.stk, I.ok.exf, I.ok.bs, I.ok.bsz, I.ok.noex, I.ok.exfs, I.ok.funs, I.ok.frf⟩, I.os, I.bare, I.base, I.loc, I.cell, I.free, I.freeC, I.pin, I.hok, I.len⟩
theorem Inv.unheld {e : Value} (I : Inv (hcx X e) pins σ H s) (hd : X.calm = true → X.A.handled = none) : Inv X pins σ H s :=
  ⟨⟨I.ok.mod, I.ok.kind, I.ok.glob, I.ok.blt, I.ok.above, I.ok.inj, I.ok.has, I.ok.cab, hd, I.ok.frames, I.ok.stk, I.ok.exf, I.ok.bs, I.ok.bsz, I.ok.noex, I.ok.exfs, I.ok.funs, I.ok.frf⟩, I.os, I.bare, I.base, I.loc, I.cell, I.free, I.freeC, I.pin, I.hok, I.len⟩
/-- the name goes -/
theorem name_gone {M : Model} {A : Around} {E : Value → Shared → Prop} {i : Nat} {n : Str} {pos : Pos} {Q : Unit → Shared → Prop} (I : Inv X pins σ H s) (hN : X.N.Nodup) (hi : X.N[i]? = some n) (hn : X.env.scope.names.lookup n = some .local)
    (h : ∀ s', Inv X pins (σ.set i none) H s' → Q () s') : wpAny M A (do bindName X.env n .none; unbindBehindTheSuite X.env n pos) Q E s := by
  obtain ⟨m, hns, hl⟩ := id I.loc
  have hcls : (X.env.scope.kind == .class || (X.env.scope.kind == .module && X.env.locals != X.env.globals)) = false := by rw [I.ok.kind]; rfl
  refine wpAny_nameGoes_keeps hn hns hcls fun h' v hns' hs => ?_
  have far : ∀ b o, X.s₀.heap.get? b = some o → b ≠ X.env.locals := fun b o e => Nat.ne_of_lt (Nat.lt_of_lt_of_le (Heap.lt_size e) I.ok.above)
  refine h _ ⟨I.ok, I.os, I.bare, ⟨fun b o e n hb hx => (hs.2 b (far b o e)).trans (I.base.keep b o e n hb hx), fun b o e n hb hx => ?_, I.base.free, fun b o e hx => ?_, I.base.tups, I.base.frzs, I.base.tbls⟩, ⟨_, hns', fun j y v' e1 e2 e3 => ?_⟩, fun y c e => ?_, I.free, I.freeC, fun p hp => ?_, fun b ob e => ?_, ?_⟩
  · obtain ⟨sl, e1⟩ := I.base.slot b o e n hb hx
    exact ⟨sl, (hs.2 b (far b o e)).trans e1⟩
  · obtain ⟨o', e1⟩ := I.base.there b o e hx
    exact ⟨o', (hs.2 b (far b o e)).trans e1⟩
  · have hj : j ≠ i := fun z => by
      subst z
      have : j < σ.length := by rw [I.len]; exact (List.getElem?_eq_some_iff.mp hi).1
      rw [List.getElem?_set_self this] at e2; cases e2
    rw [List.getElem?_set_ne (Ne.symm hj)] at e2
    obtain ⟨u', r', q⟩ := hl j y v' e1 e2 e3
    refine ⟨u', r', ?_⟩
    rcases q with ⟨k, e⟩ | ⟨k, c, e, z⟩
    · have ny : y ≠ n := fun e => hj (nodup_ix hN e1 (e ▸ hi))
      exact .inl ⟨k, by show (if y = n then v else m y) = _; rw [if_neg ny]; exact e⟩
    · exact .inr ⟨k, c, e, z.sameBut hs (I.cne y c e)⟩
  · obtain ⟨w', z⟩ := I.cell y c e
    exact ⟨w', z.sameBut hs (I.cne y c e)⟩
  · obtain ⟨e, n, ne, nf, d⟩ := I.pin p hp
    exact ⟨(hs.2 p.1 ne).trans e, n, ne, nf, d⟩
  · refine (I.hok b ob e).stay (fun c w' hc q => (hs.2 c ?_).trans q) (fun _ q => q) fun _ _ q => q
    rintro rfl
    rcases hc with z | z
    · rw [← z, I.free] at e; cases e
    · rw [I.free] at z; cases z
  · rw [List.length_set]; exact I.len
/-- does the clause take it -/
theorem exc_match {K : PySem.W.Frag} {M : Model} {A : Around} {E : Value → Shared → Prop} {a C B : Addr} {Q : Bool → Shared → Prop} (KX : K.In s.heap) (p : XAt a C s.heap) (hB : XCl K B) (hs : PySem.W.mroIn K C (.ref B) = some true) (h : Q true s) :
    wpAny M A (excMatches (.ref a) (.ref B)) Q E s := by
  obtain ⟨hp, g, d, tk, os⟩ := s
  have t0 := p.ty (M := M)
  have b1 := PySem.W.looks_typeIn (M := M) KX hB.ct
  have b2 := hB.ist (M := M) KX
  have b3 := PySem.W.looks_mroIn (M := M) KX hB.mb
  have b4 := PySem.W.looks_mroIn (M := M) KX hs
  unfold excMatches isInstance
  refine wpAny_bind (wpAny_bind (b1.at ?_))
  rw [tc_notTuple]
  refine wpAny_pure ?_
  rw [if_neg Bool.false_ne_true]
  refine wpAny_bind (wpAny_pure ?_)
  simp only [List.forIn_cons, List.forIn_nil]
  unfold isExcClass
  refine wpAny_bind (wpAny_bind (wpAny_bind (wpAny_bind (b2.at ?_))))
  rw [if_pos rfl]
  refine b3.at ?_
  rw [Bool.not_true, if_neg Bool.false_ne_true]
  refine wpAny_pure (wpAny_pure ?_)
  refine wpAny_bind (t0.at ?_)
  refine wpAny_bind (wpAny_bind (wpAny_bind (b4.at ?_)))
  rw [if_pos rfl]
  exact wpAny_pure (wpAny_pure (wpAny_pure h))
/-- the readings of a try: its body's; its suite's, of whatever exception E tells of -/
def tTry (i : Nat) (E : XK) (tb th : TS) : TS := fun D σ H => tb D σ H ∧ ∀ C Hx a, E (.ref C) none Hx → Hx a = none →
  th { nx := fun σ' H' => D.nx (σ'.set i none) H', rt := D.rt, bk := fun σ' H' => D.bk (σ'.set i none) H', ct := fun σ' H' => D.ct (σ'.set i none) H' } ((List.replicate σ.length none).set i (some (.ref a))) (upd Hx a (exO a C))
theorem ps_try {K : PySem.W.Frag} {body suite : List Stmt} {b₀ : Stmt} {x n : Str} {i : Nat} {B : Addr} {tb th : TS} {E : XK} {np hp pos : Pos} (hK : X.K = K) (hN : X.N.Nodup) (hi : X.N[i]? = some n) (hn : X.env.scope.names.lookup n = some .local)
    (hst : X.stack = X.env :: X.outer) (hfr : X.env.frame = some X.env.locals) (hg : Gl X x) (hm : X.mg x = some (.ref B)) (hB : XCl K B) (hE : ∀ C Hx, E (.ref C) none Hx → PySem.W.mroIn K C (.ref B) = some true)
    (hb : ∀ pn, PSs (tcx X pn E) body tb) (hs : ∀ e, PSs (hcx X e) (b₀ :: suite) th) (hdb : (x == ("__debug__" : Str)) = false := by decide) :
    PS X (.Try body [.ExceptHandler (some (.Name x np)) (some n) (b₀ :: suite) hp] [] [] pos) (tTry i E tb th) := by
  subst hK
  constructor
  intro pins s σ H D I hr
  obtain ⟨r1, r2⟩ := hr
  refine wpAny_Try_except ?_
  refine wpAny_mono (hb (X.pn ++ pins) [] s σ H D (I.repn.wish _) r1) (fun f s1 hf => ?_) (fun e s1 he => ?_)
  · have q := hf.unwish.unpn
    cases f with
    | next => exact wpAny_execs_nil q
    | brk => exact q
    | cont => exact q
    | ret u => exact q
  · obtain ⟨σ1, H0, s0, I0, a, T, C, H', rfl, os, bare, un, hok, fl, hE'⟩ := he
    have J : Inv X pins σ1 H0 s0 := I0.unpn
    have J1 : Inv X pins σ1 H' s1 := J.call' os un hok bare (fun b z => absurd z (by simp))
    obtain ⟨na, nT, ua, uT, a0, oe, vs, oT, ts, eo, hc, hd, e1, hTe, hT, hdT, e3⟩ := fl
    have hin : ∀ env ∈ X.stack, ∀ b, env.frame = some b → b ∈ [a, T] ++ frs X.stack := fun env hmm b hbb => List.mem_append_right _ (List.mem_filterMap.mpr ⟨env, hmm, hbb⟩)
    have ff := PySem.W.funFrames_hide J1.stack hin
    have step : ∀ h', (PySem.W.hideAll s1.heap ([a, T] ++ frs X.stack)).StaysIn h' → h'.FunFrames (PySem.W.hideAll s1.heap ([a, T] ++ frs X.stack)) X.stack → h'.TracedW (PySem.W.hideAll s1.heap ([a, T] ++ frs X.stack)) a (.ref C) a0 → s1.heap.UpToSlots h' →
        Inv X pins σ1 H' { s1 with heap := h' } ∧ XAt a C h' ∧ Un (frs X.stack) [] H0 H' s0.heap h' ∧ HOk X.prog X.w H' h' := fun h' k1 k2 k3 k4 => by
      obtain ⟨T2, u, ok, f2⟩ := fly_step (P := X.prog) (w := X.w) (fs := frs X.stack) (H0 := H0) (h0 := s0.heap) (a := a) un hok J1.stack J1.stkFree (S0 := [a, T]) (fun b hb => by
        rcases List.mem_cons.mp hb with z | z
        · rw [z]; exact ⟨na, ua⟩
        · have z : b = T := by simpa using z
          rw [z]; exact ⟨nT, uT⟩) (by simp) (fun b hb => .inl hb) (fun b hb => hb) k1 k2 k3 k4
      obtain ⟨_, oe2, vs2, _, _, g1, g2, g3, _⟩ := f2.tr
      exact ⟨J.call' (s' := { s1 with heap := h' }) os u ok bare (fun b z => absurd z (by simp)), ⟨oe2, vs2, g1, g2.1, g3⟩, u, ok⟩
    rw [hst] at ff step
    refine wpAny_looks_onW (base := PySem.W.hideAll s1.heap ([a, T] ++ frs (X.env :: X.outer))) (env := X.env) (outer := X.outer) (L := X.env.locals) (by rw [J1.ok.frames, hst]) hfr
      ⟨fun b ob e => PySem.W.of_hideAll _ e, PySem.W.hideAll_none _ (by simp), ff, oe, vs, T, oT, ts, eo, hc, hd, e1, PySem.W.hideAll_none _ (by simp), hTe, hT, hdT, e3⟩ fun h4 held up4 => ?_
    refine wpAny_landsW held fun h5 fly5 up5 => ?_
    obtain ⟨J5, x5, _, _⟩ := step h5 fly5.1 fly5.2.2.1 fly5.2.2.2 (up4.trans up5)
    refine wpAny_handleBy_cons (codeAny_handlers_test (ld_glob (X := hcx X (.ref a)) (J5.held (.ref a)) hg hm (exc_match (s := { s1 with heap := h5 }) J5.kIn x5 hB (hE C H' hE') ?_) hdb)) (by intro q; cases q)
    refine codeAny_handlers_suite_as ?_
    refine lands_againW fly5 fun h6 fly6 up6 => ?_
    obtain ⟨J6, x6, u6, ok6⟩ := step h6 fly6.1 fly6.2.2.1 fly6.2.2.2 ((up4.trans up5).trans up6)
    have nea : ∀ b o, s0.heap.get? b = some o → b ≠ a := fun b o e z => by rw [z, na] at e; cases e
    have net : ∀ b o, H' b = some o → b ≠ a := fun b o e z => by rw [z, ua] at e; cases e
    have ok7 : HOk X.prog X.w (upd H' a (exO a C)) h6 := fun b v e => by
      by_cases z : b = a
      · subst z
        rw [upd_same] at e; cases e
        obtain ⟨o, vs', g1, g2, g3⟩ := x6
        exact ⟨⟨o, vs', g1, g2, g3⟩, ⟨o, g1⟩, fun h1 h2 ⟨o1, v1, p1, p2, p3⟩ k => ⟨o1, v1, k _ p1, p2, p3⟩⟩
      · rw [upd_ne z] at e
        exact (ok6 b v e).stay (fun _ _ _ q => q) (fun c q => by rw [upd_ne (net c _ q)]; exact q) fun c ys q => by rw [upd_ne (net c _ q)]; exact q
    rw [← hst] at u6
    have u7 : Un (frs X.stack) [] H0 (upd H' a (exO a C)) s0.heap h6 := ⟨u6.keep, u6.slot, fun b o e n hx => by rw [upd_ne (nea b o e)]; exact u6.free b o e n hx, u6.there, fun b ys q => by
      have := u6.tups b ys q
      rw [upd_ne (net b _ this)]; exact this, fun b o v q => by
      have := u6.frzs b o v q
      rw [upd_ne (net b _ this)]; exact this, fun b ps q => by
      obtain ⟨more, this⟩ := u6.tbls b ps q
      exact ⟨more, by rw [upd_ne (net b _ this)]; exact this⟩⟩
    have J7 : Inv X pins σ1 (upd H' a (exO a C)) { s1 with heap := h6 } := J.call' (s' := { s1 with heap := h6 }) os u7 ok7 bare (fun b z => absurd z (by simp))
    have J8 : Inv X pins (List.replicate σ.length none) (upd H' a (exO a C)) { s1 with heap := h6 } := J7.weak (by rw [List.length_replicate, I.len, J7.len]) (fun k v e => by
      rw [List.getElem?_replicate] at e
      split at e <;> cases e)
    refine store_ok (X := hcx X (.ref a)) (J8.held (.ref a)) hN hi (.inl hn) (v := .ref a) rfl (fun s9 J9 => ?_) (.inr hn)
    refine wpAny_mono (hs (.ref a) pins s9 _ _ _ J9 (r2 C H' a hE' ua)) (fun f s10 h10 => ?_) fun _ _ z => z.elim
    have fin : ∀ {σ' : St} {H'' : Hp} {R : Shared → Prop}, Inv (hcx X (.ref a)) pins σ' H'' s10 → (∀ s', Inv X pins (σ'.set i none) H'' s' → R s') → wpAny (model X.prog X.w) X.A (do bindName X.env n .none; unbindBehindTheSuite X.env n hp) (fun _ s₃ => R s₃) X.xe s10 :=
      fun {σ' H'' R} K9 hR => name_gone (K9.unheld I.ok.hd) hN hi hn hR
    cases f with
    | next => obtain ⟨σ', H'', K9, q⟩ := h10; exact fin K9 fun s' K10 => ⟨_, _, K10, q⟩
    | brk => obtain ⟨σ', H'', K9, q⟩ := h10; exact fin K9 fun s' K10 => ⟨_, _, K10, q⟩
    | cont => obtain ⟨σ', H'', K9, q⟩ := h10; exact fin K9 fun s' K10 => ⟨_, _, K10, q⟩
    | ret u => obtain ⟨v, σ', H'', K9, r, q⟩ := h10; exact fin K9 fun s' K10 => ⟨v, _, _, K10, r, q⟩
end
end L2

/-! ### a def with all that a call of it wants -/
namespace L2
open PySem PySem.Spec PyProof.Rows

structure Has (P : Program) (w : World) (K : PySem.W.Frag) (mg : Str → Option Value) (base : Heap) (k : Nat) (x : Str) (ps : List Str) (sp : Sp) : Prop where
  ex : ∃ f fd, FnOk P w K mg base (CX1 P w) k f fd ps sp ∧ Binds K fd ps [] ∧ PySem.W.keepIn K (.ref f) = true ∧ mg x = some (.ref f)
theorem Has.mono {P : Program} {w : World} {K : PySem.W.Frag} {mg : Str → Option Value} {base : Heap} {j k : Nat} {x : Str} {ps : List Str} {sp : Sp} (h : Has P w K mg base j x ps sp) (l : j ≤ k) : Has P w K mg base k x ps sp := by
  obtain ⟨f, fd, F, r⟩ := h.ex
  exact ⟨f, fd, F.mono l, r⟩
section
variable {X : Cx} {P : Program} {w : World} {K : PySem.W.Frag} {mg : Str → Option Value} {base : Heap} {k : Nat} {ps : List Str} {sp : Sp} {E : XK} {x : Str} {p pos : Pos} {e : Expr} {es : List Expr} {t : TA}
theorem pe_callH (h : Has P w K mg base k x ps sp) (hr : Room k X.A) (hx : Passes (CX1 P w) X E) (ha : PA X (e :: es) t) (h1 : X.prog = P := by rfl) (h2 : X.w = w := by rfl) (h3 : X.K = K := by rfl) (h4 : X.mg = mg := by rfl) (h5 : X.base = base := by rfl) (hg : Gl X x := by rfl)
    (hdb : (x == ("__debug__" : Str)) = false := by decide) (he : starEach (e :: es) X.env = (false, eval e X.env) :: starEach es X.env := by rfl) (hpl : (backTo pos (starEach es X.env)).any (·.1) = false := by rfl) :
    PE X (.Call (.Name x p) (e :: es) [] pos) (tCall sp [] E t) := by
  subst h1 h2 h3 h4 h5
  obtain ⟨f, fd, F, b, kp, m⟩ := h.ex
  exact pe_call F hr hg m kp b .nil hx ha hdb he hpl
end

/-! ### a table of the module's, its keys texts, its values flat -/
def tabV (D : List (Str × Str)) : List (Str × KTD.Dat) := D.map fun p => (p.1, .flat (.str p.2))
/-- the table stands at a -/
structure Tab (K : PySem.W.Frag) (a : Addr) (D : List (Str × Str)) : Prop where
  look : KTD.tabLook (KTD.datLooks fun b => K.lookup b) (fun b => K.lookup b) a (tabV D) = true
theorem Tab.here {K : PySem.W.Frag} {a : Addr} {D : List (Str × Str)} {h : Heap} (T : Tab K a D) (KX : K.In h) : KTD.Here h h a (tabV D) := ⟨PySem.W.kt_text_in KX T.look, fun _ _ e => e⟩
section
variable {X : Cx} {K : PySem.W.Frag} {a : Addr} {D : List (Str × Str)}
theorem op_notinTab (hK : X.K = K) (T : Tab K a D) : OpR X (compareOp .NotIn) (fun x y H Q => ∃ z, x = .str z ∧ y = .ref a ∧ Q (.bl (!KTD.inKeys z (tabV D))) H) := by
  subst hK
  intro pins s σ H x y v u Q I rx ry h
  obtain ⟨z, rfl, rfl, q⟩ := h
  obtain ⟨t, rfl⟩ := rx
  cases ry
  exact KTD.notin_text (T.here I.kIn) ⟨.bl _, H, I.tok _, rfl, q⟩
theorem ix_turned (hK : X.K = K) (T : Tab K a [("(", ")"), (")", "(")]) : IxR X (fun x y H Q => ∃ c, x = .ref a ∧ y = .str ⟨#[c]⟩ ∧ (c = 40 ∨ c = 41) ∧ Q (.str ⟨#[81 - c]⟩) H) := by
  subst hK
  intro value slice pins s σ H x y v u Q I rx ry h hs
  obtain ⟨c, rfl, rfl, hc, q⟩ := h
  cases rx
  obtain ⟨t, rfl⟩ := ry
  have e1 : (Str.ofString "(") = ⟨#[40]⟩ := by decide +kernel
  have e2 : (Str.ofString ")") = ⟨#[41]⟩ := by decide +kernel
  have ne : ¬ ((⟨#[41]⟩ : Str) = ⟨#[40]⟩) := by decide +kernel
  refine KTD.item_textA (T.here I.kIn) rfl ?_ ?_ hs
  · rcases hc with rfl | rfl
    · rw [← e1]; decide +kernel
    · rw [← e2]; decide +kernel
  · unfold tabV
    simp only [List.map_cons, List.map_nil, KTD.EachL]
    rcases hc with rfl | rfl
    · rw [if_pos (by rw [e1]; simp)]
      intro t'
      exact ⟨.str _, H, I.tok _, ⟨t', by rw [e2]⟩, q⟩
    · rw [if_neg (by rw [e1]; simp [ne])]
      intro _ t'
      exact ⟨.str _, H, I.tok _, ⟨t', by rw [e1]⟩, q⟩
theorem in_turned (c : Nat) : KTD.inKeys (⟨#[c]⟩ : Str) (tabV [("(", ")"), (")", "(")]) = decide (c = 40 ∨ c = 41) := by
  have e1 : (Str.ofString "(") = ⟨#[40]⟩ := by decide +kernel
  have e2 : (Str.ofString ")") = ⟨#[41]⟩ := by decide +kernel
  have k : ∀ d : Nat, decide ((⟨#[c]⟩ : Str) = ⟨#[d]⟩) = decide (c = d) := fun d => by
    by_cases h : c = d
    · subst h; simp
    · rw [decide_eq_false h, decide_eq_false]
      intro z
      have := congrArg (fun s : Str => s.cps.toList) z
      simp at this
      exact h this
  show (decide ((⟨#[c]⟩ : Str) = Str.ofString "(") || (decide ((⟨#[c]⟩ : Str) = Str.ofString ")") || false)) = _
  rw [e1, e2, k, k, Bool.or_false]
  by_cases h1 : c = 40
  · simp [h1]
  · by_cases h2 : c = 41 <;> simp [h1, h2]
end

/-! ### any, all of a list of truths -/
section
variable {X : Cx}
theorem bools_at {its : List Value} {bs : List Bool} (r : Vals (bs.map V.bl) its) {i : Nat} {v : Value} (h : its.toArray[i]? = some v) : ∃ b, bs[i]? = some b ∧ v = .bool b := by
  have hl := r.length
  rw [List.length_map] at hl
  have hi : i < its.length := by
    have := (Array.getElem?_eq_some_iff.mp h).1
    simpa using this
  have hb : i < bs.length := by omega
  obtain ⟨u, hu, ru⟩ := r.get (i := i) (x := .bl bs[i]) (by rw [List.getElem?_map, List.getElem?_eq_getElem hb]; rfl)
  have e : its[i]? = some v := by simpa using h
  rw [hu] at e
  cases e
  exact ⟨bs[i], List.getElem?_eq_getElem hb, ru⟩
theorem any_range (bs : List Bool) : ((List.range bs.length).any fun i => (bs[i]?).getD false) = bs.any id := by
  rw [Bool.eq_iff_iff, List.any_eq_true, List.any_eq_true]
  constructor
  · rintro ⟨i, hi, e⟩
    have hi := List.mem_range.mp hi
    rw [List.getElem?_eq_getElem hi] at e
    exact ⟨bs[i], List.getElem_mem hi, e⟩
  · rintro ⟨b, hb, e⟩
    obtain ⟨i, hi, rfl⟩ := List.getElem_of_mem hb
    exact ⟨i, List.mem_range.mpr hi, by rw [List.getElem?_eq_getElem hi]; exact e⟩
theorem all_range (bs : List Bool) : ((List.range bs.length).all fun i => (bs[i]?).getD true) = bs.all id := by
  rw [Bool.eq_iff_iff, List.all_eq_true, List.all_eq_true]
  constructor
  · intro q b hb
    obtain ⟨i, hi, rfl⟩ := List.getElem_of_mem hb
    have := q i (List.mem_range.mpr hi)
    rw [List.getElem?_eq_getElem hi] at this
    exact this
  · intro q i hi
    have hi := List.mem_range.mp hi
    rw [List.getElem?_eq_getElem hi]
    exact q _ (List.getElem_mem hi)
def rBools (K : PySem.W.Frag) (f : List Bool → Bool) : List V → Hp → VK → Prop := fun xs H Q => ∃ (p : Addr) (bs : List Bool), xs = [.ref p] ∧ SqL K H p (bs.map V.bl) ∧ Q (.bl (f bs)) H
theorem call_any (hc : X.calm = true) : CallR X (.builtin "any") (rBools X.K fun bs => bs.any id) := by
  intro pins s σ H xs us Q I r h
  obtain ⟨p, bs, rfl, hq, q⟩ := h
  obtain ⟨u, rfl, rx⟩ := vals1 r
  cases rx
  obtain ⟨its, rv, pl, hz⟩ := I.list hq
  have hlt : p < s.heap.objs.size := by obtain ⟨_, e, _⟩ := pl.isList; exact Heap.lt_size e
  have hlen : its.toArray.size = bs.length := by have := rv.length; rw [List.length_map] at this; simp; omega
  refine call_any_walk (wpAny_pyIter_list pl.isList ⟨s.heap.objs.size, [s.heap.objs.size, p], [s.heap.objs.size], its.toArray.size, _, _, fun i => (bs[i]?).getD false, rfl, Walks.list (A := X.A.in1) (I.ok.hd hc) _ p (Nat.ne_of_lt hlt) its.toArray,
    ⟨⟨_, Heap.get?_push_size _ rfl, rfl, rfl⟩, pl.isList.push _⟩, fun i v s' Q' E' hP hQ => ?_, fun h' tk hk => ?_⟩)
  · obtain ⟨b, e, rfl⟩ := bools_at rv (by simpa using hP)
    dsimp only at hQ
    rw [e] at hQ
    exact wpAny_truthy_bool hQ
  · rw [hlen, any_range bs]
    exact ⟨.bl _, H, I.kept (fun b o e => hk b o (fun z => by rw [List.mem_singleton.mp z] at e; exact absurd (Heap.lt_size e) (Nat.lt_irrefl _)) (Heap.get?_push_of_some _ e)), rfl, q⟩
theorem call_all (hc : X.calm = true) : CallR X (.builtin "all") (rBools X.K fun bs => bs.all id) := by
  intro pins s σ H xs us Q I r h
  obtain ⟨p, bs, rfl, hq, q⟩ := h
  obtain ⟨u, rfl, rx⟩ := vals1 r
  cases rx
  obtain ⟨its, rv, pl, hz⟩ := I.list hq
  have hlt : p < s.heap.objs.size := by obtain ⟨_, e, _⟩ := pl.isList; exact Heap.lt_size e
  have hlen : its.toArray.size = bs.length := by have := rv.length; rw [List.length_map] at this; simp; omega
  refine call_all_walk (wpAny_pyIter_list pl.isList ⟨s.heap.objs.size, [s.heap.objs.size, p], [s.heap.objs.size], its.toArray.size, _, _, fun i => (bs[i]?).getD true, rfl, Walks.list (A := X.A.in1) (I.ok.hd hc) _ p (Nat.ne_of_lt hlt) its.toArray,
    ⟨⟨_, Heap.get?_push_size _ rfl, rfl, rfl⟩, pl.isList.push _⟩, fun i v s' Q' E' hP hQ => ?_, fun h' tk hk => ?_⟩)
  · obtain ⟨b, e, rfl⟩ := bools_at rv (by simpa using hP)
    dsimp only at hQ
    rw [e] at hQ
    exact wpAny_truthy_bool hQ
  · rw [hlen, all_range bs]
    exact ⟨.bl _, H, I.kept (fun b o e => hk b o (fun z => by rw [List.mem_singleton.mp z] at e; exact absurd (Heap.lt_size e) (Nat.lt_irrefl _)) (Heap.get?_push_of_some _ e)), rfl, q⟩

/-! ### is, is not, of truths -/
theorem op_isnotB : OpR X (compareOp .IsNot) (fun x y H Q => ∃ b c, x = .bl b ∧ y = .bl c ∧ Q (.bl (!decide (b = c))) H) := by
  intro pins s σ H x y v u Q I rx ry h
  obtain ⟨b, c, rfl, rfl, q⟩ := h
  cases (show v = Value.bool b from rx)
  cases (show u = Value.bool c from ry)
  refine wpAny_isNot_plain rfl ⟨.bl _, H, I, ?_, q⟩
  show Value.bool _ = Value.bool _
  cases b <;> cases c <;> rfl
theorem op_isB : OpR X (compareOp .Is) (fun x y H Q => ∃ b c, x = .bl b ∧ y = .bl c ∧ Q (.bl (decide (b = c))) H) := by
  intro pins s σ H x y v u Q I rx ry h
  obtain ⟨b, c, rfl, rfl, q⟩ := h
  cases (show v = Value.bool b from rx)
  cases (show u = Value.bool c from ry)
  refine wpAny_is_plain rfl ⟨.bl _, H, I, ?_, q⟩
  show Value.bool _ = Value.bool _
  cases b <;> cases c <;> rfl

/-! ### products of long numbers, texts repeated, signs counted -/
theorem op_mulX : OpR X (binaryOp .Mult) (rI IntMulOk fun i j => .int (i * j)) := opI fun _ _ _ _ _ _ _ hc q => mul_int q hc
def rRepS : R2 := fun x y H Q => ∃ z k, x = .str z ∧ y = .int k ∧ 0 ≤ k ∧ k < 2 ^ 63 ∧ z.length * k.toNat ≤ 1000 ∧ Q (.str (Txt.mul z k)) H
def rCount : V → List V → Hp → VK → Prop := fun x vs H Q => ∃ z y, x = .str z ∧ vs = [.str y] ∧ Q (.int (Txt.count z y)) H
theorem mt_count : MtR X "str.count" rCount := by
  intro pins s σ H x vs v us Q I rx rv h
  obtain ⟨z, y, rfl, rfl, q⟩ := h
  obtain ⟨t, rfl⟩ := rx
  obtain ⟨u, rfl, ru⟩ := vals1 rv
  obtain ⟨t2, rfl⟩ := ru
  exact SC.count ⟨.int _, H, I.tok _, ⟨_, rfl⟩, q⟩
theorem op_repS : OpR X (binaryOp .Mult) rRepS := by
  intro pins s σ H x y v u Q I rx ry h
  obtain ⟨z, k, rfl, rfl, h0, h1, hl, q⟩ := h
  obtain ⟨t, rfl⟩ := rx
  obtain ⟨t2, rfl⟩ := ry
  refine SB.mul ⟨?_, fun hk hz => ?_, fun hk hz => ?_⟩ fun t' tk => ⟨.str _, H, I.tok _, ⟨t', rfl⟩, q⟩
  · rw [decide_eq_false (by omega), decide_eq_false (by omega)]; rfl
  · obtain ⟨m, rfl⟩ := Int.eq_ofNat_of_zero_le h0
    have hm : 0 < m := by omega
    rw [Int.toNat_natCast] at hl
    have hz1 : z.length ≤ 1000 := Nat.le_trans (Nat.le_mul_of_pos_right _ hm) hl
    have hm1 : z.length ≠ 0 := by
      intro e
      rw [e] at hz
      simp at hz
    have hm2 : m ≤ 1000 := Nat.le_trans (Nat.le_mul_of_pos_left _ (by omega)) hl
    have : (9223372036854775 : Int) ≤ (2 ^ 63 - 1) / (m : Int) := by
      rw [Int.le_ediv_iff_mul_le (by omega)]
      omega
    omega
  · have : z.length * k.toNat ≤ sizeLine := Nat.le_of_lt (small1000 hl)
    unfold Builtin.Str.tooLong
    exact decide_eq_false (by omega)

/-! ### a, b = a list -/
theorem draw_walk {prog : Program} {w : World} {A : Around} {E : Value → Shared → Prop} {I : Addr} {fp wr : List Addr} {n : Nat} {Pv : Nat → Value → Prop} {S : Nat → Heap → Prop} (W : Walks prog w A I fp wr n Pv S) : ∀ (k i : Nat) (s : Shared) (Q : List Value → Shared → Prop), i + k ≤ n → S i s.heap →
    (∀ vs h' tk, vs.length = k → (∀ j, j < k → ∃ v, vs[j]? = some v ∧ Pv (i + j) v) → S (i + k) h' → (∀ b o, b ∉ wr → s.heap.get? b = some o → h'.get? b = some o) → Q vs { s with heap := h', toks := tk }) → wpAny (model prog w) A (draw (.ref I) k) Q E s
  | 0, i, s, Q, _, st, h => wpAny_pure (h [] s.heap s.toks rfl (fun j hj => absurd hj (Nat.not_lt_zero _)) st fun _ _ _ e => e)
  | k + 1, i, s, Q, hk, st, h => by
    refine wpAny_bind (W.item i s _ _ (by omega) st fun v h1 tk1 hv st1 k1 => ?_)
    refine wpAny_bind (wpAny_holding (draw_walk W k (i + 1) _ _ (by omega) st1 fun vs h2 tk2 hl hp st2 k2 => wpAny_pure ?_))
    refine h (v :: vs) h2 tk2 (by rw [List.length_cons, hl]) (fun j hj => ?_) (by rw [show i + (k + 1) = i + 1 + k by omega]; exact st2) fun b o hb e => k2 b o hb (k1 b o hb e)
    cases j with
    | zero => exact ⟨v, rfl, hv⟩
    | succ j =>
      obtain ⟨u, e, p⟩ := hp j (by omega)
      exact ⟨u, e, by rw [show i + (j + 1) = i + 1 + j by omega]; exact p⟩
theorem unpack_list {prog : Program} {w : World} {A : Around} {E : Value → Shared → Prop} {s : Shared} {l : Addr} {its : List Value} {tgs : List (Bool × (Value → Sem Unit))} {Q : Unit → Shared → Prop} (hh : A.handled = none) (hl : s.heap.IsList l its.toArray)
    (hn : tgs.length = its.length) (hs : tgs.findIdx? (·.1) = none) (h : ∀ h' tk, (∀ b o, s.heap.get? b = some o → h'.get? b = some o) → wpAny (model prog w) A (assignInOrder (tgs.map (·.2)) its) Q E { s with heap := h', toks := tk }) :
    wpAny (model prog w) A (unpack (.ref l) tgs) Q E s := by
  have hlt : l ≠ s.heap.objs.size := by obtain ⟨o, ho, _⟩ := hl; exact Nat.ne_of_lt (Heap.lt_size ho)
  have W := Walks.list (prog := prog) (w := w) hh s.heap.objs.size l hlt its.toArray
  have hsz : its.toArray.size = its.length := by simp
  unfold unpack
  rw [hn, hs]
  refine wpAny_bind (wpAny_holding ?_)
  unfold unpackItems
  refine wpAny_bind ?_
  unfold notIterableAtAll
  refine wpAny_bind (wpAny_specialOf hl.typeIs slot_list_iter.lookup (wpAny_pure ?_))
  rw [if_neg (by decide)]
  refine wpAny_bind (wpAny_holding (wpAny_pyIter_list hl ?_))
  refine wpAny_bind (wpAny_holding (draw_walk W its.length 0 _ _ (by omega) ⟨⟨_, Heap.get?_push_size _ rfl, rfl, rfl⟩, hl.push _⟩ fun vs h1 tk1 hv hp st1 k1 => ?_))
  have ev : vs = its := by
    refine List.ext_getElem? fun j => ?_
    by_cases hj : j < its.length
    · obtain ⟨v, e, p⟩ := hp j hj
      rw [e]
      have p' : its.toArray[0 + j]? = some v := p
      rw [Nat.zero_add] at p'
      simpa using p'.symm
    · rw [List.getElem?_eq_none (by omega), List.getElem?_eq_none (by omega)]
  subst ev
  rw [if_neg (Nat.lt_irrefl _)]
  refine wpAny_bind (wpAny_holding (W.done _ _ _ (by rw [hsz]; rw [Nat.zero_add] at st1; exact st1) fun h2 tk2 k2 => ?_))
  have kk : ∀ b o, s.heap.get? b = some o → h2.get? b = some o := fun b o e => by
    have nb : b ∉ [s.heap.objs.size] := fun z => by rw [List.mem_singleton.mp z] at e; exact absurd (Heap.lt_size e) (Nat.lt_irrefl _)
    exact k2 b o nb (k1 b o nb (Heap.get?_push_of_some _ e))
  exact wpAny_pure (h h2 tk2 kk)
def gLst (K : PySem.W.Frag) (n : Nat) (t : TGs) : TG := fun v σ H Q => ∃ a xs, v = .ref a ∧ SqL K H a xs ∧ xs.length = n ∧ t xs σ H Q
theorem pg_lst {es : List Expr} {k : Nat} {t : TGs} {n : Nat} {pos : Pos} (hc : X.calm = true) (h : PGs X es t)
    (hn : (assignEach es X.env).length = n := by rfl) (hst : (assignEach es X.env).findIdx? (·.1) = none := by rfl) : PG X (.Tuple es k pos) (gLst X.K n t) := by
  constructor
  intro pins s σ H v u Q I r hw
  obtain ⟨a, xs, e1, hq, hl, hw⟩ := hw
  subst e1
  cases r
  obtain ⟨its, rv, pl, hz⟩ := I.list hq
  rw [arm_assign_Tuple]
  refine wpAny_bind (wpAny_standAt (unpack_list (I.ok.hd hc) pl.isList (by rw [hn, ← hl, rv.length]) hst fun h' tk hx => ?_))
  exact h pins _ σ H xs _ Q (I.kept hx) rv hw

/-! ### sorted, of fewer than 64 ints or texts -/
def rSortI (K : PySem.W.Frag) : List V → Hp → VK → Prop := fun xs H Q => ∃ (p : Addr) (ns : List Int), xs = [.ref p] ∧ SqL K H p (ns.map V.int) ∧ ns.length < 64 ∧ ∀ (ms : List Int) (l : Addr), ms.Perm ns → ms.Pairwise (· ≤ ·) → H l = none → Q (.ref l) (upd H l (.lst (ms.map V.int)))
theorem call_sortI : CallR X (.builtin "sorted") (rSortI X.K) := by
  intro pins s σ H xs us Q I r h
  obtain ⟨p, ns, rfl, hq, h64, q⟩ := h
  obtain ⟨u, rfl, rx⟩ := vals1 r
  cases rx
  obtain ⟨its, rv, pl, hz⟩ := I.list hq
  have hl : its.length = ns.length := by have := rv.length; rw [List.length_map] at this; omega
  refine sorted_ints pl.isList (intsAre_of rv) (by omega) fun out ms hi hp hs => ?_
  obtain ⟨e, he⟩ := sortedAll_at s.heap its out
  have hml : ms.length = ns.length := hp.length_eq
  have new : ObjOk X.prog X.w (upd H (s.heap.objs.size + 1) (.lst (ms.map V.int))) (sortedAll s.heap its out) (s.heap.objs.size + 1) (.lst (ms.map V.int)) :=
    ⟨by rw [List.length_map, hml]; rw [List.length_map] at hz; exact hz, out.toList, e, vals_ints hi, by simpa [seqObj] using he⟩
  exact ⟨.ref _, _, I.laid (t' := s.toks) (fun b o e => sortedAll_old e) (Nat.le_succ _) new, rfl, q ms _ hp hs (I.hok.fresh (Nat.le_succ _))⟩
theorem strsV {vs : List Value} {ts : List Str} (h : StrsAre vs ts) : Vals (ts.map V.str) vs := by
  induction h with
  | nil => exact .nil
  | cons x t _ ih => exact .cons ⟨t, rfl⟩ ih
def rSortS (K : PySem.W.Frag) : List V → Hp → VK → Prop := fun xs H Q => ∃ (p : Addr) (ts : List Str), xs = [.ref p] ∧ SqL K H p (ts.map V.str) ∧ ts.length < 64 ∧ ∀ (ms : List Str) (l : Addr), ms.Perm ts → sortedS ms = true → H l = none → Q (.ref l) (upd H l (.lst (ms.map V.str)))
theorem call_sortS : CallR X (.builtin "sorted") (rSortS X.K) := by
  intro pins s σ H xs us Q I r h
  obtain ⟨p, ts, rfl, hq, h64, q⟩ := h
  obtain ⟨u, rfl, rx⟩ := vals1 r
  cases rx
  obtain ⟨its, rv, pl, hz⟩ := I.list hq
  have hl : its.length = ts.length := by have := rv.length; rw [List.length_map] at this; omega
  refine sorted_strs pl.isList (strsAre_of rv) (by omega) fun out ms hi hp hs => ?_
  obtain ⟨e, he⟩ := sortedAll_at s.heap its out
  have hml : ms.length = ts.length := hp.length_eq
  have new : ObjOk X.prog X.w (upd H (s.heap.objs.size + 1) (.lst (ms.map V.str))) (sortedAll s.heap its out) (s.heap.objs.size + 1) (.lst (ms.map V.str)) :=
    ⟨by rw [List.length_map, hml]; rw [List.length_map] at hz; exact hz, out.toList, e, strsV hi, by simpa [seqObj] using he⟩
  exact ⟨.ref _, _, I.laid (t' := s.toks) (fun b o e => sortedAll_old e) (Nat.le_succ _) new, rfl, q ms _ hp hs (I.hok.fresh (Nat.le_succ _))⟩
end
end L2

/-! ### where a sign stands in a text: count, find -/
namespace L2
open PySem PySem.Spec PyProof.Rows
theorem subAt_one (x : Str) (c i : Nat) (h : i + 1 ≤ x.length) : Builtin.Str.subAt x ⟨#[c]⟩ i = decide ((cs x)[i]? = some c) := by
  have hc := cs_length x
  have hi : i < (cs x).length := by omega
  unfold Builtin.Str.subAt
  have e : x.cps.extract i (i + (⟨#[c]⟩ : Str).length) = #[(cs x)[i]] := by
    apply Array.ext'
    show (x.cps.extract i (i + 1)).toList = [(cs x)[i]]
    rw [Array.toList_extract]
    simp only [List.extract_eq_take_drop]
    have : i + 1 - i = 1 := by omega
    rw [this]
    show (List.drop i (cs x)).take 1 = _
    rw [List.drop_eq_getElem_cons hi]
    rfl
  rw [e, List.getElem?_eq_getElem hi]
  generalize (cs x)[i] = d
  by_cases h2 : d = c
  · simp [h2]
  · have : ¬ (some d = some c) := fun z => h2 (Option.some.inj z)
    rw [decide_eq_false this]
    simp [h2]
/-- the places of the sign c from lo on, n of them looked at -/
def plc (x : Str) (c lo n : Nat) : List Nat := (List.range' lo n).filter fun i => decide ((cs x)[i]? = some c)
theorem occ_run (x : Str) (c lim : Nat) : ∀ (n lo free : Nat) (found : Array Nat), free ≤ lo →
    (forIn (List.range' lo n) (found, free) (StrLaws.occBody x ⟨#[c]⟩ x.length lim)).run.fst.toList = found.toList ++ (plc x c lo n).take (lim - found.size)
  | 0, lo, free, found, _ => by simp [plc]
  | n + 1, lo, free, found, h => by
    rw [List.range'_succ, List.forIn_cons]
    unfold StrLaws.occBody
    have hp : plc x c lo (n + 1) = (if decide ((cs x)[lo]? = some c) = true then [lo] else []) ++ plc x c (lo + 1) n := by
      unfold plc
      rw [List.range'_succ, List.filter_cons]
      split <;> rfl
    have hcx := cs_length x
    by_cases hc : (cs x)[lo]? = some c
    · have hlo : lo + 1 ≤ x.length := by have := (List.getElem?_eq_some_iff.mp hc).1; omega
      have hs : Builtin.Str.subAt x ⟨#[c]⟩ lo = true := by rw [subAt_one x c lo hlo]; exact decide_eq_true hc
      rw [hp, if_pos (decide_eq_true hc)]
      by_cases hf : found.size < lim
      · rw [if_pos ⟨⟨⟨hf, h⟩, hlo⟩, hs⟩]
        refine (occ_run x c lim n (lo + 1) (lo + 1) (found.push lo) (Nat.le_refl _)).trans ?_
        rw [Array.toList_push, Array.size_push, List.append_assoc]
        have e : lim - found.size = (lim - (found.size + 1)) + 1 := by omega
        rw [e]; rfl
      · rw [if_neg (fun z => hf z.1.1.1)]
        refine (occ_run x c lim n (lo + 1) free found (by omega)).trans ?_
        have e : lim - found.size = 0 := by omega
        rw [e, List.take_zero, List.take_zero]
    · have hs : ¬ ((((found, free).fst.size < lim ∧ (found, free).snd ≤ lo) ∧ lo + (⟨#[c]⟩ : Str).length ≤ x.length) ∧ Builtin.Str.subAt x ⟨#[c]⟩ lo = true) := fun z => by
        have := z.2
        rw [subAt_one x c lo z.1.2] at this
        exact hc (of_decide_eq_true this)
      rw [if_neg hs, hp, if_neg (by rw [decide_eq_false hc]; exact Bool.false_ne_true), List.nil_append]
      exact occ_run x c lim n (lo + 1) free found (by omega)
theorem occ_one (x : Str) (c lo lim : Nat) : Builtin.Str.occurrences x ⟨#[c]⟩ lo x.length lim = (plc x c lo (x.length + 1 - lo)).take lim := by
  rw [StrLaws.occ_eq, occ_run x c lim _ lo lo #[] (Nat.le_refl _)]
  rfl
theorem plc_count (x : Str) (c : Nat) : ∀ (r : List Nat) (lo : Nat), (∀ i, i < r.length → (cs x)[lo + i]? = r[i]?) → (plc x c lo r.length).length = r.count c
  | [], lo, _ => rfl
  | d :: r, lo, h => by
    have h0 := h 0 (by simp)
    have ih := plc_count x c r (lo + 1) fun i hi => by
      have := h (i + 1) (by simpa using hi)
      rw [show lo + 1 + i = lo + (i + 1) by omega, this]; rfl
    unfold plc at ih ⊢
    rw [List.length_cons, List.range'_succ, List.filter_cons, List.count_cons]
    have e : (cs x)[lo]? = some d := by rw [Nat.add_zero] at h0; exact h0
    rw [e]
    by_cases hd : d = c
    · subst hd
      simp only [decide_true, if_true, List.length_cons, ih, beq_self_eq_true]
    · have n1 : decide (some d = some c) = false := decide_eq_false fun z => hd (Option.some.inj z)
      have n2 : (d == c) = false := by simp [hd]
      simp only [n1, n2, Bool.false_eq_true, if_false, ih, Nat.add_zero]
theorem count_sign (z : Str) (c : Nat) : Txt.count z ⟨#[c]⟩ = ((cs z).count c : Int) := by
  unfold Txt.count
  have hc := cs_length z
  rw [occ_one]
  have e1 : plc z c 0 (z.length + 1 - 0) = plc z c 0 z.length := by
    unfold plc
    rw [Nat.sub_zero, List.range'_concat, List.filter_append]
    have : (cs z)[0 + 1 * z.length]? = none := List.getElem?_eq_none (by omega)
    rw [List.filter_cons, this]
    simp
  rw [e1]
  have e2 : (plc z c 0 z.length).length = (cs z).count c := by
    have := plc_count z c (cs z) 0 fun i _ => by rw [Nat.zero_add]
    rw [hc] at this
    exact this
  rw [List.take_of_length_le (by rw [e2]; have := List.count_le_length (a := c) (l := cs z); omega), e2]

/-! ### the head, the script's ints bounded in their bits -/
theorem bits_of {ns : List Int} (h : PySem.W.WData.layableAll [PySem.W.WData.list (ns.map PySem.W.WData.int)] = true) : ∀ n ∈ ns, Builtin.Int.intBits n ≤ 2 ^ 20 := by
  have h1 : PySem.W.WData.layable (PySem.W.WData.list (ns.map PySem.W.WData.int)) = true := by
    unfold PySem.W.WData.layableAll at h
    rw [List.all_cons, Bool.and_eq_true] at h
    exact h.1
  unfold PySem.W.WData.layable at h1
  rw [Bool.and_eq_true] at h1
  have h2 : PySem.W.WData.weightAll (ns.map PySem.W.WData.int) ≤ 2 ^ 20 := of_decide_eq_true h1.2
  have all : ∀ (ms : List Int), ∀ n ∈ ms, Builtin.Int.intBits n ≤ PySem.W.WData.weightAll (ms.map PySem.W.WData.int) := by
    intro ms
    induction ms with
    | nil => intro n hn; cases hn
    | cons m r ih =>
      intro n hn
      rw [List.map_cons, PySem.W.WData.weightAll]
      rcases List.mem_cons.mp hn with rfl | hn
      · have : PySem.W.WData.weight (PySem.W.WData.int n) = Builtin.Int.intBits n := by
          rw [PySem.W.WData.weight]; rfl
        omega
      · have := ih n hn
        omega
  exact fun n hn => Nat.le_trans (all ns n hn) h2
theorem walk_bits {l : PySem.W.OpenLaw} {n k : Nat} {q : Program} {loose : List Str} {XP : (Str → Option Value) → Heap → Prop} {YP : World → Heap → Prop} {d : DefRec} {K : Params → PySem.W.Frag} {sp : World → Sp} {x : Str}
    (hn : l.most = some n) (hn2 : n ≤ sizeLine) (hdf : d.params.defaults = []) (hr : Room k callerA)
    (hY : ∀ (w : World) (h : Heap), YP w h → (K w.params).In h)
    (F : ∀ (w : World) (mg : Str → Option Value) (fa : Addr) (h : Heap), (K w.params).In h → h.Ns mainGlobals mg → mg d.name = some (.ref fa) →
      ∃ fd : FuncData, (∀ (s : Shared) (u : Value), BindsTo s fd ⟨[u], []⟩ [(x, u)]) ∧
        ∀ base : Heap, (K w.params).In base → base.Ns mainGlobals mg → FnOk l.prog w (K w.params) mg base (CX1 l.prog w) k fa fd [x] (sp w))
    (hsp : ∀ (w : World) (H : Hp) (a : Addr) (ns : List Int), ns.length ≤ n → (∀ m ∈ ns, Builtin.Int.intBits m ≤ 2 ^ 20) → Only H → SqL (K w.params) H a (ns.map V.int) → sp w [.ref a] H (fun v _ => v = .bl true) fun _ _ _ => False) :
    PySem.W.WalkO q loose XP YP l.row.toRowW d [] (fun f vs => PySem.call f vs) := by
  intro w s₀ s₁ mg mb G Y fa o pm cd doc dV kV ho hd hcd hD hmg hg args vals as hpre hlay hrd hwl hlo
  obtain rfl : dV = .none := PySem.W.Dflts.none hD hdf
  obtain rfl : kV = .none := PySem.W.Dflts.noKw hD
  obtain ⟨a, vs, ns, rfl, rfl, hobj, hints, hlen⟩ := Att.script_of hn hpre hwl
  have hb := bits_of hlay
  have KX := hY w _ Y
  obtain ⟨fd, hbi, hF⟩ := F w mg fa _ KX G.T.g hmg
  refine PySem.W.enter_call (codeAny_mono (law_call (CX := CX1 l.prog w) KX G.T.g G.T.b G.T.builtins G.T.nolimit hg hobj hints (Nat.le_trans hlen hn2) hr hF hbi (fun H hO hS => hsp w H a ns hlen hb hO hS) fun H e s' hx => ?_) fun r s' hq => ?_)
  · obtain ⟨_, _, _, _, _, _, _, _, _, _, z⟩ := hx
    exact z
  · obtain ⟨rfl, h2, h3, h4⟩ := hq
    exact ⟨.inl ⟨.bool true, .bool true, [], rfl, fun _ => rfl, .bool true, Att.post_true l _, fun _ => ⟨List.Pairwise.nil, fun _ hm => (nomatch hm)⟩⟩, h2, h3, h4⟩

/-! ### statements one by one: a plainer reading, the names by their slots -/
theorem PS.imp {X : Cx} {st : Stmt} {t R : TS} (h : PS X st t) (i : ∀ D σ H, R D σ H → t D σ H) : PS X st R := ⟨fun pins s σ H D I r => h pins s σ H D I (i D σ H r)⟩
theorem PSs.imp {X : Cx} {st : List Stmt} {t R : TS} (h : PSs X st t) (i : ∀ D σ H, R D σ H → t D σ H) : PSs X st R := ⟨fun pins s σ H D I r => h pins s σ H D I (i D σ H r)⟩
/-- the slot i holds v -/
def Holds (σ : St) (i : Nat) (v : V) : Prop := σ[i]? = some (some v)
theorem Holds.set {σ : St} {i : Nat} (v : V) (h : i < σ.length) : Holds (σ.set i (some v)) i v := List.getElem?_set_self h
theorem Holds.keep {σ : St} {i j : Nat} {v : V} {x : Option V} (h : Holds σ j v) (n : i ≠ j) : Holds (σ.set i x) j v := (List.getElem?_set_ne n).trans h
/-- the slots is are as they were -/
def Kept (n : List Nat) (σ σ' : St) : Prop := σ'.length = σ.length ∧ ∀ i ∈ n, σ'[i]? = σ[i]?
theorem Kept.refl (n : List Nat) (σ : St) : Kept n σ σ := ⟨rfl, fun _ _ => rfl⟩
theorem Kept.set {n : List Nat} {σ σ' : St} {i : Nat} {x : Option V} (h : Kept n σ σ') (m : i ∉ n) : Kept n σ (σ'.set i x) :=
  ⟨by rw [List.length_set]; exact h.1, fun j hj => by
    have ne : i ≠ j := fun e => m (by rw [e]; exact hj)
    rw [List.getElem?_set_ne ne]; exact h.2 j hj⟩
theorem Kept.trans {n : List Nat} {a b c : St} (h : Kept n a b) (g : Kept n b c) : Kept n a c := ⟨g.1.trans h.1, fun i hi => (g.2 i hi).trans (h.2 i hi)⟩
theorem Kept.at {n : List Nat} {σ σ' : St} {i : Nat} {v : V} (h : Kept n σ σ') (m : i ∈ n) (e : Holds σ i v) : Holds σ' i v := (h.2 i m).trans e
theorem Kept.less {n m : List Nat} {σ σ' : St} (h : Kept n σ σ') (l : ∀ i ∈ m, i ∈ n) : Kept m σ σ' := ⟨h.1, fun i hi => h.2 i (l i hi)⟩
def forBody : Stmt → List Stmt
  | .For _ _ b _ _ => b
  | _ => []
def forIt : Stmt → Expr
  | .For _ e _ _ _ => e
  | _ => .Constant .none 0 ⟨0,0,0,0⟩
section
variable {X : Cx} {es : List Expr} {te : TE} {t : TA}
theorem PE_imp {X : Cx} {e : Expr} {t R : TE} (h : PE X e t) (i : ∀ σ H Q, R σ H Q → t σ H Q) : PE X e R := ⟨fun pins s σ H Q I r => h pins s σ H Q I (i σ H Q r)⟩
theorem pa_c {c j p} (ha : PE X (.Constant c j p) te) (hr : PA X es t) : PA X (.Constant c j p :: es) (tCons te t) := pa_cons ha hr rfl
theorem pa_t {a j p} (ha : PE X (.Tuple a j p) te) (hr : PA X es t) : PA X (.Tuple a j p :: es) (tCons te t) := pa_cons ha hr rfl
theorem pa_l {a p} (ha : PE X (.List a p) te) (hr : PA X es t) : PA X (.List a p :: es) (tCons te t) := pa_cons ha hr rfl
theorem pa_b {a o b p} (ha : PE X (.BinOp a o b p) te) (hr : PA X es t) : PA X (.BinOp a o b p :: es) (tCons te t) := pa_cons ha hr rfl
end
end L2

/-! ### a range that goes down by ones -/
namespace L2
open PySem PySem.Spec PyProof.Rows
def ItrD (lo : Int) (n : Nat) : It := ⟨fun i _ => i < n, fun i H x H' => H' = H ∧ x = .int (lo - i), fun i _ => n ≤ i⟩
theorem turn_down {P : Program} {w : World} {K : PySem.W.Frag} {tg : Expr} (it : Addr) (lo : Int) (n : Nat) : Turn P w K tg (ItrD lo n) [it] it (fun i h => IsRangeIter h it (lo + (i : Nat) * (-1)) ((n : Int) - (i : Nat)) (-1)) where
  mem := by simp
  obj := fun i h st b hb => by
    have e : b = it := by simpa using hb
    subst e
    exact ⟨_, st, fun v z => by
      have z' : Data.fields _ = Data.cell v := z
      cases z'⟩
  keep := fun i h h' st k => k it (by simp) _ st
  item := by
    intro X hP hw hK hc i pins s σ H E I hf st hg
    subst hP hw hK
    obtain ⟨f0, f1, f2, f3, f4, f5⟩ := hf it (by simp)
    have W := Walks.range (prog := X.prog) (w := X.w) (I.ok.hd hc) it lo (-1) n
    refine W.item i s _ _ hg st fun v h' tk hv st' kk => ?_
    obtain ⟨t, rfl⟩ := hv
    have I1 : Inv X pins σ H { s with heap := h', toks := tk } := I.turned (fun b o hb e => kk b o (by simpa using hb) e) f0 f1 f3 f4 f5
    refine ⟨_, rfl, go_of (s := { s with heap := h', toks := tk }) (n := "range_iterator") st' rfl rfl (by decide) ⟨.int (lo - i), H, I1, ⟨t, ?_⟩, ⟨rfl, rfl⟩, st', fun b hb => (hf b hb).1⟩⟩
    have e : lo + (i : Int) * (-1) = lo - (i : Int) := by omega
    rw [e]
  done := by
    intro X hP hw hK hc i pins s σ H E I hf st hg
    subst hP hw hK
    obtain ⟨f0, f1, f2, f3, f4, f5⟩ := hf it (by simp)
    exact wpAny_pyNext_range_end (I.ok.hd hc) st (by have : n ≤ i := hg; omega) fun h' eb => ⟨rfl, I.turned (t' := s.toks) (fun b o hb e => eb b o hb e) f0 f1 f3 f4 f5⟩
  self := fun _ _ _ _ _ st h => wpAny_pyIter_rangeiter st h
section
variable {X : Cx} {tg : Expr}
theorem down_it {pins : List (Addr × Obj)} {σ : St} {H : Hp} {s : Shared} {R : It → Hp → Prop} {E : Value → Shared → Prop} {lo hi : Int} {t u v : Tok} {tk : Nat} (I : Inv X pins σ H s) (h1 : -(2 ^ 62) ≤ lo) (h2 : lo < 2 ^ 62) (h3 : -(2 ^ 62) ≤ hi) (h4 : hi < 2 ^ 62)
    (q : R (ItrD lo (lo - hi).toNat) H) : wpAny (model X.prog X.w) X.A (pyIter (.ref s.heap.objs.size)) (PIE X pins σ tg R) E { s with heap := s.heap.push { cls := .type "range", data := .fields #[.int lo t, .int hi u, .int (-1) v] }, toks := tk } := by
  refine wpAny_pyIter_range (IsRange.new ..) (PySem.W.small_down h1 h2 h3 h4) ?_
  have I1 : Inv X pins σ H { s with heap := s.heap.push { cls := .type "range", data := .fields #[.int lo t, .int hi u, .int (-1) v] }, toks := tk } := I.kept fun b o e => Heap.get?_push_of_some _ e
  refine ⟨(s.heap.push { cls := .type "range", data := .fields #[.int lo t, .int hi u, .int (-1) v] }).objs.size, [(s.heap.push { cls := .type "range", data := .fields #[.int lo t, .int hi u, .int (-1) v] }).objs.size], _, _, H, rfl,
    I1.kept (t' := tk) fun b o e => Heap.get?_push_of_some _ e, turn_down _ lo (lo - hi).toNat, ?_, fun b hb => ?_, q⟩
  · have e1 : lo + ((0 : Nat) : Int) * (-1) = lo := by simp
    have e2 : (((lo - hi).toNat : Nat) : Int) - ((0 : Nat) : Int) = Builtin.Range.rangeSize lo hi (-1) := by rw [PySem.W.rangeSize_downNat]; omega
    show IsRangeIter _ _ (lo + ((0 : Nat) : Int) * (-1)) ((((lo - hi).toNat : Nat) : Int) - ((0 : Nat) : Int)) (-1)
    rw [e1, e2]
    exact Heap.get?_push_size _ rfl
  · have e : b = (s.heap.push { cls := .type "range", data := .fields #[.int lo t, .int hi u, .int (-1) v] }).objs.size := by simpa using hb
    subst e
    exact I1.fpOk (Nat.le_refl _) (I1.hok.fresh (Nat.le_refl _))
def iDown (ta : TA) : TI := fun σ H R => ta σ H fun vs H1 => ∃ i j : Int, vs = [.int i, .int j, .int (-1)] ∧ (-(2 ^ 62) ≤ i ∧ i < 2 ^ 62 ∧ -(2 ^ 62) ≤ j ∧ j < 2 ^ 62) ∧ R (ItrD i (i - j).toNat) H1
theorem pi_down {a b c : Expr} {ta : TA} {p pos : Pos} (hg : Gl X "range") (hm : X.mg "range" = none) (ha : PA X [a, b, c] ta) (hs : starEach [a, b, c] X.env = [(false, eval a X.env), (false, eval b X.env), (false, eval c X.env)] := by rfl)
    (hs2 : starEach [b, c] X.env = [(false, eval b X.env), (false, eval c X.env)] := by rfl) :
    PI X tg (.Call (.Name "range" p) [a, b, c] [] pos) (iDown ta) := by
  constructor
  intro pins s σ H R I h
  refine Call_ (ld_blt I hg hm boot_range (PyProof.Rows.callWith_type1 (thn (ha pos pins s σ H _ I h) fun us s1 ⟨vs, H1, I1, r1, q1⟩ => ?_) (by rw [hs, hs2]) (by rw [hs2]; rfl)))
  obtain ⟨i, j, e, ⟨q1, q2, q3, q4⟩, q⟩ := q1
  subst e
  cases r1 with
  | cons r rr =>
    cases rr with
    | cons r' rr =>
      cases rr with
      | cons r2 rr =>
        cases rr
        obtain ⟨t, rfl⟩ := r
        obtain ⟨t', rfl⟩ := r'
        obtain ⟨t2, rfl⟩ := r2
        exact PySem.call_range_3 (by decide) (down_it I1 q1 q2 q3 q4 q) (Or.inl (PyProof.noPylong_small (by decide)))
theorem for_down {lo : Int} {n : Nat} {g : TG} {tb : TS} {D : Ends} {σ : St} {H : Hp} (Pv : Nat → St → Hp → Prop) (h0 : Pv 0 σ H)
    (hs : ∀ i σ H, i < n → Pv i σ H → g (.int (lo - i)) σ H fun σ2 H2 => tb { D with nx := Pv (i + 1), ct := Pv (i + 1), bk := D.nx } σ2 H2) (hd : ∀ σ H, Pv n σ H → D.nx σ H) :
    ∃ W : Nat → Nat → St → Hp → Prop, (∃ m, W 0 m σ H) ∧ ∀ i m σ H, W i m σ H →
      ((ItrD lo n).stop i H ∧ D.nx σ H) ∨ ((ItrD lo n).go i H ∧ ∃ N : St → Hp → Prop, (∀ σ' H', N σ' H' → ∃ m', m' < m ∧ W (i + 1) m' σ' H') ∧ ∀ x H', (ItrD lo n).yld i H x H' → g x σ H' fun σ2 H2 => tb { D with nx := N, ct := N, bk := D.nx } σ2 H2) := by
  refine ⟨fun i m σ H => m = n - i ∧ i ≤ n ∧ Pv i σ H, ⟨n, by simp, Nat.zero_le _, h0⟩, ?_⟩
  rintro i m σ H ⟨rfl, hi, p⟩
  by_cases hlt : i < n
  · refine .inr ⟨hlt, Pv (i + 1), fun σ' H' p' => ⟨n - (i + 1), by omega, rfl, hlt, p'⟩, fun x H' y => ?_⟩
    obtain ⟨e, y⟩ := y
    subst e y
    exact hs i σ _ hlt p
  · have e : i = n := by omega
    subst e
    exact .inl ⟨Nat.le_refl _, hd σ H p⟩
end
end L2

/-! ### nested tuples: read as data, compared -/
namespace L2
open PySem PySem.Spec PyProof.Rows
mutual
inductive Dat (H : Hp) : V → PyData → Prop
  | non : Dat H .non .none
  | int (i : Int) : Dat H (.int i) (.int i)
  | str (z : Str) : Dat H (.str z) (.str z)
  | bl (b : Bool) : Dat H (.bl b) (.bool b)
  | tup {p : Addr} {xs : List V} {ds : List PyData} : H p = some (.tup xs) → Dats H xs ds → Dat H (.ref p) (.tuple ds)
inductive Dats (H : Hp) : List V → List PyData → Prop
  | nil : Dats H [] []
  | cons {x : V} {d : PyData} {xs : List V} {ds : List PyData} : Dat H x d → Dats H xs ds → Dats H (x :: xs) (d :: ds)
end
mutual
theorem Dat.same {H H' : Hp} (s : Same H H') : ∀ {v : V} {d : PyData}, Dat H v d → Dat H' v d
  | _, _, .non => .non
  | _, _, .int i => .int i
  | _, _, .str z => .str z
  | _, _, .bl b => .bl b
  | _, _, .tup h t => .tup (s _ _ h) (t.same s)
theorem Dats.same {H H' : Hp} (s : Same H H') : ∀ {v : List V} {d : List PyData}, Dats H v d → Dats H' v d
  | _, _, .nil => .nil
  | _, _, .cons h t => .cons (h.same s) (t.same s)
end
theorem Dats.append {H : Hp} : ∀ {xs ys : List V} {ds es : List PyData}, Dats H xs ds → Dats H ys es → Dats H (xs ++ ys) (ds ++ es)
  | _, _, _, _, .nil, g => g
  | _, _, _, _, .cons h t, g => .cons h (t.append g)
theorem Dats.length {H : Hp} : ∀ {xs : List V} {ds : List PyData}, Dats H xs ds → xs.length = ds.length
  | _, _, .nil => rfl
  | _, _, .cons _ t => congrArg (· + 1) t.length
theorem Dats.get {H : Hp} : ∀ {xs : List V} {ds : List PyData} {i : Nat} {x : V}, Dats H xs ds → xs[i]? = some x → ∃ d, ds[i]? = some d ∧ Dat H x d
  | _, _, _, _, .nil, e => by simp at e
  | _, _, 0, _, .cons h _, e => by cases e; exact ⟨_, rfl, h⟩
  | _, _, i + 1, x, .cons _ t, e => t.get (i := i) (by simpa using e)
section
variable {X : Cx}
mutual
theorem Dat.reads {pins : List (Addr × Obj)} {σ : St} {H : Hp} {s : Shared} (I : Inv X pins σ H s) : ∀ {v : V} {d : PyData} {u : Value}, Dat H v d → RelV v u → ∃ as, Reads s.heap u d as
  | _, _, _, .non, r => by cases r; exact ⟨_, .none⟩
  | _, _, _, .int i, r => by obtain ⟨t, rfl⟩ := r; exact ⟨_, .int i t⟩
  | _, _, _, .str z, r => by obtain ⟨t, rfl⟩ := r; exact ⟨_, .str z t⟩
  | _, _, _, .bl b, r => by cases r; exact ⟨_, .bool b⟩
  | _, _, _, .tup h t, r => by
    cases r
    obtain ⟨its, rv, ⟨o, ho, hc, n, hd⟩, _⟩ := I.tuple (SqT.of h)
    obtain ⟨as, ra⟩ := t.reads I rv
    exact ⟨as, .tuple ho hc hd ra⟩
theorem Dats.reads {pins : List (Addr × Obj)} {σ : St} {H : Hp} {s : Shared} (I : Inv X pins σ H s) : ∀ {v : List V} {d : List PyData} {u : List Value}, Dats H v d → Vals v u → ∃ as, ReadsAll s.heap u d as
  | _, _, _, .nil, r => by cases r; exact ⟨_, .nil⟩
  | _, _, _, .cons h t, r => by
    cases r with
    | cons r1 r2 =>
      obtain ⟨a, ra⟩ := h.reads I r1
      obtain ⟨b, rb⟩ := t.reads I r2
      exact ⟨_, .cons ra rb⟩
end
mutual
theorem Dat.keepL {H : Hp} {p : Addr} {ys : List V} {o : HO} (hp : H p = some (.lst ys)) : ∀ {v : V} {d : PyData}, Dat H v d → Dat (upd H p o) v d
  | _, _, .non => .non
  | _, _, .int i => .int i
  | _, _, .str z => .str z
  | _, _, .bl b => .bl b
  | _, _, .tup (p := q) h t => .tup (by
      have n : q ≠ p := fun e => by rw [e, hp] at h; cases h
      rw [upd_ne n]; exact h) (t.keepL hp)
theorem Dats.keepL {H : Hp} {p : Addr} {ys : List V} {o : HO} (hp : H p = some (.lst ys)) : ∀ {v : List V} {d : List PyData}, Dats H v d → Dats (upd H p o) v d
  | _, _, .nil => .nil
  | _, _, .cons h t => .cons (h.keepL hp) (t.keepL hp)
end
/-- .. or a list of such -/
def DatT (H : Hp) (v : V) (d : PyData) : Prop := Dat H v d ∨ ∃ p xs ds, v = .ref p ∧ H p = some (.lst xs) ∧ Dats H xs ds ∧ d = .list ds
theorem DatT.reads {pins : List (Addr × Obj)} {σ : St} {H : Hp} {s : Shared} (I : Inv X pins σ H s) {v : V} {d : PyData} {u : Value} (h : DatT H v d) (r : RelV v u) : ∃ as, Reads s.heap u d as := by
  rcases h with h | ⟨p, xs, ds, rfl, hp, hd, rfl⟩
  · exact h.reads I r
  · cases r
    obtain ⟨its, rv, pl, _⟩ := I.list (SqL.of hp)
    obtain ⟨o, ho, hc, n, hd'⟩ := pl.isList
    obtain ⟨as, ra⟩ := hd.reads I rv
    exact ⟨_, .list ho hc hd' ra⟩
def rDat (k : PyData → PyData → Bool) : R2 := fun x y H Q => ∃ d e, DatT H x d ∧ DatT H y e ∧ d.canLay0 = true ∧ e.canLay0 = true ∧ d.depth ≤ 150 ∧ Q (.bl (k d e)) H
theorem op_neD (hu : X.A.units + 200 < cLine) : OpR X (compareOp .NotEq) (rDat fun d e => !PyData.eqv d e) := by
  intro pins s σ H x y v u Q I rx ry h
  obtain ⟨d, e, hd, he, c1, c2, dp, q⟩ := h
  obtain ⟨as, ra⟩ := hd.reads I rx
  obtain ⟨bs, rb⟩ := he.reads I ry
  exact SeqAt.compareNe_reads ra rb c1 c2 (by omega) ⟨.bl _, H, I, rfl, q⟩
theorem op_eqD (hu : X.A.units + 200 < cLine) : OpR X (compareOp .Eq) (rDat fun d e => PyData.eqv d e) := by
  intro pins s σ H x y v u Q I rx ry h
  obtain ⟨d, e, hd, he, c1, c2, dp, q⟩ := h
  obtain ⟨as, ra⟩ := hd.reads I rx
  obtain ⟨bs, rb⟩ := he.reads I ry
  exact SeqAt.compareEq_reads ra rb c1 c2 (by omega) ⟨.bl _, H, I, rfl, q⟩
theorem eqD_refl {d : PyData} (h : d.canLay0 = true) : PyData.eqv d d = true := SeqAt.eqv_refl d h
end
/-- over a tuple -/
theorem comp_tup {K : PySem.W.Frag} {a : Addr} {xs : List V} {D : Addr} {tt : TT} {te : TE} {σ : St} {Qd : Hp → Prop} {H1 : Hp} (Pv : Nat → List V → Hp → Prop) (h0 : Pv 0 [] (upd H1 D (.lst []))) (hl : ∀ i ys H, i ≤ xs.length → Pv i ys H → SqT K H a xs)
    (hs : ∀ i x ys H, xs[i]? = some x → Pv i ys H → tt (some x :: σ) H fun b H2 => if b = true then te (some x :: σ) H2 fun y H3 => H3 D = some (.lst ys) ∧ ys.length < sizeLine ∧ Pv (i + 1) (ys ++ [y]) (upd H3 D (.lst (ys ++ [y]))) else Pv (i + 1) ys H2)
    (hd : ∀ ys H, Pv xs.length ys H → Qd H) :
    ∃ W : Nat → Nat → List V → Hp → Prop, (∃ m, W 0 m [] (upd H1 D (.lst []))) ∧ CompTurn (Itt K a) D tt te σ Qd W := by
  refine ⟨fun i m ys H => m = xs.length - i ∧ i ≤ xs.length ∧ Pv i ys H, ⟨xs.length, by simp, Nat.zero_le _, h0⟩, ?_⟩
  rintro i m ys H ⟨rfl, hi, p⟩
  have q := hl i ys H hi p
  by_cases hlt : i < xs.length
  · refine .inr ⟨⟨xs, xs[i], q, by simp [hlt]⟩, Pv (i + 1), fun ys' H' p' => ⟨xs.length - (i + 1), by omega, rfl, hlt, p'⟩, fun x H' y => ?_⟩
    obtain ⟨e, y⟩ := y
    subst e
    exact hs i x ys H' (y xs q) p
  · have e : i = xs.length := by omega
    subst e
    exact .inl ⟨⟨xs, q, Nat.le_refl _⟩, hd ys H p⟩
/-! ### a def that calls itself -/
structure Self (K : PySem.W.Frag) (mg : Str → Option Value) (f : Addr) (fd : FuncData) (x : Str) (ps : List Str) : Prop where
  b : Binds K fd ps []
  k : PySem.W.keepIn K (.ref f) = true
  m : mg x = some (.ref f)
theorem rec_ok {P : Program} {w : World} {K : PySem.W.Frag} {mg : Str → Option Value} {base : Heap} {f : Addr} {fd : FuncData} {x : Str} {ps : List Str} {sp : Nat → Sp} {c : Nat} (S : Self K mg f fd x ps) (no : ∀ vs H Q E, ¬ sp 0 vs H Q E)
    (step : ∀ d, Has P w K mg base (d + c) x ps (sp d) → FnOk P w K mg base (CX1 P w) (d + 1 + c) f fd ps (sp (d + 1))) : ∀ d, FnOk P w K mg base (CX1 P w) (d + c) f fd ps (sp d)
  | 0 => ⟨fun vs H Q E h => absurd h (no vs H Q E), fun _ _ _ _ _ _ _ _ _ _ _ _ _ h => absurd h (no _ _ _ _)⟩
  | d + 1 => step d ⟨f, fd, rec_ok S no step d, S.b, S.k, S.m⟩
end L2

/-! ### enumerate of a text; find from a place on -/
namespace L2
open PySem PySem.Spec PyProof.Rows
section
variable {X : Cx} {pins : List (Addr × Obj)} {σ : List (Option V)} {H : Hp} {s : Shared} {h' : Heap}
/-- the iterator's objects turned, an object laid -/
theorem Inv.turnT {t' : Nat} {wr : List Addr} {T : Addr} {o : HO} (I : Inv X pins σ H s) (k : ∀ b u, b ∉ wr → s.heap.get? b = some u → h'.get? b = some u) (hf : ∀ b ∈ wr, FpOk X pins H b) (hT : s.heap.objs.size ≤ T)
    (new : ObjOk X.prog X.w (upd H T o) h' T o) : Inv X pins σ (upd H T o) { s with heap := h', toks := t' } := by
  have hn : H T = none := I.hok.fresh hT
  refine I.step (g' := s.gens) (d' := s.drawn) (ch := wr) (fun b hb => ?_) (fun b o _ _ hc e _ => k b o hc e) (fun b o _ _ hc e _ => ⟨o.slots, k b o hc e⟩) (fun b o _ e n => ?_)
    (fun b o hc e => ⟨o, k b o hc e⟩) (fun b xs q => ?_) (fun b u xs q => ?_) (fun b ps q => ⟨#[], ?_⟩) (fun m hm => ?_) (fun b u e => ?_) I.bare
  · obtain ⟨_, f1, _, f3, f4, f5⟩ := hf b hb
    exact ⟨f3, f1, f4, f5⟩
  · rw [upd_ne (Nat.ne_of_lt (Nat.lt_of_lt_of_le (Heap.lt_size e) hT))]; exact n
  · rw [upd_ne (ne_of_none q hn)]; exact q
  · rw [upd_ne (ne_of_none q hn)]; exact q
  · rw [upd_ne (ne_of_none q hn), q]; simp
  · obtain ⟨o', es, ep, ho, r⟩ := hm
    exact ⟨o', es, ep, k _ o' (fun z => (hf _ z).2.1 rfl) ho, r⟩
  · by_cases hb : b = T
    · subst hb; rw [upd_same] at e; cases e; exact new
    · rw [upd_ne hb] at e
      refine (I.hok b u e).stay (fun c v hc q => k c v (fun z => ?_) q) (fun c q => by rw [upd_ne (ne_of_none q hn)]; exact q) fun c xs q => by rw [upd_ne (ne_of_none q hn)]; exact q
      have f0 := (hf c z).1
      rcases hc with hc | hc
      · rw [hc, e] at f0; cases f0
      · rw [hc] at f0; cases f0
theorem Inv.turnL {t' : Nat} {wr : List Addr} (I : Inv X pins σ H s) (k : ∀ b u, b ∉ wr → s.heap.get? b = some u → h'.get? b = some u) (hf : ∀ b ∈ wr, FpOk X pins H b) : Inv X pins σ H { s with heap := h', toks := t' } := by
  refine I.step (g' := s.gens) (d' := s.drawn) (ch := wr) (fun b hb => ?_) (fun b o _ _ hc e _ => k b o hc e) (fun b o _ _ hc e _ => ⟨o.slots, k b o hc e⟩) (fun _ _ _ _ n => n)
    (fun b o hc e => ⟨o, k b o hc e⟩) (fun _ _ e => e) (fun _ _ _ e => e) (fun b ps e => ⟨#[], by rw [e]; simp⟩) (fun m hm => ?_) (fun b u e => ?_) I.bare
  · obtain ⟨_, f1, _, f3, f4, f5⟩ := hf b hb
    exact ⟨f3, f1, f4, f5⟩
  · obtain ⟨o', es, ep, ho, r⟩ := hm
    exact ⟨o', es, ep, k _ o' (fun z => (hf _ z).2.1 rfl) ho, r⟩
  · refine (I.hok b u e).stay (fun c v hc q => k c v (fun z => ?_) q) (fun _ q => q) fun _ _ q => q
    have f0 := (hf c z).1
    rcases hc with hc | hc
    · rw [hc, e] at f0; cases f0
    · rw [hc] at f0; cases f0
end
/-- a text's signs with their places -/
def ItE (z : Str) : It := ⟨fun i _ => i < z.cps.size, fun i H x H' => ∃ T c, (cs z)[i]? = some c ∧ x = .ref T ∧ H T = none ∧ H' = upd H T (.tup [.int (i : Nat), .str ⟨#[c]⟩]), fun i _ => i = z.cps.size⟩
theorem turn_enum {P : Program} {w : World} {K : PySem.W.Frag} {elts : List Expr} {kk : Nat} {tpos : Pos} {e it : Addr} {z : Str} {t : Tok} {ty : String} (hei : e ≠ it)
    (Dr : ∀ A : Around, A.handled = none → Draws P w A it [it] z.cps.size (fun i v => ∃ c u, z.cps[i]? = some c ∧ v = .str ⟨#[c]⟩ u) (fun i h => h.IsStrIter it ty z t i)) :
    Turn P w K (.Tuple elts kk tpos) (ItE z) [e, it] e (fun i h => (∃ old, IsEnum h e it i old) ∧ h.IsStrIter it ty z t i) where
  mem := by simp
  obj := fun i h st b hb => by
    obtain ⟨⟨old, h1⟩, o, h2, h3, h4⟩ := st
    rcases List.mem_cons.mp hb with rfl | hb
    · exact ⟨_, h1, fun v q => by cases q⟩
    · rw [List.mem_singleton.mp hb]
      exact ⟨o, h2, fun v q => by rw [h4] at q; cases q⟩
  keep := fun i h h' st k => by
    obtain ⟨⟨old, h1⟩, o, h2, r⟩ := st
    exact ⟨⟨old, k e (by simp) _ h1⟩, o, k it (by simp) o h2, r⟩
  item := by
    intro X hP hw hK hc i pins s σ H E I hf st hg
    subst hP hw hK
    have W := WalksT.enumerateD (A := X.A) (Dr X.A.in1 (I.ok.hd hc)) e hei (by simpa using hei) (by simp)
    have he : e < s.heap.objs.size := by obtain ⟨⟨_, h1⟩, _⟩ := st; exact Heap.lt_size h1
    have hi : it < s.heap.objs.size := by obtain ⟨_, o, h2, _⟩ := st; exact Heap.lt_size h2
    refine W.item i s _ _ hg st fun T vals h1 tk hv hT ht mid k1 => ?_
    obtain ⟨tt, x, ⟨c, u, hcx, rfl⟩, rfl⟩ := hv
    refine ⟨_, rfl, ?_⟩
    have hTw : T ∉ [e, it] := W.apart i T h1 mid
    refine W.go elts kk tpos i T { s with heap := h1, toks := tk } _ _ mid fun h2 st2 k2 => ?_
    have hk : ∀ b u, b ∉ [e, it] → s.heap.get? b = some u → h2.get? b = some u := fun b u hb q => k2 b u hb (k1 b u hb q)
    have hcs : (cs z)[i]? = some c := by simpa [cs] using hcx
    obtain ⟨o, ho, hoc, n, hod⟩ := ht
    have new : ObjOk X.prog X.w (upd H T (.tup [V.int (i : Nat), V.str ⟨#[c]⟩])) h2 T (.tup [V.int (i : Nat), V.str ⟨#[c]⟩]) :=
      ⟨by show 2 ≤ sizeLine; decide, [.int i tt, .str ⟨#[c]⟩ u], .cons ⟨tt, rfl⟩ (.cons ⟨u, rfl⟩ .nil), o, k2 T o hTw ho, hoc, n, hod⟩
    refine ⟨.ref T, upd H T (.tup [V.int (i : Nat), V.str ⟨#[c]⟩]), I.turnT (t' := tk) (wr := [e, it]) hk hf hT new, rfl, ⟨T, c, hcs, rfl, I.hok.fresh hT, rfl⟩, st2, fun b hb => ?_⟩
    have hbT : b ≠ T := by
      rcases List.mem_cons.mp hb with rfl | hb
      · exact Nat.ne_of_lt (Nat.lt_of_lt_of_le he hT)
      · rw [List.mem_singleton.mp hb]; exact Nat.ne_of_lt (Nat.lt_of_lt_of_le hi hT)
    rw [upd_ne hbT]
    exact (hf b hb).1
  done := by
    intro X hP hw hK hc i pins s σ H E I hf st hg
    subst hP hw hK
    have W := WalksT.enumerateD (A := X.A) (Dr X.A.in1 (I.ok.hd hc)) e hei (by simpa using hei) (by simp)
    have e : i = z.cps.size := hg
    subst e
    exact W.done s _ _ st fun h1 tk k1 => ⟨rfl, I.turnL k1 hf⟩
  self := fun A i s Q E st h => by
    obtain ⟨⟨old, h1⟩, _⟩ := st
    exact wpAny_pyIter_enum h1 h
section
variable {X : Cx}
def iEnum (ta : TA) : TI := fun σ H R => ta σ H fun vs H1 => ∃ z, vs = [.str z] ∧ R (ItE z) H1
theorem pi_enum {elts : List Expr} {kk : Nat} {tpos : Pos} {e : Expr} {ta : TA} {p pos : Pos} (hg : Gl X "enumerate") (hm : X.mg "enumerate" = none) (ha : PA X [e] ta) (hs : starEach [e] X.env = [(false, eval e X.env)] := by rfl) :
    PI X (.Tuple elts kk tpos) (.Call (.Name "enumerate" p) [e] [] pos) (iEnum ta) := by
  constructor
  intro pins s σ H R I h
  refine Call_ (ld_blt I hg hm (u := .type "enumerate") (by decide +kernel) (PyProof.Rows.callWith_type1 (thn (ha pos pins s σ H _ I h) fun us s1 ⟨vs, H1, I1, r1, q1⟩ => ?_) hs rfl))
  obtain ⟨z, rfl, q⟩ := q1
  obtain ⟨u, rfl, ru⟩ := vals1 r1
  obtain ⟨t, rfl⟩ := ru
  refine call_enumerate_str fun h1 h2 h3 h4 h5 => ?_
  refine wpAny_pyIter_enum h2 ?_
  have ne : s1.heap.objs.size + 1 ≠ s1.heap.objs.size := Nat.succ_ne_self _
  have fp : ∀ b ∈ [s1.heap.objs.size + 1, s1.heap.objs.size], FpOk X pins H1 b := fun b hb => by
    rcases List.mem_cons.mp hb with rfl | hb
    · exact I1.fpOk (Nat.le_succ _) (I1.hok.fresh (Nat.le_succ _))
    · rw [List.mem_singleton.mp hb]; exact I1.fpOk (Nat.le_refl _) (I1.hok.fresh (Nat.le_refl _))
  have I2 : Inv X pins σ H1 { s1 with heap := h1 } := I1.kept (t' := s1.toks) h5
  cases hty : z.cps.all (· < 128)
  · have e : strIterType z = "str_iterator" := by unfold strIterType; rw [hty]; rfl
    rw [e] at h3
    exact ⟨_, _, _, _, H1, rfl, I2, turn_enum ne fun A hA => Draws.strWide hA _ z t, ⟨⟨_, h2⟩, h3⟩, fp, q⟩
  · have e : strIterType z = "str_ascii_iterator" := by unfold strIterType; rw [hty]; rfl
    rw [e] at h3
    exact ⟨_, _, _, _, H1, rfl, I2, turn_enum ne fun A hA => Draws.strAscii hA _ z t, ⟨⟨_, h2⟩, h3⟩, fp, q⟩
theorem for_enum {z : Str} {g : TG} {tb : TS} {D : Ends} {σ : St} {H : Hp} (Pv : Nat → St → Hp → Prop) (h0 : Pv 0 σ H)
    (hs : ∀ i c σ H T, (cs z)[i]? = some c → Pv i σ H → H T = none → g (.ref T) σ (upd H T (.tup [.int (i : Nat), .str ⟨#[c]⟩])) fun σ2 H2 => tb { D with nx := Pv (i + 1), ct := Pv (i + 1), bk := D.nx } σ2 H2) (hd : ∀ σ H, Pv z.length σ H → D.nx σ H) :
    ∃ W : Nat → Nat → St → Hp → Prop, (∃ m, W 0 m σ H) ∧ ∀ i m σ H, W i m σ H →
      ((ItE z).stop i H ∧ D.nx σ H) ∨ ((ItE z).go i H ∧ ∃ N : St → Hp → Prop, (∀ σ' H', N σ' H' → ∃ m', m' < m ∧ W (i + 1) m' σ' H') ∧ ∀ x H', (ItE z).yld i H x H' → g x σ H' fun σ2 H2 => tb { D with nx := N, ct := N, bk := D.nx } σ2 H2) := by
  have el : z.cps.size = z.length := rfl
  refine ⟨fun i m σ H => m = z.length - i ∧ i ≤ z.length ∧ Pv i σ H, ⟨z.length, by simp, Nat.zero_le _, h0⟩, ?_⟩
  rintro i m σ H ⟨rfl, hi, p⟩
  by_cases hlt : i < z.length
  · refine .inr ⟨hlt, Pv (i + 1), fun σ' H' p' => ⟨z.length - (i + 1), by omega, rfl, hlt, p'⟩, fun x H' y => ?_⟩
    obtain ⟨T, c, hc, rfl, hT, rfl⟩ := y
    exact hs i c σ H T hc p hT
  · have e : i = z.length := by omega
    subst e
    exact .inl ⟨rfl, hd σ H p⟩
def rFind : V → List V → Hp → VK → Prop := fun x vs H Q => ∃ z y i, x = .str z ∧ vs = [.str y, .int i] ∧ Q (.int (Txt.find3 z y i)) H
theorem mt_find : MtR X "str.find" rFind := by
  intro pins s σ H x vs v us Q I rx rv h
  obtain ⟨z, y, i, rfl, rfl, q⟩ := h
  obtain ⟨t, rfl⟩ := rx
  obtain ⟨u, u2, rfl, ru, ru2⟩ := vals2 rv
  obtain ⟨t2, rfl⟩ := ru
  obtain ⟨t3, rfl⟩ := ru2
  exact SC.find3 ⟨.int _, H, I.tok _, ⟨_, rfl⟩, q⟩
/-- the first place from p on -/
theorem find_first (z : Str) (c p h : Nat) (hp : p ≤ h) (hh : (cs z)[h]? = some c) (lo : ∀ j, p ≤ j → j < h → (cs z)[j]? ≠ some c) : Txt.find3 z ⟨#[c]⟩ (p : Nat) = (h : Int) := by
  have hcz := cs_length z
  have hlt : h < z.length := by have := (List.getElem?_eq_some_iff.mp hh).1; omega
  have ef : PySem.fromIndex z.length (p : Int) = p := by
    unfold PySem.fromIndex
    rw [if_neg (by omega)]
    omega
  unfold Txt.find3
  rw [ef, occ_one]
  have e : plc z c p (z.length + 1 - p) = h :: plc z c (h + 1) (z.length - h) := by
    unfold plc
    have s1 : z.length + 1 - p = (h - p) + (1 + (z.length - h)) := by omega
    rw [s1, ← List.range'_append_1, List.filter_append, ← List.range'_append_1, List.filter_append]
    have f1 : (List.range' p (h - p)).filter (fun i => decide ((cs z)[i]? = some c)) = [] := by
      rw [List.filter_eq_nil_iff]
      intro j hj
      have := List.mem_range'_1.mp hj
      simp only [decide_eq_true_eq]
      exact lo j this.1 (by omega)
    have e2 : p + (h - p) = h := by omega
    rw [f1, List.nil_append, e2]
    have f2 : (List.range' h 1).filter (fun i => decide ((cs z)[i]? = some c)) = [h] := by
      rw [List.range'_one, List.filter_cons, hh]
      simp
    rw [f2]
    rfl
  rw [e]
  rfl
end
end L2

namespace Br
/-! ### partners -/
/-- the level behind j signs -/
abbrev at' (r : List Nat) (j : Nat) : Int := lev (r.take j)
theorem at_succ {r : List Nat} {k : Nat} (h : k < r.length) : at' r (k + 1) = at' r k + rise r[k] := lev_take_succ h
theorem at_full (r : List Nat) : at' r r.length = lev r := by unfold at'; rw [List.take_length]
theorem at_zero (r : List Nat) : at' r 0 = 0 := by unfold at'; rw [List.take_zero]; rfl
/-- the levels of a stretch -/
theorem at_stretch {r : List Nat} {i j k : Nat} (hj : j ≤ r.length) (hk : i + k ≤ j) : lev (((r.drop i).take (j - i)).take k) = at' r (i + k) - at' r i := by
  have e : ((r.drop i).take (j - i)).take k = (r.drop i).take k := by
    rw [List.take_take, Nat.min_eq_left (by omega)]
  have e2 : r.take (i + k) = r.take i ++ (r.drop i).take k := by rw [List.take_add]
  unfold at'
  rw [e, e2, lev_append]; omega
theorem whole_stretch {r : List Nat} {i j : Nat} (hb : IsBr r) (hij : i ≤ j) (hj : j ≤ r.length) (low : ∀ t, i ≤ t → t ≤ j → at' r i ≤ at' r t) (e : at' r j = at' r i) : Whole ((r.drop i).take (j - i)) := by
  have hl : ((r.drop i).take (j - i)).length = j - i := by rw [List.length_take, List.length_drop]; omega
  refine ⟨(hb.drop _).take _, fun k hk => ?_, ?_⟩
  · rw [hl] at hk
    rw [at_stretch hj (by omega)]
    have := low (i + k) (by omega) (by omega)
    omega
  · have := at_stretch (i := i) (k := j - i) hj (by omega)
    rw [List.take_of_length_le (by omega)] at this
    have e2 : i + (j - i) = j := by omega
    rw [this, e2]; omega
/-- a and b go together -/
structure Pair (r : List Nat) (a b : Nat) : Prop where
  lt : a < b
  le : b < r.length
  op : r[a]? = some 40
  cl : r[b]? = some 41
  inn : Whole ((r.drop (a + 1)).take (b - (a + 1)))
theorem rise_one {c : Nat} (h : rise c = 1) : c = 40 := by
  unfold rise at h
  split at h
  · assumption
  · cases h
theorem rise_not {r : List Nat} (hb : IsBr r) {k : Nat} (hk : k < r.length) (h : rise r[k] = -1) : r[k] = 41 := by
  rcases hb r[k] (List.getElem_mem hk) with e | e
  · rw [e] at h; cases h
  · exact e
theorem rise_40 : rise 40 = 1 := rfl
theorem rise_41 : rise 41 = -1 := rfl
/-- to the right: so far none is as low as i's -/
structure ToRight (r : List Nat) (i here : Nat) : Prop where
  le : i ≤ here
  lt : here < r.length
  up : ∀ t, i < t → t ≤ here → at' r i < at' r t
theorem ToRight.start {r : List Nat} {i : Nat} (h : i < r.length) : ToRight r i i := ⟨Nat.le_refl _, h, fun t h1 h2 => by omega⟩
theorem step_le {r : List Nat} {k : Nat} (h : k < r.length) : at' r (k + 1) ≤ at' r k + 1 ∧ at' r k ≤ at' r (k + 1) + 1 := by
  rw [at_succ h]
  have := rise_bounds r[k]; omega
theorem ToRight.next {r : List Nat} (w : Whole r) {i here : Nat} (a : ToRight r i here) (h40 : r[i]? = some 40) (hne : at' r (here + 1) - at' r i ≠ 0) : ToRight r i (here + 1) := by
  have hi : i < r.length := by have := a.le; have := a.lt; omega
  have s := step_le a.lt
  have up1 : at' r (i + 1) = at' r i + 1 := by
    rw [at_succ hi]
    have : r[i] = 40 := by rw [List.getElem?_eq_getElem hi] at h40; exact Option.some.inj h40
    rw [this]; rfl
  have more : at' r i < at' r (here + 1) := by
    rcases Nat.lt_or_ge i here with q | q
    · have := a.up here q (Nat.le_refl _); omega
    · have e : here = i := by have := a.le; omega
      rw [e]; omega
  refine ⟨by have := a.le; omega, ?_, fun t h1 h2 => ?_⟩
  · rcases Nat.lt_or_ge (here + 1) r.length with q | q
    · exact q
    · have e : here + 1 = r.length := by have := a.lt; omega
      have z := w.2.1 i (by omega)
      have : at' r (here + 1) = 0 := by rw [e, at_full]; exact w.2.2
      have z' : 0 ≤ at' r i := z
      omega
  · rcases Nat.lt_or_ge here t with q | q
    · have : t = here + 1 := by omega
      rw [this]; exact more
    · exact a.up t h1 q
theorem ToRight.done {r : List Nat} (w : Whole r) {i here : Nat} (a : ToRight r i here) (h40 : r[i]? = some 40) (he : at' r (here + 1) - at' r i = 0) : Pair r i here := by
  have hi : i < r.length := by have := a.le; have := a.lt; omega
  have up1 : at' r (i + 1) = at' r i + 1 := by
    rw [at_succ hi]
    have : r[i] = 40 := by rw [List.getElem?_eq_getElem hi] at h40; exact Option.some.inj h40
    rw [this]; rfl
  have lt : i < here := by
    rcases Nat.lt_or_ge i here with q | q
    · exact q
    · have e : here = i := by have := a.le; omega
      rw [e] at he; omega
  have uh := a.up here lt (Nat.le_refl _)
  have hlt := a.lt
  have s := at_succ hlt
  have b := rise_bounds r[here]
  have dn : rise r[here] = -1 := by
    rcases rise_cases r[here] with q | q
    · omega
    · exact q
  refine ⟨lt, a.lt, h40, ?_, whole_stretch w.1 (by omega) (Nat.le_of_lt a.lt) (fun t h1 h2 => ?_) (by omega)⟩
  · rw [List.getElem?_eq_getElem a.lt, rise_not w.1 a.lt dn]
  · have := a.up t (by omega) h2; omega
/-- to the left -/
structure ToLeft (r : List Nat) (i here : Nat) : Prop where
  le : here ≤ i
  lt : i < r.length
  up : ∀ t, here < t → t ≤ i → at' r (i + 1) < at' r t
theorem ToLeft.start {r : List Nat} {i : Nat} (h : i < r.length) : ToLeft r i i := ⟨Nat.le_refl _, h, fun t h1 h2 => by omega⟩
theorem ToLeft.more {r : List Nat} (w : Whole r) {i here : Nat} (a : ToLeft r i here) (h41 : r[i]? = some 41) (hne : at' r (i + 1) - at' r here ≠ 0) : at' r (i + 1) < at' r here ∧ 0 < here := by
  have hlt := a.lt
  have up1 : at' r (i + 1) = at' r i - 1 := by
    rw [at_succ a.lt]
    have : r[i] = 41 := by rw [List.getElem?_eq_getElem a.lt] at h41; exact Option.some.inj h41
    rw [this, rise_41]; omega
  have more : at' r (i + 1) < at' r here := by
    rcases Nat.lt_or_ge here i with q | q
    · have s := step_le (r := r) (k := here) (by have := a.lt; omega)
      have := a.up (here + 1) (by omega) (by omega); omega
    · have e : here = i := by have := a.le; omega
      rw [e]; omega
  refine ⟨more, ?_⟩
  rcases Nat.eq_zero_or_pos here with q | q
  · have z : 0 ≤ at' r (i + 1) := w.2.1 (i + 1) a.lt
    rw [q, at_zero] at more; omega
  · exact q
theorem ToLeft.next {r : List Nat} (w : Whole r) {i here : Nat} (a : ToLeft r i here) (h41 : r[i]? = some 41) (hne : at' r (i + 1) - at' r here ≠ 0) : ToLeft r i (here - 1) := by
  obtain ⟨m, p⟩ := a.more w h41 hne
  refine ⟨by have := a.le; omega, a.lt, fun t h1 h2 => ?_⟩
  rcases Nat.lt_or_ge here t with q | q
  · exact a.up t q h2
  · have : t = here := by omega
    rw [this]; exact m
theorem ToLeft.done {r : List Nat} (w : Whole r) {i here : Nat} (a : ToLeft r i here) (h41 : r[i]? = some 41) (he : at' r (i + 1) - at' r here = 0) : Pair r here i := by
  have hlt := a.lt
  have up1 : at' r (i + 1) = at' r i - 1 := by
    rw [at_succ a.lt]
    have : r[i] = 41 := by rw [List.getElem?_eq_getElem a.lt] at h41; exact Option.some.inj h41
    rw [this, rise_41]; omega
  have lt : here < i := by
    rcases Nat.lt_or_ge here i with q | q
    · exact q
    · have e : here = i := by have := a.le; omega
      rw [e] at he; omega
  have hl : here < r.length := by have := a.lt; omega
  have uh := a.up (here + 1) (by omega) (by omega)
  have s := at_succ hl
  have b := rise_bounds r[here]
  have up : rise r[here] = 1 := by
    rcases rise_cases r[here] with q | q
    · exact q
    · omega
  refine ⟨lt, a.lt, ?_, h41, whole_stretch w.1 (by omega) (Nat.le_of_lt a.lt) (fun t h1 h2 => ?_) (by omega)⟩
  · rw [List.getElem?_eq_getElem hl, rise_one up]
  · have := a.up t (by omega) h2; omega
/-! ### backward -/
def swap (c : Nat) : Nat := if c = 40 then 41 else 40
def back (r : List Nat) : List Nat := r.reverse.map swap
theorem back_length (r : List Nat) : (back r).length = r.length := by simp [back]
theorem rise_swap (c : Nat) : rise (swap c) = -rise c := by
  unfold swap rise
  by_cases h : c = 40 <;> simp [h]
theorem lev_back (r : List Nat) : lev (back r) = -lev r := by
  unfold back
  induction r with
  | nil => rfl
  | cons c r ih =>
    rw [List.reverse_cons, List.map_append, lev_append, ih]
    show -lev r + lev [swap c] = -(rise c + lev r)
    simp only [lev, rise_swap]; omega
theorem back_isBr (r : List Nat) : IsBr (back r) := fun c hc => by
  obtain ⟨d, _, rfl⟩ := List.mem_map.mp hc
  unfold swap
  split
  · exact .inr rfl
  · exact .inl rfl
theorem back_take {r : List Nat} {k : Nat} (h : k ≤ r.length) : (back r).take k = back (r.drop (r.length - k)) := by
  unfold back
  rw [← List.map_take, List.take_reverse]
theorem at_back {r : List Nat} (w : lev r = 0) {k : Nat} (h : k ≤ r.length) : at' (back r) k = at' r (r.length - k) := by
  unfold at'
  rw [back_take h, lev_back]
  have : lev (r.take (r.length - k)) + lev (r.drop (r.length - k)) = lev r := by rw [← lev_append, List.take_append_drop]
  omega
theorem back_whole {r : List Nat} (w : Whole r) : Whole (back r) := by
  refine ⟨back_isBr r, fun k hk => ?_, by rw [lev_back, w.2.2]; rfl⟩
  rw [back_length] at hk
  have := at_back w.2.2 hk
  unfold at' at this
  rw [this]
  exact w.2.1 _ (by omega)
theorem swap_swap {c : Nat} (h : c = 40 ∨ c = 41) : swap (swap c) = c := by
  rcases h with rfl | rfl <;> rfl
theorem back_back {r : List Nat} (h : IsBr r) : back (back r) = r := by
  unfold back
  rw [← List.map_reverse, List.reverse_reverse, List.map_map]
  have : ∀ l : List Nat, (∀ c ∈ l, c = 40 ∨ c = 41) → l.map (swap ∘ swap) = l := fun l hl => by
    induction l with
    | nil => rfl
    | cons c l ih =>
      rw [List.map_cons, ih fun d hd => hl d (List.mem_cons_of_mem _ hd)]
      show swap (swap c) :: l = _
      rw [swap_swap (hl c List.mem_cons_self)]
  exact this r h
theorem back_at {r : List Nat} {k : Nat} (h : k < r.length) : (back r)[r.length - 1 - k]? = some (swap r[k]) := by
  unfold back
  rw [List.getElem?_map, List.getElem?_reverse (by omega), List.getElem?_eq_getElem (by omega)]
  simp only [Option.map_some, Option.some.injEq]
  congr 1
  congr 1
  omega
theorem swap_ne {c : Nat} : swap c ≠ c := by
  unfold swap
  split <;> omega
/-- the greatest level -/
theorem heads_back {r : List Nat} (w : lev r = 0) {a : Int} : a ∈ heads (back r) ↔ a ∈ heads r := by
  rw [mem_heads, mem_heads, back_length]
  constructor
  · rintro ⟨k, hk, e⟩
    have q := at_back w hk
    unfold at' at q
    exact ⟨r.length - k, by omega, by rw [← q]; exact e⟩
  · rintro ⟨k, hk, e⟩
    have q := at_back w (k := r.length - k) (by omega)
    unfold at' at q
    have e2 : r.length - (r.length - k) = k := by omega
    rw [e2] at q
    exact ⟨r.length - k, by omega, by rw [q]; exact e⟩
/-- counts -/
theorem lev_count {r : List Nat} (h : IsBr r) : lev r = (r.count 40 : Int) - r.count 41 := by
  induction r with
  | nil => rfl
  | cons c r ih =>
    have ih' := ih fun d hd => h d (List.mem_cons_of_mem _ hd)
    rcases h c List.mem_cons_self with rfl | rfl
    · rw [lev, ih', List.count_cons, List.count_cons]; simp [rise]; omega
    · rw [lev, ih', List.count_cons, List.count_cons]; simp [rise]; omega
end Br

namespace Br
/-! ### how many ways there are, and the number of a row -/
def ways : Nat → Nat → Nat
  | 0, 0 => 1
  | 0, _ + 1 => 0
  | m + 1, 0 => ways m 1
  | m + 1, l + 1 => ways m l + ways m (l + 2)
theorem ways_zero : ∀ (m l : Nat), m < l → ways m l = 0
  | 0, _ + 1, _ => rfl
  | m + 1, l + 1, h => by
    rw [ways, ways_zero m l (by omega), ways_zero m (l + 2) (by omega)]
/-- .. none above the top -/
def waysB (top : Nat) : Nat → Nat → Nat
  | 0, l => if l = 0 then 1 else 0
  | m + 1, l => (if 0 < l then waysB top m (l - 1) else 0) + (if l + 1 ≤ top then waysB top m (l + 1) else 0)
theorem waysB_eq (top : Nat) : ∀ (m l : Nat), l ≤ top → l + m ≤ 2 * top + 1 → waysB top m l = ways m l
  | 0, 0, _, _ => rfl
  | 0, _ + 1, _, _ => rfl
  | m + 1, 0, h1, h2 => by
    rw [waysB, ways, if_neg (by omega)]
    by_cases h : 0 + 1 ≤ top
    · rw [if_pos h, waysB_eq top m 1 (by omega) (by omega)]; omega
    · rw [if_neg h, ways_zero m 1 (by omega)]
  | m + 1, l + 1, h1, h2 => by
    rw [waysB, ways, if_pos (by omega), Nat.add_sub_cancel, waysB_eq top m l (by omega) (by omega)]
    by_cases h : l + 1 + 1 ≤ top
    · rw [if_pos h, waysB_eq top m (l + 1 + 1) (by omega) (by omega)]
    · rw [if_neg h, ways_zero m (l + 2) (by omega)]
/-- one sign more -/
def oneMore (w : List Int) : List Int := (List.range w.length).map fun l => (if 0 < l then w.getD (l - 1) 0 else 0) + (if l + 1 < w.length then w.getD (l + 1) 0 else 0)
theorem oneMore_length (w : List Int) : (oneMore w).length = w.length := by simp [oneMore]
def wrow (top : Nat) : Nat → List Int
  | 0 => 1 :: List.replicate top 0
  | m + 1 => oneMore (wrow top m)
theorem wrow_length (top : Nat) : ∀ m, (wrow top m).length = top + 1
  | 0 => by simp [wrow]
  | m + 1 => by rw [wrow, oneMore_length, wrow_length top m]
theorem wrow_get (top : Nat) : ∀ (m l : Nat), l ≤ top → (wrow top m)[l]? = some ((waysB top m l : Nat) : Int)
  | 0, 0, _ => by simp [wrow, waysB]
  | 0, l + 1, h => by
    rw [wrow, List.getElem?_cons_succ, List.getElem?_replicate, if_pos (by omega)]
    rfl
  | m + 1, l, h => by
    have hl := wrow_length top m
    rw [wrow, oneMore, List.getElem?_map, List.getElem?_range (by omega), Option.map_some, waysB]
    congr 1
    have g : ∀ k, k ≤ top → (wrow top m).getD k 0 = ((waysB top m k : Nat) : Int) := fun k hk => by
      rw [List.getD_eq_getElem?_getD, wrow_get top m k hk]; rfl
    by_cases h0 : 0 < l
    · rw [if_pos h0, if_pos h0, g (l - 1) (by omega)]
      by_cases h1 : l + 1 ≤ top
      · rw [if_pos (show l + 1 < (wrow top m).length by omega), if_pos h1, g (l + 1) h1]; omega
      · rw [if_neg (show ¬ l + 1 < (wrow top m).length by omega), if_neg h1]; omega
    · rw [if_neg h0, if_neg h0]
      by_cases h1 : l + 1 ≤ top
      · rw [if_pos (show l + 1 < (wrow top m).length by omega), if_pos h1, g (l + 1) h1]; omega
      · rw [if_neg (show ¬ l + 1 < (wrow top m).length by omega), if_neg h1]; omega
/-- a way down to 0 -/
def Path : List Nat → Nat → Prop
  | [], l => l = 0
  | c :: r, l => (c = 40 ∧ Path r (l + 1)) ∨ (c = 41 ∧ 0 < l ∧ Path r (l - 1))
theorem path_iff : ∀ (r : List Nat) (l : Nat), Path r l ↔ IsBr r ∧ (∀ k, k ≤ r.length → 0 ≤ (l : Int) + lev (r.take k)) ∧ (l : Int) + lev r = 0
  | [], l => by
    constructor
    · intro h
      have : l = 0 := h
      subst this
      exact ⟨(fun _ z => nomatch z), (fun k _ => by simp [lev]), rfl⟩
    · rintro ⟨_, _, h⟩
      have : (l : Int) + 0 = 0 := h
      show l = 0
      omega
  | c :: r, l => by
    constructor
    · rintro (⟨rfl, h⟩ | ⟨rfl, h0, h⟩)
      · obtain ⟨b, k, e⟩ := (path_iff r (l + 1)).mp h
        refine ⟨fun d hd => ?_, fun j hj => ?_, ?_⟩
        · rcases List.mem_cons.mp hd with rfl | hd
          · exact .inl rfl
          · exact b d hd
        · cases j with
          | zero => rw [List.take_zero, lev]; omega
          | succ j =>
            have := k j (by simpa using hj)
            simp only [List.take_succ_cons, lev, rise]
            simp; omega
        · simp only [lev, rise]; simp; omega
      · obtain ⟨b, k, e⟩ := (path_iff r (l - 1)).mp h
        refine ⟨fun d hd => ?_, fun j hj => ?_, ?_⟩
        · rcases List.mem_cons.mp hd with rfl | hd
          · exact .inr rfl
          · exact b d hd
        · cases j with
          | zero => rw [List.take_zero, lev]; omega
          | succ j =>
            have := k j (by simpa using hj)
            simp only [List.take_succ_cons, lev, rise]
            simp; omega
        · simp only [lev, rise]; simp; omega
    · rintro ⟨b, k, e⟩
      rcases b c List.mem_cons_self with rfl | rfl
      · refine .inl ⟨rfl, (path_iff r (l + 1)).mpr ⟨fun d hd => b d (List.mem_cons_of_mem _ hd), fun j hj => ?_, ?_⟩⟩
        · have := k (j + 1) (by simpa using hj)
          simp only [List.take_succ_cons, lev, rise] at this
          simp at this; omega
        · simp only [lev, rise] at e; simp at e; omega
      · have h1 := k 1 (by simp)
        simp [lev, rise] at h1
        refine .inr ⟨rfl, by omega, (path_iff r (l - 1)).mpr ⟨fun d hd => b d (List.mem_cons_of_mem _ hd), fun j hj => ?_, ?_⟩⟩
        · have := k (j + 1) (by simpa using hj)
          simp only [List.take_succ_cons, lev, rise] at this
          simp at this; omega
        · simp only [lev, rise] at e; simp at e; omega
theorem path_whole (r : List Nat) : Path r 0 ↔ Whole r := by
  rw [path_iff]; unfold Whole; simp
/-- how many stand ahead -/
def rank : List Nat → Nat → Nat
  | [], _ => 0
  | c :: r, l => if c = 40 then rank r (l + 1) else ways r.length (l + 1) + rank r (l - 1)
theorem rank_lt : ∀ (r : List Nat) (l : Nat), Path r l → rank r l < ways r.length l
  | [], l, h => by
    have : l = 0 := h
    subst this
    exact Nat.zero_lt_one
  | c :: r, l, h => by
    rcases h with ⟨rfl, h⟩ | ⟨rfl, h0, h⟩
    · have q := rank_lt r (l + 1) h
      rw [rank, if_pos rfl, List.length_cons]
      cases l with
      | zero => exact q
      | succ l =>
        rw [ways]
        have e : l + 1 + 1 = l + 2 := rfl
        rw [e] at q ⊢; omega
    · have q := rank_lt r (l - 1) h
      rw [rank, if_neg (by decide), List.length_cons]
      cases l with
      | zero => omega
      | succ l =>
        rw [ways]
        have e : l + 1 + 1 = l + 2 := rfl
        have e2 : l + 1 - 1 = l := rfl
        rw [e2] at q ⊢
        rw [e]; omega
def unrank : Nat → Nat → Nat → List Nat
  | 0, _, _ => []
  | m + 1, l, k => if k < ways m (l + 1) then 40 :: unrank m (l + 1) k else 41 :: unrank m (l - 1) (k - ways m (l + 1))
theorem unrank_ok : ∀ (m l k : Nat), k < ways m l → Path (unrank m l k) l ∧ rank (unrank m l k) l = k ∧ (unrank m l k).length = m
  | 0, 0, k, h => by
    have : k < 1 := h
    exact ⟨rfl, by show 0 = k; omega, rfl⟩
  | 0, _ + 1, k, h => by
    have : k < 0 := h
    omega
  | m + 1, l, k, h => by
    rw [unrank]
    by_cases hk : k < ways m (l + 1)
    · rw [if_pos hk]
      obtain ⟨a, b, c⟩ := unrank_ok m (l + 1) k hk
      exact ⟨.inl ⟨rfl, a⟩, by rw [rank, if_pos rfl]; exact b, by rw [List.length_cons, c]⟩
    · rw [if_neg hk]
      cases l with
      | zero => exact absurd h hk
      | succ l =>
        rw [ways] at h
        have e : l + 1 + 1 = l + 2 := rfl
        rw [e] at hk ⊢
        obtain ⟨a, b, c⟩ := unrank_ok m l (k - ways m (l + 2)) (by omega)
        refine ⟨.inr ⟨rfl, by omega, a⟩, ?_, by rw [List.length_cons]; exact congrArg (· + 1) c⟩
        rw [rank, if_neg (by decide)]
        have e2 : l + 1 - 1 = l := rfl
        rw [e2, b, c, e]; omega
theorem unrank_rank : ∀ (r : List Nat) (l : Nat), Path r l → unrank r.length l (rank r l) = r
  | [], _, _ => rfl
  | c :: r, l, h => by
    rw [List.length_cons, unrank]
    rcases h with ⟨rfl, h⟩ | ⟨rfl, h0, h⟩
    · have q := rank_lt r (l + 1) h
      rw [rank, if_pos rfl, if_pos q, unrank_rank r (l + 1) h]
    · have e : rank (41 :: r) l = ways r.length (l + 1) + rank r (l - 1) := by rw [rank, if_neg (by decide)]
      rw [e, if_neg (by omega), Nat.add_sub_cancel_left, unrank_rank r (l - 1) h]
theorem rank_inj {r q : List Nat} (hr : Path r 0) (hq : Path q 0) (hl : r.length = q.length) (e : rank r 0 = rank q 0) : r = q := by
  have a := unrank_rank r 0 hr
  have b := unrank_rank q 0 hq
  rw [← a, ← b, hl, e]
/-- in order -/
theorem rank_order : ∀ (r q : List Nat) (l : Nat), Path r l → Path q l → r.length = q.length → (rank r l < rank q l ↔ r < q)
  | [], [], l, _, _, _ => by
    constructor
    · intro h; exact absurd h (Nat.lt_irrefl _)
    · intro h; exact absurd h (List.lt_irrefl _)
  | [], _ :: _, _, _, _, h => by simp at h
  | _ :: _, [], _, _, _, h => by simp at h
  | c :: r, d :: q, l, hr, hq, hl => by
    have hl' : r.length = q.length := by simpa using hl
    rw [List.cons_lt_cons_iff]
    rcases hr with ⟨rfl, hr⟩ | ⟨rfl, h0, hr⟩ <;> rcases hq with ⟨rfl, hq⟩ | ⟨rfl, h0', hq⟩
    · rw [rank, rank, if_pos rfl, if_pos rfl, rank_order r q (l + 1) hr hq hl']
      simp
    · have := rank_lt r (l + 1) hr
      rw [rank, rank, if_pos rfl, if_neg (by decide), ← hl']
      constructor
      · intro _; exact .inl (by decide)
      · intro _; omega
    · have := rank_lt q (l + 1) hq
      rw [rank, rank, if_pos rfl, if_neg (by decide), hl']
      constructor
      · intro h; omega
      · rintro (h | ⟨h, _⟩) <;> omega
    · have q' := rank_order r q (l - 1) hr hq hl'
      rw [rank, rank, if_neg (by decide), if_neg (by decide), hl']
      constructor
      · intro h; exact .inr ⟨rfl, q'.mp (by omega)⟩
      · rintro (h | ⟨_, h⟩)
        · omega
        · have := q'.mpr h; omega
/-- the last one -/
def alt : Nat → List Nat
  | 0 => []
  | n + 1 => 40 :: 41 :: alt n
theorem alt_length : ∀ n, (alt n).length = 2 * n
  | 0 => rfl
  | n + 1 => by rw [alt, List.length_cons, List.length_cons, alt_length n]; omega
theorem alt_path : ∀ n, Path (alt n) 0
  | 0 => rfl
  | n + 1 => .inl ⟨rfl, .inr ⟨rfl, by decide, alt_path n⟩⟩
theorem alt_rank : ∀ n, rank (alt n) 0 + 1 = ways (2 * n) 0
  | 0 => rfl
  | n + 1 => by
    have q := alt_rank n
    have e : 2 * (n + 1) = 2 * n + 1 + 1 := by omega
    rw [alt, rank, if_pos rfl, rank, if_neg (by decide), alt_length, e, ways, ways]
    show ways (2 * n) 2 + rank (alt n) 0 + 1 = ways (2 * n) 0 + ways (2 * n) 2
    omega
theorem last_alt {r : List Nat} {n : Nat} (h : Path r 0) (hl : r.length = 2 * n) (e : rank r 0 + 1 = ways (2 * n) 0) : r = alt n :=
  rank_inj h (alt_path n) (by rw [hl, alt_length]) (by have := alt_rank n; omega)
end Br
namespace Br
theorem lev_par : ∀ r : List Nat, (lev r - (r.length : Int)) % 2 = 0
  | [] => rfl
  | c :: r => by
    have h := lev_par r
    rcases rise_cases c with e | e
    · rw [lev, e, List.length_cons]; omega
    · rw [lev, e, List.length_cons]; omega
theorem whole_even {r : List Nat} (h : Whole r) : r.length = 2 * (r.length / 2) := by
  have := lev_par r
  rw [h.2.2] at this
  omega
theorem path_le : ∀ (r : List Nat) (l : Nat), Path r l → l ≤ r.length
  | [], l, h => by
    have : l = 0 := h
    omega
  | c :: r, l, h => by
    rcases h with ⟨_, h⟩ | ⟨_, h0, h⟩
    · have := path_le r _ h; rw [List.length_cons]; omega
    · have := path_le r _ h; rw [List.length_cons]; omega
theorem ways_pos {m l k : Nat} (h : k < ways m l) : l ≤ m := by
  rcases Nat.lt_or_ge m l with z | z
  · rw [ways_zero m l z] at h; omega
  · exact z
theorem wrow_ways {n m l : Nat} (h1 : l ≤ n + 1) (h2 : l + m ≤ 2 * (n + 1) + 1) : (wrow (n + 1) m)[l]? = some ((ways m l : Nat) : Int) := by
  rw [wrow_get (n + 1) m l h1, waysB_eq (n + 1) m l h1 h2]
end Br

namespace Br
/-! ### counts, reckoned -/
def stepN (w : List Nat) : List Nat := List.zipWith (· + ·) (0 :: w) (w.tail ++ [0])
def wN (top : Nat) : Nat → List Nat
  | 0 => 1 :: List.replicate top 0
  | m + 1 => stepN (wN top m)
theorem stepN_length {w : List Nat} (h : 0 < w.length) : (stepN w).length = w.length := by
  unfold stepN
  rw [List.length_zipWith, List.length_cons, List.length_append, List.length_tail, List.length_singleton]; omega
theorem wN_length (top : Nat) : ∀ m, (wN top m).length = top + 1
  | 0 => by simp [wN]
  | m + 1 => by rw [wN, stepN_length (by rw [wN_length top m]; omega), wN_length top m]
theorem wN_get (top : Nat) : ∀ (m l : Nat), l ≤ top → (wN top m)[l]? = some (waysB top m l)
  | 0, 0, _ => by simp [wN, waysB]
  | 0, l + 1, h => by
    rw [wN, List.getElem?_cons_succ, List.getElem?_replicate, if_pos (by omega)]
    rfl
  | m + 1, l, h => by
    have hl := wN_length top m
    have ht : (wN top m).tail[l]? = (wN top m)[l + 1]? := by
      cases hw : wN top m with
      | nil => rfl
      | cons a b => rfl
    have htl : (wN top m).tail.length = top := by rw [List.length_tail, hl]; omega
    have right : ((wN top m).tail ++ [0])[l]? = some (if l + 1 ≤ top then waysB top m (l + 1) else 0) := by
      by_cases h1 : l + 1 ≤ top
      · rw [List.getElem?_append_left (by omega), ht, wN_get top m (l + 1) h1, if_pos h1]
      · rw [List.getElem?_append_right (by omega), if_neg h1]
        have : l - (wN top m).tail.length = 0 := by omega
        rw [this]; rfl
    have left : (0 :: wN top m)[l]? = some (if 0 < l then waysB top m (l - 1) else 0) := by
      cases l with
      | zero => rfl
      | succ l => rw [List.getElem?_cons_succ, if_pos (by omega), Nat.add_sub_cancel]; exact wN_get top m l (by omega)
    rw [wN, stepN, List.getElem?_zipWith, left, right, waysB]
def cnt (size bound : Nat) : Nat := waysB (min size bound) (2 * size) 0
theorem cnt_eq (size bound : Nat) : cnt size bound = (wN (min size bound) (2 * size)).getD 0 0 := by
  rw [List.getD_eq_getElem?_getD, wN_get _ _ 0 (Nat.zero_le _)]; rfl
def chN (many some : Nat) : Nat := (List.range some).foldl (fun f k => f * (many - k) / (k + 1)) 1
theorem far_all : ∀ far, far < 61 → (wN far (2 * far)).getD 0 0 * (far + 1) = chN (2 * far) far := by decide +kernel
/-- sizes below 15, bounds below 20 -/
def tab : List (List Nat) := [[1, 1, 1, 1, 1, 1, 1, 1, 1, 1, 1, 1, 1, 1, 1, 1, 1, 1, 1, 1],
  [0, 1, 1, 1, 1, 1, 1, 1, 1, 1, 1, 1, 1, 1, 1, 1, 1, 1, 1, 1],
  [0, 1, 2, 2, 2, 2, 2, 2, 2, 2, 2, 2, 2, 2, 2, 2, 2, 2, 2, 2],
  [0, 1, 4, 5, 5, 5, 5, 5, 5, 5, 5, 5, 5, 5, 5, 5, 5, 5, 5, 5],
  [0, 1, 8, 13, 14, 14, 14, 14, 14, 14, 14, 14, 14, 14, 14, 14, 14, 14, 14, 14],
  [0, 1, 16, 34, 41, 42, 42, 42, 42, 42, 42, 42, 42, 42, 42, 42, 42, 42, 42, 42],
  [0, 1, 32, 89, 122, 131, 132, 132, 132, 132, 132, 132, 132, 132, 132, 132, 132, 132, 132, 132],
  [0, 1, 64, 233, 365, 417, 428, 429, 429, 429, 429, 429, 429, 429, 429, 429, 429, 429, 429, 429],
  [0, 1, 128, 610, 1094, 1341, 1416, 1429, 1430, 1430, 1430, 1430, 1430, 1430, 1430, 1430, 1430, 1430, 1430, 1430],
  [0, 1, 256, 1597, 3281, 4334, 4744, 4846, 4861, 4862, 4862, 4862, 4862, 4862, 4862, 4862, 4862, 4862, 4862, 4862],
  [0, 1, 512, 4181, 9842, 14041, 16016, 16645, 16778, 16795, 16796, 16796, 16796, 16796, 16796, 16796, 16796, 16796, 16796, 16796],
  [0, 1, 1024, 10946, 29525, 45542, 54320, 57686, 58598, 58766, 58785, 58786, 58786, 58786, 58786, 58786, 58786, 58786, 58786, 58786],
  [0, 1, 2048, 28657, 88574, 147798, 184736, 201158, 206516, 207783, 207990, 208011, 208012, 208012, 208012, 208012, 208012, 208012, 208012, 208012],
  [0, 1, 4096, 75025, 265721, 479779, 629280, 704420, 732825, 740924, 742626, 742876, 742899, 742900, 742900, 742900, 742900, 742900, 742900, 742900],
  [0, 1, 8192, 196418, 797162, 1557649, 2145600, 2473785, 2613834, 2660139, 2671892, 2674117, 2674414, 2674439, 2674440, 2674440, 2674440, 2674440, 2674440, 2674440]]
def cT (s b : Nat) : Nat := (tab.getD s []).getD b 0
theorem tab_all : ∀ s, s < 15 → ∀ b, b < 20 → (wN (min s b) (2 * s)).getD 0 0 = cT s b := by decide +kernel
theorem cnt_T {s b : Nat} (h1 : s < 15) (h2 : b < 20) : cnt s b = cT s b := by rw [cnt_eq]; exact tab_all s h1 b h2
theorem rec_all : ∀ s, s < 15 → ∀ b, b < 20 → 0 < s → 0 < b → cT s b = ((List.range s).map fun k => cT k (b - 1) * cT (s - 1 - k) b).sum := by decide +kernel
theorem nil_all : ∀ s, s < 15 → 0 < s → cT s 0 = 0 := by decide +kernel
theorem zero_all : ∀ b, b < 20 → cT 0 b = 1 := by decide +kernel
theorem one_all : ∀ s, s < 15 → cT s 1 = 1 := by decide +kernel
theorem more_all : ∀ s, s < 15 → 0 < s → cT s s = ((List.range s).map fun k => cT k k * cT (s - 1 - k) s).sum := by decide +kernel
theorem cnt_wide (s b : Nat) (h : s ≤ b) : cnt s b = cnt s s := by unfold cnt; rw [Nat.min_eq_left h, Nat.min_self]
/-! ### all rows of a size, by the first pair -/
def allR : Nat → Nat → List (List Nat)
  | 0, _ => []
  | _ + 1, 0 => [[]]
  | f + 1, n + 1 => (List.range (n + 1)).flatMap fun k => (allR f k).flatMap fun a => (allR f (n - k)).map fun b => 40 :: a ++ 41 :: b
def topOf (r : List Nat) : Int := (heads r).foldl max 0
end Br

namespace Br
/-! ### rows as trees: the first pair with what is within, what stands behind -/
inductive Tr where
  | leaf
  | node (a b : Tr)
def rw : Tr → List Nat
  | .leaf => []
  | .node a b => 40 :: (rw a ++ 41 :: rw b)
def sz : Tr → Nat
  | .leaf => 0
  | .node a b => sz a + sz b + 1
def mir : Tr → Tr
  | .leaf => .leaf
  | .node a b => .node (mir b) (mir a)
theorem rw_length : ∀ t, (rw t).length = 2 * sz t
  | .leaf => rfl
  | .node a b => by rw [rw, List.length_cons, List.length_append, List.length_cons, rw_length a, rw_length b, sz]; omega
theorem sz_mir : ∀ t, sz (mir t) = sz t
  | .leaf => rfl
  | .node a b => by rw [mir, sz, sz, sz_mir a, sz_mir b]; omega
theorem mir_mir : ∀ t, mir (mir t) = t
  | .leaf => rfl
  | .node a b => by rw [mir, mir, mir_mir a, mir_mir b]
theorem path_app : ∀ (a s : List Nat) (k l : Nat), Path a k → Path s l → Path (a ++ s) (k + l)
  | [], s, k, l, h, g => by
    have : k = 0 := h
    subst this
    rw [List.nil_append, Nat.zero_add]; exact g
  | c :: a, s, k, l, h, g => by
    rcases h with ⟨rfl, h⟩ | ⟨rfl, h0, h⟩
    · refine .inl ⟨rfl, ?_⟩
      have := path_app a s (k + 1) l h g
      rw [show k + l + 1 = k + 1 + l by omega]; exact this
    · refine .inr ⟨rfl, by omega, ?_⟩
      have := path_app a s (k - 1) l h g
      rw [show k + l - 1 = k - 1 + l by omega]; exact this
theorem rw_path : ∀ t, Path (rw t) 0
  | .leaf => rfl
  | .node a b => by
    refine .inl ⟨rfl, ?_⟩
    have h2 : Path (41 :: rw b) 1 := .inr ⟨rfl, by decide, rw_path b⟩
    have := path_app (rw a) (41 :: rw b) 0 1 (rw_path a) h2
    exact this
theorem rw_whole (t : Tr) : Whole (rw t) := (path_whole _).mp (rw_path t)
theorem path_split : ∀ (n : Nat) (r : List Nat) (l : Nat), r.length ≤ n → Path r (l + 1) → ∃ a b, r = a ++ 41 :: b ∧ Path a 0 ∧ Path b l
  | 0, [], l, _, h => by
    have : l + 1 = 0 := h
    omega
  | 0, _ :: _, _, hl, _ => by simp at hl
  | n + 1, [], l, _, h => by
    have : l + 1 = 0 := h
    omega
  | n + 1, c :: r, l, hl, h => by
    have hr : r.length ≤ n := by simpa using hl
    rcases h with ⟨rfl, h⟩ | ⟨rfl, _, h⟩
    · obtain ⟨a1, b1, e1, p1, q1⟩ := path_split n r (l + 1) hr h
      have hb : b1.length ≤ n := by
        rw [e1, List.length_append, List.length_cons] at hr; omega
      obtain ⟨a2, b2, e2, p2, q2⟩ := path_split n b1 l hb q1
      refine ⟨40 :: (a1 ++ 41 :: a2), b2, ?_, .inl ⟨rfl, ?_⟩, q2⟩
      · rw [e1, e2]; simp
      · exact path_app a1 (41 :: a2) 0 1 p1 (.inr ⟨rfl, by decide, p2⟩)
    · exact ⟨[], r, rfl, rfl, h⟩
theorem path_tr : ∀ (n : Nat) (r : List Nat), r.length ≤ n → Path r 0 → ∃ t, rw t = r
  | _, [], _, _ => ⟨.leaf, rfl⟩
  | 0, _ :: _, hl, _ => by simp at hl
  | n + 1, c :: r, hl, h => by
    have hr : r.length ≤ n := by simpa using hl
    rcases h with ⟨rfl, h⟩ | ⟨_, h0, _⟩
    · obtain ⟨a, b, e, p, q⟩ := path_split _ r 0 (Nat.le_refl _) h
      have hl2 := hr
      rw [e, List.length_append, List.length_cons] at hl2
      obtain ⟨ta, ea⟩ := path_tr n a (by omega) p
      obtain ⟨tb, eb⟩ := path_tr n b (by omega) q
      exact ⟨.node ta tb, by rw [rw, ea, eb, e]⟩
    · omega
theorem whole_tr {r : List Nat} (h : Whole r) : ∃ t, rw t = r := path_tr _ r (Nat.le_refl _) ((path_whole r).mpr h)
theorem first_one {A B A' B' : List Nat} (h : Whole A) (h' : Whole A') (e : A ++ 41 :: B = A' ++ 41 :: B') : A.length = A'.length := by
  have key : ∀ {A B A' B' : List Nat}, Whole A → Whole A' → A ++ 41 :: B = A' ++ 41 :: B' → ¬ A.length < A'.length := fun {A B A' B'} h h' e hlt => by
    have t1 : (A ++ 41 :: B).take (A.length + 1) = A ++ [41] := by
      rw [List.take_append, List.take_of_length_le (by omega)]; simp
    have t2 : (A' ++ 41 :: B').take (A.length + 1) = A'.take (A.length + 1) := by
      rw [List.take_append_of_le_length (by omega)]
    rw [e, t2] at t1
    have := h'.2.1 (A.length + 1) (by omega)
    rw [t1, lev_append, h.2.2] at this
    simp [lev, rise] at this
  have a := key h h' e
  have b := key h' h e.symm
  omega
theorem pair_node {a b : Tr} {m : Nat} (p : Pair (rw (.node a b)) 0 m) : m = (rw a).length + 1 := by
  have hlt := p.lt
  have hle := p.le
  have hcl := p.cl
  have hin := p.inn
  rw [rw] at hle hcl hin
  have hm : m < (rw a ++ 41 :: rw b).length + 1 := by simpa using hle
  obtain ⟨j, rfl⟩ : ∃ j, m = j + 1 := ⟨m - 1, by omega⟩
  rw [List.getElem?_cons_succ] at hcl
  rw [Nat.zero_add, List.drop_succ_cons, List.drop_zero, Nat.add_sub_cancel] at hin
  have hj : j < (rw a ++ 41 :: rw b).length := by omega
  have e : (rw a ++ 41 :: rw b).take j ++ 41 :: (rw a ++ 41 :: rw b).drop (j + 1) = rw a ++ 41 :: rw b := by
    have g : (rw a ++ 41 :: rw b)[j] = 41 := by
      rw [List.getElem?_eq_getElem hj] at hcl; exact Option.some.inj hcl
    conv => rhs; rw [← List.take_append_drop j (rw a ++ 41 :: rw b), List.drop_eq_getElem_cons hj, g]
  have := first_one hin (rw_whole a) e
  rw [List.length_take] at this
  omega
theorem node_in (a b : Tr) : ((rw (.node a b)).drop 1).take ((rw a).length + 1 - 1) = rw a := by
  rw [rw, List.drop_succ_cons, List.drop_zero, Nat.add_sub_cancel, List.take_append_of_le_length (Nat.le_refl _), List.take_length]
theorem node_out (a b : Tr) : (rw (.node a b)).drop ((rw a).length + 1 + 1) = rw b := by
  rw [rw, List.drop_succ_cons, List.drop_append]
  simp
/-- the first place where it is low again -/
theorem node_low (a b : Tr) : (∀ k, 1 ≤ k → k ≤ (rw a).length + 1 → lev ((rw (.node a b)).take k) ≠ 0) ∧ lev ((rw (.node a b)).take ((rw a).length + 2)) = 0 := by
  have wa := rw_whole a
  constructor
  · intro k h1 h2
    obtain ⟨j, rfl⟩ : ∃ j, k = j + 1 := ⟨k - 1, by omega⟩
    rw [rw, List.take_succ_cons, List.take_append_of_le_length (by omega), lev]
    have := wa.2.1 j (by omega)
    simp [rise]; omega
  · have e : (rw (.node a b)).take ((rw a).length + 2) = 40 :: (rw a ++ [41]) := by
      rw [rw, List.take_succ_cons, List.take_append, List.take_of_length_le (by omega)]
      simp
    rw [e, lev, lev_append, wa.2.2]
    rfl
/-- as data -/
def trD : Tr → PySem.PyData
  | .leaf => .none
  | .node a b => .tuple [trD a, trD b]
def foL : Tr → List PySem.PyData
  | .leaf => []
  | .node a b => .tuple (foL a) :: foL b
theorem trD_lay : ∀ t, (trD t).canLay0 = true
  | .leaf => rfl
  | .node a b => by
    show ((trD a).canLay0 && ((trD b).canLay0 && true)) = true
    rw [trD_lay a, trD_lay b]; rfl
theorem foL_lay : ∀ t, PySem.PyData.canLayAll0 (foL t) = true
  | .leaf => rfl
  | .node a b => by
    show (PySem.PyData.canLayAll0 (foL a) && PySem.PyData.canLayAll0 (foL b)) = true
    rw [foL_lay a, foL_lay b]; rfl
theorem trD_depth : ∀ t, (trD t).depth ≤ sz t
  | .leaf => Nat.le_refl _
  | .node a b => by
    have := trD_depth a
    have := trD_depth b
    show max (trD a).depth (max (trD b).depth 0) + 1 ≤ _
    rw [sz]; omega
theorem foL_depth : ∀ t, PySem.PyData.depthAll (foL t) ≤ sz t
  | .leaf => Nat.le_refl _
  | .node a b => by
    have := foL_depth a
    have := foL_depth b
    show max (PySem.PyData.depthAll (foL a) + 1) (PySem.PyData.depthAll (foL b)) ≤ _
    rw [sz]; omega
end Br

namespace Br
/-! ### two signs side by side exchanged -/
def swp (r : List Nat) (p : Nat) : List Nat := r.take p ++ ((r.drop (p + 1)).take 1 ++ ((r.drop p).take 1 ++ r.drop (p + 2)))
theorem cut_two {r : List Nat} {p : Nat} (h : p + 1 < r.length) : ∃ A a b B, r = A ++ a :: b :: B ∧ A.length = p ∧ swp r p = A ++ b :: a :: B ∧ r[p]? = some a ∧ r[p + 1]? = some b := by
  refine ⟨r.take p, r[p], r[p + 1], r.drop (p + 2), ?_, by rw [List.length_take]; omega, ?_, List.getElem?_eq_getElem _, List.getElem?_eq_getElem _⟩
  · conv => lhs; rw [← List.take_append_drop p r, List.drop_eq_getElem_cons (show p < r.length by omega), List.drop_eq_getElem_cons h]
  · unfold swp
    rw [List.drop_eq_getElem_cons (show p < r.length by omega), List.drop_eq_getElem_cons h]
    rfl
theorem swp_get {r : List Nat} {p : Nat} (h : p + 1 < r.length) (i : Nat) : (swp r p)[i]? = if i = p then r[p + 1]? else if i = p + 1 then r[p]? else r[i]? := by
  obtain ⟨A, a, b, B, rfl, rfl, e, _, _⟩ := cut_two h
  rw [e]
  rcases Nat.lt_trichotomy i A.length with hi | hi | hi
  · rw [if_neg (by omega), if_neg (by omega), List.getElem?_append_left hi, List.getElem?_append_left hi]
  · subst hi
    rw [if_pos rfl, List.getElem?_append_right (Nat.le_refl _), List.getElem?_append_right (by omega), Nat.sub_self, Nat.add_sub_cancel_left]
    rfl
  · rw [if_neg (by omega), List.getElem?_append_right (by omega)]
    by_cases h1 : i = A.length + 1
    · subst h1
      rw [if_pos rfl, List.getElem?_append_right (Nat.le_refl _), Nat.sub_self, Nat.add_sub_cancel_left]
      rfl
    · rw [if_neg h1, List.getElem?_append_right (by omega)]
      obtain ⟨j, hj⟩ : ∃ j, i - A.length = j + 2 := ⟨i - A.length - 2, by omega⟩
      rw [hj]
      rfl
theorem swp_length {r : List Nat} {p : Nat} (h : p + 1 < r.length) : (swp r p).length = r.length := by
  obtain ⟨A, a, b, B, rfl, rfl, e, _, _⟩ := cut_two h
  rw [e]
  simp
theorem swp_swp {r : List Nat} {p : Nat} (h : p + 1 < r.length) : swp (swp r p) p = r := by
  apply List.ext_getElem?
  intro i
  rw [swp_get (by rw [swp_length h]; exact h), swp_get h, swp_get h, swp_get h]
  by_cases h1 : i = p
  · rw [if_pos h1, if_neg (by omega), if_pos rfl, h1]
  · rw [if_neg h1]
    by_cases h2 : i = p + 1
    · rw [if_pos h2, if_pos rfl, h2]
    · rw [if_neg h2, if_neg h1, if_neg h2]
theorem swp_other {r : List Nat} {p q : Nat} (hp : p + 1 < r.length) (hq : q + 1 < r.length) (hu : r[p]? ≠ r[p + 1]?) (hlt : p < q) : swp r p ≠ swp r q := fun e => by
  have : (swp r p)[p]? = (swp r q)[p]? := congrArg (fun x : List Nat => x[p]?) e
  rw [swp_get hp, swp_get hq, if_pos rfl, if_neg (by omega), if_neg (by omega)] at this
  exact hu this.symm
theorem swp_same {r : List Nat} {p : Nat} (h : p + 1 < r.length) : swp r p = r ↔ r[p]? = r[p + 1]? := by
  constructor
  · intro e
    have : (swp r p)[p]? = r[p]? := congrArg (fun x : List Nat => x[p]?) e
    rw [swp_get h, if_pos rfl] at this
    exact this.symm
  · intro e
    apply List.ext_getElem?
    intro i
    rw [swp_get h]
    by_cases h1 : i = p
    · rw [if_pos h1, h1, e]
    · rw [if_neg h1]
      by_cases h2 : i = p + 1
      · rw [if_pos h2, h2, e]
      · rw [if_neg h2]
theorem swp_whole {r : List Nat} {p : Nat} (w : Whole r) (h : p + 1 < r.length) (g : r[p + 1]? = some 40 ∨ 1 ≤ lev (r.take p)) : Whole (swp r p) := by
  obtain ⟨A, a, b, B, rfl, rfl, e, _, hb⟩ := cut_two h
  rw [e]
  have tA : (A ++ a :: b :: B).take A.length = A := by rw [List.take_append_of_le_length (Nat.le_refl _), List.take_length]
  rw [tA] at g
  obtain ⟨w1, w2, w3⟩ := w
  refine ⟨fun c hc => w1 c ?_, fun k hk => ?_, ?_⟩
  · simp only [List.mem_append, List.mem_cons] at hc ⊢
    rcases hc with h | h | h | h
    · exact .inl h
    · exact .inr (.inr (.inl h))
    · exact .inr (.inl h)
    · exact .inr (.inr (.inr h))
  · rcases Nat.lt_or_ge A.length k with hk1 | hk1
    · obtain ⟨j, rfl⟩ : ∃ j, k = A.length + (j + 1) := ⟨k - A.length - 1, by omega⟩
      rw [List.take_length_add_append, List.take_succ_cons]
      have rb := rise_bounds b
      cases j with
      | zero =>
        rw [List.take_zero, lev_append, lev, lev]
        have := w2 A.length (by simp)
        rw [tA] at this
        rcases g with g | g
        · rw [g] at hb
          cases hb
          rw [rise_40]; omega
        · omega
      | succ j =>
        have := w2 (A.length + (j + 2)) (by simp at hk ⊢; omega)
        rw [List.take_length_add_append, List.take_succ_cons, List.take_succ_cons, lev_append, lev, lev] at this
        rw [List.take_succ_cons, lev_append, lev, lev]
        omega
    · have := w2 k (by simp; omega)
      rw [List.take_append_of_le_length hk1] at this ⊢
      exact this
  · rw [lev_append, lev, lev] at w3 ⊢
    omega
/-- the moves of a row, in the order of their places -/
def unl (r : List Nat) (n : Nat) : List Nat := (List.range n).filter fun p => !decide (r[p]? = r[p + 1]?)
def mvN (r : List Nat) (n : Nat) : List (List Nat) := ((unl r n).map (swp r)).filter fun x => lw 0 x
def mvL (r : List Nat) : List (List Nat) := mvN r (r.length - 1)
theorem unl_succ (r : List Nat) (n : Nat) : unl r (n + 1) = unl r n ++ (if r[n]? = r[n + 1]? then [] else [n]) := by
  unfold unl
  rw [List.range_succ, List.filter_append]
  congr 1
  by_cases h : r[n]? = r[n + 1]?
  · rw [if_pos h, List.filter_cons, decide_eq_true h]; rfl
  · rw [if_neg h, List.filter_cons, decide_eq_false h]; rfl
theorem mvN_succ (r : List Nat) (n : Nat) : mvN r (n + 1) = mvN r n ++ (if r[n]? = r[n + 1]? then [] else if lw 0 (swp r n) = true then [swp r n] else []) := by
  unfold mvN
  rw [unl_succ, List.map_append, List.filter_append]
  congr 1
  by_cases h : r[n]? = r[n + 1]?
  · rw [if_pos h, if_pos h]; rfl
  · rw [if_neg h, if_neg h, List.map_singleton, List.filter_cons]
    split <;> rfl
theorem mem_mvN {r x : List Nat} {n : Nat} : x ∈ mvN r n ↔ ∃ p, p < n ∧ r[p]? ≠ r[p + 1]? ∧ x = swp r p ∧ lw 0 x = true := by
  unfold mvN unl
  rw [List.mem_filter, List.mem_map]
  constructor
  · rintro ⟨⟨p, hp, rfl⟩, hx⟩
    rw [List.mem_filter, List.mem_range] at hp
    exact ⟨p, hp.1, by simpa using hp.2, rfl, hx⟩
  · rintro ⟨p, h1, h2, rfl, h4⟩
    exact ⟨⟨p, by rw [List.mem_filter, List.mem_range]; exact ⟨h1, by simpa using h2⟩, rfl⟩, h4⟩
theorem mem_mvL {r x : List Nat} : x ∈ mvL r ↔ ∃ p, p + 1 < r.length ∧ r[p]? ≠ r[p + 1]? ∧ x = swp r p ∧ lw 0 x = true := by
  unfold mvL
  rw [mem_mvN]
  constructor
  · rintro ⟨p, h1, h⟩; exact ⟨p, by omega, h⟩
  · rintro ⟨p, h1, h⟩; exact ⟨p, by omega, h⟩
theorem mvL_len {r x : List Nat} (h : x ∈ mvL r) : x.length = r.length := by
  obtain ⟨p, h1, _, rfl, _⟩ := mem_mvL.mp h
  exact swp_length h1
theorem mvL_sym {r x : List Nat} (w : Whole r) (hl : r.length ≤ 900) (h : x ∈ mvL r) : r ∈ mvL x := by
  obtain ⟨p, h1, h2, rfl, _⟩ := mem_mvL.mp h
  refine mem_mvL.mpr ⟨p, by rw [swp_length h1]; exact h1, ?_, (swp_swp h1).symm, (lw_whole (by omega)).mpr w⟩
  rw [swp_get h1, swp_get h1, if_pos rfl, if_neg (by omega), if_pos rfl]
  exact fun e => h2 e.symm
theorem mvN_length (r : List Nat) : ∀ n, (mvN r n).length ≤ n
  | 0 => Nat.le_refl _
  | n + 1 => by
    have := mvN_length r n
    rw [mvN_succ, List.length_append]
    split
    · simp; omega
    · split
      · simp; omega
      · simp; omega
theorem unl_length (r : List Nat) (n : Nat) : (unl r n).length ≤ n := by
  unfold unl
  exact Nat.le_trans (List.length_filter_le _ _) (by rw [List.length_range]; exact Nat.le_refl _)
theorem fresh_mv {r : List Nat} {n : Nat} (h : n + 1 < r.length) (hu : r[n]? ≠ r[n + 1]?) : swp r n ∉ mvN r n := fun m => by
  obtain ⟨p, h1, h2, e, _⟩ := mem_mvN.mp m
  exact swp_other (by omega) h h2 h1 e.symm
/-! ### the way from one to another -/
theorem count_half {r : List Nat} (w : Whole r) {c : Nat} (hc : c = 40 ∨ c = 41) : 2 * r.count c = r.length := by
  have e := lev_count w.1
  rw [w.2.2] at e
  have t : r.count 40 + r.count 41 = r.length := by
    have all : ∀ (s : List Nat), IsBr s → s.count 40 + s.count 41 = s.length := by
      intro s
      induction s with
      | nil => intro _; rfl
      | cons d s ih =>
        intro h
        have := ih fun x hx => h x (List.mem_cons_of_mem _ hx)
        rw [List.count_cons, List.count_cons, List.length_cons]
        rcases h d List.mem_cons_self with rfl | rfl
        · simp; omega
        · simp; omega
    exact all r w.1
  rcases hc with rfl | rfl <;> omega
theorem least {Pr : Nat → Prop} [DecidablePred Pr] : ∀ (n : Nat), Pr n → ∃ m, m ≤ n ∧ Pr m ∧ ∀ k, k < m → ¬ Pr k
  | 0, h => ⟨0, Nat.le_refl _, h, fun k hk => by omega⟩
  | n + 1, h => by
    by_cases g : ∃ j, j ≤ n ∧ Pr j
    · obtain ⟨j, hj, pj⟩ := g
      have key : ∀ (a j : Nat), j ≤ a → a ≤ n → Pr j → ∃ m, m ≤ n + 1 ∧ Pr m ∧ ∀ k, k < m → ¬ Pr k := by
        intro a
        induction a with
        | zero => intro j hj _ pj; exact ⟨0, by omega, by have : j = 0 := by omega
                                                          rw [this] at pj; exact pj, fun k hk => by omega⟩
        | succ a ih =>
          intro j hj ha pj
          by_cases q : ∃ i, i ≤ a ∧ Pr i
          · obtain ⟨i, hi, pi⟩ := q
            exact ih i hi (by omega) pi
          · have : j = a + 1 := by
              rcases Nat.lt_or_ge a j with z | z
              · omega
              · exact absurd ⟨j, z, pj⟩ q
            subst this
            exact ⟨a + 1, by omega, pj, fun k hk pk => q ⟨k, by omega, pk⟩⟩
      exact key n j hj (Nat.le_refl _) pj
    · exact ⟨n + 1, Nat.le_refl _, h, fun k hk pk => g ⟨k, by omega, pk⟩⟩
theorem next_there {r o : List Nat} (wr : Whole r) (wo : Whole o) (hl : r.length = o.length) {i c : Nat} (hi : o[i]? = some c) (ht : r.take i = o.take i) : ∃ h, i ≤ h ∧ r[h]? = some c ∧ ∀ j, i ≤ j → j < h → r[j]? ≠ some c := by
  have hc : c = 40 ∨ c = 41 := wo.1 c (List.mem_of_getElem? hi)
  have hlt : i < o.length := (List.getElem?_eq_some_iff.mp hi).1
  have c1 := count_half wr hc
  have c2 := count_half wo hc
  have s1 : r.count c = (r.take i).count c + (r.drop i).count c := by rw [← List.count_append, List.take_append_drop]
  have s2 : o.count c = (o.take i).count c + (o.drop i).count c := by rw [← List.count_append, List.take_append_drop]
  have p2 : 0 < (o.drop i).count c := by
    rw [List.count_pos_iff]
    refine List.mem_of_getElem? (i := 0) ?_
    rw [List.getElem?_drop, Nat.add_zero]; exact hi
  have p1 : 0 < (r.drop i).count c := by
    rw [ht] at s1; omega
  rw [List.count_pos_iff] at p1
  obtain ⟨j, hj⟩ := List.getElem?_of_mem p1
  rw [List.getElem?_drop] at hj
  obtain ⟨m, _, hm, lo⟩ := least (Pr := fun k => r[i + k]? = some c) j hj
  refine ⟨i + m, by omega, hm, fun k h1 h2 => ?_⟩
  have := lo (k - i) (by omega)
  rwa [show i + (k - i) = k by omega] at this
/-- one step of the way: the sign c comes from h + 1 to h, ahead of unlike ones from i on -/
theorem step_whole {r o : List Nat} (wr : Whole r) (wo : Whole o) {i h c : Nat} (hi : o[i]? = some c) (ht : r.take i = o.take i) (hh : i ≤ h) (hc : r[h + 1]? = some c) (lo : ∀ j, i ≤ j → j ≤ h → r[j]? ≠ some c) : Whole (swp r h) := by
  have hlt : h + 1 < r.length := (List.getElem?_eq_some_iff.mp hc).1
  refine swp_whole wr hlt ?_
  rcases wr.1 c (List.mem_of_getElem? hc) with rfl | rfl
  · exact .inl hc
  · right
    have hio : i < o.length := (List.getElem?_eq_some_iff.mp hi).1
    have h1 : 0 ≤ lev (o.take (i + 1)) := wo.2.1 (i + 1) (by omega)
    have e41 : o[i] = 41 := (List.getElem?_eq_some_iff.mp hi).2
    rw [lev_take_succ hio, e41, rise_41, ← ht] at h1
    have up : ∀ k, i + k ≤ h → lev (r.take i) ≤ lev (r.take (i + k)) := by
      intro k
      induction k with
      | zero => intro _; exact Int.le_refl _
      | succ k ih =>
        intro hk
        have a := ih (by omega)
        have hk2 : i + k < r.length := by omega
        have n41 : r[i + k] ≠ 41 := fun z => lo (i + k) (by omega) (by omega) (by rw [List.getElem?_eq_getElem hk2, z])
        have e40 : r[i + k] = 40 := by
          rcases wr.1 _ (List.getElem_mem hk2) with z | z
          · exact z
          · exact absurd z n41
        rw [show i + (k + 1) = i + k + 1 by omega, lev_take_succ hk2, e40, rise_40]
        omega
    have := up (h - i) (by omega)
    rw [show i + (h - i) = h by omega] at this
    omega
theorem swp_take {r : List Nat} {h i : Nat} (hlt : h + 1 < r.length) (hi : i ≤ h) : (swp r h).take i = r.take i := by
  unfold swp
  rw [List.take_append_of_le_length (by rw [List.length_take]; omega), List.take_take, Nat.min_eq_left hi]
end Br
namespace L2
open PySem PySem.Spec PyProof.Rows
theorem rising_pw : ∀ (r : List Str) (p : Str), risingS p r = true → (p :: r).Pairwise fun a b => cs a ≤ cs b
  | [], p, _ => List.pairwise_singleton _ _
  | x :: r, p, h => by
    unfold risingS at h
    rw [Bool.and_eq_true, ltCps_eq] at h
    have h1 : cs p ≤ cs x := List.not_lt.mp (by simpa using h.1)
    have ih := rising_pw r x h.2
    refine List.pairwise_cons.mpr ⟨fun b hb => ?_, ih⟩
    rcases List.mem_cons.mp hb with rfl | hb
    · exact h1
    · exact List.le_trans h1 ((List.pairwise_cons.mp ih).1 b hb)
theorem sorted_pw {ms : List Str} (h : sortedS ms = true) : ms.Pairwise fun a b => cs a ≤ cs b := by
  cases ms with
  | nil => exact List.Pairwise.nil
  | cons x r => exact rising_pw r x h
theorem sorted_one {a b : List Str} (h1 : sortedS a = true) (h2 : sortedS b = true) (p : a.Perm b) : a = b :=
  List.Perm.eq_of_pairwise (fun x y _ _ h1 h2 => cs_inj (List.le_antisymm h1 h2)) (sorted_pw h1) (sorted_pw h2) p
end L2

/-! ### a pure run of the long sort -/
namespace L2
open PySem PyProof.Rows
/-- to bring a value to its plain form before going on with it -/
class Frc (α : Type) where
  k : {γ : Type} → α → (α → γ) → γ
  ok : ∀ {γ : Type} (a : α) (g : α → γ), k a g = g a
noncomputable instance frcNat : Frc Nat where
  k n g := Nat.casesOn n (g 0) fun m => g (m + 1)
  ok n g := by cases n <;> rfl
noncomputable instance frcBool : Frc Bool where
  k n g := Bool.casesOn n (g false) (g true)
  ok n g := by cases n <;> rfl
noncomputable instance frcUnit : Frc Unit where
  k _ g := g ()
  ok _ _ := rfl
noncomputable instance frcProd {α β : Type} [Frc α] [Frc β] : Frc (α × β) where
  k p g := Prod.casesOn p fun a b => Frc.k a fun a' => Frc.k b fun b' => g (a', b')
  ok p g := by
    cases p with
    | mk a b => show Frc.k a (fun a' => Frc.k b fun b' => g (a', b')) = _; rw [Frc.ok, Frc.ok]
noncomputable instance frcOpt {α : Type} [Frc α] : Frc (Option α) where
  k p g := Option.casesOn p (g none) fun a => Frc.k a fun a' => g (some a')
  ok p g := by
    cases p with
    | none => rfl
    | some a => show Frc.k a (fun a' => g (some a')) = _; rw [Frc.ok]
noncomputable def frcL {α γ : Type} [Frc α] : List α → (List α → γ) → γ
  | [], g => g []
  | x :: xs, g => Frc.k x fun x' => frcL xs fun ys => g (x' :: ys)
theorem frcL_ok {α γ : Type} [Frc α] : ∀ (l : List α) (g : List α → γ), frcL l g = g l
  | [], _ => rfl
  | x :: xs, g => by show Frc.k x (fun x' => frcL xs fun ys => g (x' :: ys)) = _; rw [Frc.ok, frcL_ok xs]
noncomputable instance frcArr {α : Type} [Frc α] : Frc (Array α) where
  k p g := frcL p.toList fun l => g l.toArray
  ok p g := by rw [frcL_ok]
noncomputable instance frcVal : Frc Value where
  k v g := g v
  ok _ _ := rfl
structure SN where
  a : Array Keyed
  p : Array (Nat × Nat × Nat)
  g : Nat
noncomputable instance frcSN : Frc SN where
  k n g := SN.casesOn n fun a p q => Frc.k a fun a' => Frc.k p fun p' => Frc.k q fun q' => g ⟨a', p', q'⟩
  ok n g := by
    cases n with
    | mk a p q => show Frc.k a (fun a' => Frc.k p fun p' => Frc.k q fun q' => g ⟨a', p', q'⟩) = _; rw [Frc.ok, Frc.ok, Frc.ok]
noncomputable abbrev SN.st (n : SN) : SortSt := SortSt.mk' oneType' n.a n.p n.g none
noncomputable abbrev SF (α : Type) := SN → Option (α × SN)
structure Sim {α : Type} (m : StateT SortSt Sem α) : Type where
  f : SF α
  ok : ∀ (prog : Program) (w : World) (A : Around) (E : Value → Shared → Prop) (s : Shared) (n n' : SN) (a : α), f n = some (a, n') → ∀ Q : α → SortSt → Prop, Q a n'.st → wpS (model prog w) A E s m Q n.st
namespace Sim
variable {α β : Type}
noncomputable def no {m : StateT SortSt Sem α} : Sim m := ⟨fun _ => none, fun _ _ _ _ _ _ _ _ h => nomatch h⟩
noncomputable def ret (a : α) : Sim (pure a : StateT SortSt Sem α) := ⟨fun n => some (a, n), fun _ _ _ _ _ _ _ _ h Q q => by cases h; exact wpS_pure q⟩
noncomputable def bnd [Frc α] {m : StateT SortSt Sem α} {g : α → StateT SortSt Sem β} (x : Sim m) (y : ∀ a, Sim (g a)) : Sim (m >>= g) :=
  ⟨fun n => Option.casesOn (x.f n) none fun r => Prod.casesOn r fun a n' => Frc.k a fun a' => (y a').f n',
   fun prog w A E s n n' b h Q q => by
     refine wpS_bind ?_
     generalize e : x.f n = o at h
     cases o with
     | none => cases h
     | some r =>
       obtain ⟨a, n1⟩ := r
       have h' : (Frc.k a fun a' => (y a').f n1) = some (b, n') := h
       rw [Frc.ok] at h'
       exact x.ok prog w A E s n n1 a e _ ((y a).ok prog w A E s n1 n' b h' Q q)⟩
noncomputable def getB {g : SortSt → StateT SortSt Sem β} (y : ∀ n : SN, Sim (g n.st)) : Sim (get >>= g) :=
  ⟨fun n => (y n).f n, fun prog w A E s n n' b h Q q => wpS_bind (wpS_get ((y n).ok prog w A E s n n' b h Q q))⟩
noncomputable def mod {F : SortSt → SortSt} (v : SN → SN) (e : ∀ n : SN, (v n).st = F n.st) : Sim (modify F : StateT SortSt Sem PUnit) :=
  ⟨fun n => Frc.k (v n) fun n' => some (⟨⟩, n'), fun prog w A E s n n' b h Q q => by
    rw [Frc.ok] at h
    cases h
    exact wpS_modify (e n ▸ q)⟩
noncomputable def ite' {c : Prop} [d : Decidable c] {m m' : StateT SortSt Sem α} (x : Sim m) (y : Sim m') : Sim (if c then m else m') :=
  ⟨fun n => Decidable.casesOn d (fun _ => y.f n) (fun _ => x.f n), fun prog w A E s n n' b h Q q => by
    cases d with
    | isTrue hc => rw [if_pos hc]; exact x.ok prog w A E s n n' b h Q q
    | isFalse hc => rw [if_neg hc]; exact y.ok prog w A E s n n' b h Q q⟩
noncomputable def of {m m' : StateT SortSt Sem α} (e : m' = m) (x : Sim m) : Sim m' := ⟨x.f, fun prog w A E s n n' b h Q q => by rw [e]; exact x.ok prog w A E s n n' b h Q q⟩
noncomputable def low (t : String) : Sim (liftM (rule t) : StateT SortSt Sem Unit) :=
  ⟨fun n => some ((), n), fun prog w A E s n n' b h Q q => by cases h; exact wpS_lift (wpAny_rule ⟨rfl, q⟩)⟩
noncomputable def loopF [Frc β] (f : Nat → β → SF (ForInStep β)) : Nat → Nat → β → SF β
  | 0, _, b, n => some (b, n)
  | k + 1, i, b, n => Option.casesOn (f i b n) none fun r => Prod.casesOn r fun st n' => ForInStep.casesOn st (fun b' => some (b', n')) (fun b' => Frc.k b' fun b'' => Frc.k (i + 1) fun i' => loopF f k i' b'' n')
theorem loopF_succ [Frc β] (f : Nat → β → SF (ForInStep β)) (k i : Nat) (b : β) (n : SN) : loopF f (k + 1) i b n = (match f i b n with | none => none | some (.done b', n') => some (b', n') | some (.yield b', n') => loopF f k (i + 1) b' n') := by
  rw [loopF]
  generalize f i b n = o
  rcases o with _ | ⟨_ | b', n'⟩
  · rfl
  · rfl
  · show (Frc.k b' fun b'' => Frc.k (i + 1) fun i' => loopF f k i' b'' n') = _
    rw [Frc.ok, Frc.ok]
theorem loop_ok [Frc β] {f : Nat → β → StateT SortSt Sem (ForInStep β)} (x : ∀ i b, Sim (f i b)) (prog : Program) (w : World) (A : Around) (E : Value → Shared → Prop) (s : Shared) (n' : SN) (b' : β) (Q : β → SortSt → Prop) (q : Q b' n'.st) :
    ∀ (k i : Nat) (b : β) (n : SN), loopF (fun i b => (x i b).f) k i b n = some (b', n') → wpS (model prog w) A E s (forIn (List.range' i k 1) b f) Q n.st
  | 0, i, b, n, h => by
    have h' : some (b, n) = some (b', n') := h
    have e1 : b = b' := congrArg (fun r => (r.getD (b, n)).1) h'
    have e2 : n = n' := congrArg (fun r => (r.getD (b, n)).2) h'
    rw [e1, e2]
    show wpS _ _ _ _ (forIn [] b' f) Q n'.st
    rw [List.forIn_nil]
    exact wpS_pure q
  | k + 1, i, b, n, h => by
    rw [loopF_succ] at h
    rw [List.range'_succ, List.forIn_cons]
    refine wpS_bind ?_
    generalize e : (x i b).f n = o at h
    rcases o with _ | ⟨b1 | b1, n1⟩
    · cases h
    · have h' : some (b1, n1) = some (b', n') := h
      have e1 : b1 = b' := congrArg (fun r => (r.getD (b1, n1)).1) h'
      have e2 : n1 = n' := congrArg (fun r => (r.getD (b1, n1)).2) h'
      rw [e1, e2] at e
      exact (x i b).ok prog w A E s n n' _ e _ (wpS_pure q)
    · exact (x i b).ok prog w A E s n n1 _ e _ (loop_ok x prog w A E s n' b' Q q k (i + 1) b1 n1 h)
noncomputable def rng [Frc β] {a b : Nat} {c : β} {f : Nat → β → StateT SortSt Sem (ForInStep β)} (x : ∀ i b, Sim (f i b)) : Sim (forIn [a:b] c f) :=
  ⟨fun n => Frc.k (b - a) fun k => Frc.k a fun a' => Frc.k c fun c' => loopF (fun i b => (x i b).f) k a' c' n, fun prog w A E s n n' r h Q q => by
    rw [Frc.ok, Frc.ok, Frc.ok] at h
    rw [Std.Legacy.Range.forIn_eq_forIn_range']
    have hsz : ([a:b] : Std.Legacy.Range).size = b - a := by simp [Std.Legacy.Range.size]
    show wpS _ _ _ _ (forIn (List.range' a ([a:b] : Std.Legacy.Range).size 1) c f) Q n.st
    rw [hsz]
    exact loop_ok x prog w A E s n' r Q q _ _ _ _ h⟩
noncomputable def elm (arr : Array Keyed) (i : Nat) : Sim (elem' arr i) :=
  ⟨fun n => Option.casesOn arr.toList[i]? none fun p => some (p, n), fun prog w A E s n n' b h Q q => by
    rw [elem'_eq]
    have e : arr.toList[i]? = arr[i]? := Array.getElem?_toList ..
    rw [e] at h
    generalize arr[i]? = o at h
    cases o with
    | none => cases h
    | some p => cases h; exact wpS_pure q⟩
noncomputable def cpsOf (v : Value) : Option (List Nat) := match v with | .str x _ => some x.cps.toList | _ => none
/-- which of two lists of numbers is the smaller -/
noncomputable def lstLt : List Nat → List Nat → Bool
  | _, [] => false
  | [], _ :: _ => true
  | a :: x, b :: y => Bool.casesOn (Nat.blt a b) (Bool.casesOn (Nat.beq a b) false (lstLt x y)) true
theorem lstLt_ok : ∀ x y : List Nat, lstLt x y = decide (x < y)
  | [], [] => by simp [lstLt]
  | [], _ :: _ => by simp [lstLt]
  | _ :: _, [] => by simp [lstLt]
  | a :: x, b :: y => by
    show (Bool.casesOn (Nat.blt a b) (Bool.casesOn (Nat.beq a b) false (lstLt x y)) true : Bool) = _
    rw [lstLt_ok x y]
    have e1 : Nat.blt a b = decide (a < b) := by
      rw [Bool.eq_iff_iff]; simp [Nat.blt_eq]
    have e2 : Nat.beq a b = decide (a = b) := by
      rw [Bool.eq_iff_iff]; simp
    rw [e1, e2]
    by_cases h1 : a < b
    · simp [h1, List.cons_lt_cons_iff]
    · by_cases h2 : a = b
      · simp [h2, List.cons_lt_cons_iff]
      · simp [h1, h2, List.cons_lt_cons_iff]
noncomputable def ltS (x y : Keyed) : Sim (lt' x y) :=
  ⟨fun n => Option.casesOn (cpsOf x.1) none fun a => Option.casesOn (cpsOf y.1) none fun b => some (some (lstLt a b), n), fun prog w A E s n n' r h Q q => by
    generalize e1 : cpsOf x.1 = o1 at h
    generalize e2 : cpsOf y.1 = o2 at h
    cases o1 with
    | none => cases h
    | some a =>
    cases o2 with
    | none => cases h
    | some b =>
    cases h
    rw [lstLt_ok] at q
    rw [lt'_eq]
    refine wpS_bind (wpS_get ?_)
    have hk : kindOf n.st = oneType' := rfl
    rw [hk, keyLt'_oneType]
    refine wpS_bind (wpS_lift (wpAny_attempt (strKind_oneLt prog w A _ s x.1 y.1 a b e1 e2 ⟨rfl, ?_⟩)))
    exact wpS_pure q⟩
noncomputable def ltA (i j : Nat) : Sim (ltAt' i j) := of (ltAt'_eq i j) (getB fun n => bnd (elm _ i) fun x => bnd (elm _ j) fun y => ltS x y)
noncomputable def lsw (l : List Keyed) (i j : Nat) : List Keyed := Option.casesOn l[i]? l fun x => Option.casesOn l[j]? l fun y => (l.set i y).set j x
theorem lsw_ok (l : List Keyed) (i j : Nat) : l.toArray.swapIfInBounds i j = (lsw l i j).toArray := by
  rw [Array.swapIfInBounds_def]
  by_cases hi : i < l.length
  · by_cases hj : j < l.length
    · rw [dif_pos (by simpa using hi), dif_pos (by simpa using hj)]
      unfold lsw
      rw [List.getElem?_eq_getElem hi, List.getElem?_eq_getElem hj]
      simp
    · rw [dif_pos (by simpa using hi), dif_neg (by simpa using hj)]
      unfold lsw
      rw [List.getElem?_eq_getElem hi, List.getElem?_eq_none (by omega)]
  · rw [dif_neg (by simpa using hi)]
    unfold lsw
    rw [List.getElem?_eq_none (by omega)]
/-- d changes of places, one behind the other -/
noncomputable def lswsG (p q : Nat → Nat) : Nat → Nat → List Keyed → List Keyed
  | 0, _, l => l
  | d + 1, k, l => Frc.k (p k) fun x => Frc.k (q k) fun y => frcL (lsw l x y) fun l' => Frc.k (k + 1) fun k' => lswsG p q d k' l'
noncomputable def lsws (p q : Nat → Nat) (l : List Keyed) (d : Nat) : List Keyed := lswsG p q d 0 l
theorem lsws_go (p q : Nat → Nat) : ∀ (d k : Nat) (l : List Keyed), (List.range' k d 1).foldl (fun a k => a.swapIfInBounds (p k) (q k)) l.toArray = (lswsG p q d k l).toArray
  | 0, k, l => rfl
  | d + 1, k, l => by
    rw [List.range'_succ, List.foldl_cons, lsw_ok, lsws_go p q d (k + 1) (lsw l (p k) (q k)), lswsG, Frc.ok, Frc.ok, frcL_ok, Frc.ok]
theorem lsws_ok (p q : Nat → Nat) (l : List Keyed) (d : Nat) : (List.range d).foldl (fun a k => a.swapIfInBounds (p k) (q k)) l.toArray = (lsws p q l d).toArray := by
  rw [List.range_eq_range']; exact lsws_go p q d 0 l
noncomputable def rev (i j : Nat) : Sim (reverseSlice' i j) := of (reverseSlice'_eq i j) (mod (fun n => ⟨(lsws (fun k => i + k) (fun k => j - 1 - k) n.a.toList ((j - i) / 2)).toArray, n.p, n.g⟩) fun n => by
  show SortSt.mk' oneType' _ n.p n.g none = SortSt.mk' oneType' _ n.p n.g none
  rw [← lsws_ok]; rfl)
noncomputable def mvd (i j : Nat) : Sim (moveDown' i j) := of (moveDown'_eq i j) (mod (fun n => ⟨(lsws (fun k => i - k) (fun k => i - k - 1) n.a.toList (i - j)).toArray, n.p, n.g⟩) fun n => by
  show SortSt.mk' oneType' _ n.p n.g none = SortSt.mk' oneType' _ n.p n.g none
  rw [← lsws_ok]; rfl)
end Sim
end L2
namespace L2
namespace Sim
open PySem PyProof.Rows
variable {α β γ : Type}
noncomputable def bndO [Frc α] {m : StateT SortSt Sem (Option α)} {g : Option α → StateT SortSt Sem β} (x : Sim m) (y : Sim (g none)) (z : ∀ a, Sim (g (some a))) : Sim (m >>= g) := bnd x fun o => Option.casesOn o y z
noncomputable def bndP [Frc α] [Frc γ] {m : StateT SortSt Sem (Option α × γ)} {g : Option α × γ → StateT SortSt Sem β} (x : Sim m) (y : ∀ c, Sim (g (none, c))) (z : ∀ a c, Sim (g (some a, c))) : Sim (m >>= g) := bnd x fun o => Prod.casesOn o fun p c => Option.casesOn p (y c) (fun a => z a c)
noncomputable def setv {x : SortSt} (v : SN) (e : v.st = x) : Sim (set x : StateT SortSt Sem PUnit) :=
  ⟨fun _ => Frc.k v fun n' => some (⟨⟩, n'), fun prog w A E s n n' b h Q q => by
    rw [Frc.ok] at h
    cases h
    refine wpS_modify (f := fun _ => x) (e ▸ q)⟩
noncomputable def binS (lo n ok : Nat) : Sim (binarySort' lo n ok) := of (binarySort'_eq lo n ok) (by
  refine bndP (rng fun k b => ?_) (fun c => ?_) fun r c => ?_
  · refine bndP (rng fun i b => ?_) (fun c => ?_) fun r c => ?_
    · dsimp only
      refine ite' (ret _) (bndO (ltA _ _) ?_ fun less => ?_)
      · exact ret _
      · exact ite' (ret _) (ret _)
    · exact bnd (mvd _ _) fun _ => ret _
    · exact ret _
  · exact ret _
  · exact ret _)
noncomputable def cntS (lo nrem : Nat) : Sim (countRun' lo nrem) := of (countRun'_eq lo nrem) (by
  repeat' first
    | with_reducible exact ret _
    | with_reducible refine bndO (ltA _ _) ?_ fun _ => ?_
    | with_reducible refine bndO (ltS _ _) ?_ fun _ => ?_
    | with_reducible refine bnd (elm _ _) fun _ => ?_
    | with_reducible refine bnd (rev _ _) fun _ => ?_
    | with_reducible refine bnd (low _) fun _ => ?_
    | with_reducible refine bndP (rng fun _ _ => ?_) (fun _ => ?_) fun _ _ => ?_
    | with_reducible refine ite' ?_ ?_
    | with_reducible refine getB fun _ => ?_
    | dsimp only)
noncomputable abbrev elemQ : Array Keyed → Nat → StateT SortSt Sem Keyed := sortPriv% PySem.Builtin.elem
noncomputable abbrev ltQ : Keyed → Keyed → StateT SortSt Sem (Option Bool) := sortPriv% PySem.Builtin.lt
noncomputable abbrev gallopQ : Bool → Keyed → Array Keyed → Nat → Nat → Nat → StateT SortSt Sem (Option Nat) := sortPriv% PySem.Builtin.gallop
noncomputable abbrev mergeLoQ : Array Keyed → Array Keyed → StateT SortSt Sem (Array Keyed) := sortPriv% PySem.Builtin.mergeLo
noncomputable abbrev mergeHiQ : Array Keyed → Array Keyed → StateT SortSt Sem (Array Keyed) := sortPriv% PySem.Builtin.mergeHi
noncomputable abbrev setGQ : Nat → StateT SortSt Sem Unit := sortPriv% PySem.Builtin.setMinGallop
noncomputable def elP (arr : Array Keyed) (i : Nat) : Sim (elemQ arr i) := elm arr i
noncomputable def ltP (x y : Keyed) : Sim (ltQ x y) := ltS x y
noncomputable def sgP (g : Nat) : Sim (setGQ g) := mod (fun n => ⟨n.a, n.p, g⟩) fun n => rfl
noncomputable def nop (t : String) : Sim (liftM (unsupported t : Sem α) : StateT SortSt Sem α) := no
noncomputable def gaP (left : Bool) (key : Keyed) (arr : Array Keyed) (base n hint : Nat) : Sim (gallopQ left key arr base n hint) := by
  refine bndO ?_ ?_ fun _ => ?_
  repeat' first
    | with_reducible exact ret _
    | with_reducible refine bndO (ltP _ _) ?_ fun _ => ?_
    | with_reducible exact ltP _ _
    | with_reducible refine bnd (elP _ _) fun _ => ?_
    | with_reducible refine bnd (low _) fun _ => ?_
    | with_reducible refine bndP (rng fun _ _ => ?_) (fun _ => ?_) fun _ _ => ?_
    | with_reducible refine ite' ?_ ?_
    | with_reducible refine bndO (bnd (elP _ _) fun _ => ?_) ?_ fun _ => ?_
    | with_reducible refine bnd (ltP _ _) fun _ => ?_
    | with_reducible refine getB fun _ => ?_
    | dsimp only
set_option maxHeartbeats 2000000 in
noncomputable def loP (a b : Array Keyed) : Sim (mergeLoQ a b) := by
  refine bnd (low _) fun _ => ?_
  repeat' first
    | with_reducible exact ret _
    | with_reducible exact nop _
    | with_reducible refine bndO (ltP _ _) ?_ fun _ => ?_
    | with_reducible exact ltP _ _
    | with_reducible refine bndO (gaP _ _ _ _ _ _) ?_ fun _ => ?_
    | with_reducible refine bnd (elP _ _) fun _ => ?_
    | with_reducible refine bnd (low _) fun _ => ?_
    | with_reducible refine bnd (sgP _) fun _ => ?_
    | with_reducible refine bndP (rng fun _ _ => ?_) (fun _ => ?_) fun _ _ => ?_
    | with_reducible refine ite' ?_ ?_
    | with_reducible refine getB fun _ => ?_
    | dsimp only
set_option maxHeartbeats 2000000 in
noncomputable def hiP (a b : Array Keyed) : Sim (mergeHiQ a b) := by
  refine bnd (low _) fun _ => ?_
  repeat' first
    | with_reducible exact ret _
    | with_reducible exact nop _
    | with_reducible refine bndO (ltP _ _) ?_ fun _ => ?_
    | with_reducible exact ltP _ _
    | with_reducible refine bndO (gaP _ _ _ _ _ _) ?_ fun _ => ?_
    | with_reducible refine bnd (elP _ _) fun _ => ?_
    | with_reducible refine bnd (low _) fun _ => ?_
    | with_reducible refine bnd (sgP _) fun _ => ?_
    | with_reducible refine bndP (rng fun _ _ => ?_) (fun _ => ?_) fun _ _ => ?_
    | with_reducible refine ite' ?_ ?_
    | with_reducible refine getB fun _ => ?_
    | dsimp only

/-- the items of ms put into l from place c on -/
noncomputable def lfill (c : Nat) : Nat → List Keyed → List Keyed → List Keyed
  | _, [], l => l
  | j, m :: ms, l => Frc.k (c + j) fun i => frcL (l.set i m) fun l' => Frc.k (j + 1) fun j' => lfill c j' ms l'
theorem lfill_ok (c : Nat) : ∀ (ms : List Keyed) (j : Nat) (l : List Keyed), (ms.zipIdx j).foldl (fun a x => a.setIfInBounds (c + x.snd) x.fst) l.toArray = (lfill c j ms l).toArray
  | [], _, _ => rfl
  | m :: ms, j, l => by
    rw [List.zipIdx_cons, List.foldl_cons, lfill, Frc.ok, frcL_ok, Frc.ok, ← lfill_ok c ms (j + 1)]
    simp
noncomputable def filS (c : Nat) (ms : Array Keyed) {F : SortSt → SortSt} (e : ∀ s, F s = SortSt.mk' (kindOf s) (ms.toList.zipIdx.foldl (fun a x => a.setIfInBounds (c + x.snd) x.fst) (arrOf s)) (pendingOf s) (gallopOf s) (failedOf s)) : Sim (modify F : StateT SortSt Sem PUnit) :=
  mod (fun n => ⟨(lfill c 0 ms.toList n.a.toList).toArray, n.p, n.g⟩) fun n => by
    rw [e]
    show SortSt.mk' oneType' _ n.p n.g none = SortSt.mk' oneType' _ n.p n.g none
    rw [← lfill_ok]
noncomputable def matS (i : Nat) : Sim (mergeAt' i) := by
  refine getB fun n => ?_
  dsimp only
  generalize n.p[i]? = o1
  generalize n.p[i + 1]? = o2
  rcases o1 with _ | ⟨sa, na, pw⟩
  · exact no
  rcases o2 with _ | ⟨sb, nb, pv⟩
  · exact no
  dsimp only
  refine bnd (setv ⟨n.a, (n.p.setIfInBounds i (sa, na + nb, pw)).eraseIdxIfInBounds (i + 1), n.g⟩ rfl) fun _ => ?_
  refine bnd (elP _ _) fun _ => ?_
  refine bndO (gaP _ _ _ _ _ _) (ret _) fun k => ?_
  dsimp only
  refine ite' (ret _) ?_
  refine bnd (elP _ _) fun _ => ?_
  refine bndO (gaP _ _ _ _ _ _) (ret _) fun nb => ?_
  dsimp only
  refine ite' (ret _) (ite' ?_ ?_)
  · refine bnd (loP _ _) fun mg => ?_
    refine bnd (filS (sa + k) mg fun _ => rfl) fun _ => getB fun n' => ret _
  · refine bnd (hiP _ _) fun mg => ?_
    refine bnd (filS (sa + k) mg fun _ => rfl) fun _ => getB fun n' => ret _
noncomputable def modP {F : SortSt → SortSt} (e : ∀ n : SN, SortSt.mk' oneType' n.a (pendingOf (F n.st)) n.g none = F n.st) : Sim (modify F : StateT SortSt Sem PUnit) := mod (fun n => ⟨n.a, pendingOf (F n.st), n.g⟩) e
set_option maxHeartbeats 2000000 in
noncomputable def srtS : Sim sortRuns' := of sortRuns'_eq (by
  refine getB fun n => ?_
  dsimp only
  refine bndP (rng fun i b => ?_) (fun c => ?_) fun r c => ret _
  · refine ite' (ret _) (bndO (cntS _ _) (ret _) fun found => ?_)
    refine ite' (bnd (low _) fun _ => bnd (binS _ _ _) fun _ => ite' (ret _) ?_) ?_
    · refine getB fun n' => ?_
      generalize (pendingOf n'.st).back? = o
      rcases o with _ | ⟨s1, n1, p1⟩
      · exact bnd (modP fun _ => rfl) fun _ => ret _
      · dsimp only
        refine bndP (rng fun _ _ => ?_) (fun _ => ?_) fun _ _ => ret _
        · refine getB fun n'' => ?_
          generalize (if (pendingOf n''.st).size > 1 then (pendingOf n''.st)[(pendingOf n''.st).size - 2]? else none) = o
          rcases o with _ | ⟨s2, n2, p2⟩
          · exact ret _
          · dsimp only
            exact ite' (ret _) (bnd (matS _) fun _ => ite' (ret _) (ret _))
        · exact bnd (modP fun _ => rfl) fun _ => bnd (modP fun _ => rfl) fun _ => ret _
    · refine getB fun n' => ?_
      generalize (pendingOf n'.st).back? = o
      rcases o with _ | ⟨s1, n1, p1⟩
      · exact bnd (modP fun _ => rfl) fun _ => ret _
      · dsimp only
        refine bndP (rng fun _ _ => ?_) (fun _ => ?_) fun _ _ => ret _
        · refine getB fun n'' => ?_
          generalize (if (pendingOf n''.st).size > 1 then (pendingOf n''.st)[(pendingOf n''.st).size - 2]? else none) = o
          rcases o with _ | ⟨s2, n2, p2⟩
          · exact ret _
          · dsimp only
            exact ite' (ret _) (bnd (matS _) fun _ => ite' (ret _) (ret _))
        · exact bnd (modP fun _ => rfl) fun _ => bnd (modP fun _ => rfl) fun _ => ret _
  · dsimp only
    refine bndP (rng fun i b => ?_) (fun c => ?_) fun r c => ret _
    · refine getB fun n' => ?_
      refine ite' (ret _) (bnd (matS _) fun _ => ite' (ret _) (ret _))
    · exact ret _)
end Sim
end L2

/-! ### all rows of a size up to 6, in order -/
namespace Br
open L2
/-- the rows of a size as the law writes them before it sorts -/
noncomputable def fwd (S : Nat → List (List Nat)) (n : Nat) : List (List Nat) := (List.range n).flatMap fun k => (S k).flatMap fun a => (S (n - 1 - k)).map fun b => 40 :: a ++ 41 :: b
noncomputable def insL (x : List Nat) : List (List Nat) → List (List Nat)
  | [] => [x]
  | y :: ys => if Sim.lstLt y x then y :: insL x ys else x :: y :: ys
noncomputable def srtL : List (List Nat) → List (List Nat)
  | [] => []
  | x :: xs => insL x (srtL xs)
theorem insL_perm (x : List Nat) : ∀ l, (insL x l).Perm (x :: l)
  | [] => .refl _
  | y :: ys => by
    unfold insL
    split
    · exact ((insL_perm x ys).cons y).trans (.swap x y ys)
    · exact .refl _
theorem srtL_perm : ∀ l, (srtL l).Perm l
  | [] => .refl _
  | x :: xs => (insL_perm x _).trans ((srtL_perm xs).cons x)
/-- by size, in order -/
noncomputable def S : Nat → List (List Nat)
  | 0 => [[]]
  | 1 => [[40,41]]
  | 2 => [[40,40,41,41], [40,41,40,41]]
  | 3 => [[40,40,40,41,41,41], [40,40,41,40,41,41], [40,40,41,41,40,41], [40,41,40,40,41,41], [40,41,40,41,40,41]]
  | 4 => [[40,40,40,40,41,41,41,41], [40,40,40,41,40,41,41,41], [40,40,40,41,41,40,41,41], [40,40,40,41,41,41,40,41], [40,40,41,40,40,41,41,41], [40,40,41,40,41,40,41,41],
    [40,40,41,40,41,41,40,41], [40,40,41,41,40,40,41,41], [40,40,41,41,40,41,40,41], [40,41,40,40,40,41,41,41], [40,41,40,40,41,40,41,41], [40,41,40,40,41,41,40,41],
    [40,41,40,41,40,40,41,41], [40,41,40,41,40,41,40,41]]
  | 5 => [[40,40,40,40,40,41,41,41,41,41], [40,40,40,40,41,40,41,41,41,41], [40,40,40,40,41,41,40,41,41,41], [40,40,40,40,41,41,41,40,41,41], [40,40,40,40,41,41,41,41,40,41],
    [40,40,40,41,40,40,41,41,41,41], [40,40,40,41,40,41,40,41,41,41], [40,40,40,41,40,41,41,40,41,41], [40,40,40,41,40,41,41,41,40,41], [40,40,40,41,41,40,40,41,41,41],
    [40,40,40,41,41,40,41,40,41,41], [40,40,40,41,41,40,41,41,40,41], [40,40,40,41,41,41,40,40,41,41], [40,40,40,41,41,41,40,41,40,41], [40,40,41,40,40,40,41,41,41,41],
    [40,40,41,40,40,41,40,41,41,41], [40,40,41,40,40,41,41,40,41,41], [40,40,41,40,40,41,41,41,40,41], [40,40,41,40,41,40,40,41,41,41], [40,40,41,40,41,40,41,40,41,41],
    [40,40,41,40,41,40,41,41,40,41], [40,40,41,40,41,41,40,40,41,41], [40,40,41,40,41,41,40,41,40,41], [40,40,41,41,40,40,40,41,41,41], [40,40,41,41,40,40,41,40,41,41],
    [40,40,41,41,40,40,41,41,40,41], [40,40,41,41,40,41,40,40,41,41], [40,40,41,41,40,41,40,41,40,41], [40,41,40,40,40,40,41,41,41,41], [40,41,40,40,40,41,40,41,41,41],
    [40,41,40,40,40,41,41,40,41,41], [40,41,40,40,40,41,41,41,40,41], [40,41,40,40,41,40,40,41,41,41], [40,41,40,40,41,40,41,40,41,41], [40,41,40,40,41,40,41,41,40,41],
    [40,41,40,40,41,41,40,40,41,41], [40,41,40,40,41,41,40,41,40,41], [40,41,40,41,40,40,40,41,41,41], [40,41,40,41,40,40,41,40,41,41], [40,41,40,41,40,40,41,41,40,41],
    [40,41,40,41,40,41,40,40,41,41], [40,41,40,41,40,41,40,41,40,41]]
  | 6 => [[40,40,40,40,40,40,41,41,41,41,41,41], [40,40,40,40,40,41,40,41,41,41,41,41], [40,40,40,40,40,41,41,40,41,41,41,41], [40,40,40,40,40,41,41,41,40,41,41,41],
    [40,40,40,40,40,41,41,41,41,40,41,41], [40,40,40,40,40,41,41,41,41,41,40,41], [40,40,40,40,41,40,40,41,41,41,41,41], [40,40,40,40,41,40,41,40,41,41,41,41],
    [40,40,40,40,41,40,41,41,40,41,41,41], [40,40,40,40,41,40,41,41,41,40,41,41], [40,40,40,40,41,40,41,41,41,41,40,41], [40,40,40,40,41,41,40,40,41,41,41,41],
    [40,40,40,40,41,41,40,41,40,41,41,41], [40,40,40,40,41,41,40,41,41,40,41,41], [40,40,40,40,41,41,40,41,41,41,40,41], [40,40,40,40,41,41,41,40,40,41,41,41],
    [40,40,40,40,41,41,41,40,41,40,41,41], [40,40,40,40,41,41,41,40,41,41,40,41], [40,40,40,40,41,41,41,41,40,40,41,41], [40,40,40,40,41,41,41,41,40,41,40,41],
    [40,40,40,41,40,40,40,41,41,41,41,41], [40,40,40,41,40,40,41,40,41,41,41,41], [40,40,40,41,40,40,41,41,40,41,41,41], [40,40,40,41,40,40,41,41,41,40,41,41],
    [40,40,40,41,40,40,41,41,41,41,40,41], [40,40,40,41,40,41,40,40,41,41,41,41], [40,40,40,41,40,41,40,41,40,41,41,41], [40,40,40,41,40,41,40,41,41,40,41,41],
    [40,40,40,41,40,41,40,41,41,41,40,41], [40,40,40,41,40,41,41,40,40,41,41,41], [40,40,40,41,40,41,41,40,41,40,41,41], [40,40,40,41,40,41,41,40,41,41,40,41],
    [40,40,40,41,40,41,41,41,40,40,41,41], [40,40,40,41,40,41,41,41,40,41,40,41], [40,40,40,41,41,40,40,40,41,41,41,41], [40,40,40,41,41,40,40,41,40,41,41,41],
    [40,40,40,41,41,40,40,41,41,40,41,41], [40,40,40,41,41,40,40,41,41,41,40,41], [40,40,40,41,41,40,41,40,40,41,41,41], [40,40,40,41,41,40,41,40,41,40,41,41],
    [40,40,40,41,41,40,41,40,41,41,40,41], [40,40,40,41,41,40,41,41,40,40,41,41], [40,40,40,41,41,40,41,41,40,41,40,41], [40,40,40,41,41,41,40,40,40,41,41,41],
    [40,40,40,41,41,41,40,40,41,40,41,41], [40,40,40,41,41,41,40,40,41,41,40,41], [40,40,40,41,41,41,40,41,40,40,41,41], [40,40,40,41,41,41,40,41,40,41,40,41],
    [40,40,41,40,40,40,40,41,41,41,41,41], [40,40,41,40,40,40,41,40,41,41,41,41], [40,40,41,40,40,40,41,41,40,41,41,41], [40,40,41,40,40,40,41,41,41,40,41,41],
    [40,40,41,40,40,40,41,41,41,41,40,41], [40,40,41,40,40,41,40,40,41,41,41,41], [40,40,41,40,40,41,40,41,40,41,41,41], [40,40,41,40,40,41,40,41,41,40,41,41],
    [40,40,41,40,40,41,40,41,41,41,40,41], [40,40,41,40,40,41,41,40,40,41,41,41], [40,40,41,40,40,41,41,40,41,40,41,41], [40,40,41,40,40,41,41,40,41,41,40,41],
    [40,40,41,40,40,41,41,41,40,40,41,41], [40,40,41,40,40,41,41,41,40,41,40,41], [40,40,41,40,41,40,40,40,41,41,41,41], [40,40,41,40,41,40,40,41,40,41,41,41],
    [40,40,41,40,41,40,40,41,41,40,41,41], [40,40,41,40,41,40,40,41,41,41,40,41], [40,40,41,40,41,40,41,40,40,41,41,41], [40,40,41,40,41,40,41,40,41,40,41,41],
    [40,40,41,40,41,40,41,40,41,41,40,41], [40,40,41,40,41,40,41,41,40,40,41,41], [40,40,41,40,41,40,41,41,40,41,40,41], [40,40,41,40,41,41,40,40,40,41,41,41],
    [40,40,41,40,41,41,40,40,41,40,41,41], [40,40,41,40,41,41,40,40,41,41,40,41], [40,40,41,40,41,41,40,41,40,40,41,41], [40,40,41,40,41,41,40,41,40,41,40,41],
    [40,40,41,41,40,40,40,40,41,41,41,41], [40,40,41,41,40,40,40,41,40,41,41,41], [40,40,41,41,40,40,40,41,41,40,41,41], [40,40,41,41,40,40,40,41,41,41,40,41],
    [40,40,41,41,40,40,41,40,40,41,41,41], [40,40,41,41,40,40,41,40,41,40,41,41], [40,40,41,41,40,40,41,40,41,41,40,41], [40,40,41,41,40,40,41,41,40,40,41,41],
    [40,40,41,41,40,40,41,41,40,41,40,41], [40,40,41,41,40,41,40,40,40,41,41,41], [40,40,41,41,40,41,40,40,41,40,41,41], [40,40,41,41,40,41,40,40,41,41,40,41],
    [40,40,41,41,40,41,40,41,40,40,41,41], [40,40,41,41,40,41,40,41,40,41,40,41], [40,41,40,40,40,40,40,41,41,41,41,41], [40,41,40,40,40,40,41,40,41,41,41,41],
    [40,41,40,40,40,40,41,41,40,41,41,41], [40,41,40,40,40,40,41,41,41,40,41,41], [40,41,40,40,40,40,41,41,41,41,40,41], [40,41,40,40,40,41,40,40,41,41,41,41],
    [40,41,40,40,40,41,40,41,40,41,41,41], [40,41,40,40,40,41,40,41,41,40,41,41], [40,41,40,40,40,41,40,41,41,41,40,41], [40,41,40,40,40,41,41,40,40,41,41,41],
    [40,41,40,40,40,41,41,40,41,40,41,41], [40,41,40,40,40,41,41,40,41,41,40,41], [40,41,40,40,40,41,41,41,40,40,41,41], [40,41,40,40,40,41,41,41,40,41,40,41],
    [40,41,40,40,41,40,40,40,41,41,41,41], [40,41,40,40,41,40,40,41,40,41,41,41], [40,41,40,40,41,40,40,41,41,40,41,41], [40,41,40,40,41,40,40,41,41,41,40,41],
    [40,41,40,40,41,40,41,40,40,41,41,41], [40,41,40,40,41,40,41,40,41,40,41,41], [40,41,40,40,41,40,41,40,41,41,40,41], [40,41,40,40,41,40,41,41,40,40,41,41],
    [40,41,40,40,41,40,41,41,40,41,40,41], [40,41,40,40,41,41,40,40,40,41,41,41], [40,41,40,40,41,41,40,40,41,40,41,41], [40,41,40,40,41,41,40,40,41,41,40,41],
    [40,41,40,40,41,41,40,41,40,40,41,41], [40,41,40,40,41,41,40,41,40,41,40,41], [40,41,40,41,40,40,40,40,41,41,41,41], [40,41,40,41,40,40,40,41,40,41,41,41],
    [40,41,40,41,40,40,40,41,41,40,41,41], [40,41,40,41,40,40,40,41,41,41,40,41], [40,41,40,41,40,40,41,40,40,41,41,41], [40,41,40,41,40,40,41,40,41,40,41,41],
    [40,41,40,41,40,40,41,40,41,41,40,41], [40,41,40,41,40,40,41,41,40,40,41,41], [40,41,40,41,40,40,41,41,40,41,40,41], [40,41,40,41,40,41,40,40,40,41,41,41],
    [40,41,40,41,40,41,40,40,41,40,41,41], [40,41,40,41,40,41,40,40,41,41,40,41], [40,41,40,41,40,41,40,41,40,40,41,41], [40,41,40,41,40,41,40,41,40,41,40,41]]
  | _ => []
theorem S_fix : ∀ n, n < 7 → 0 < n → srtL (fwd S n) = S n := by decide +kernel
theorem S_perm {n : Nat} (h : n < 7) (h0 : 0 < n) : (S n).Perm (fwd S n) := by
  have := srtL_perm (fwd S n)
  rwa [S_fix n h h0] at this
theorem S_few : ∀ n, n < 7 → (S n).length ≤ 132 ∧ (n < 6 → (S n).length < 64) := by decide +kernel
theorem S_all : ∀ n, n < 7 → ∀ r ∈ S n, r.length = 2 * n ∧ (∀ c ∈ r, c = 40 ∨ c = 41) := by decide +kernel
theorem S_cnt : ∀ n, n < 7 → ∀ b, b < 9 → cT n b = ((S n).filter fun r => decide (topOf r ≤ (b : Int))).length := by decide +kernel
end Br
namespace L2
open PySem PyProof.Rows
noncomputable instance frcList {α : Type} [Frc α] : Frc (List α) where
  k p g := frcL p g
  ok p g := frcL_ok p g
/-- the run of the sort over texts of the signs l -/
noncomputable def run6 (l : List (List Nat)) (tk : Nat → Tok) : Option (List (Option (List Nat))) :=
  frcL l fun l => (Sim.srtS.f ⟨(l.zipIdx.map fun x => ((.str ⟨x.1.toArray⟩ (tk x.2), .str ⟨x.1.toArray⟩ (tk x.2)) : Keyed)).toArray, #[], 7⟩).map fun r => r.2.a.toList.map fun p => Sim.cpsOf p.2
theorem run6_ok (tk : Nat → Tok) : run6 (Br.fwd Br.S 6) tk = some ((Br.S 6).map some) := by kernel_rfl
end L2

/-! ### sorted, where the run is known -/
namespace L2
open PySem PyProof.Rows
section
variable {prog : Program} {w : World} {A : Around} {E : Value → Shared → Prop} {s : Shared}
theorem sort_run {x : Addr} {us : List Value} {c : Nat} {P : Fin → Shared → Prop} {n' : SN} (hx : s.heap.get? x = some (seqObj "list" us.toArray c))
    (h2 : 2 ≤ us.length) (hk : keyKind' us.toArray = pure oneType') (hr : Sim.srtS.f ⟨us.toArray.zip us.toArray, #[], 7⟩ = some ((), n')) (hz : n'.a.size ≤ sizeLine)
    (q : P (.done (.ret .none)) { s with heap := sortedHeap s.heap x us (n'.a.map (·.2)) }) (hz0 : us.length ≤ sizeLine) :
    wpAny (model prog w) A (Builtin.«list.sort» ⟨[.ref x], []⟩) P E s := by
  have hlt := Heap.lt_size hx
  obtain ⟨d, hd⟩ : ∃ d, (s.heap.update x (Obj.mapSeq fun _ => #[])).get? x = some (seqObj "list" #[] d) := ⟨_, get?_update_seq hx fun _ => #[]⟩
  have h6 : (((s.heap.update x (Obj.mapSeq fun _ => #[])).push (seqObj "tuple" us.toArray 0)).push (seqObj "list" #[] 0)).get? x = some (seqObj "list" #[] d) := by
    rw [Heap.get?_push_ne, Heap.get?_push_ne, hd]
    · rw [Heap.size_update]; exact Nat.ne_of_lt hlt
    · rw [size_push', Heap.size_update]; exact Nat.ne_of_lt (Nat.lt_succ_of_lt hlt)
  have hsz : ¬ us.toArray.size < 2 := by rw [List.size_toArray]; omega
  rw [list_sort_plain]
  refine wpAny_bind (listItems_at hx rfl (wpAny_bind (listUpdate_at hx rfl (wpAny_bind (seqEpoch_at hd rfl (wpAny_bind (wpAny_newTuple (wpAny_bind (wpAny_newList (wpAny_holding ?_))))))))))
  show wpAny (model prog w) A _ P E { s with heap := ((s.heap.update x (Obj.mapSeq fun _ => #[])).push (seqObj "tuple" us.toArray 0)).push (seqObj "list" #[] 0) }
  dsimp only
  rw [if_neg hsz, if_neg hsz, hk]
  refine wpAny_bind (wpAny_pure (wpAny_bind (wpAny_mono (Sim.srtS.ok prog w A E _ _ _ _ hr (fun _ st => st = n'.st) rfl) ?_ fun _ _ e => e)))
  rintro ⟨⟨⟩, st'⟩ s' ⟨rfl, rfl⟩
  dsimp only
  refine wpAny_bind (seqEpoch_at h6 rfl (wpAny_bind (listUpdate_at h6 rfl ?_ (hsz2 := by rw [Array.size_map]; exact Nat.le_succ_of_le hz))))
  simp only [bne_self_eq_false, Bool.false_eq_true, if_false]
  exact wpAny_pure q
theorem sorted_run {x : Addr} {us : List Value} {Q : Value → Shared → Prop} {n' : SN} (hx : s.heap.IsList x us.toArray)
    (h2 : 2 ≤ us.length) (hk : keyKind' us.toArray = pure oneType') (hr : Sim.srtS.f ⟨us.toArray.zip us.toArray, #[], 7⟩ = some ((), n')) (hz : n'.a.size ≤ sizeLine)
    (q : Q (.ref (s.heap.objs.size + 1)) { s with heap := sortedAll s.heap us (n'.a.map (·.2)) }) (hz0 : us.length ≤ sizeLine) :
    wpAny (model prog w) A (call (.builtin "sorted") [.ref x]) Q E s := by
  refine Calls.call_function_entry kind_sorted plain_sorted entry_sorted (args_sorted1 _) ?_
  unfold Builtin.«sorted»
  refine wpAny_bind (m := checkCount "sorted" 1 1 _) (wpAny_pure (wpAny_bind (collect_list hx (wpAny_bind (wpAny_newList ?_)) hz0)))
  have hs0 : ((s.heap.push (seqObj "list" #[] 0)).update s.heap.objs.size (Obj.mapSeq (· ++ us.toArray))).objs.size = s.heap.objs.size + 1 := by rw [Heap.size_update, size_push']
  have hL : (((s.heap.push (seqObj "list" #[] 0)).update s.heap.objs.size (Obj.mapSeq (· ++ us.toArray))).push (seqObj "list" us.toArray 0)).get? (s.heap.objs.size + 1) = some (seqObj "list" us.toArray 0) := by
    rw [← hs0]; exact Heap.get?_push_size _ rfl
  show wpAny _ _ _ _ _ { s with heap := ((s.heap.push (seqObj "list" #[] 0)).update s.heap.objs.size (Obj.mapSeq (· ++ us.toArray))).push (seqObj "list" us.toArray 0) }
  rw [hs0]
  exact wpAny_bind (wpAny_holding (wpAny_call_entry slot_list_sort ⟨_, hL, rfl⟩ entry_list_sort (sort_run hL h2 hk hr hz ⟨_, rfl, wpAny_pure ⟨_, rfl, q⟩⟩ hz0) (args_list_sort _)))
end
end L2
namespace L2
open PySem PyProof.Rows
noncomputable def mkS (l : List Nat) : Str := ⟨l.toArray⟩
noncomputable def tokOf : Value → Tok
  | .str _ t => t
  | _ => 0
theorem strs_known {us : List Value} {ls : List (List Nat)} (h : StrsAre us (ls.map mkS)) : ∃ tk : Nat → Tok, us = ls.zipIdx.map fun x => Value.str ⟨x.1.toArray⟩ (tk x.2) := by
  refine ⟨fun i => tokOf (us.getD i .none), ?_⟩
  have e := h.strs
  have hl : us.length = ls.length := by have := congrArg List.length e; simpa using this
  refine List.ext_getElem (by simpa using hl) fun i h1 h2 => ?_
  obtain ⟨x, t, hx⟩ := h.all us[i] (List.getElem_mem h1)
  have e1 : strOf us[i] = mkS (ls[i]'(by omega)) := by
    have : (us.map strOf)[i]'(by simpa using h1) = (ls.map mkS)[i]'(by simp; omega) := by congr 1
    simpa using this
  rw [hx] at e1
  have e1' : x = mkS (ls[i]'(by omega)) := e1
  have e2 : us.getD i .none = us[i] := by simp [List.getD_eq_getElem?_getD, h1]
  simp only [List.getElem_map, List.getElem_zipIdx, Nat.zero_add, e2]
  rw [hx, e1']
  rfl
theorem two_of {α : Type} : ∀ {us : List α}, 2 ≤ us.length → ∃ a b c, us = a :: b :: c
  | [], h => absurd h (by simp)
  | [_], h => absurd h (by simp)
  | a :: b :: c, _ => ⟨a, b, c, rfl⟩
theorem cps_known : ∀ {vs : List Value} {ms : List (List Nat)}, vs.map Sim.cpsOf = ms.map some → StrsAre vs (ms.map mkS)
  | [], [], _ => .nil
  | [], _ :: _, h => by cases h
  | _ :: _, [], h => by cases h
  | v :: vs, m :: ms, h => by
    rw [List.map_cons, List.map_cons] at h
    have h1 := (List.cons.inj h).1
    have h2 := cps_known (List.cons.inj h).2
    cases v with
    | str x t =>
      have e : x.cps.toList = m := Option.some.inj h1
      have e' : x = mkS m := by subst e; rfl
      rw [e', List.map_cons]
      exact .cons _ t h2
    | _ => cases h1
section
variable {prog : Program} {w : World} {A : Around} {E : Value → Shared → Prop} {s : Shared}
theorem sorted_known {x : Addr} {us : List Value} {ls ms : List (List Nat)} {Q : Value → Shared → Prop} (hx : s.heap.IsList x us.toArray) (hS : StrsAre us (ls.map mkS)) (h2 : 2 ≤ ls.length) (hz : ls.length ≤ sizeLine)
    (hr : ∀ tk, run6 ls tk = some (ms.map some)) (hm : ms.length ≤ sizeLine)
    (q : ∀ out : Array Value, StrsAre out.toList (ms.map mkS) → Q (.ref (s.heap.objs.size + 1)) { s with heap := sortedAll s.heap us out }) :
    wpAny (model prog w) A (call (.builtin "sorted") [.ref x]) Q E s := by
  obtain ⟨tk, e⟩ := strs_known hS
  have hl : us.length = ls.length := by have := congrArg List.length hS.strs; simpa using this
  have h2' : 2 ≤ us.length := by omega
  have r := hr tk
  unfold run6 at r
  rw [frcL_ok] at r
  have ez : us.toArray.zip us.toArray = (ls.zipIdx.map fun x => ((.str ⟨x.1.toArray⟩ (tk x.2), .str ⟨x.1.toArray⟩ (tk x.2)) : Keyed)).toArray := by
    rw [List.zip_toArray, e, List.zip_map']
  rw [← ez] at r
  generalize e3 : Sim.srtS.f ⟨us.toArray.zip us.toArray, #[], 7⟩ = o at r
  cases o with
  | none => cases r
  | some p =>
    obtain ⟨⟨⟩, n'⟩ := p
    have r' : (n'.a.toList.map fun p => Sim.cpsOf p.2) = ms.map some := Option.some.inj r
    have so : StrsAre (n'.a.map (·.2)).toList (ms.map mkS) := by
      refine cps_known ?_
      rw [Array.toList_map, List.map_map]
      exact r'
    have nl : n'.a.size = ms.length := by have := congrArg List.length r'; simpa using this
    refine sorted_run hx h2' ?_ e3 (by omega) (q _ so) (by omega)
    obtain ⟨v1, v2, vs, rfl⟩ := two_of h2'
    exact keyKind_strs hS
end
end L2

/-! ### sum of a list, sorted of the rows of a size -/
namespace L2
open PySem PyProof.Rows
section
variable {X : Cx}
theorem call_sumL (hc : X.calm = true) : CallR X (.builtin "sum") (fun xs H Q => ∃ (p : Addr) (ns : List Int), xs = [.ref p] ∧ SqL X.K H p (ns.map V.int) ∧ Q (.int ns.sum) H) := by
  intro pins s σ H xs us Q I r h
  obtain ⟨p, ns, rfl, hq, q⟩ := h
  obtain ⟨u, rfl, rx⟩ := vals1 r
  cases rx
  obtain ⟨its, rv, pl, hz⟩ := I.list hq
  obtain ⟨ys, e1, e2⟩ := ints_items (intsAre_of rv)
  have hl := pl.isList
  rw [e1] at hl
  refine sum_intListG (I.ok.hd hc) hl fun h' tk t' hk => ?_
  refine ⟨.int ns.sum, H, I.kept hk, ⟨t', ?_⟩, q⟩
  rw [preSum_eq, List.take_of_length_le (by simp), ← e2]
/-- texts by their signs -/
noncomputable def tS (ls : List (List Nat)) : List V := (ls.map mkS).map V.str
theorem call_sortK {ls ms : List (List Nat)} (h2 : 2 ≤ ls.length) (hz : ls.length ≤ sizeLine) (hr : ∀ tk, run6 ls tk = some (ms.map some)) (hm : ms.length < 1000) :
    CallR X (.builtin "sorted") (fun xs H Q => ∃ p : Addr, xs = [.ref p] ∧ SqL X.K H p (tS ls) ∧ ∀ l, H l = none → Q (.ref l) (upd H l (.lst (tS ms)))) := by
  intro pins s σ H xs us Q I r h
  obtain ⟨p, rfl, hq, q⟩ := h
  obtain ⟨u, rfl, rx⟩ := vals1 r
  cases rx
  obtain ⟨its, rv, pl, _⟩ := I.list hq
  have hm2 : ms.length < sizeLine := small1000 (by omega)
  refine sorted_known pl.isList (strsAre_of rv) h2 hz hr (by omega) fun out hi => ?_
  obtain ⟨e, he⟩ := sortedAll_at s.heap its out
  have new : ObjOk X.prog X.w (upd H (s.heap.objs.size + 1) (.lst (tS ms))) (sortedAll s.heap its out) (s.heap.objs.size + 1) (.lst (tS ms)) :=
    ⟨by unfold tS; rw [List.length_map, List.length_map]; omega, out.toList, e, strsV hi, by simpa [seqObj] using he⟩
  exact ⟨.ref _, _, I.laid (t' := s.toks) (fun b o e => sortedAll_old e) (Nat.le_succ _) new, rfl, q _ (I.hok.fresh (Nat.le_succ _))⟩
theorem S_sorted : ∀ n, n < 6 → sortedS ((Br.S n).map mkS) = true := by decide +kernel
theorem call_sortA : CallR X (.builtin "sorted") (fun xs H Q => ∃ (p : Addr) (n : Nat), xs = [.ref p] ∧ 0 < n ∧ n < 7 ∧ SqL X.K H p (tS (Br.fwd Br.S n)) ∧ ∀ l, H l = none → Q (.ref l) (upd H l (.lst (tS (Br.S n))))) := by
  intro pins s σ H xs us Q I r h
  obtain ⟨p, n, rfl, h0, h7, hq, q⟩ := h
  by_cases h6 : n = 6
  · subst h6
    exact call_sortK (ls := Br.fwd Br.S 6) (ms := Br.S 6) (by decide +kernel) (Nat.le_trans (show (Br.fwd Br.S 6).length ≤ 999 by decide +kernel) (Nat.le_of_lt (small1000 (by omega)))) run6_ok (by decide +kernel) pins s σ H _ us Q I r ⟨p, rfl, hq, q⟩
  · have hp := Br.S_perm h7 h0
    have hl : ((Br.fwd Br.S n).map mkS).length < 64 := by rw [List.length_map, ← hp.length_eq]; exact (Br.S_few n h7).2 (by omega)
    refine call_sortS pins s σ H _ us Q I r ⟨p, _, rfl, hq, hl, fun ms l hpm hs hlf => ?_⟩
    have e : ms = (Br.S n).map mkS := sorted_one hs (S_sorted n (by omega)) (hpm.trans (hp.map mkS).symm)
    subst e
    exact q l hlf
end
end L2

/-! ### the short sort, asked of keys that all differ: what it leaves is in order -/
namespace L2
open PySem PySem.W PyProof.Rows
section
variable {n : Nat} {lt : Nat → Nat → Bool} {cmp : Nat → Nat → (Bool → Shared → Prop) → Shared → Prop} {s : Shared}
/-- an order of the numbers below n -/
structure Ord (n : Nat) (lt : Nat → Nat → Bool) : Prop where
  asym : ∀ i j, i < n → j < n → lt i j = true → lt j i = false
  trans : ∀ i j k, i < n → j < n → k < n → lt i j = true → lt j k = true → lt i k = true
  tot : ∀ i j, i < n → j < n → i ≠ j → lt i j = false → lt j i = true
structure Shf (n : Nat) (p : Array Nat) : Prop where
  pm : p.Perm (List.range n).toArray
theorem Shf.size {p : Array Nat} (h : Shf n p) : p.size = n := by rw [h.pm.size_eq]; simp
theorem Shf.bd {p : Array Nat} (h : Shf n p) {i : Nat} (hi : i < n) : p.getD i 0 < n := by
  have hi' : i < p.size := by rw [h.size]; exact hi
  have hm : p[i] ∈ (List.range n).toArray := h.pm.mem_iff.mp (Array.getElem_mem hi')
  rw [Array.getD_eq_getD_getElem?, Array.getElem?_eq_getElem hi']
  simpa using hm
theorem Shf.inj {p : Array Nat} (h : Shf n p) {i j : Nat} (hi : i < n) (hj : j < n) (e : p.getD i 0 = p.getD j 0) : i = j := by
  have nd : p.toList.Nodup := by
    have := (Array.perm_iff_toList_perm.mp h.pm).nodup_iff.mpr (by simpa using List.nodup_range)
    exact this
  have hi' : i < p.size := by rw [h.size]; exact hi
  have hj' : j < p.size := by rw [h.size]; exact hj
  rw [Array.getD_eq_getD_getElem?, Array.getD_eq_getD_getElem?, Array.getElem?_eq_getElem hi', Array.getElem?_eq_getElem hj'] at e
  have e' : p.toList[i]'(by simpa using hi') = p.toList[j]'(by simpa using hj') := by simpa using e
  exact (List.getElem_inj nd).mp e'
/-- the first k stand in order; the first k stand in the other order -/
def Up (lt : Nat → Nat → Bool) (p : Array Nat) (k : Nat) : Prop := ∀ i j, i < j → j < k → lt (p.getD i 0) (p.getD j 0) = true
def Dn (lt : Nat → Nat → Bool) (p : Array Nat) (k : Nat) : Prop := ∀ i j, i < j → j < k → lt (p.getD j 0) (p.getD i 0) = true
variable (O : Ord n lt) (hc : ∀ i j C, i < n → j < n → C (lt i j) s → cmp i j C s)
include O hc
theorem asc_ok {p : Array Nat} (S : Shf n p) {Q : Nat → Shared → Prop} : ∀ f m, 1 ≤ m → m + f = n → Up lt p m → (∀ m', Up lt p m' → m ≤ m' → m' ≤ n → (m' = n ∨ lt (p.getD m' 0) (p.getD (m' - 1) 0) = true) → Q m' s) → (kas_asc p f m).kasWp cmp Q s
  | 0, m, h1, hm, hu, q => q m hu (Nat.le_refl _) (by omega) (.inl (by omega))
  | f + 1, m, h1, hm, hu, q => by
    refine hc _ _ _ (S.bd (by omega)) (S.bd (by omega)) ?_
    show KasT.kasWp cmp (if lt (p.getD m 0) (p.getD (m - 1) 0) = true then KasT.ret m else kas_asc p f (m + 1)) Q s
    by_cases e : lt (p.getD m 0) (p.getD (m - 1) 0) = true
    · rw [if_pos e]
      exact q m hu (Nat.le_refl _) (by omega) (.inr e)
    · rw [if_neg e]
      have e' : lt (p.getD (m - 1) 0) (p.getD m 0) = true := O.tot _ _ (S.bd (by omega)) (S.bd (by omega)) (fun z => by have := S.inj (by omega) (by omega) z; omega) (Bool.eq_false_iff.mpr e)
      refine asc_ok S f (m + 1) (by omega) (by omega) (fun i j hij hj => ?_) fun m' a b c d => q m' a (by omega) c d
      rcases Nat.lt_or_ge j m with h | h
      · exact hu i j hij h
      · have ej : j = m := by omega
        subst ej
        rcases Nat.lt_or_ge i (j - 1) with h' | h'
        · exact O.trans _ _ _ (S.bd (by omega)) (S.bd (by omega)) (S.bd (by omega)) (hu i (j - 1) h' (by omega)) e'
        · have ei : i = j - 1 := by omega
          subst ei; exact e'
theorem desc_ok {p : Array Nat} (S : Shf n p) {Q : Array Nat × Nat × Nat → Shared → Prop} : ∀ f m, 2 ≤ m → m + f = n → Dn lt p m → (∀ m', Dn lt p m' → m ≤ m' → m' ≤ n → Q (p, m', 0) s) → (kas_desc f p m 0).kasWp cmp Q s
  | 0, m, h1, hm, hu, q => q m hu (Nat.le_refl _) (by omega)
  | f + 1, m, h1, hm, hu, q => by
    refine hc _ _ _ (S.bd (by omega)) (S.bd (by omega)) ?_
    show KasT.kasWp cmp (if lt (p.getD m 0) (p.getD (m - 1) 0) = true then (if 0 > 0 then kas_desc f (kas_rev p (m - (0 + 1)) m) (m + 1) 0 else kas_desc f p (m + 1) 0)
      else KasT.ask (p.getD (m - 1) 0) (p.getD m 0) fun d => if d = true then KasT.ret (p, m, 0) else kas_desc f p (m + 1) (0 + 1)) Q s
    by_cases e : lt (p.getD m 0) (p.getD (m - 1) 0) = true
    · rw [if_pos e, if_neg (by omega)]
      refine desc_ok S f (m + 1) (by omega) (by omega) (fun i j hij hj => ?_) fun m' a b c => q m' a (by omega) c
      rcases Nat.lt_or_ge j m with h | h
      · exact hu i j hij h
      · have ej : j = m := by omega
        subst ej
        rcases Nat.lt_or_ge i (j - 1) with h' | h'
        · exact O.trans _ _ _ (S.bd (by omega)) (S.bd (by omega)) (S.bd (by omega)) e (hu i (j - 1) h' (by omega))
        · have ei : i = j - 1 := by omega
          subst ei; exact e
    · rw [if_neg e]
      have e' : lt (p.getD (m - 1) 0) (p.getD m 0) = true := O.tot _ _ (S.bd (by omega)) (S.bd (by omega)) (fun z => by have := S.inj (by omega) (by omega) z; omega) (Bool.eq_false_iff.mpr e)
      refine hc _ _ _ (S.bd (by omega)) (S.bd (by omega)) ?_
      show KasT.kasWp cmp (if lt (p.getD (m - 1) 0) (p.getD m 0) = true then KasT.ret (p, m, 0) else kas_desc f p (m + 1) (0 + 1)) Q s
      rw [if_pos e']
      exact q m hu (Nat.le_refl _) (by omega)
theorem place_ok {p : Array Nat} (S : Shf n p) {k : Nat} (hk : k < n) (hu : Up lt p k) {Q : Nat → Shared → Prop} : ∀ f l r, l ≤ r → r ≤ k → r - l ≤ f → (∀ i, i < l → lt (p.getD i 0) (p.getD k 0) = true) → (∀ i, r ≤ i → i < k → lt (p.getD k 0) (p.getD i 0) = true) →
    (∀ l', l' ≤ k → (∀ i, i < l' → lt (p.getD i 0) (p.getD k 0) = true) → (∀ i, l' ≤ i → i < k → lt (p.getD k 0) (p.getD i 0) = true) → Q l' s) → (kas_place p k f l r).kasWp cmp Q s
  | 0, l, r, h1, h2, h3, hl, hr, q => q l (by omega) hl fun i a b => hr i (by omega) b
  | f + 1, l, r, h1, h2, h3, hl, hr, q => by
    rw [kas_place]
    by_cases e : l ≥ r
    · rw [if_pos e]
      exact q l (by omega) hl fun i a b => hr i (by omega) b
    · rw [if_neg e]
      refine hc _ _ _ (S.bd hk) (S.bd (by omega)) ?_
      show KasT.kasWp cmp (if lt (p.getD k 0) (p.getD ((l + r) / 2) 0) = true then kas_place p k f l ((l + r) / 2) else kas_place p k f ((l + r) / 2 + 1) r) Q s
      by_cases c : lt (p.getD k 0) (p.getD ((l + r) / 2) 0) = true
      · rw [if_pos c]
        refine place_ok S hk hu f _ _ (by omega) (by omega) (by omega) hl (fun i a b => ?_) q
        rcases Nat.lt_or_ge ((l + r) / 2) i with h | h
        · exact O.trans _ _ _ (S.bd hk) (S.bd (by omega)) (S.bd (by omega)) c (hu _ _ h b)
        · have ei : i = (l + r) / 2 := by omega
          subst ei; exact c
      · rw [if_neg c]
        have c' : lt (p.getD ((l + r) / 2) 0) (p.getD k 0) = true := O.tot _ _ (S.bd hk) (S.bd (by omega)) (fun z => by have := S.inj (by omega) (by omega) z; omega) (Bool.eq_false_iff.mpr c)
        refine place_ok S hk hu f _ _ (by omega) (by omega) (by omega) (fun i a => ?_) hr q
        rcases Nat.lt_or_ge i ((l + r) / 2) with h | h
        · exact O.trans _ _ _ (S.bd (by omega)) (S.bd (by omega)) (S.bd hk) (hu _ _ h (by omega)) c'
        · have ei : i = (l + r) / 2 := by omega
          subst ei; exact c'
omit O hc in
theorem bub_get {p : Array Nat} {k d : Nat} (hk : k < p.size) (hd : d ≤ k) (i : Nat) : (bubble p k d).getD i 0 = if i = k - d then p.getD k 0 else if k - d < i ∧ i ≤ k then p.getD (i - 1) 0 else p.getD i 0 := by
  rw [Array.getD_eq_getD_getElem?, getElem?_bubble hk d hd i]
  by_cases h1 : i = k - d
  · rw [if_pos h1, if_pos h1, Array.getD_eq_getD_getElem?]
  · rw [if_neg h1, if_neg h1]
    by_cases h2 : k - d < i ∧ i ≤ k
    · rw [if_pos h2, if_pos h2, Array.getD_eq_getD_getElem?]
    · rw [if_neg h2, if_neg h2, Array.getD_eq_getD_getElem?]
theorem bin_ok {Q : Array Nat → Shared → Prop} : ∀ f p k, Shf n p → k + f = n → Up lt p k → (∀ p', Shf n p' → Up lt p' n → Q p' s) → (kas_bin f p k).kasWp cmp Q s
  | 0, p, k, S, hk, hu, q => q p S (by have : k = n := by omega
                                       subst this; exact hu)
  | f + 1, p, k, S, hk, hu, q => by
    rw [kas_bin, KasT.kasWp_bind]
    refine place_ok O hc S (by omega) hu k 0 k (by omega) (by omega) (by omega) (fun i h => by omega) (fun i a b => by omega) fun l hl h1 h2 => ?_
    refine bin_ok f _ (k + 1) ⟨(bubble_perm _ _ _).trans S.pm⟩ (by omega) (fun i j hij hj => ?_) q
    have hs : k < p.size := by rw [S.size]; omega
    rw [bub_get hs (by omega), bub_get hs (by omega), show k - (k - l) = l by omega]
    by_cases i1 : i = l
    · rw [if_pos i1, if_neg (by omega), if_pos (by omega)]
      exact h2 _ (by omega) (by omega)
    · rw [if_neg i1]
      by_cases i2 : l < i ∧ i ≤ k
      · rw [if_pos i2, if_neg (by omega), if_pos (by omega)]
        exact hu _ _ (by omega) (by omega)
      · rw [if_neg i2]
        by_cases j1 : j = l
        · rw [if_pos j1]
          exact h1 _ (by omega)
        · rw [if_neg j1]
          by_cases j2 : l < j ∧ j ≤ k
          · rw [if_pos j2]
            exact hu _ _ (by omega) (by omega)
          · rw [if_neg j2]
            exact hu _ _ (by omega) (by omega)
omit O hc in
theorem rev_get {p : Array Nat} {m : Nat} (hm : m ≤ p.size) (i : Nat) : (kas_rev p 0 m).getD i 0 = if i < m then p.getD (m - 1 - i) 0 else p.getD i 0 := by
  unfold kas_rev
  rw [Array.getD_eq_getD_getElem?, getElem?_mirror_all hm i]
  by_cases h : i < m
  · rw [if_pos ⟨Nat.zero_le _, h⟩, if_pos h, Array.getD_eq_getD_getElem?, Nat.zero_add]
  · rw [if_neg (by omega), if_neg h, Array.getD_eq_getD_getElem?]
theorem count_ok {Q : Nat × Array Nat → Shared → Prop} {p : Array Nat} (S : Shf n p) (h2 : 2 ≤ n) (q : ∀ m p', Shf n p' → 1 ≤ m → m ≤ n → Up lt p' m → Q (m, p') s) : (kas_count n p).kasWp cmp Q s := by
  unfold kas_count
  rw [KasT.kasWp_bind]
  refine asc_ok O hc S (n - 1) 1 (by omega) (by omega) (fun i j a b => by omega) fun m hu h1 hm hlast => ?_
  by_cases e : (m == n) = true
  · rw [if_pos e]
    exact q m p S h1 hm hu
  · rw [if_neg e]
    have hne : m ≠ n := fun z => e (by rw [z]; exact beq_self_eq_true n)
    by_cases e1 : m > 1
    · rw [if_pos e1]
      refine hc _ _ _ (S.bd (by omega)) (S.bd (by omega)) ?_
      show KasT.kasWp cmp (if lt (p.getD 0 0) (p.getD (m - 1) 0) = true then KasT.ret (m, p) else kas_descPart m n (kas_rev p 0 m)) Q s
      rw [if_pos (hu 0 (m - 1) (by omega) (by omega))]
      exact q m p S h1 hm hu
    · rw [if_neg e1]
      have em : m = 1 := by omega
      subst em
      have hd : lt (p.getD 1 0) (p.getD 0 0) = true := by
        rcases hlast with h | h
        · omega
        · exact h
      unfold kas_descPart
      rw [KasT.kasWp_bind]
      refine desc_ok O hc S (n - (1 + 1)) 2 (by omega) (by omega) (fun i j a b => ?_) fun m' hdn ha hb => ?_
      · have ei : i = 0 := by omega
        have ej : j = 1 := by omega
        subst ei ej; exact hd
      · show KasT.kasWp cmp (if 0 > 0 then _ else kas_tail3 m' n p) Q s
        rw [if_neg (by omega)]
        unfold kas_tail3
        rw [KasT.kasWp_bind]
        have S' : Shf n (kas_rev p 0 m') := ⟨(mirror_perm _ _ _ _).trans S.pm⟩
        refine asc_ok O hc S' (n - m') m' (by omega) (by omega) (fun i j a b => ?_) fun m2 hu2 _ hm2 _ => q m2 _ S' (by omega) hm2 hu2
        have hs : m' ≤ p.size := by rw [S.size]; exact hb
        rw [rev_get hs, rev_get hs, if_pos (by omega), if_pos (by omega)]
        exact hdn _ _ (by omega) (by omega)
theorem sort_ok {Q : Array Nat → Shared → Prop} (h2 : 2 ≤ n) (q : ∀ p, Shf n p → Up lt p n → Q p s) : (kas_sort n).kasWp cmp Q s := by
  unfold kas_sort
  rw [KasT.kasWp_bind]
  refine count_ok O hc ⟨Array.Perm.refl _⟩ h2 fun m p S h1 hm hu => ?_
  dsimp only
  by_cases e : m < n
  · rw [if_pos e]
    exact bin_ok O hc _ _ _ S (by omega) (by rw [Nat.max_eq_left h1]; exact hu) q
  · rw [if_neg e]
    have em : m = n := by omega
    subst em
    exact q p S hu
end
end L2

/-! ### sorted, the items tuples of numbers that all differ -/
namespace L2
open PySem PySem.W PyProof.Rows
section
variable {prog : Program} {w : World} {A : Around} {E : Value → Shared → Prop} {s : Shared}
theorem lex_ok {b f : Bool} {Q : Bool → Shared → Prop} : ∀ {xs ys : List Value} {x y : List Int}, IntsAre xs x → IntsAre ys y → ∀ i, f = decide (x.length < y.length) → Q (decide (x < y)) s → KatLex prog w A b f Q (xs.zip ys) i s
  | _, _, _, _, .nil, .nil, i, e, q => by
    subst e
    exact q
  | _, _, _, _, .nil, .cons n t h, i, e, q => by
    subst e
    have lt1 : ∀ r : List Int, decide (([] : List Int) < n :: r) = true := fun r => by simp
    rw [lt1] at q
    exact q
  | _, _, _, _, .cons n t h, .nil, i, e, q => by
    subst e
    have lt1 : ∀ r : List Int, decide (n :: r < ([] : List Int)) = false := fun r => by simp
    rw [lt1] at q
    exact q
  | _, _, _, _, .cons n t h, .cons m u h', i, e, q => by
    refine kat_cons (wpAny_eqBool_int ?_)
    by_cases c : n = m
    · subst c
      rw [beq_self_eq_true]
      refine kat_yes (lex_ok h h' (i + 1) (by rw [e, List.length_cons, List.length_cons]; simp) ?_)
      have lt1 : ∀ r r' : List Int, decide (n :: r < n :: r') = decide (r < r') := fun r r' => by
        rw [Bool.eq_iff_iff, decide_eq_true_iff, decide_eq_true_iff, List.cons_lt_cons_iff]
        simp
      rw [lt1] at q
      exact q
    · have e1 : (n == m) = false := by simpa using c
      rw [e1]
      have lt1 : ∀ r r' : List Int, decide (n :: r < m :: r') = decide (n < m) := fun r r' => by
        rw [Bool.eq_iff_iff, decide_eq_true_iff, decide_eq_true_iff, List.cons_lt_cons_iff]
        simp [c]
      rw [lt1] at q
      refine kat_no ?_
      cases hb : (b && i == 0) with
      | true => exact oneLt_int q
      | false => exact kat_one _ _ (lt_int q)
/-- tuples of numbers -/
inductive TupsAt (h : Heap) : List Value → List (List Int) → Prop
  | nil : TupsAt h [] []
  | cons {a : Addr} {o : Obj} {xs : Array Value} {n : Nat} {t : List Int} {vs : List Value} {ts : List (List Int)} (ho : h.get? a = some o) (hc : o.cls = .type "tuple") (hd : o.data = .seq xs n) (hi : IntsAre xs.toList t) (r : TupsAt h vs ts) : TupsAt h (.ref a :: vs) (t :: ts)
theorem TupsAt.length {h : Heap} {vs : List Value} {ts : List (List Int)} (T : TupsAt h vs ts) : vs.length = ts.length := by
  induction T with
  | nil => rfl
  | cons _ _ _ _ _ ih => rw [List.length_cons, List.length_cons, ih]
theorem TupsAt.keep {h h' : Heap} {vs : List Value} {ts : List (List Int)} (T : TupsAt h vs ts) (k : ∀ b o, h.get? b = some o → h'.get? b = some o) : TupsAt h' vs ts := by
  induction T with
  | nil => exact .nil
  | cons ho hc hd hi _ ih => exact .cons (k _ _ ho) hc hd hi ih
theorem TupsAt.keepBut {h h' : Heap} {x : Addr} {vs : List Value} {ts : List (List Int)} (T : TupsAt h vs ts) : (∀ a, Value.ref a ∈ vs → a ≠ x) → (∀ b o, h.get? b = some o → b ≠ x → h'.get? b = some o) → TupsAt h' vs ts := by
  induction T with
  | nil => intro _ _; exact .nil
  | cons ho hc hd hi _ ih =>
    intro hx k
    exact .cons (k _ _ ho (hx _ List.mem_cons_self)) hc hd hi (ih (fun a ha => hx a (List.mem_cons_of_mem _ ha)) k)
theorem TupsAt.fresh {h : Heap} {vs : List Value} {ts : List (List Int)} (T : TupsAt h vs ts) : ∀ a, Value.ref a ∈ vs → a ≠ h.objs.size + 1 := by
  induction T with
  | nil => intro a h; simp at h
  | cons ho _ _ _ _ ih =>
    intro a h
    rcases List.mem_cons.mp h with e | e
    · cases e; exact Nat.ne_of_lt (Nat.lt_succ_of_lt (Heap.lt_size ho))
    · exact ih a e
theorem all_here (us : List Value) : (List.range us.length).map (fun i => us.getD i .none) = us := by
  refine List.ext_getElem (by simp) fun i h1 h2 => ?_
  simp [List.getD_eq_getElem?_getD, h2]
theorem TupsAt.at {h : Heap} {vs : List Value} {ts : List (List Int)} (T : TupsAt h vs ts) : ∀ i, i < vs.length → ∃ a o xs n, vs.getD i .none = .ref a ∧ h.get? a = some o ∧ o.data = .seq xs n ∧ IntsAre xs.toList (ts.getD i []) := by
  induction T with
  | nil => intro i hi; simp at hi
  | cons ho hc hd hi _ ih =>
    intro i hl
    cases i with
    | zero => exact ⟨_, _, _, _, rfl, ho, hd, hi⟩
    | succ i => exact ih i (by simpa using hl)
theorem TupsAt.firsts {h : Heap} {vs : List Value} {ts : List (List Int)} (T : TupsAt h vs ts) (hne : ∀ t ∈ ts, t ≠ []) : ∃ fs, KatTups h vs fs ∧ fs.length = vs.length ∧ ∀ v ∈ fs, ∃ n t, v = .int n t := by
  induction T with
  | nil => exact ⟨[], .nil, rfl, fun v hv => by simp at hv⟩
  | @cons a o xs n t vs ts ho hc hd hi r ih =>
    obtain ⟨fs, k, l, g⟩ := ih fun t ht => hne t (List.mem_cons_of_mem _ ht)
    obtain ⟨f, m, u, hf, ef⟩ : ∃ f m u, xs[0]? = some f ∧ f = .int m u := by
      have h0 := hne t List.mem_cons_self
      have e : xs[0]? = xs.toList[0]? := (Array.getElem?_toList ..).symm
      cases hx : xs.toList with
      | nil => rw [hx] at hi; cases hi; exact absurd rfl h0
      | cons v r' =>
        rw [hx] at hi
        cases hi with
        | cons m u _ => exact ⟨_, m, u, by rw [e, hx]; rfl, rfl⟩
    refine ⟨f :: fs, .cons ho hc hd hf k, by rw [List.length_cons, List.length_cons, l], fun v hv => ?_⟩
    rcases List.mem_cons.mp hv with rfl | hv
    · exact ⟨m, u, ef⟩
    · exact g v hv
theorem tup_ord {ts : List (List Int)} (nd : ts.Nodup) : Ord ts.length (fun i j => decide (ts.getD i [] < ts.getD j [])) where
  asym i j _ _ h := by
    rw [decide_eq_true_iff] at h
    rw [decide_eq_false_iff_not]
    exact List.lt_asymm h
  trans i j k _ _ _ h1 h2 := by
    rw [decide_eq_true_iff] at *
    exact List.lt_trans h1 h2
  tot i j hi hj ne h := by
    rw [decide_eq_false_iff_not] at h
    rw [decide_eq_true_iff]
    have h' := List.not_lt.mp h
    rcases Classical.em (ts.getD j [] < ts.getD i []) with g | g
    · exact g
    · exfalso
      have e := List.le_antisymm (List.not_lt.mp g) h'
      have gi : ts.getD i [] = ts[i] := by simp [List.getD_eq_getElem?_getD, hi]
      have gj : ts.getD j [] = ts[j] := by simp [List.getD_eq_getElem?_getD, hj]
      rw [gi, gj] at e
      exact ne ((List.getElem_inj nd).mp e)
theorem sort_tups {x : Addr} {us : List Value} {ts : List (List Int)} {c : Nat} {P : Fin → Shared → Prop} (hx : s.heap.get? x = some (seqObj "list" us.toArray c)) (hT : TupsAt s.heap us ts) (hxt : ∀ a, .ref a ∈ us → a ≠ x) (h64 : us.length < 64) (nd : ts.Nodup) (hne : ∀ t ∈ ts, t ≠ [])
    (q : ∀ (out : Array Value) (p : List Nat), p.Perm (List.range us.length) → out.toList = p.map (fun i => us.getD i .none) → (p.map fun i => ts.getD i []).Pairwise (· < ·) → P (.done (.ret .none)) { s with heap := sortedHeap s.heap x us out }) :
    wpAny (model prog w) A (Builtin.«list.sort» ⟨[.ref x], []⟩) P E s := by
  have hlt := Heap.lt_size hx
  have s1k : 64 ≤ sizeLine := by decide
  obtain ⟨d, hd⟩ : ∃ d, (s.heap.update x (Obj.mapSeq fun _ => #[])).get? x = some (seqObj "list" #[] d) := ⟨_, get?_update_seq hx fun _ => #[]⟩
  have h6 : (((s.heap.update x (Obj.mapSeq fun _ => #[])).push (seqObj "tuple" us.toArray 0)).push (seqObj "list" #[] 0)).get? x = some (seqObj "list" #[] d) := by
    rw [Heap.get?_push_ne, Heap.get?_push_ne, hd]
    · rw [Heap.size_update]; exact Nat.ne_of_lt hlt
    · rw [size_push', Heap.size_update]; exact Nat.ne_of_lt (Nat.lt_succ_of_lt hlt)
  have hl := hT.length
  have hT6 : TupsAt (((s.heap.update x (Obj.mapSeq fun _ => #[])).push (seqObj "tuple" us.toArray 0)).push (seqObj "list" #[] 0)) us ts := by
    refine hT.keepBut hxt fun a o ho hne => ?_
    have hlo := Heap.lt_size ho
    rw [Heap.get?_push_ne, Heap.get?_push_ne, Heap.get?_update_ne]
    · exact ho
    · exact hne
    · rw [Heap.size_update]; exact Nat.ne_of_lt hlo
    · rw [size_push', Heap.size_update]; exact Nat.ne_of_lt (Nat.lt_succ_of_lt hlo)
  rw [list_sort_plain]
  refine wpAny_bind (listItems_at hx rfl (wpAny_bind (listUpdate_at hx rfl (wpAny_bind (seqEpoch_at hd rfl (wpAny_bind (wpAny_newTuple (wpAny_bind (wpAny_newList (wpAny_holding ?_))))))))))
  show wpAny (model prog w) A _ P E { s with heap := ((s.heap.update x (Obj.mapSeq fun _ => #[])).push (seqObj "tuple" us.toArray 0)).push (seqObj "list" #[] 0) }
  dsimp only
  by_cases hsz : us.toArray.size < 2
  · rw [if_pos hsz, if_pos hsz]
    refine wpAny_bind (wpAny_pure ?_)
    rw [StateT.run_pure]
    refine wpAny_bind (wpAny_pure ?_)
    dsimp only
    refine wpAny_bind (seqEpoch_at h6 rfl (wpAny_bind (listUpdate_at h6 rfl ?_ (hsz2 := by rw [Array.size_map]; show (pairsOf us).size ≤ _; rw [pairsOf_size]; omega))))
    simp only [bne_self_eq_false, Bool.false_eq_true, if_false]
    rw [List.size_toArray] at hsz
    refine wpAny_pure (q _ (List.range us.length) (.refl _) ?_ ?_)
    · rw [all_here]
      show ((us.toArray.zip us.toArray).map (·.2)).toList = us
      rw [List.zip_toArray, List.map_toArray, List.map_snd_zip (Nat.le_refl _)]
    · match us, hsz with
      | [], _ => exact .nil
      | [v], _ => exact List.pairwise_singleton _ _
  · rw [if_neg hsz, if_neg hsz]
    rw [List.size_toArray] at hsz
    obtain ⟨fs, kf, lf, gf⟩ := hT6.firsts hne
    refine wpAny_bind (kat_kind (T := Value.type "int") kf (by omega) (fun v hv => ?_) rfl ?_)
    · obtain ⟨m, t, rfl⟩ := gf v hv
      exact .now
    refine wpAny_bind (wpAny_mono (kat_run (vs := us) (ks := us) (Q := fun st s' => s' = { s with heap := ((s.heap.update x (Obj.mapSeq fun _ => #[])).push (seqObj "tuple" us.toArray 0)).push (seqObj "list" #[] 0) } ∧ failedOf st = none ∧
        ∃ p : List Nat, p.Perm (List.range us.length) ∧ ((arrOf st).map (·.2)).toList = p.map (fun i => us.getD i .none) ∧ (p.map fun i => ts.getD i []).Pairwise (· < ·))
      (G := fun p s' => s' = { s with heap := ((s.heap.update x (Obj.mapSeq fun _ => #[])).push (seqObj "tuple" us.toArray 0)).push (seqObj "list" #[] 0) } ∧ Shf us.length p ∧ Up (fun i j => decide (ts.getD i [] < ts.getD j [])) p us.length)
      rfl (by omega) h64 (fun p st' s' hp ha hf hg => ⟨hg.1, hf, p.toList, ?_, ?_, ?_⟩) ?_) ?_ fun _ _ e => e)
    · have := Array.perm_iff_toList_perm.mp hg.2.1.pm
      simpa using this
    · rw [kat_snds rfl ha]
    · rw [List.pairwise_iff_getElem]
      intro i j hi hj hij
      rw [List.length_map, Array.length_toList, hg.2.1.size] at hi hj
      have := hg.2.2 i j hij hj
      have gi : p.getD i 0 = p[i]'(by rw [hg.2.1.size]; exact hi) := by simp [Array.getD_eq_getD_getElem?, hg.2.1.size, hi]
      have gj : p.getD j 0 = p[j]'(by rw [hg.2.1.size]; exact hj) := by simp [Array.getD_eq_getD_getElem?, hg.2.1.size, hj]
      rw [gi, gj] at this
      simpa using this
    · refine sort_ok (n := us.length) (lt := fun i j => decide (ts.getD i [] < ts.getD j [])) (hl ▸ tup_ord nd) (fun i j C hi hj hC => ?_) (by omega) fun p S hu => ⟨rfl, S, hu⟩
      obtain ⟨a1, o1, x1, n1, e1, g1, d1, i1⟩ := hT6.at i hi
      obtain ⟨a2, o2, x2, n2, e2, g2, d2, i2⟩ := hT6.at j hj
      unfold kas_ask
      rw [e1, e2]
      have l1 := congrArg List.length i1.numsOf
      have l2 := congrArg List.length i2.numsOf
      refine kat_lt g1 d1 g2 d2 (lex_ok i1 i2 0 ?_ hC)
      have m1 : x1.size = (ts.getD i []).length := by rw [← Array.length_toList]; exact i1.length
      have m2 : x2.size = (ts.getD j []).length := by rw [← Array.length_toList]; exact i2.length
      rw [m1, m2]
    · rintro ⟨⟨⟩, st'⟩ s' ⟨rfl, hf, p, hp, ho, hu⟩
      dsimp only at hf ho ⊢
      have hsz2 : ((arrOf st').map (·.2)).size = us.length := by
        rw [← Array.length_toList, ho, List.length_map, hp.length_eq, List.length_range]
      refine wpAny_bind (seqEpoch_at h6 rfl (wpAny_bind (listUpdate_at h6 rfl ?_ (hsz2 := by rw [hsz2]; omega))))
      rw [hf]
      simp only [bne_self_eq_false, Bool.false_eq_true, if_false]
      exact wpAny_pure (q _ p hp ho hu)
theorem sorted_tups {x : Addr} {us : List Value} {ts : List (List Int)} {Q : Value → Shared → Prop} (hx : s.heap.IsList x us.toArray) (hT : TupsAt s.heap us ts) (h64 : us.length < 64) (nd : ts.Nodup) (hne : ∀ t ∈ ts, t ≠ [])
    (q : ∀ (out : Array Value) (p : List Nat), p.Perm (List.range us.length) → out.toList = p.map (fun i => us.getD i .none) → (p.map fun i => ts.getD i []).Pairwise (· < ·) → Q (.ref (s.heap.objs.size + 1)) { s with heap := sortedAll s.heap us out }) :
    wpAny (model prog w) A (call (.builtin "sorted") [.ref x]) Q E s := by
  have s1k : 64 ≤ sizeLine := by decide
  refine Calls.call_function_entry kind_sorted plain_sorted entry_sorted (args_sorted1 _) ?_
  unfold Builtin.«sorted»
  refine wpAny_bind (m := checkCount "sorted" 1 1 _) (wpAny_pure (wpAny_bind (collect_list hx (wpAny_bind (wpAny_newList ?_)) (by omega))))
  have hs0 : ((s.heap.push (seqObj "list" #[] 0)).update s.heap.objs.size (Obj.mapSeq (· ++ us.toArray))).objs.size = s.heap.objs.size + 1 := by rw [Heap.size_update, size_push']
  have hL : (((s.heap.push (seqObj "list" #[] 0)).update s.heap.objs.size (Obj.mapSeq (· ++ us.toArray))).push (seqObj "list" us.toArray 0)).get? (s.heap.objs.size + 1) = some (seqObj "list" us.toArray 0) := by
    rw [← hs0]; exact Heap.get?_push_size _ rfl
  have old : ∀ b o, s.heap.get? b = some o → (((s.heap.push (seqObj "list" #[] 0)).update s.heap.objs.size (Obj.mapSeq (· ++ us.toArray))).push (seqObj "list" us.toArray 0)).get? b = some o := fun b o g => by
    have hb := Heap.lt_size g
    rw [Heap.get?_push_ne, Heap.get?_update_ne, Heap.get?_push_ne, g]
    · exact Nat.ne_of_lt hb
    · exact Nat.ne_of_lt hb
    · rw [hs0]; exact Nat.ne_of_lt (Nat.lt_succ_of_lt hb)
  have hxt := hT.fresh
  show wpAny _ _ _ _ _ { s with heap := ((s.heap.push (seqObj "list" #[] 0)).update s.heap.objs.size (Obj.mapSeq (· ++ us.toArray))).push (seqObj "list" us.toArray 0) }
  rw [hs0]
  exact wpAny_bind (wpAny_holding (wpAny_call_entry slot_list_sort ⟨_, hL, rfl⟩ entry_list_sort (sort_tups hL (hT.keep old) hxt h64 nd hne fun out p h1 h2 h3 => ⟨_, rfl, wpAny_pure ⟨_, rfl, q out p h1 h2 h3⟩⟩) (args_list_sort _)))
end
end L2

/-! ### words over tuples of numbers -/
namespace L2
open PySem PySem.W PyProof.Rows
/-- tuples of numbers, in the abstract heap -/
inductive TupI (H : Hp) : List Addr → List (List Int) → Prop
  | nil : TupI H [] []
  | cons {a : Addr} {t : List Int} {as : List Addr} {ts : List (List Int)} (h : H a = some (.tup (t.map V.int))) (r : TupI H as ts) : TupI H (a :: as) (t :: ts)
theorem TupI.length {H : Hp} {as : List Addr} {ts : List (List Int)} (T : TupI H as ts) : as.length = ts.length := by
  induction T with
  | nil => rfl
  | cons _ _ ih => rw [List.length_cons, List.length_cons, ih]
theorem TupI.same {H H' : Hp} {as : List Addr} {ts : List (List Int)} (T : TupI H as ts) (hs : ∀ b u, H b = some u → H' b = some u) : TupI H' as ts := by
  induction T with
  | nil => exact .nil
  | cons h _ ih => exact .cons (hs _ _ h) ih
theorem TupI.append {H : Hp} {as bs : List Addr} {ts us : List (List Int)} (T : TupI H as ts) (U : TupI H bs us) : TupI H (as ++ bs) (ts ++ us) := by
  induction T with
  | nil => exact U
  | cons h _ ih => exact .cons h ih
theorem TupI.get {H : Hp} {as : List Addr} {ts : List (List Int)} (T : TupI H as ts) : ∀ i, i < as.length → H (as.getD i 0) = some (.tup ((ts.getD i []).map V.int)) := by
  induction T with
  | nil => intro i h; simp at h
  | cons h _ ih =>
    intro i hl
    cases i with
    | zero => exact h
    | succ i => exact ih i (by simpa using hl)
theorem TupI.pick {H : Hp} {as : List Addr} {ts : List (List Int)} (T : TupI H as ts) : ∀ p : List Nat, (∀ i ∈ p, i < as.length) → TupI H (p.map fun i => as.getD i 0) (p.map fun i => ts.getD i [])
  | [], _ => .nil
  | i :: p, h => .cons (T.get i (h i List.mem_cons_self)) (T.pick p fun j hj => h j (List.mem_cons_of_mem _ hj))
theorem pick_all (ts : List (List Int)) : (List.range ts.length).map (fun i => ts.getD i []) = ts := by
  refine List.ext_getElem (by simp) fun i h1 h2 => ?_
  simp [List.getD_eq_getElem?_getD, h2]
section
variable {X : Cx} {pins : List (Addr × Obj)} {σ : St} {H : Hp} {s : Shared}
theorem refs_of : ∀ {as : List Addr} {its : List Value}, Vals (as.map V.ref) its → its = as.map Value.ref
  | [], its, r => by cases r; rfl
  | a :: as, its, r => by
    rw [List.map_cons] at r
    cases r with
    | cons h r' => cases h; rw [refs_of r', List.map_cons]
theorem refs_to : ∀ as : List Addr, Vals (as.map V.ref) (as.map Value.ref)
  | [] => .nil
  | _ :: as => .cons rfl (refs_to as)
theorem tups_at (I : Inv X pins σ H s) {as : List Addr} {ts : List (List Int)} (T : TupI H as ts) : TupsAt s.heap (as.map Value.ref) ts := by
  induction T with
  | nil => exact .nil
  | cons h _ ih =>
    obtain ⟨its, rv, ⟨o, e, c, n, d⟩, _⟩ := I.tuple (SqT.of h)
    exact .cons e c d (by simpa using intsAre_of rv) ih
theorem call_sortT : CallR X (.builtin "sorted") (fun xs H Q => ∃ (p : Addr) (as : List Addr) (ts : List (List Int)), xs = [.ref p] ∧ SqL X.K H p (as.map V.ref) ∧ TupI H as ts ∧ ts.length < 64 ∧ ts.Nodup ∧ (∀ t ∈ ts, t ≠ []) ∧
    ∀ (l : Addr) (as' : List Addr) (ts' : List (List Int)), TupI H as' ts' → ts'.Perm ts → ts'.Pairwise (· < ·) → H l = none → Q (.ref l) (upd H l (.lst (as'.map V.ref)))) := by
  intro pins s σ H xs us Q I r h
  obtain ⟨p, as, ts, rfl, hq, T, h64, nd, hne, q⟩ := h
  obtain ⟨u, rfl, rx⟩ := vals1 r
  cases rx
  obtain ⟨its, rv, pl, hz⟩ := I.list hq
  have e0 := refs_of rv
  subst e0
  have hl := T.length
  refine sorted_tups pl.isList (tups_at I T) (by rw [List.length_map]; omega) nd hne fun out pm h1 h2 h3 => ?_
  obtain ⟨e, he⟩ := sortedAll_at s.heap (as.map Value.ref) out
  rw [List.length_map] at h1
  have hlt : ∀ i ∈ pm, i < as.length := fun i hi => List.mem_range.mp (h1.mem_iff.mp hi)
  have e2 : out.toList = (pm.map fun i => as.getD i 0).map Value.ref := by
    rw [h2, List.map_map]
    refine List.map_congr_left fun i hi => ?_
    have := hlt i hi
    simp [List.getD_eq_getElem?_getD, this]
  have hpl : (pm.map fun i => as.getD i 0).length = as.length := by rw [List.length_map, h1.length_eq, List.length_range]
  have s64 : 64 ≤ sizeLine := by decide
  have new : ObjOk X.prog X.w (upd H (s.heap.objs.size + 1) (.lst ((pm.map fun i => as.getD i 0).map V.ref))) (sortedAll s.heap (as.map Value.ref) out) (s.heap.objs.size + 1) (.lst ((pm.map fun i => as.getD i 0).map V.ref)) :=
    ⟨by rw [List.length_map, hpl]; omega, out.toList, e, by rw [e2]; exact refs_to _, by simpa [seqObj] using he⟩
  refine ⟨.ref _, _, I.laid (t' := s.toks) (fun b o e => sortedAll_old e) (Nat.le_succ _) new, rfl, q _ _ _ (T.pick pm hlt) ?_ h3 (I.hok.fresh (Nat.le_succ _))⟩
  have := h1.map fun i => ts.getD i []
  rwa [hl, pick_all] at this
/-- a op1 b op2 c op3 d, as a test -/
def tChain3 (r1 r2 r3 : R2) (ta tb tc td : TE) : TT := fun σ H Q => ta σ H fun x H1 => tb σ H1 fun y H2 => r1 x y H2 fun z H3 => ∃ k, z = .bl k ∧
  (if k = true then tc σ H3 fun y2 H4 => r2 y y2 H4 fun z2 H5 => ∃ k2, z2 = .bl k2 ∧ (if k2 = true then td σ H5 fun y3 H6 => r3 y2 y3 H6 fun z3 H7 => ∃ k3, z3 = .bl k3 ∧ Q k3 H7 else Q false H5) else Q false H3)
theorem pt_chain3 {a b c d : Expr} {ta tb tc td : TE} {pos : Pos} {o1 o2 o3 : CmpOp} {r1 r2 r3 : R2} (h1 : OpR X (compareOp o1) r1) (h2 : OpR X (compareOp o2) r2) (h3 : OpR X (compareOp o3) r3) (ha : PE X a ta) (hb : PE X b tb) (hc : PE X c tc) (hd : PE X d td)
    (hm : lastMarks [o1, o2, o3] [b, c, d] = false := by with_unfolding_all rfl) : PT X (.Compare a [o1, o2, o3] [b, c, d] pos) (tChain3 r1 r2 r3 ta tb tc td) := by
  constructor
  intro pins s σ H Q I h
  refine isTrue_chain (thn (ha pins s σ H _ I h) fun v s1 ⟨x, H1, I1, r1', q1⟩ => test_link (thn (hb pins s1 σ H1 _ I1 q1) fun u s2 ⟨y, H2, I2, r2', q2⟩ =>
    thn (h1 pins s2 σ H2 x y v u _ I2 r1' r2' q2) fun d s3 ⟨z, H3, I3, r3', k, e, q3⟩ => ?_)) hm
  subst e
  cases r3'
  refine wpAny_truthy_bool ?_
  cases k with
  | false => exact ite_ff ⟨H3, I3, q3⟩
  | true =>
    refine ite_tt (test_link (thn (hc pins s3 σ H3 _ I3 q3) fun u2 s4 ⟨y2, H4, I4, r4, q4⟩ => thn (h2 pins s4 σ H4 y y2 u u2 _ I4 r2' r4 q4) fun d2 s5 ⟨z2, H5, I5, r5, k2, e2, q5⟩ => ?_))
    subst e2
    cases r5
    refine wpAny_truthy_bool ?_
    cases k2 with
    | false => exact ite_ff ⟨H5, I5, q5⟩
    | true =>
      refine ite_tt (test_last (thn (hd pins s5 σ H5 _ I5 q5) fun u3 s6 ⟨y3, H6, I6, r6, q6⟩ => thn (h3 pins s6 σ H6 y2 y3 u2 u3 _ I6 r4 r6 q6) fun d3 s7 ⟨z3, H7, I7, r7, k3, e3, q7⟩ => ?_))
      subst e3
      cases r7
      exact wpAny_truthy_bool ⟨H7, I7, q7⟩
open Classical in
/-- is it a tuple of the numbers k -/
noncomputable def isT (P : Program) (w : World) (h : Heap) (k : List Int) (v : Value) : Bool := decide (∃ a, v = .ref a ∧ IsTupleKey (intKind P w) h k a)
theorem ints_key {P : Program} {w : World} : ∀ {vs : List Value} {t : List Int}, IntsAre vs t → ItemsAre (intKind P w) t vs
  | _, _, .nil => .nil
  | _, _, .cons n t h => .cons (by show Value.isInt n (.int n t) = true; simp [Value.isInt]) (ints_key h)
open Classical in
theorem isT_eq {P : Program} {w : World} {h : Heap} {a : Addr} {t k : List Int} (key : IsTupleKey (intKind P w) h t a) : isT P w h k (.ref a) = decide (t = k) := by
  unfold isT
  by_cases e : t = k
  · subst e
    rw [decide_eq_true (rfl : t = t)]
    exact decide_eq_true ⟨a, rfl, key⟩
  · rw [decide_eq_false e]
    refine decide_eq_false fun ⟨b, eb, kb⟩ => ?_
    cases eb
    exact e (key.inj kb)
theorem TupsAt.count {P : Program} {w : World} {h : Heap} {vs : List Value} {ts : List (List Int)} (T : TupsAt h vs ts) (k : List Int) : vs.countP (isT P w h k) = ts.count k := by
  induction T with
  | nil => rfl
  | @cons a o xs n t vs ts ho hc hd hi _ ih =>
    rw [List.countP_cons, List.count_cons, ih, isT_eq ⟨o, xs, n, ho, hc, hd, ints_key hi⟩]
    by_cases e : t = k
    · simp [e]
    · simp [e]
theorem TupsAt.mem {h : Heap} {vs : List Value} {ts : List (List Int)} (T : TupsAt h vs ts) : ∀ v ∈ vs, ∃ a o xs n t, v = .ref a ∧ h.get? a = some o ∧ o.cls = .type "tuple" ∧ o.data = .seq xs n ∧ IntsAre xs.toList t := by
  induction T with
  | nil => intro v hv; simp at hv
  | cons ho hc hd hi _ ih =>
    intro v hv
    rcases List.mem_cons.mp hv with rfl | hv
    · exact ⟨_, _, _, _, _, rfl, ho, hc, hd, hi⟩
    · exact ih v hv
theorem mt_countT (hu : X.A.units + 200 < cLine) : MtR X "list.count" (fun x vs H Q => ∃ (l b : Addr) (as : List Addr) (ts : List (List Int)) (k : List Int), x = .ref l ∧ vs = [.ref b] ∧ SqL X.K H l (as.map V.ref) ∧ TupI H as ts ∧ H b = some (.tup (k.map V.int)) ∧ Q (.int (ts.count k : Nat)) H) := by
  intro pins s σ H x vs v us Q I rx rv h
  obtain ⟨l, b, as, ts, k, rfl, rfl, hq, T, hb, q⟩ := h
  cases rx
  obtain ⟨u, rfl, ru⟩ := vals1 rv
  cases ru
  obtain ⟨its, rv, pl, hz⟩ := I.list hq
  have e0 := refs_of rv
  subst e0
  have T' := tups_at I T
  obtain ⟨its2, rv2, ⟨o2, g2, c2, n2, d2⟩, _⟩ := I.tuple (SqT.of hb)
  obtain ⟨⟨cls, dd, data, sl⟩, ho, hc, n, hd⟩ := id pl.isList
  simp only at hc hd
  subst hc hd
  refine call_meets PySem.F.slot_list_count ⟨_, ho, rfl⟩ PySem.F.entry_list_count (PySem.F.args_list_count_2 _ _) (PySem.SeqAt.list_countAt l (as.map Value.ref).toArray n dd sl (.ref b) (isT X.prog X.w s.heap k)) ⟨ho, fun y hy => ?_, ?_⟩
  · obtain ⟨a, o, xs, m, t, rfl, ga, ca, da, ia⟩ := T'.mem y (by simpa using hy)
    rw [isT_eq (t := t) ⟨o, xs, m, ga, ca, da, ints_key ia⟩]
    intro prog w E Q' hq'
    refine wpAny_eqBool_tuple (knd := intKind prog w) (x := t) (y := k) ?_ ⟨o, xs, m, ga, ca, da, ints_key ia⟩ ⟨o2, _, n2, g2, c2, d2, by simpa using ints_key (intsAre_of rv2)⟩ hq'
    show X.A.units + 1 < cLine
    omega
  · rw [show (as.map Value.ref).toArray.toList = as.map Value.ref from rfl, T'.count]
    exact ⟨.int _, H, I.tok _, ⟨_, rfl⟩, q⟩
end
end L2

/-! ### cuts -/
namespace Br
/-- the threes of a tree whose first corner is f -/
def th : Tr → Int → List (List Int)
  | .leaf, _ => []
  | .node a b, f => [f, f + sz a + 1, f + sz a + sz b + 2] :: (th a f ++ th b (f + sz a + 1))
/-- the same in the law's order -/
def thL : Tr → Int → List (List Int)
  | .leaf, _ => []
  | .node a b, f => thL a f ++ thL b (f + sz a + 1) ++ [[f, f + sz a + 1, f + sz a + sz b + 2]]
theorem thL_perm : ∀ (t : Tr) (f : Int), (thL t f).Perm (th t f)
  | .leaf, _ => .refl _
  | .node a b, f => by
    rw [thL, th]
    exact ((List.perm_append_comm).trans (.refl _)).trans (((thL_perm a f).append (thL_perm b _)).cons _)
theorem th_length : ∀ (t : Tr) (f : Int), (th t f).length = sz t
  | .leaf, _ => rfl
  | .node a b, f => by rw [th, sz, List.length_cons, List.length_append, th_length a, th_length b]
theorem th_in : ∀ (t : Tr) (f : Int), ∀ x ∈ th t f, ∃ a b c : Int, x = [a, b, c] ∧ f ≤ a ∧ a < b ∧ b < c ∧ c ≤ f + sz t + 1
  | .leaf, _, x, h => by cases h
  | .node a b, f, x, h => by
    rw [th] at h
    rw [sz]
    rcases List.mem_cons.mp h with rfl | h
    · exact ⟨_, _, _, rfl, by omega, by omega, by omega, by omega⟩
    · rcases List.mem_append.mp h with h | h
      · obtain ⟨p, q, r, rfl, h1, h2, h3, h4⟩ := th_in a f x h
        exact ⟨p, q, r, rfl, by omega, by omega, by omega, by omega⟩
      · obtain ⟨p, q, r, rfl, h1, h2, h3, h4⟩ := th_in b _ x h
        exact ⟨p, q, r, rfl, by omega, by omega, by omega, by omega⟩
/-- by the outer corners -/
def ends (x : List Int) : List Int := [x.getD 0 0, x.getD 2 0]
theorem ends_nd : ∀ (t : Tr) (f : Int), ((th t f).map ends).Nodup
  | .leaf, _ => .nil
  | .node a b, f => by
    rw [th, List.map_cons, List.nodup_cons, List.map_append, List.nodup_append]
    refine ⟨fun h => ?_, ends_nd a f, ends_nd b _, fun x hx y hy e => ?_⟩
    · rcases List.mem_append.mp h with h | h
      · obtain ⟨x, hx, e⟩ := List.mem_map.mp h
        obtain ⟨p, q, r, rfl, h1, h2, h3, h4⟩ := th_in a f x hx
        have e2 : r = f + sz a + sz b + 2 := (List.cons.inj (List.cons.inj e).2).1
        omega
      · obtain ⟨x, hx, e⟩ := List.mem_map.mp h
        obtain ⟨p, q, r, rfl, h1, h2, h3, h4⟩ := th_in b _ x hx
        have e1 : p = f := (List.cons.inj e).1
        omega
    · obtain ⟨u, hu, rfl⟩ := List.mem_map.mp hx
      obtain ⟨v, hv, rfl⟩ := List.mem_map.mp hy
      obtain ⟨p, q, r, rfl, h1, h2, h3, h4⟩ := th_in a f u hu
      obtain ⟨p', q', r', rfl, h1', h2', h3', h4'⟩ := th_in b _ v hv
      have e2 : r = r' := (List.cons.inj (List.cons.inj e).2).1
      omega
theorem nd_of_map {α β : Type} (g : α → β) : ∀ {l : List α}, (l.map g).Nodup → l.Nodup
  | [], _ => .nil
  | x :: l, h => by
    rw [List.map_cons, List.nodup_cons] at h
    exact List.nodup_cons.mpr ⟨fun m => h.1 (List.mem_map_of_mem m), nd_of_map g h.2⟩
theorem th_nd (t : Tr) (f : Int) : (th t f).Nodup := nd_of_map ends (ends_nd t f)
/-- seen from the other side -/
def flip (F : Int) (x : List Int) : List Int := [F - x.getD 2 0, F - x.getD 1 0, F - x.getD 0 0]
theorem flip_th (F : Int) : ∀ (t : Tr) (f : Int), ((th t f).map (flip F)).Perm (th (mir t) (F - (f + sz t + 1)))
  | .leaf, _ => .refl _
  | .node a b, f => by
    rw [th, mir, th, List.map_cons, List.map_append, sz_mir, sz_mir, sz]
    have e1 : flip F [f, f + sz a + 1, f + sz a + sz b + 2] = [F - (f + ((sz a + sz b + 1 : Nat) : Int) + 1), F - (f + ((sz a + sz b + 1 : Nat) : Int) + 1) + sz b + 1, F - (f + ((sz a + sz b + 1 : Nat) : Int) + 1) + sz b + sz a + 2] := by
      unfold flip
      show [F - (f + sz a + sz b + 2), F - (f + sz a + 1), F - f] = _
      have a1 : F - (f + sz a + sz b + 2) = F - (f + ((sz a + sz b + 1 : Nat) : Int) + 1) := by omega
      have a2 : F - (f + sz a + 1) = F - (f + ((sz a + sz b + 1 : Nat) : Int) + 1) + sz b + 1 := by omega
      have a3 : F - f = F - (f + ((sz a + sz b + 1 : Nat) : Int) + 1) + sz b + sz a + 2 := by omega
      rw [a1, a2, a3]
    rw [e1]
    refine .cons _ (List.perm_append_comm.trans ?_)
    have p1 := flip_th F a f
    have p2 := flip_th F b (f + sz a + 1)
    have a4 : F - (f + sz a + 1 + sz b + 1) = F - (f + ((sz a + sz b + 1 : Nat) : Int) + 1) := by omega
    have a5 : F - (f + sz a + 1) = F - (f + ((sz a + sz b + 1 : Nat) : Int) + 1) + sz b + 1 := by omega
    rw [a4] at p2
    rw [a5] at p1
    exact p2.append p1
/-! ### sides -/
def sidesOf (x : List Int) : List (List Int) := [[x.getD 0 0, x.getD 1 0], [x.getD 1 0, x.getD 2 0], [x.getD 0 0, x.getD 2 0]]
def sides (ts : List (List Int)) : List (List Int) := ts.flatMap sidesOf
theorem sides_perm {a b : List (List Int)} (h : a.Perm b) : (sides a).Perm (sides b) := h.flatMap_right _
/-- the stretches of a tree: all, and those with a three -/
def iv : Tr → Int → List (List Int)
  | .leaf, f => [[f, f + 1]]
  | .node a b, f => [f, f + sz a + sz b + 2] :: (iv a f ++ iv b (f + sz a + 1))
def nds : Tr → Int → List (List Int)
  | .leaf, _ => []
  | .node a b, f => [f, f + sz a + sz b + 2] :: (nds a f ++ nds b (f + sz a + 1))
def root (t : Tr) (f : Int) : List Int := [f, f + sz t + 1]
theorem cnt_sides (x : List Int) : ∀ (t : Tr) (f : Int), (sides (th t f)).count x + (if root t f = x then 1 else 0) = (iv t f).count x + (nds t f).count x
  | .leaf, f => by
    show 0 + _ = List.count x [[f, f + 1]] + 0
    rw [List.count_singleton]
    show 0 + (if [f, f + ((0 : Nat) : Int) + 1] = x then 1 else 0) = (if ([f, f + 1] == x) = true then 1 else 0) + 0
    have e : f + ((0 : Nat) : Int) + 1 = f + 1 := by omega
    rw [e]
    by_cases h : [f, f + 1] = x
    · simp [h]
    · simp [h]
  | .node a b, f => by
    have h1 := cnt_sides x a f
    have h2 := cnt_sides x b (f + sz a + 1)
    have ea : root a f = [f, f + sz a + 1] := rfl
    have eb : root b (f + sz a + 1) = [f + sz a + 1, f + sz a + sz b + 2] := by
      unfold root
      have : f + sz a + 1 + sz b + 1 = f + sz a + sz b + 2 := by omega
      rw [this]
    have er : root (.node a b) f = [f, f + sz a + sz b + 2] := by
      unfold root
      rw [sz]
      have : f + ((sz a + sz b + 1 : Nat) : Int) + 1 = f + sz a + sz b + 2 := by omega
      rw [this]
    rw [ea] at h1
    rw [eb] at h2
    rw [er]
    have es : sides (th (.node a b) f) = [f, f + sz a + 1] :: [f + sz a + 1, f + sz a + sz b + 2] :: [f, f + sz a + sz b + 2] :: (sides (th a f) ++ sides (th b (f + sz a + 1))) := by
      unfold sides
      rw [th, List.flatMap_cons, List.flatMap_append]
      rfl
    rw [es, iv, nds]
    simp only [List.count_cons, List.count_append, beq_iff_eq]
    omega
theorem iv_in : ∀ (t : Tr) (f : Int), ∀ x ∈ iv t f, ∃ a c : Int, x = [a, c] ∧ f ≤ a ∧ a < c ∧ c ≤ f + sz t + 1 ∧ (c - a = sz t + 1 → x = root t f)
  | .leaf, f, x, h => by
    have e : x = [f, f + 1] := by simpa [iv] using h
    subst e
    exact ⟨f, f + 1, rfl, by omega, by omega, by show f + 1 ≤ f + ((0 : Nat) : Int) + 1; omega, fun _ => by
      show [f, f + 1] = [f, f + ((0 : Nat) : Int) + 1]
      have : f + 1 = f + ((0 : Nat) : Int) + 1 := by omega
      rw [← this]⟩
  | .node a b, f, x, h => by
    rw [iv] at h
    have hs : ((sz (.node a b) : Nat) : Int) = sz a + sz b + 1 := by rw [sz]; omega
    rcases List.mem_cons.mp h with rfl | h
    · refine ⟨_, _, rfl, by omega, by omega, by omega, fun _ => ?_⟩
      unfold root
      have : f + ((sz (.node a b) : Nat) : Int) + 1 = f + sz a + sz b + 2 := by omega
      rw [this]
    · rcases List.mem_append.mp h with h | h
      · obtain ⟨p, r, rfl, h1, h2, h3, _⟩ := iv_in a f x h
        exact ⟨p, r, rfl, by omega, by omega, by omega, fun e => by omega⟩
      · obtain ⟨p, r, rfl, h1, h2, h3, _⟩ := iv_in b _ x h
        exact ⟨p, r, rfl, by omega, by omega, by omega, fun e => by omega⟩
theorem iv_nd : ∀ (t : Tr) (f : Int), (iv t f).Nodup
  | .leaf, f => by simp [iv]
  | .node a b, f => by
    rw [iv, List.nodup_cons, List.nodup_append]
    refine ⟨fun h => ?_, iv_nd a f, iv_nd b _, fun x hx y hy e => ?_⟩
    · rcases List.mem_append.mp h with h | h
      · obtain ⟨p, r, e, h1, h2, h3, _⟩ := iv_in a f _ h
        have e2 : f + sz a + sz b + 2 = r := (List.cons.inj (List.cons.inj e).2).1
        omega
      · obtain ⟨p, r, e, h1, h2, h3, _⟩ := iv_in b _ _ h
        have e1 : f = p := (List.cons.inj e).1
        omega
    · subst e
      obtain ⟨p, r, rfl, h1, h2, h3, _⟩ := iv_in a f _ hx
      obtain ⟨p', r', e, h1', h2', h3', _⟩ := iv_in b _ _ hy
      have e1 : p = p' := (List.cons.inj e).1
      have e2 : r = r' := (List.cons.inj (List.cons.inj e).2).1
      omega
theorem nds_cnt (p r : Int) : ∀ (t : Tr) (f : Int), (nds t f).count [p, r] = if p + 2 ≤ r then (iv t f).count [p, r] else 0
  | .leaf, f => by
    show 0 = if p + 2 ≤ r then List.count [p, r] [[f, f + 1]] else 0
    by_cases h : p + 2 ≤ r
    · rw [if_pos h, List.count_singleton, if_neg]
      intro e
      have e' : [f, f + 1] = [p, r] := by simpa using e
      have e1 : f = p := (List.cons.inj e').1
      have e2 : f + 1 = r := (List.cons.inj (List.cons.inj e').2).1
      omega
    · rw [if_neg h]
  | .node a b, f => by
    rw [nds, iv, List.count_cons, List.count_cons, List.count_append, List.count_append, nds_cnt p r a f, nds_cnt p r b _]
    by_cases h : p + 2 ≤ r
    · rw [if_pos h, if_pos h, if_pos h]
    · rw [if_neg h, if_neg h, if_neg h, if_neg]
      intro e
      have e' : [f, f + sz a + sz b + 2] = [p, r] := by simpa using e
      have e1 : f = p := (List.cons.inj e').1
      have e2 : f + sz a + sz b + 2 = r := (List.cons.inj (List.cons.inj e').2).1
      omega
theorem side_iv (t : Tr) (f : Int) {x : List Int} (h : x ∈ sides (th t f)) : x ∈ iv t f := by
  have c := cnt_sides x t f
  have h1 : 0 < (sides (th t f)).count x := List.count_pos_iff.mpr h
  by_cases e : x ∈ iv t f
  · exact e
  · have i0 : (iv t f).count x = 0 := List.count_eq_zero.mpr e
    have sub : ∀ (t : Tr) (f : Int) (x : List Int), x ∈ nds t f → x ∈ iv t f := by
      intro t
      induction t with
      | leaf => intro f x h; cases h
      | node a b iha ihb =>
        intro f x h
        rw [nds] at h
        rw [iv]
        rcases List.mem_cons.mp h with rfl | h
        · exact List.mem_cons_self
        · rcases List.mem_append.mp h with h | h
          · exact List.mem_cons_of_mem _ (List.mem_append_left _ (iha _ _ h))
          · exact List.mem_cons_of_mem _ (List.mem_append_right _ (ihb _ _ h))
    have n0 : (nds t f).count x = 0 := List.count_eq_zero.mpr fun z => e (sub t f x z)
    omega
/-- how often a side is told -/
theorem side_cnt (t : Tr) (f p r : Int) (hz : 0 < sz t) (h : [p, r] ∈ sides (th t f)) : p < r ∧ (sides (th t f)).count [p, r] = if r = p + 1 ∨ r - p = sz t + 1 then 1 else 2 := by
  have hi := side_iv t f h
  have c := cnt_sides [p, r] t f
  have c1 : (iv t f).count [p, r] = 1 := by
    have := List.nodup_iff_count.mp (iv_nd t f) [p, r]
    have := List.count_pos_iff.mpr hi
    omega
  rw [nds_cnt, c1] at c
  obtain ⟨p', r', e, h1, h2, h3, h4⟩ := iv_in t f _ hi
  have e1 : p = p' := (List.cons.inj e).1
  have e2 : r = r' := (List.cons.inj (List.cons.inj e).2).1
  subst e1 e2
  refine ⟨h2, ?_⟩
  by_cases a1 : r = p + 1
  · rw [if_pos (.inl a1)]
    have nr : ¬ root t f = [p, r] := fun e => by
      have e1 : f = p := (List.cons.inj e).1
      have e2 : f + sz t + 1 = r := (List.cons.inj (List.cons.inj e).2).1
      omega
    rw [if_neg nr, if_neg (by omega)] at c
    omega
  · by_cases a2 : r - p = sz t + 1
    · rw [if_pos (.inr a2)]
      rw [if_pos (h4 a2).symm, if_pos (by omega)] at c
      omega
    · rw [if_neg (by omega)]
      have nr : ¬ root t f = [p, r] := fun e => by
        have e1 : f = p := (List.cons.inj e).1
        have e2 : f + sz t + 1 = r := (List.cons.inj (List.cons.inj e).2).1
        omega
      rw [if_neg nr, if_pos (by omega)] at c
      omega
theorem iv_apart : ∀ (t : Tr) (f : Int) (p r p' r' : Int), [p, r] ∈ iv t f → [p', r'] ∈ iv t f → ¬ (p < p' ∧ p' < r ∧ r < r')
  | .leaf, f, p, r, p', r', h, h', ⟨g1, g2, g3⟩ => by
    have e : [p, r] = [f, f + 1] := by simpa [iv] using h
    have e1 : p = f := (List.cons.inj e).1
    have e2 : r = f + 1 := (List.cons.inj (List.cons.inj e).2).1
    omega
  | .node a b, f, p, r, p', r', h, h', ⟨g1, g2, g3⟩ => by
    rw [iv] at h h'
    have un : ∀ {u v x y : Int}, [u, v] = [x, y] → u = x ∧ v = y := fun e => ⟨(List.cons.inj e).1, (List.cons.inj (List.cons.inj e).2).1⟩
    have bda : ∀ {u v : Int}, [u, v] ∈ iv a f → f ≤ u ∧ u < v ∧ v ≤ f + sz a + 1 := fun {u v} m => by
      obtain ⟨x, y, e, h1, h2, h3, _⟩ := iv_in a f _ m
      have := un e
      omega
    have bdb : ∀ {u v : Int}, [u, v] ∈ iv b (f + sz a + 1) → f + sz a + 1 ≤ u ∧ u < v ∧ v ≤ f + sz a + sz b + 2 := fun {u v} m => by
      obtain ⟨x, y, e, h1, h2, h3, _⟩ := iv_in b _ _ m
      have := un e
      omega
    rcases List.mem_cons.mp h with e | h
    · have := un e
      rcases List.mem_cons.mp h' with e' | h'
      · have := un e'; omega
      · rcases List.mem_append.mp h' with m | m
        · have := bda m; omega
        · have := bdb m; omega
    · rcases List.mem_append.mp h with m | m
      · rcases List.mem_cons.mp h' with e' | h'
        · have := un e'; have := bda m; omega
        · rcases List.mem_append.mp h' with m' | m'
          · exact iv_apart a f p r p' r' m m' ⟨g1, g2, g3⟩
          · have := bda m; have := bdb m'; omega
      · rcases List.mem_cons.mp h' with e' | h'
        · have := un e'; have := bdb m; omega
        · rcases List.mem_append.mp h' with m' | m'
          · have := bdb m; have := bda m'; omega
          · exact iv_apart b _ p r p' r' m m' ⟨g1, g2, g3⟩
end Br

/-! ### nested tuples of numbers and None as keys -/
namespace L2
open PySem PyProof.Rows
mutual
def smp : PyData → Bool
  | .none => true
  | .int _ => true
  | .tuple xs => smpAll xs
  | _ => false
def smpAll : List PyData → Bool
  | [] => true
  | x :: xs => smp x && smpAll xs
end
mutual
def hsh : PyData → Int
  | .none => 4238894112
  | .int i => hashInt i
  | .tuple xs => reduceHash (Builtin.Tuple.tupleHashOf (hshAll xs))
  | _ => 0
def hshAll : List PyData → List Int
  | [] => []
  | x :: xs => hsh x :: hshAll xs
end
mutual
def drw : PyData → Nat
  | .none => 1
  | .int _ => 1
  | .tuple xs => drwAll xs + 1
  | _ => 0
def drwAll : List PyData → Nat
  | [] => 0
  | x :: xs => drw x + drwAll xs
end
mutual
theorem smp_lay : ∀ d : PyData, smp d = true → d.canLay0 = true
  | .none, _ => rfl
  | .int _, _ => rfl
  | .tuple xs, h => smp_layAll xs h
  | .bool _, h => by cases h
  | .str _, h => by cases h
  | .list _, h => by cases h
  | .dict _, h => by cases h
theorem smp_layAll : ∀ xs : List PyData, smpAll xs = true → PyData.canLayAll0 xs = true
  | [], _ => rfl
  | x :: xs, h => by
    have h' : (smp x && smpAll xs) = true := h
    rw [Bool.and_eq_true] at h'
    show (x.canLay0 && PyData.canLayAll0 xs) = true
    rw [smp_lay x h'.1, smp_layAll xs h'.2]; rfl
end
mutual
theorem eqv_smp : ∀ d e : PyData, smp d = true → smp e = true → PyData.eqv d e = true → d = e
  | .none, .none, _, _, _ => rfl
  | .int i, .int j, _, _, h => by
    have h' : (i == j) = true := h
    rw [eq_of_beq h']
  | .tuple xs, .tuple ys, h1, h2, h => by rw [eqv_smpAll xs ys h1 h2 h]
  | .none, .int _, _, _, h => by cases h
  | .none, .tuple _, _, _, h => by cases h
  | .int _, .none, _, _, h => by cases h
  | .int _, .tuple _, _, _, h => by cases h
  | .tuple _, .none, _, _, h => by cases h
  | .tuple _, .int _, _, _, h => by cases h
  | .bool _, _, h, _, _ => by cases h
  | .str _, _, h, _, _ => by cases h
  | .list _, _, h, _, _ => by cases h
  | .dict _, _, h, _, _ => by cases h
  | .none, .bool _, _, h, _ => by cases h
  | .none, .str _, _, h, _ => by cases h
  | .none, .list _, _, h, _ => by cases h
  | .none, .dict _, _, h, _ => by cases h
  | .int _, .bool _, _, h, _ => by cases h
  | .int _, .str _, _, h, _ => by cases h
  | .int _, .list _, _, h, _ => by cases h
  | .int _, .dict _, _, h, _ => by cases h
  | .tuple _, .bool _, _, h, _ => by cases h
  | .tuple _, .str _, _, h, _ => by cases h
  | .tuple _, .list _, _, h, _ => by cases h
  | .tuple _, .dict _, _, h, _ => by cases h
theorem eqv_smpAll : ∀ xs ys : List PyData, smpAll xs = true → smpAll ys = true → PyData.eqvAll xs ys = true → xs = ys
  | [], [], _, _, _ => rfl
  | [], _ :: _, _, _, h => by cases h
  | _ :: _, [], _, _, h => by cases h
  | x :: xs, y :: ys, h1, h2, h => by
    have h1' : (smp x && smpAll xs) = true := h1
    have h2' : (smp y && smpAll ys) = true := h2
    have h' : (PyData.eqv x y && PyData.eqvAll xs ys) = true := h
    rw [Bool.and_eq_true] at h1' h2' h'
    rw [eqv_smp x y h1'.1 h2'.1 h'.1, eqv_smpAll xs ys h1'.2 h2'.2 h'.2]
end
theorem eqv_dec {d e : PyData} (h1 : smp d = true) (h2 : smp e = true) {k : Decidable (d = e)} : PyData.eqv d e = @decide (d = e) k := by
  by_cases h : d = e
  · subst h
    rw [eqD_refl (smp_lay d h1), decide_eq_true rfl]
  · rw [decide_eq_false h]
    cases hv : PyData.eqv d e with
    | false => rfl
    | true => exact absurd (eqv_smp d e h1 h2 hv) h
mutual
theorem smp_keeps {h h' : Heap} {dd : Addr} {o : Obj} {es ep} (ho : h.get? dd = some o) (hd : o.data = .dict es ep) (hs : Heap.SameBut dd h h') : ∀ (d : PyData) (v : Value) (as : List Addr), smp d = true → Reads h v d as → Reads h' v d as
  | .none, _, _, _, r => by cases r; exact .none
  | .int i, _, _, _, r => by cases r; exact .int _ _
  | .tuple xs, _, _, hx, r => by
    cases r with
    | @tuple a o' vs n _ as g c e ra =>
      have hne : a ≠ dd := fun z => by
        rw [z, ho] at g
        cases g
        rw [hd] at e
        cases e
      exact .tuple ((hs.2 a hne).trans g) c e (smp_keepsAll ho hd hs xs _ _ hx ra)
  | .bool _, _, _, h, _ => by cases h
  | .str _, _, _, h, _ => by cases h
  | .list _, _, _, h, _ => by cases h
  | .dict _, _, _, h, _ => by cases h
theorem smp_keepsAll {h h' : Heap} {dd : Addr} {o : Obj} {es ep} (ho : h.get? dd = some o) (hd : o.data = .dict es ep) (hs : Heap.SameBut dd h h') : ∀ (xs : List PyData) (vs : List Value) (as : List Addr), smpAll xs = true → ReadsAll h vs xs as → ReadsAll h' vs xs as
  | [], _, _, _, r => by cases r; exact .nil
  | x :: xs, _, _, hx, r => by
    have hx' : (smp x && smpAll xs) = true := hx
    rw [Bool.and_eq_true] at hx'
    cases r with
    | cons r1 r2 => exact .cons (smp_keeps ho hd hs x _ _ hx'.1 r1) (smp_keepsAll ho hd hs xs _ _ hx'.2 r2)
end
section
variable {prog : Program} {w : World}
/-- a thing's hash, asked -/
def HashOk (prog : Program) (w : World) (d : PyData) : Prop := ∀ (A : Around) (E : Value → Shared → Prop) (s : Shared) (v : Value) (as : List Addr) (Q : Int → Shared → Prop), Reads s.heap v d as → A.units + d.depth < cLine → Q (hsh d) { s with toks := s.toks + drw d } → wpAny (model prog w) A (pyHash v) Q E s
theorem hash_none : HashOk prog w .none := by
  intro A E s v as Q r _ h
  cases r
  have hT : s.TypeIs .none "NoneType" := rfl
  unfold pyHash pyHashByItsType
  refine wpAny_bind (wpAny_cRoomFor_byValue rfl ?_)
  refine wpAny_bind (wpAny_specialOf hT F.slot_NoneType_hash.lookup ?_)
  show wpAny _ _ (if (some (Value.builtin "NoneType.__hash__") == some Value.none) = true then _ else _) Q E s
  rw [if_neg (by rw [beq_builtin_none]; exact Bool.false_ne_true)]
  refine wpAny_bind (wpAny_specialOf hT F.slot_NoneType_hash.lookup ?_)
  show wpAny _ _ (callSpecialIfBoundUnlessNone? .none "__hash__" _ >>= _) Q E s
  refine wpAny_bind (wpAny_callSpecialIfBoundUnlessNone?_slot hT F.slot_NoneType_hash (wpAny_call_entry F.slot_NoneType_hash hT F.entry_NoneType_hash ?_ (F.args_NoneType_hash_1 _)))
  show wpAny _ _ (retInt 4238894112) _ _ s
  refine wpAny_ret_mkInt ?_
  exact wpAny_pure h
theorem hash_int (i : Int) : HashOk prog w (.int i) := by
  intro A E s v as Q r _ h
  cases r
  exact wpAny_pyHash_int h
theorem hash_tuple (xs : List PyData) (ih : ∀ x ∈ xs, HashOk prog w x) : HashOk prog w (.tuple xs) := by
  intro A E s v as Q r hu h
  cases r with
  | @tuple a o vs n _ as ho hc hd hi =>
  have hT : s.TypeIs (.ref a) "tuple" := ⟨o, ho, hc⟩
  have hdp : (PyData.tuple xs).depth = PyData.depthAll xs + 1 := rfl
  have hdl : ∀ (l : List PyData) (x : PyData), x ∈ l → x.depth ≤ PyData.depthAll l := by
    intro l
    induction l with
    | nil => intro x hx; cases hx
    | cons y l ihl =>
      intro x hx
      have e : PyData.depthAll (y :: l) = max y.depth (PyData.depthAll l) := rfl
      rcases List.mem_cons.mp hx with rfl | hx
      · omega
      · have := ihl x hx; omega
  unfold pyHash pyHashByItsType
  refine wpAny_bind (wpAny_cRoomFor_or (.inr (by omega)) ?_)
  refine wpAny_bind (wpAny_specialOf hT F.slot_tuple_hash.lookup ?_)
  show wpAny _ _ (if (some (Value.builtin "tuple.__hash__") == some Value.none) = true then _ else _) Q E s
  rw [if_neg (by rw [beq_builtin_none]; exact Bool.false_ne_true)]
  refine wpAny_bind (wpAny_specialOf hT F.slot_tuple_hash.lookup ?_)
  show wpAny _ _ (callSpecialIfBoundUnlessNone? (.ref a) "__hash__" _ >>= _) Q E s
  refine wpAny_bind (wpAny_callSpecialIfBoundUnlessNone?_slot hT F.slot_tuple_hash (wpAny_call_entry F.slot_tuple_hash hT F.entry_tuple_hash ?_ (F.args_tuple_hash_1 _)))
  show wpAny _ _ (Builtin.Tuple.tupleItemsOf (.ref a) >>= _) _ _ s
  refine wpAny_bind (wpAny_tupleItemsOf ho hd (wpAny_bind ?_))
  rw [← Array.forIn_toList]
  refine wpAny_forIn_list _ (fun rest (b : Array Int) s' => ∃ done left as', xs = done ++ left ∧ ReadsAll s.heap rest left as' ∧ b.toList = hshAll done ∧ s' = { s with toks := s.toks + drwAll done }) _ ?_ ?_ _ _ ⟨[], xs, _, rfl, hi, rfl, rfl⟩
  · rintro x rest b s' ⟨done, left, as', rfl, hl, hb, rfl⟩
    cases hl with
    | @cons _ _ k left' as1 as2 r1 r2 =>
      have hk : k.depth ≤ PyData.depthAll (done ++ k :: left') := hdl _ k (by simp)
      have hap : ∀ l : List PyData, hshAll (l ++ [k]) = hshAll l ++ [hsh k] := by
        intro l
        induction l with
        | nil => rfl
        | cons y l ihl => show hsh y :: hshAll (l ++ [k]) = _; rw [ihl]; rfl
      have hdr : ∀ l : List PyData, drwAll (l ++ [k]) = drwAll l + drw k := by
        intro l
        induction l with
        | nil => show drw k + 0 = 0 + drw k; omega
        | cons y l ihl => show drw y + drwAll (l ++ [k]) = drw y + drwAll l + drw k; rw [ihl]; omega
      refine wpAny_bind (ih k (by simp) _ _ _ x as1 _ r1 (by show A.units + 1 + k.depth < cLine; omega) ?_)
      first
        | exact wpAny_pure ⟨done ++ [k], left', as2, by simp, r2, by rw [hap]; simp [hb], by rw [hdr]; simp [Nat.add_assoc]⟩
        | exact wpAny_bind (wpAny_pure (wpAny_pure ⟨done ++ [k], left', as2, by simp, r2, by rw [hap]; simp [hb], by rw [hdr]; simp [Nat.add_assoc]⟩))
  · rintro b s' ⟨done, left, as', rfl, hl, hb, rfl⟩
    cases hl
    rw [List.append_nil] at h
    show wpAny _ _ (retInt (Builtin.Tuple.tupleHashOf b.toList)) _ _ _
    rw [hb]
    refine wpAny_ret_mkInt ?_
    show wpAny _ _ (if (decide (-(2 : Int) ^ 63 ≤ Builtin.Tuple.tupleHashOf (hshAll done)) && decide (Builtin.Tuple.tupleHashOf (hshAll done) < 2 ^ 63)) = true then _ else _) Q E _
    have h' : Q (reduceHash (Builtin.Tuple.tupleHashOf (hshAll done))) { s with toks := s.toks + (drwAll done + 1) } := h
    unfold reduceHash at h'
    by_cases hr : (decide (-(2 : Int) ^ 63 ≤ Builtin.Tuple.tupleHashOf (hshAll done)) && decide (Builtin.Tuple.tupleHashOf (hshAll done) < 2 ^ 63)) = true
    · rw [if_pos hr]
      rw [if_pos hr] at h'
      exact wpAny_pure (by simpa [Nat.add_assoc] using h')
    · rw [if_neg hr]
      rw [if_neg hr] at h'
      exact wpAny_bind (wpAny_rule (wpAny_pure (by simpa [Nat.add_assoc] using h')))
mutual
theorem hash_ok : ∀ d : PyData, smp d = true → HashOk prog w d
  | .none, _ => hash_none
  | .int i, _ => hash_int i
  | .tuple xs, h => hash_tuple xs (hash_okAll xs h)
  | .bool _, h => by cases h
  | .str _, h => by cases h
  | .list _, h => by cases h
  | .dict _, h => by cases h
theorem hash_okAll : ∀ xs : List PyData, smpAll xs = true → ∀ x ∈ xs, HashOk prog w x
  | [], _, _, hx => by cases hx
  | y :: xs, h, x, hx => by
    have h' : (smp y && smpAll xs) = true := h
    rw [Bool.and_eq_true] at h'
    rcases List.mem_cons.mp hx with e | hx
    · rw [e]; exact hash_ok y h'.1
    · exact hash_okAll xs h'.2 x hx
end
/-- comparing it asks no code -/
def QuietOk (prog : Program) (w : World) (d : PyData) : Prop := ∀ (n : Nat) (A : Around) (E : Value → Shared → Prop) (s : Shared) (v : Value) (as : List Addr) (Q : Bool → Shared → Prop), d.depth ≤ n → Reads s.heap v d as → Q true s → wpAny (model prog w) A (eqIsQuiet n v) Q E s
theorem quiet_tuple (xs : List PyData) (ih : ∀ x ∈ xs, QuietOk prog w x) : QuietOk prog w (.tuple xs) := by
  intro n A E s v as Q hn r h
  cases r with
  | @tuple a o vs m _ as ho hc hd hi =>
  have hT : s.TypeIs (.ref a) "tuple" := ⟨o, ho, hc⟩
  have hdp : (PyData.tuple xs).depth = PyData.depthAll xs + 1 := rfl
  have hdl : ∀ (l : List PyData) (x : PyData), x ∈ l → x.depth ≤ PyData.depthAll l := by
    intro l
    induction l with
    | nil => intro x hx; cases hx
    | cons y l ihl =>
      intro x hx
      have e : PyData.depthAll (y :: l) = max y.depth (PyData.depthAll l) := rfl
      rcases List.mem_cons.mp hx with rfl | hx
      · omega
      · have := ihl x hx; omega
  obtain ⟨k, rfl⟩ : ∃ k, n = k + 1 := ⟨n - 1, by omega⟩
  unfold eqIsQuiet
  refine wpAny_bind (wpAny_specialOf hT F.slot_tuple_eq.lookup ?_)
  show wpAny _ _ (isInstance (.ref a) (.type "tuple") >>= _) _ _ s
  refine wpAny_bind (wpAny_isInstance hT isSubtype_tuple_tuple ?_)
  simp only [Bool.not_true, Bool.false_eq_true, if_false]
  refine wpAny_bind (wpAny_seqItems ho hd (wpAny_bind ?_))
  show wpAny _ _ (forIn vs _ _) _ _ s
  rw [← Array.forIn_toList]
  refine wpAny_forIn_list _ (fun rest r s' => r.1 = none ∧ s' = s ∧ ∃ left as', (∀ x ∈ left, x ∈ xs) ∧ ReadsAll s.heap rest left as') _ ?_ ?_ _ _ ⟨rfl, rfl, xs, _, fun _ hx => hx, hi⟩
  · rintro y rest r s' ⟨hr, rfl, left, as', hin, hl⟩
    cases hl with
    | @cons _ _ d left' as1 as2 r1 r2 =>
      have := hdl xs d (hin d List.mem_cons_self)
      refine wpAny_bind (ih d (hin d List.mem_cons_self) k _ _ _ y as1 _ (by omega) r1 ?_)
      simp only [Bool.not_true, Bool.false_eq_true, if_false]
      exact wpAny_pure ⟨rfl, rfl, left', as2, fun x hx => hin x (List.mem_cons_of_mem _ hx), r2⟩
  · rintro ⟨r1, r2⟩ s' ⟨hr, rfl, _⟩
    simp only at hr
    subst hr
    exact wpAny_pure h
mutual
theorem quiet_ok : ∀ d : PyData, smp d = true → QuietOk prog w d
  | .none, _ => fun n A E s v as Q _ r h => by
    cases r
    rw [eqIsQuiet_byValue n rfl]
    exact wpAny_pure h
  | .int i, _ => fun n A E s v as Q _ r h => by
    cases r
    rw [eqIsQuiet_byValue n rfl]
    exact wpAny_pure h
  | .tuple xs, h => quiet_tuple xs (quiet_okAll xs h)
  | .bool _, h => by cases h
  | .str _, h => by cases h
  | .list _, h => by cases h
  | .dict _, h => by cases h
theorem quiet_okAll : ∀ xs : List PyData, smpAll xs = true → ∀ x ∈ xs, QuietOk prog w x
  | [], _, _, hx => by cases hx
  | y :: xs, h, x, hx => by
    have h' : (smp y && smpAll xs) = true := h
    rw [Bool.and_eq_true] at h'
    rcases List.mem_cons.mp hx with e | hx
    · rw [e]; exact quiet_ok y h'.1
    · exact quiet_okAll xs h'.2 x hx
end
noncomputable instance decData : DecidableEq PyData := fun a b => Classical.propDecidable (a = b)
noncomputable def nestKind (prog : Program) (w : World) : HeapKind prog w PyData where
  is h d a := (∃ as, Reads h (.ref a) d as) ∧ smp d = true ∧ d.depth ≤ 7
  hash := hsh
  draws := drw
  room A := A.units + 100 < cLine
  inj := fun ⟨⟨_, r1⟩, h1, _⟩ ⟨⟨_, r2⟩, _, _⟩ => PySem.SeqAt.Reads.unique _ _ _ _ _ (smp_lay _ h1) r1 r2
  keeps := fun ⟨⟨as, r⟩, h1, h2⟩ ho hd hs => ⟨⟨as, smp_keeps ho hd hs _ _ _ h1 r⟩, h1, h2⟩
  pyHash := fun hu ⟨⟨as, r⟩, h1, h2⟩ q => hash_ok _ h1 _ _ _ _ as _ r (by omega) q
  eqBool := fun {A E s x y a b Q} hu ⟨⟨as, r⟩, h1, h2⟩ ⟨⟨bs, r'⟩, h1', h2'⟩ q => PySem.SeqAt.eqAt_reads x y A s (.ref a) (.ref b) as bs r r' (smp_lay _ h1) (smp_lay _ h1') (by omega) prog w E Q (by rw [eqv_dec h1 h1']; exact q)
  quiet := fun ⟨⟨as, r⟩, h1, h2⟩ q => quiet_ok _ h1 8 _ _ _ _ as _ (by omega) r q
end
end L2

/-! ### a call of a value; dicts with nested keys -/
namespace L2
open PySem PySem.W PyProof.Rows
section
variable {X : Cx}
/-- the def at f may be called here -/
structure CanCall (X : Cx) (f : Addr) (sp : Sp) : Prop where
  ex : ∃ k fd ps, FnOk X.prog X.w X.K X.mg X.base (CX1 X.prog X.w) k f fd ps sp ∧ Room k X.A ∧ Binds X.K fd ps [] ∧ keepIn X.K (.ref f) = true
def tCallV (X : Cx) (tf : TE) (t : TA) : TE := fun σ H Q => tf σ H fun x H1 => ∃ f sp, x = .ref f ∧ CanCall X f sp ∧ t σ H1 fun vs H2 => sp vs H2 Q E0
theorem pe_callV {v i e : Expr} {es : List Expr} {p pos : Pos} {tf : TE} {t : TA} (hf : PE X (.Subscript v i p) tf) (hx : Passes (CX1 X.prog X.w) X E0) (ha : PA X (e :: es) t)
    (he : starEach (e :: es) X.env = (false, eval e X.env) :: starEach es X.env := by rfl) (hpl : (backTo pos (starEach es X.env)).any (·.1) = false := by rfl) :
    PE X (.Call (.Subscript v i p) (e :: es) [] pos) (tCallV X tf t) := by
  constructor
  intro pins s σ H Q I h
  show wpAny _ _ (do callWith pos (← eval (.Subscript v i p) X.env) [] (backTo pos (starEach (e :: es) X.env)) (backToKw pos (keywordEach [] X.env))) _ _ s
  refine wpAny_bind (thn (hf pins s σ H _ I h) fun u s1 ⟨x, H1, I1, rx, f, sp, ex, C, q1⟩ => ?_)
  subst ex
  obtain rfl : u = Value.ref f := rx
  obtain ⟨k, fd, ps, F, hr, hb, hk⟩ := C.ex
  refine callWith_K (h₀ := X.base) I1.ok.mod.kin hk (thn (ha pos pins s1 σ H1 _ I1 q1) fun us s2 ⟨vs, H2, I2, r, q2⟩ => ⟨I2.kIn, ?_⟩) he hpl
  exact run_fn F hr hb .nil hx I2 r (by rw [List.append_nil]; exact q2)
/-- a dict, by its entries -/
def DE (a : Addr) (es : List DictEntry) : HO := .ext fun h => (a == sysModules) = false ∧ ∃ o ep arr, h.get? a = some o ∧ o.ExactDict ∧ o.data = .dict arr ep ∧ arr.toList = es
theorem de_ok {P : Program} {w : World} {H : Hp} {h : Heap} {a : Addr} {es : List DictEntry} (hd : (a == sysModules) = false) (x : ∃ o ep arr, h.get? a = some o ∧ o.ExactDict ∧ o.data = .dict arr ep ∧ arr.toList = es) : ObjOk P w H h a (DE a es) := by
  refine ⟨⟨hd, x⟩, ?_, ?_⟩
  · obtain ⟨o, _, _, e, _⟩ := x
    exact ⟨o, e⟩
  · rintro h1 h2 ⟨_, o, ep, arr, e, c⟩ k
    exact ⟨hd, o, ep, arr, k o e, c⟩
theorem de_of {P : Program} {w : World} {H : Hp} {h : Heap} {a : Addr} {es : List DictEntry} (x : HOk P w H h) (e : H a = some (DE a es)) : (a == sysModules) = false ∧ ∃ o ep arr, h.get? a = some o ∧ o.ExactDict ∧ o.data = .dict arr ep ∧ arr.toList = es := (x a _ e).1
theorem pe_dnewN {pos : Pos} : PE X (.Dict [] [] pos) (fun _ H Q => ∀ p, H p = none → Q (.ref p) (upd H p (DE p []))) := ⟨fun pins s σ H Q I h =>
  wpAny_Dict_empty ⟨.ref s.heap.objs.size, _, I.laid (a := s.heap.objs.size) (o := DE s.heap.objs.size []) (t' := s.toks) (fun _ _ q => Heap.get?_push_of_some _ q) (Nat.le_refl _)
    (de_ok (beq_eq_false_iff_ne.mpr (Ne.symm (Nat.ne_of_lt I.big))) ⟨_, 0, #[], Heap.get?_push_size _ rfl, ⟨rfl, rfl, rfl⟩, rfl, rfl⟩), rfl, h _ (I.hok.fresh (Nat.le_refl _))⟩⟩
/-- the entries of keys that stand in the heap -/
noncomputable def entN (P : Program) (w : World) (xs : List (PyData × Addr)) : List DictEntry := xs.map fun x => entryOfKey (nestKind P w) (x.1, x.2, .bool true)
/-- None, as a key -/
theorem none_hash {prog : Program} {w : World} {A : Around} {E : Value → Shared → Prop} {s : Shared} {Q : Int → Shared → Prop} (h : Q 4238894112 { s with toks := s.toks + 1 }) : wpAny (model prog w) A (pyHash .none) Q E s := by
  have hT : s.TypeIs .none "NoneType" := rfl
  unfold pyHash pyHashByItsType
  refine wpAny_bind (wpAny_cRoomFor_byValue rfl ?_)
  refine wpAny_bind (wpAny_specialOf hT F.slot_NoneType_hash.lookup ?_)
  show wpAny _ _ (if (some (Value.builtin "NoneType.__hash__") == some Value.none) = true then _ else _) Q E s
  rw [if_neg (by rw [beq_builtin_none]; exact Bool.false_ne_true)]
  refine wpAny_bind (wpAny_specialOf hT F.slot_NoneType_hash.lookup ?_)
  show wpAny _ _ (callSpecialIfBoundUnlessNone? .none "__hash__" _ >>= _) Q E s
  refine wpAny_bind (wpAny_callSpecialIfBoundUnlessNone?_slot hT F.slot_NoneType_hash (wpAny_call_entry F.slot_NoneType_hash hT F.entry_NoneType_hash ?_ (F.args_NoneType_hash_1 _)))
  show wpAny _ _ (retInt 4238894112) _ _ s
  refine wpAny_ret_mkInt ?_
  exact wpAny_pure h
def isNo (v : Value) : Bool := match v with
  | .none => true
  | _ => false
theorem isNo_eq {v : Value} (h : isNo v = true) : v = .none := by
  cases v with
  | none => rfl
  | _ => cases h
def noneKind (prog : Program) (w : World) : KeyKind prog w Unit := {
  is := fun _ v => isNo v,
  hash := fun _ => 4238894112,
  inj := fun _ _ _ _ _ => rfl,
  byValue := fun _ v h => (by rw [isNo_eq h]; rfl),
  pyHash := fun {A E s k v Q} h q => (by rw [isNo_eq h]; exact none_hash q),
  eqBool := fun {A E s a b u v Q} hu hv q => (by rw [isNo_eq hu, isNo_eq hv]; exact PySem.SeqAt.EqAt.same (A := A) (s := s) .none prog w E Q (by simpa using q)),
  «strs» := fun k x t v h => (by cases h) }
def sPutN (X : Cx) (td ty : TE) : TS := fun D σ H => td σ H fun x H1 => ty σ H1 fun y H2 => ∃ a, x = .ref a ∧
  ((∃ xs b d, H2 a = some (DE a (entN X.prog X.w xs)) ∧ (∀ z ∈ xs, Dat H2 (.ref z.2) z.1 ∧ smp z.1 = true ∧ z.1.depth ≤ 7) ∧ y = .ref b ∧ Dat H2 (.ref b) d ∧ smp d = true ∧ d.depth ≤ 7 ∧ (xs.map (·.1)).Nodup ∧ d ∉ xs.map (·.1) ∧ xs.length ≤ 500 ∧ D.nx σ (upd H2 a (DE a (entN X.prog X.w (xs ++ [(d, b)]))))) ∨
   (H2 a = some (DE a []) ∧ y = .non ∧ ∀ es : List DictEntry, es.length = 1 → D.nx σ (upd H2 a (DE a es))))
theorem ps_putN {o i value : Expr} {td ty : TE} {pos pos' : Pos} (hu : X.A.units + 200 < cLine) (ho : PE X o td) (hi : PE X i ty) (hv : PE X value (tC (.bl true))) (hs : swapsWith value (some (.Subscript o i pos')) pos.line X.env = pure false) :
    PS X (.Assign [.Subscript o i pos'] value pos) (sPutN X td ty) := by
  constructor
  intro pins s σ H D I h
  refine wpAny_Assign_Subscript (thn (hv pins s σ H (fun v H1 => v = .bl true ∧ H1 = H) I ⟨rfl, rfl⟩) fun r s1 ⟨v, H1, I1, rv, ev, eH⟩ => ?_) hs
  subst ev eH
  obtain rfl : r = Value.bool true := rv
  refine thn (ho pins s1 σ H1 _ I1 h) fun u s2 ⟨x, H2, I2, rx, q2⟩ => thn (hi pins s2 σ H2 _ I2 q2) fun iv s3 ⟨y, H3, I3, ry, a, ex, q3⟩ => ?_
  subst ex
  obtain rfl : u = Value.ref a := rx
  rcases q3 with ⟨xs, b, d, e, hk, ey, db, hd1, hd2, nd, nin, hl, q⟩ | ⟨e, ey, q⟩
  · subst ey
    obtain rfl : iv = Value.ref b := ry
    obtain ⟨hm0, ob, ep, arr, hg, hx, hda, hen⟩ := de_of I3.hok e
    obtain ⟨as, rb⟩ := db.reads I3 (show RelV (.ref b) (.ref b) from rfl)
    have s1k := small1000 (n := 1000) (by omega)
    have dd : s3.heap.DictOfH (nestKind X.prog X.w) a (xs.map fun x => (x.1, x.2, Value.bool true)) := by
      refine ⟨ob, arr, ep, hg, hx, hda, by rw [hen, List.map_map]; rfl, fun z hz => ?_, by rw [List.map_map]; exact nd⟩
      obtain ⟨z0, hz0, rfl⟩ := List.mem_map.mp hz
      obtain ⟨dz, h1, h2⟩ := hk z0 hz0
      obtain ⟨as2, rz⟩ := dz.reads I3 (show RelV (.ref z0.2) (.ref z0.2) from rfl)
      exact ⟨⟨as2, rz⟩, h1, h2⟩
    refine wpAny_setItem_heap (knd := nestKind X.prog X.w) (k := d) (hsz := by rw [List.length_map]; omega) (by show X.A.units + 1 + 100 < cLine; omega) ⟨⟨as, rb⟩, hd1, hd2⟩ dd fun h' dd' hsb => ?_
    rw [storedH_new] at dd'
    · obtain ⟨o2, es2, ep2, g2, c2, da2, en2, _, _⟩ := dd'
      refine ⟨σ, _, d_write I3 (by rw [e]; exact True.intro) hsb ⟨o2, g2⟩ (de_ok hm0 ⟨o2, ep2, es2, g2, c2, da2, ?_⟩), q⟩
      rw [en2]
      unfold entN
      rw [List.map_append, List.map_append, List.map_map]
      rfl
    · refine atKey_none_of_get fun j p hj => nin ?_
      rw [List.getElem?_map] at hj
      cases hx2 : xs[j]? with
      | none => rw [hx2] at hj; cases hj
      | some z =>
        rw [hx2] at hj
        have e1 : z.1 = d := congrArg (fun t => t.1) (Option.some.inj hj)
        rw [← e1]
        exact List.mem_map_of_mem (List.mem_of_getElem? hx2)
  · subst ey
    obtain rfl : iv = Value.none := ry
    obtain ⟨hm0, ob, ep, arr, hg, hx, hda, hen⟩ := de_of I3.hok e
    have ea : arr = #[] := Array.toList_eq_nil_iff.mp hen
    subst ea
    have dd : s3.heap.DictOf (noneKind X.prog X.w) a [] := ⟨ob, #[], ep, hg, hx, hda, fun x hx => by simp at hx, .nil, List.nodup_nil⟩
    refine wpAny_setItem_pairs (knd := noneKind X.prog X.w) (k := ()) (hsz := Nat.zero_le _) rfl dd fun h' dd' hsb => ?_
    obtain ⟨o2, es2, ep2, g2, c2, da2, _, pr, _⟩ := dd'
    have hlen : es2.toList.length = 1 := by
      have := pr.length
      exact this
    exact ⟨σ, _, d_write I3 (by rw [e]; exact True.intro) hsb ⟨o2, g2⟩ (de_ok hm0 ⟨o2, ep2, es2, g2, c2, da2, rfl⟩), q _ hlen⟩
theorem call_lenN : CallR X (.builtin "len") (fun xs H Q => ∃ a es, xs = [V.ref a] ∧ H a = some (DE a es) ∧ es.length ≤ 500 ∧ Q (.int es.length) H) := by
  intro pins s σ H xs us Q I r h
  obtain ⟨a, es, rfl, ha, hl, q⟩ := h
  obtain ⟨u, rfl, ru⟩ := vals1 r
  cases ru
  obtain ⟨hm0, ob, ep, arr, hg, hx, hda, hen⟩ := de_of I.hok ha
  have hT : s.TypeIs (.ref a) "dict" := ⟨ob, hg, hx.1⟩
  have hsz : arr.size = es.length := by rw [← hen]; simp
  refine Calls.call_function_entry kind_len plain_len entry_len (args_len1 _) ?_
  unfold Builtin.«len»
  refine wpAny_bind (m := oneArg "len" _) (wpAny_pure (wpAny_bind (m := callSpecial? (.ref a) (Str.ofString "__len__")) (wpAny_callSpecial?_slot (name := Str.ofString "__len__") hT PySem.F.slot_dict_len
    (wpAny_call_entry PySem.F.slot_dict_len hT PySem.F.entry_dict_len ?_ (PySem.F.args_dict_len_1 _)))))
  show wpAny _ _ (dictSize a >>= _) _ _ s
  unfold dictSize
  refine wpAny_bind (wpAny_bind (wpAny_dictEntries hg hda (wpAny_pure ?_)))
  show wpAny _ _ (Builtin.Dict.pendingCount a >>= _) _ _ s
  refine wpAny_bind (wpAny_pendingCount_other hm0 (wpAny_ret_mkInt ?_))
  have e0 : ((arr.size : Nat) : Int) + ((0 : Nat) : Int) = ((es.length : Nat) : Int) := by rw [hsz]; omega
  rw [e0]
  refine wpAny_bind (wpAny_holding (wpAny_pure (wpAny_bind (wpAny_letGo ?_))))
  show wpAny _ _ (if ((es.length : Nat) : Int) < 0 then _ else _) _ _ _
  rw [if_neg (by omega)]
  show wpAny _ _ (if ((es.length : Nat) : Int) ≥ 2 ^ 63 then _ else _) _ _ _
  rw [if_neg (by omega)]
  exact wpAny_bind (wpAny_mkInt (wpAny_pure ⟨_, rfl, .int es.length, H, (I.tok _).tok _, ⟨_, rfl⟩, q⟩))
end
end L2

/-! ### enumerate of a list; split -/
namespace L2
open PySem PySem.Spec PyProof.Rows
/-- a list's items with their places -/
def ItL (a : Addr) : It := ⟨fun i H => ∃ xs x, H a = some (.lst xs) ∧ xs[i]? = some x, fun i H x H' => ∃ T y, (∀ xs, H a = some (.lst xs) → xs[i]? = some y) ∧ x = .ref T ∧ H T = none ∧ H' = upd H T (.tup [.int (i : Nat), y]),
  fun i H => ∃ xs, H a = some (.lst xs) ∧ xs.length = i⟩
theorem turn_enumL {P : Program} {w : World} {K : PySem.W.Frag} {elts : List Expr} {kk : Nat} {tpos : Pos} {e it a : Addr} (hei : e ≠ it) :
    Turn P w K (.Tuple elts kk tpos) (ItL a) [e, it] e (fun i h => (∃ old, IsEnum h e it i old) ∧ h.IsListIter it a i) where
  mem := by simp
  obj := fun i h st b hb => by
    obtain ⟨⟨old, h1⟩, o, h2, h3, h4⟩ := st
    rcases List.mem_cons.mp hb with rfl | hb
    · exact ⟨_, h1, fun v q => by cases q⟩
    · rw [List.mem_singleton.mp hb]
      exact ⟨o, h2, fun v q => by rw [h4] at q; cases q⟩
  keep := fun i h h' st k => by
    obtain ⟨⟨old, h1⟩, h2⟩ := st
    exact ⟨⟨old, k e (by simp) _ h1⟩, h2.at fun o g => k it (by simp) o g⟩
  item := by
    intro X hP hw hK hc i pins s σ H E I hf st hg
    subst hP hw hK
    obtain ⟨xs, x, hq, hx⟩ := hg
    obtain ⟨its, rv, pl, hz⟩ := I.list (SqL.of hq)
    obtain ⟨u, hu, ru⟩ := rv.get hx
    have n1 : a ≠ it := fun z => by have := (hf it (by simp)).1; rw [← z, hq] at this; cases this
    have n2 : a ≠ e := fun z => by have := (hf e (by simp)).1; rw [← z, hq] at this; cases this
    have W := WalksT.enumerateD (A := X.A) (Draws.list (prog := X.prog) (w := X.w) (A := X.A.in1) (I.ok.hd hc) it a n1 its.toArray) e hei (by simp; exact ⟨hei, Ne.symm n2⟩) (by simp)
    have he : e < s.heap.objs.size := by obtain ⟨⟨_, h1⟩, _⟩ := st; exact Heap.lt_size h1
    have hi : it < s.heap.objs.size := by obtain ⟨_, o, h2, _⟩ := st; exact Heap.lt_size h2
    have hil : i < its.length := (List.getElem?_eq_some_iff.mp hu).1
    refine W.item i s _ _ (by simpa using hil) ⟨st.1, st.2, pl.isList⟩ fun T vals h1 tk hv hT ht mid k1 => ?_
    obtain ⟨tt, v, hvx, rfl⟩ := hv
    have ev : v = u := by
      have : its[i]? = some v := by simpa using hvx
      rw [hu] at this
      exact (Option.some.inj this).symm
    subst ev
    refine ⟨_, rfl, ?_⟩
    have hTw : T ∉ [e, it] := W.apart i T h1 mid
    refine W.go elts kk tpos i T { s with heap := h1, toks := tk } _ _ mid fun h2 st2 k2 => ?_
    have hk : ∀ b u, b ∉ [e, it] → s.heap.get? b = some u → h2.get? b = some u := fun b u hb q => k2 b u hb (k1 b u hb q)
    obtain ⟨o, ho, hoc, n, hod⟩ := ht
    have new : ObjOk X.prog X.w (upd H T (.tup [V.int (i : Nat), x])) h2 T (.tup [V.int (i : Nat), x]) :=
      ⟨by show 2 ≤ sizeLine; decide, [.int i tt, v], .cons ⟨tt, rfl⟩ (.cons ru .nil), o, k2 T o hTw ho, hoc, n, hod⟩
    refine ⟨.ref T, upd H T (.tup [V.int (i : Nat), x]), I.turnT (t' := tk) (wr := [e, it]) hk hf hT new, rfl, ⟨T, x, fun ys hy => ?_, rfl, I.hok.fresh hT, rfl⟩, ⟨st2.1, st2.2.1⟩, fun b hb => ?_⟩
    · rw [hq] at hy; cases hy; exact hx
    have hbT : b ≠ T := by
      rcases List.mem_cons.mp hb with rfl | hb
      · exact Nat.ne_of_lt (Nat.lt_of_lt_of_le he hT)
      · rw [List.mem_singleton.mp hb]; exact Nat.ne_of_lt (Nat.lt_of_lt_of_le hi hT)
    rw [upd_ne hbT]
    exact (hf b hb).1
  done := by
    intro X hP hw hK hc i pins s σ H E I hf st hg
    subst hP hw hK
    obtain ⟨xs, hq, hx⟩ := hg
    obtain ⟨its, rv, pl, hz⟩ := I.list (SqL.of hq)
    have hl := rv.length
    have n1 : a ≠ it := fun z => by have := (hf it (by simp)).1; rw [← z, hq] at this; cases this
    have n2 : a ≠ e := fun z => by have := (hf e (by simp)).1; rw [← z, hq] at this; cases this
    have W := WalksT.enumerateD (A := X.A) (Draws.list (prog := X.prog) (w := X.w) (A := X.A.in1) (I.ok.hd hc) it a n1 its.toArray) e hei (by simp; exact ⟨hei, Ne.symm n2⟩) (by simp)
    have ei : i = its.toArray.size := by simp; omega
    subst ei
    exact W.done s _ _ ⟨st.1, st.2, pl.isList⟩ fun h1 tk k1 => ⟨rfl, I.turnL k1 hf⟩
  self := fun A i s Q E st h => by
    obtain ⟨⟨old, h1⟩, _⟩ := st
    exact wpAny_pyIter_enum h1 h
section
variable {X : Cx}
def iEnumL (ta : TA) : TI := fun σ H R => ta σ H fun vs H1 => ∃ a xs, vs = [.ref a] ∧ H1 a = some (.lst xs) ∧ R (ItL a) H1
theorem pi_enumL {elts : List Expr} {kk : Nat} {tpos : Pos} {e : Expr} {ta : TA} {p pos : Pos} (hg : Gl X "enumerate") (hm : X.mg "enumerate" = none) (ha : PA X [e] ta) (hs : starEach [e] X.env = [(false, eval e X.env)] := by rfl) :
    PI X (.Tuple elts kk tpos) (.Call (.Name "enumerate" p) [e] [] pos) (iEnumL ta) := by
  constructor
  intro pins s σ H R I h
  refine Call_ (ld_blt I hg hm (u := .type "enumerate") (by decide +kernel) (PyProof.Rows.callWith_type1 (thn (ha pos pins s σ H _ I h) fun us s1 ⟨vs, H1, I1, r1, q1⟩ => ?_) hs rfl))
  obtain ⟨a, xs, rfl, hl, q⟩ := q1
  obtain ⟨u, rfl, ru⟩ := vals1 r1
  cases ru
  obtain ⟨its, rv, pl, hz⟩ := I1.list (SqL.of hl)
  refine call_enumerate_list pl.isList fun h1 h2 h3 h4 h5 => ?_
  refine wpAny_pyIter_enum h2 ?_
  have ne : s1.heap.objs.size + 1 ≠ s1.heap.objs.size := Nat.succ_ne_self _
  have fp : ∀ b ∈ [s1.heap.objs.size + 1, s1.heap.objs.size], FpOk X pins H1 b := fun b hb => by
    rcases List.mem_cons.mp hb with rfl | hb
    · exact I1.fpOk (Nat.le_succ _) (I1.hok.fresh (Nat.le_succ _))
    · rw [List.mem_singleton.mp hb]; exact I1.fpOk (Nat.le_refl _) (I1.hok.fresh (Nat.le_refl _))
  have I2 : Inv X pins σ H1 { s1 with heap := h1 } := I1.kept (t' := s1.toks) h5
  exact ⟨_, _, _, _, H1, rfl, I2, turn_enumL ne, ⟨⟨_, h2⟩, h3⟩, fp, q⟩
theorem for_enumL {a : Addr} {xs : List V} {g : TG} {tb : TS} {D : Ends} {σ : St} {H : Hp} (Pv : Nat → St → Hp → Prop) (h0 : Pv 0 σ H) (hl : ∀ i σ H, Pv i σ H → H a = some (.lst xs))
    (hs : ∀ i y σ H T, xs[i]? = some y → Pv i σ H → H T = none → g (.ref T) σ (upd H T (.tup [.int (i : Nat), y])) fun σ2 H2 => tb { D with nx := Pv (i + 1), ct := Pv (i + 1), bk := D.nx } σ2 H2) (hd : ∀ σ H, Pv xs.length σ H → D.nx σ H) :
    ∃ W : Nat → Nat → St → Hp → Prop, (∃ m, W 0 m σ H) ∧ ∀ i m σ H, W i m σ H →
      ((ItL a).stop i H ∧ D.nx σ H) ∨ ((ItL a).go i H ∧ ∃ N : St → Hp → Prop, (∀ σ' H', N σ' H' → ∃ m', m' < m ∧ W (i + 1) m' σ' H') ∧ ∀ x H', (ItL a).yld i H x H' → g x σ H' fun σ2 H2 => tb { D with nx := N, ct := N, bk := D.nx } σ2 H2) := by
  refine ⟨fun i m σ H => m = xs.length - i ∧ i ≤ xs.length ∧ Pv i σ H, ⟨xs.length, by simp, Nat.zero_le _, h0⟩, ?_⟩
  rintro i m σ H ⟨rfl, hi, p⟩
  have q := hl i σ H p
  by_cases hlt : i < xs.length
  · refine .inr ⟨⟨xs, xs[i], q, by simp [hlt]⟩, Pv (i + 1), fun σ' H' p' => ⟨xs.length - (i + 1), by omega, rfl, hlt, p'⟩, fun x H' y => ?_⟩
    obtain ⟨T, v, hv, rfl, hT, rfl⟩ := y
    exact hs i v σ H T (hv xs q) p hT
  · have e : i = xs.length := by omega
    subst e
    exact .inl ⟨⟨xs, q, rfl⟩, hd σ H p⟩
theorem vals_from : ∀ (tk : Nat) (xs : List Str), Vals (xs.map V.str) (strsFrom tk xs)
  | _, [] => .nil
  | tk, _ :: xs => .cons ⟨tk, rfl⟩ (vals_from (tk + 1) xs)
theorem mt_split : MtM X "str.split" (fun x vs H Q => ∃ z y, x = .str z ∧ vs = [.str y] ∧ (y.length == 0) = false ∧ z.length ≤ 900 ∧ (Txt.split z y).length ≤ 900 ∧ ∀ p, H p = none → Q (.ref p) (upd H p (.lst ((Txt.split z y).map V.str)))) := by
  intro pins s σ H x vs v us Q I rx rv h
  obtain ⟨z, y, rfl, rfl, hy, hz, hn, q⟩ := h
  obtain ⟨t, rfl⟩ := rx
  obtain ⟨u, rfl, ru⟩ := vals1 rv
  obtain ⟨t2, rfl⟩ := ru
  have s1k := small1000 (n := 1000) (by omega)
  have fin : ∀ (its : List Value) (tk : Nat), Vals ((Txt.split z y).map V.str) its → EP X pins σ Q (.ref s.heap.objs.size) { s with toks := tk, heap := s.heap.push { cls := .type "list", data := .seq its.toArray } } := fun its tk rel => by
    have new : ObjOk X.prog X.w (upd H s.heap.objs.size (.lst ((Txt.split z y).map V.str))) (s.heap.push { cls := .type "list", data := .seq its.toArray }) s.heap.objs.size (.lst ((Txt.split z y).map V.str)) :=
      ⟨by rw [List.length_map]; omega, its, 0, rel, Heap.get?_push_size _ rfl⟩
    exact ⟨.ref _, _, I.laid (t' := tk) (fun b o e => Heap.get?_push_of_some _ e) (Nat.le_refl _) new, rfl, q _ (I.hok.fresh (Nat.le_refl _))⟩
  cases h1 : (decide (z.length < y.length) || decide (Builtin.Str.strKind z < Builtin.Str.strKind y))
  · cases hf : (Builtin.Str.occurrences z y 0 z.length (z.length + 1)).isEmpty
    · have e : Txt.split z y = Builtin.Str.partsBetween z (Builtin.Str.occurrences z y 0 z.length (z.length + 1)) y.length := (if_neg (ne_true_of_eq_false h1)).trans (if_neg (ne_true_of_eq_false hf))
      refine call_meets PySem.F.slot_str_split (typeIs_str _ _ _) PySem.F.entry_str_split (PySem.F.args_str_split_2 _ _) (meets_str_split_sep z y t t2 h1 hy hf (by omega) (by rw [← e]; omega)) ?_
      exact fin _ _ (by rw [e]; exact vals_from _ _)
    · have e : Txt.split z y = [z] := (if_neg (ne_true_of_eq_false h1)).trans (if_pos hf)
      exact call_meets PySem.F.slot_str_split (typeIs_str _ _ _) PySem.F.entry_str_split (PySem.F.args_str_split_2 _ _) (meets_str_split_not_found z y t t2 h1 hy hf) (fin [.str z t] s.toks (by rw [e]; exact .cons ⟨t, rfl⟩ .nil))
  · have e : Txt.split z y = [z] := if_pos h1
    exact call_meets PySem.F.slot_str_split (typeIs_str _ _ _) PySem.F.entry_str_split (PySem.F.args_str_split_2 _ _) (meets_str_split_cannot_occur z y t t2 h1) (fin [.str z t] s.toks (by rw [e]; exact .cons ⟨t, rfl⟩ .nil))
end
end L2

/-! ### all rows of a size: numbers, keys -/
namespace Br
theorem S_rank : ∀ n, n < 6 → ∀ i, i < (S n).length → unrank (2 * n) 0 i = (S n).getD i [] ∧ rank ((S n).getD i []) 0 = i ∧ lw 0 ((S n).getD i []) = true := by decide +kernel
theorem S_many : ∀ n, n < 6 → cT n n = (S n).length ∧ 0 < (S n).length := by decide +kernel
theorem S_nd : ∀ n, n < 6 → (S n).Nodup := by decide +kernel
/-- a tree is told by its threes -/
theorem th_inj : ∀ (t t' : Tr) (g : Int), sz t = sz t' → (th t g).Perm (th t' g) → t = t'
  | .leaf, .leaf, _, _, _ => rfl
  | .leaf, .node a b, _, h, _ => by rw [sz, sz] at h; omega
  | .node a b, .leaf, _, h, _ => by rw [sz, sz] at h; omega
  | .node a b, .node a' b', g, hs, h => by
    have hs' : sz a + sz b + 1 = sz a' + sz b' + 1 := hs
    have m1 : [g, g + sz a + 1, g + sz a + sz b + 2] ∈ th (.node a' b') g := h.mem_iff.mp (by rw [th]; exact List.mem_cons_self)
    have ea : sz a = sz a' := by
      rw [th] at m1
      rcases List.mem_cons.mp m1 with e | m1
      · have : g + sz a + 1 = g + sz a' + 1 := (List.cons.inj (List.cons.inj e).2).1
        omega
      · rcases List.mem_append.mp m1 with m | m
        · obtain ⟨p, q, r, e, h1, h2, h3, h4⟩ := th_in a' g _ m
          have : g + sz a + sz b + 2 = r := (List.cons.inj (List.cons.inj (List.cons.inj e).2).2).1
          omega
        · obtain ⟨p, q, r, e, h1, h2, h3, h4⟩ := th_in b' _ _ m
          have : g = p := (List.cons.inj e).1
          omega
    have eb : sz b = sz b' := by omega
    have fa : ∀ (x y : Tr), sz x = sz a → (th (.node x y) g).filter (fun u => decide (u.getD 2 0 ≤ g + sz a + 1)) = th x g := fun x y ex => by
      rw [th, List.filter_cons, if_neg, List.filter_append]
      · have e1 : (th x g).filter (fun u => decide (u.getD 2 0 ≤ g + sz a + 1)) = th x g := List.filter_eq_self.mpr fun u hu => by
          obtain ⟨p, q, r, rfl, h1, h2, h3, h4⟩ := th_in x g u hu
          have : r ≤ g + sz a + 1 := by omega
          exact decide_eq_true this
        have e2 : (th y (g + sz x + 1)).filter (fun u => decide (u.getD 2 0 ≤ g + sz a + 1)) = [] := List.filter_eq_nil_iff.mpr fun u hu => by
          obtain ⟨p, q, r, rfl, h1, h2, h3, h4⟩ := th_in y _ u hu
          have : ¬ r ≤ g + sz a + 1 := by omega
          simpa using this
        rw [e1, e2, List.append_nil]
      · have : ¬ g + sz x + sz y + 2 ≤ g + sz a + 1 := by omega
        simpa using this
    have fb : ∀ (x y : Tr), sz x = sz a → (th (.node x y) g).filter (fun u => decide (g + sz a + 1 ≤ u.getD 0 0)) = th y (g + sz a + 1) := fun x y ex => by
      rw [th, List.filter_cons, if_neg, List.filter_append]
      · have e1 : (th x g).filter (fun u => decide (g + sz a + 1 ≤ u.getD 0 0)) = [] := List.filter_eq_nil_iff.mpr fun u hu => by
          obtain ⟨p, q, r, rfl, h1, h2, h3, h4⟩ := th_in x g u hu
          have : ¬ g + sz a + 1 ≤ p := by omega
          simpa using this
        have e2 : (th y (g + sz x + 1)).filter (fun u => decide (g + sz a + 1 ≤ u.getD 0 0)) = th y (g + sz x + 1) := List.filter_eq_self.mpr fun u hu => by
          obtain ⟨p, q, r, rfl, h1, h2, h3, h4⟩ := th_in y _ u hu
          have : g + sz a + 1 ≤ p := by omega
          exact decide_eq_true this
        rw [e1, e2, List.nil_append, ex]
      · have : ¬ g + sz a + 1 ≤ g := by omega
        simpa using this
    have p1 := h.filter (fun u => decide (u.getD 2 0 ≤ g + sz a + 1))
    have p2 := h.filter (fun u => decide (g + sz a + 1 ≤ u.getD 0 0))
    rw [fa a b rfl, fa a' b' ea.symm] at p1
    rw [fb a b rfl, fb a' b' ea.symm] at p2
    rw [th_inj a a' g ea p1, th_inj b b' _ eb p2]
theorem trD_inj : ∀ t t' : Tr, trD t = trD t' → t = t'
  | .leaf, .leaf, _ => rfl
  | .leaf, .node _ _, h => by cases h
  | .node _ _, .leaf, h => by cases h
  | .node a b, .node a' b', h => by
    have h' : PySem.PyData.tuple [trD a, trD b] = .tuple [trD a', trD b'] := h
    have h1 := PySem.PyData.tuple.inj h'
    rw [trD_inj a a' (List.cons.inj h1).1, trD_inj b b' (List.cons.inj (List.cons.inj h1).2).1]
/-! ### partings of short rows -/
/-- how many signs are shut behind each opened one -/
def shuts : List Nat → List Nat
  | [] => []
  | 40 :: r => match shuts r with
    | l => (r.takeWhile (· == 41)).length :: l
  | _ :: r => shuts r
/-- free points and blocks behind the first points -/
def stepP (s : List Int × List (List Int)) (x : Nat × Nat) : List Int × List (List Int) :=
  if x.2 = 0 then (s.1 ++ [(x.1 : Int)], s.2) else ((s.1 ++ [(x.1 : Int)]).take (s.1.length + 1 - x.2), s.2 ++ [(s.1 ++ [(x.1 : Int)]).drop (s.1.length + 1 - x.2)])
def afterP (r : List Nat) (i : Nat) : List Int × List (List Int) := (((List.range i).zip (shuts r)).take i).foldl stepP ([], [])
def ltI : List Int → List Int → Bool
  | _, [] => false
  | [], _ :: _ => true
  | a :: x, b :: y => if a < b then true else if a = b then ltI x y else false
def insI (x : List Int) : List (List Int) → List (List Int)
  | [] => [x]
  | y :: ys => if ltI y x then y :: insI x ys else x :: y :: ys
def srtI : List (List Int) → List (List Int)
  | [] => []
  | x :: xs => insI x (srtI xs)
theorem insI_perm (x : List Int) : ∀ l, (insI x l).Perm (x :: l)
  | [] => .refl _
  | y :: ys => by
    unfold insI
    split
    · exact ((insI_perm x ys).cons y).trans (.swap x y ys)
    · exact .refl _
theorem srtI_perm : ∀ l, (srtI l).Perm l
  | [] => .refl _
  | x :: xs => (insI_perm x _).trans ((srtI_perm xs).cons x)
theorem ltI_ok : ∀ x y : List Int, ltI x y = decide (x < y)
  | [], [] => by simp [ltI]
  | [], _ :: _ => by simp [ltI]
  | _ :: _, [] => by simp [ltI]
  | a :: x, b :: y => by
    rw [ltI, ltI_ok x y]
    by_cases h1 : a < b
    · simp [h1, List.cons_lt_cons_iff]
    · by_cases h2 : a = b
      · simp [h2, List.cons_lt_cons_iff]
      · simp [h1, h2, List.cons_lt_cons_iff]
def blocks (r : List Nat) : List (List Int) := (afterP r (shuts r).length).2
def ptg (r : List Nat) : List (List Int) := srtI (blocks r)
def upI : List (List Int) → Bool
  | [] => true
  | [_] => true
  | x :: y :: l => ltI x y && upI (y :: l)
theorem upI_ok : ∀ l : List (List Int), upI l = true → l.Pairwise (· < ·)
  | [], _ => .nil
  | [_], _ => List.pairwise_singleton _ _
  | x :: y :: l, h => by
    have h' : (ltI x y && upI (y :: l)) = true := h
    rw [Bool.and_eq_true] at h'
    have ih := upI_ok (y :: l) h'.2
    have hxy : x < y := by
      have := h'.1
      rw [ltI_ok] at this
      exact of_decide_eq_true this
    refine List.pairwise_cons.mpr ⟨fun z hz => ?_, ih⟩
    rcases List.mem_cons.mp hz with rfl | hz
    · exact hxy
    · exact List.lt_trans hxy ((List.pairwise_cons.mp ih).1 z hz)
theorem S_ptg : ∀ n, n < 6 → ∀ r ∈ S n, upI (ptg r) = true ∧ (blocks r).Nodup ∧ (∀ b ∈ blocks r, b ≠ []) ∧ (blocks r).length ≤ 5 ∧ (shuts r).length ≤ 5 := by decide +kernel
def okP (r : List Nat) : Bool := (List.range (shuts r).length).all fun i => decide ((shuts r).getD i 0 ≤ (afterP r i).1.length + 1) && decide (afterP r (i + 1) = stepP (afterP r i) (i, (shuts r).getD i 0)) && decide ((afterP r i).1.length ≤ 5) && decide ((afterP r i).2.length ≤ 5)
theorem okP_all : ∀ n, n < 6 → ∀ r ∈ S n, okP r = true := by decide +kernel
theorem S_step {n : Nat} (hn : n < 6) {r : List Nat} (hr : r ∈ S n) {i : Nat} (hi : i < (shuts r).length) : (shuts r).getD i 0 ≤ (afterP r i).1.length + 1 ∧ afterP r (i + 1) = stepP (afterP r i) (i, (shuts r).getD i 0) ∧ (afterP r i).1.length ≤ 5 ∧ (afterP r i).2.length ≤ 5 := by
  have h := List.all_eq_true.mp (okP_all n hn r hr) i (List.mem_range.mpr hi)
  rw [Bool.and_eq_true, Bool.and_eq_true, Bool.and_eq_true] at h
  exact ⟨of_decide_eq_true h.1.1.1, of_decide_eq_true h.1.1.2, of_decide_eq_true h.1.2, of_decide_eq_true h.2⟩
theorem ptg_nd : ∀ n, n < 6 → ((S n).map ptg).Nodup := by decide +kernel
end Br

namespace Nk10
open PySem L2
def top (i : Nat) : Stmt := PySem.Challenge.pw_bracketnumbers_k10_whole_all_of_a_size.main.body.getD i (.Pass ⟨0, 0, 0, 0⟩)
abbrev st_rise : Stmt := top 7
abbrev st_levels : Stmt := top 8
abbrev st_is_whole : Stmt := top 9
abbrev st_partner : Stmt := top 10
abbrev st_one_sign_more : Stmt := top 12
abbrev st_endings : Stmt := top 13
abbrev st_count : Stmt := top 14
abbrev st_endings_of_size : Stmt := top 15
abbrev st_number : Stmt := top 16
abbrev st_has_row : Stmt := top 17
abbrev st_row_of : Stmt := top 18
abbrev st_next_row : Stmt := top 19
abbrev st_parting_of : Stmt := top 21
abbrev st_threes : Stmt := top 22
abbrev st_cut_of : Stmt := top 23
abbrev st_forest_of : Stmt := top 25
abbrev st_tree_of : Stmt := top 26
abbrev st__law_cell : Stmt := top 28
abbrev st__law_mix : Stmt := top 29
abbrev st__law_all : Stmt := top 30
abbrev st_law : Stmt := top 31
theorem same_new {H : Hp} {p : Addr} (h : H p = none) (o : HO) : Same H (upd H p o) := fun b u q => by rw [upd_ne (ne_of_none q h)]; exact q
theorem same_but {H H1 : Hp} {p : Addr} (hs : Same H H1) (hp : H p = none) (o : HO) : Same H (upd H1 p o) := fun b u q => by rw [upd_ne (ne_of_none q hp)]; exact hs b u q
theorem par_l : (Str.ofString "(") = ⟨#[40]⟩ := by decide +kernel
theorem par_r : (Str.ofString ")") = ⟨#[41]⟩ := by decide +kernel
theorem no_sign : (Str.ofString "") = ⟨#[]⟩ := by decide +kernel
theorem one_eq {c d : Nat} : ((⟨#[c]⟩ : Str) = ⟨#[d]⟩) ↔ c = d := by
  constructor
  · intro h
    have := congrArg (fun s : Str => s.cps.toList) h
    simpa using this
  · rintro rfl; rfl
theorem cs_snoc (z : Str) (c : Nat) : cs (z ++ (⟨#[c]⟩ : Str)) = cs z ++ [c] := by rw [cs_append]
theorem len_snoc (z : Str) (c : Nat) : (z ++ (⟨#[c]⟩ : Str)).length = z.length + 1 := by rw [← cs_length, cs_snoc, List.length_append, cs_length]; rfl
theorem cut_int {ns : List Int} {lo hi : Option Int} {i : Nat} {x : V} (h : (cutV (ns.map V.int) lo hi)[i]? = some x) : ∃ c, x = .int c ∧ c ∈ ns := by
  have m := List.mem_of_getElem? h
  unfold cutV at m
  obtain ⟨c, hc, rfl⟩ := List.mem_map.mp (List.mem_of_mem_drop (List.mem_of_mem_take m))
  exact ⟨c, rfl, hc⟩
theorem cs_cut (z : Str) (i j : Nat) (hij : i ≤ j) (hj : j ≤ z.length) : cs (Txt.slice z (some (i : Int)) (some (j : Int))) = ((cs z).drop i).take (j - i) := by
  rw [cs_slice, HT.sIx_nat, HT.sIx_nat, Nat.min_eq_left hj, Nat.min_eq_left (Nat.le_trans hij hj)]
theorem cs_to (z : Str) (j : Nat) (hj : j ≤ z.length) : cs (Txt.slice z none (some (j : Int))) = (cs z).take j := by
  rw [cs_slice, HT.sIx_nat, HT.sIx_none, Nat.min_eq_left hj, List.drop_zero, Nat.sub_zero]
theorem cs_from (z : Str) (i : Nat) (hi : i ≤ z.length) : cs (Txt.slice z (some (i : Int)) none) = (cs z).drop i := by
  have hz := cs_length z
  rw [cs_slice, HT.sIx_nat, HT.sIx_none, Nat.min_eq_left hi, List.take_of_length_le (by rw [List.length_drop]; omega)]
theorem slice_len (z : Str) (lo hi : Option Int) : (Txt.slice z lo hi).length ≤ z.length := Txt.slice_le z lo hi
/-- signs as texts -/
def ones (r : List Nat) : List Str := r.map fun c => (⟨#[c]⟩ : Str)
theorem ones_sum (a : List Nat) : ((ones a).map (·.length)).sum = a.length := by
  unfold ones
  induction a with
  | nil => rfl
  | cons c r ih => rw [List.map_cons, List.map_cons, List.sum_cons, ih, List.length_cons]; show 1 + _ = _; omega
theorem cs_ones (a : List Nat) : cs (Txt.join (Str.ofString "") (ones a)) = a := by
  unfold ones
  rw [no_sign, cs_join, List.map_map]
  induction a with
  | nil => rfl
  | cons c r ih => rw [List.map_cons, List.flatten_cons, ih]; rfl
theorem atI_of {α : Type} {xs : List α} {k : Int} {j : Nat} {v : α} (e : k = (j : Int)) (h : xs[j]? = some v) : atI xs k = some v := by subst e; exact atI_nat h
section
variable {P : Program} {w : World} {K : PySem.W.Frag} {mg : Str → Option Value} {base : Heap} {f : Addr} {fd : FuncData}

/-! ### rise -/
def spRise : Sp := fun vs H Q _ => ∃ c, vs = [.str ⟨#[c]⟩] ∧ Q (.int (Br.rise c)) H
theorem scRise : FnScope ["sign"] ["sign"] (defScope st_rise) := ⟨rfl, rfl, rfl, by decide +kernel, rfl, by decide +kernel, by decide +kernel⟩
theorem ok_rise (F : Fun K "rise" "rise" st_rise f fd) : FnOk P w K mg base (CX1 P w) 1 f fd ["sign"] spRise := by
  refine F.ok1 scRise (fun vs H Q E h => ?_) (fun cdv A outer s H vs Q E hr h => ?_)
  · obtain ⟨c, rfl, _⟩ := h
    rfl
  obtain ⟨c, rfl, q⟩ := h
  refine ⟨_, pss_one (ps_ret (pe_ifExp (pt_cmpR op_eq (pv 0) pe_str (nomark _)) pe_int (pe_un un_neg pe_int))), ?_⟩
  refine ⟨_, rfl, rfl, _, rfl, ?_⟩
  refine ite2 (fun h => ?_) (fun h => ?_)
  · have e : c = 40 := by
      have := of_decide_eq_true h
      rw [par_l] at this
      exact one_eq.mp (V.str.inj this)
    have : Br.rise c = 1 := by rw [e]; rfl
    rw [this] at q
    exact q
  · have e : ¬ c = 40 := fun z => h (by rw [par_l, z]; exact decide_eq_true rfl)
    have : Br.rise c = -1 := by unfold Br.rise; rw [if_neg e]
    rw [this] at q
    exact ⟨1, rfl, q⟩

/-! ### levels -/
def spLevels : Sp := fun vs H Q _ => ∃ z, vs = [.str z] ∧ z.length ≤ 1000 ∧ ∀ p H', H p = none → Same H H' → H' p = some (.lst ((Br.heads (cs z)).map V.int)) → Q (.ref p) H'
theorem scLevels : FnScope ["row", "heads", "sign"] ["row"] (defScope st_levels) := ⟨rfl, rfl, rfl, by decide +kernel, rfl, by decide +kernel, by decide +kernel⟩
/-- the heads up to the i-th -/
def upTo (r : List Nat) (i : Nat) : List Int := (List.range (i + 1)).map fun k => Br.lev (r.take k)
theorem upTo_succ (r : List Nat) (i : Nat) : upTo r (i + 1) = upTo r i ++ [Br.lev (r.take (i + 1))] := by
  unfold upTo
  rw [List.range_succ, List.map_append]
  rfl
theorem upTo_last (r : List Nat) (i : Nat) : atI ((upTo r i).map V.int) (-1) = some (.int (Br.lev (r.take i))) := by
  have e : (upTo r i).map V.int = ((List.range i).map fun k => V.int (Br.lev (r.take k))) ++ [V.int (Br.lev (r.take i))] := by
    unfold upTo
    rw [List.range_succ, List.map_append, List.map_append, List.map_map]
    rfl
  rw [e]
  exact atI_last _ _
theorem ok_levels (F : Fun K "levels" "levels" st_levels f fd) (hRise : Has P w K mg base 1 "rise" ["sign"] spRise) : FnOk P w K mg base (CX1 P w) 2 f fd ["row"] spLevels := by
  refine F.ok1 scLevels (fun vs H Q E h => ?_) (fun cdv A outer s H vs Q E hr h => ?_)
  · obtain ⟨c, rfl, _⟩ := h
    rfl
  obtain ⟨z, rfl, hz, q⟩ := h
  refine ⟨_, pss_cons (ps_set (i := 1) scLevels.nd rfl (Or.inl rfl) (pe_lst (pa_cons pe_int pa_nil)))
    (pss_cons (ps_for PassesOwn.never rfl (pi_str (pv 0)) (pg_name (i := 2) scLevels.nd rfl (Or.inl rfl))
      (pss_one (ps_expr (pe_bm PySem.F.plainAttrs_list PySem.F.slot_list_append PySem.F.type_list_append mt_append (pv 1)
        (pa_cons (pe_op op_add (pe_ix ix_list (pv 1) (pe_un un_neg pe_int) (fun _ _ => rfl)) (pe_callH hRise hr pass1 (pa_cons (pv 2) pa_nil))) pa_nil)))))
    (pss_one (ps_ret (pv 1)))), ?_⟩
  refine ⟨(by show 1 ≤ sizeLine; decide), fun p hp => ?_⟩
  refine ⟨_, rfl, z, rfl, for_str (fun i σ H' => ∃ sg, σ = [some (.str z), some (.ref p), sg] ∧ Same H H' ∧ H' p = some (.lst ((upTo (cs z) i).map V.int))) ⟨none, rfl, same_new hp _, upd_same⟩ ?_ ?_⟩
  · rintro i c σ H1 hc ⟨sg, rfl, hs, hl⟩
    have hi : i < (cs z).length := (List.getElem?_eq_some_iff.mp hc).1
    have hic : (cs z)[i] = c := (List.getElem?_eq_some_iff.mp hc).2
    refine ⟨_, rfl, .inl ⟨rfl, _, SqL.of hl⟩, _, rfl, 1, rfl, p, _, _, _, rfl, rfl, SqL.of hl, upTo_last _ _, _, rfl, c, rfl, _, _, rfl, rfl, p, _, _, rfl, rfl, hl, ?_, ?_⟩
    · have := cs_length z
      rw [List.length_map]
      unfold upTo
      rw [List.length_map, List.length_range]
      exact small1000 (by omega)
    · refine ⟨_, rfl, fun b o e => ?_, ?_⟩
      · rw [upd_ne (ne_of_none e hp)]; exact hs b o e
      · rw [upd_same, upTo_succ, List.map_append, Br.lev_take_succ hi, hic]
        rfl
  · rintro σ H1 ⟨sg, rfl, hs, hl⟩
    exact ⟨_, rfl, q p H1 hp hs hl⟩

/-! ### is_whole -/
def spIsW (K : PySem.W.Frag) : Sp := fun vs H Q _ => (∃ z, vs = [.str z] ∧ z.length ≤ 900 ∧ ∀ H', Same H H' → Q (.bl (decide (z.length ≤ 120) && Br.lw 0 (cs z))) H') ∨
  (∃ x t, vs = [x] ∧ TyOf K H x t ∧ PySem.W.kitOne K t (.type "str") = some false ∧ Q (.bl false) H)
theorem scIsW : FnScope ["thing", "heads"] ["thing"] (defScope st_is_whole) := ⟨rfl, rfl, rfl, by decide +kernel, rfl, by decide +kernel, by decide +kernel⟩
/-- which signs are none of the two -/
def bad (r : List Nat) : List Bool := r.map fun c => !decide (c = 40 ∨ c = 41)
theorem bad_any (r : List Nat) : (bad r).any id = true ↔ ¬ Br.IsBr r := by
  unfold bad Br.IsBr
  rw [List.any_map, List.any_eq_true]
  constructor
  · rintro ⟨c, hc, e⟩ z
    have := z c hc
    simp only [Function.comp, id] at e
    rw [decide_eq_true this] at e
    cases e
  · intro z
    refine Classical.byContradiction fun n => z fun c hc => Classical.byContradiction fun m => n ⟨c, hc, ?_⟩
    simp only [Function.comp, id]
    rw [decide_eq_false m]; rfl
theorem ok_isW {aT : Addr} {tL : Tok} (F : Fun K "is_whole" "is_whole" st_is_whole f fd) (hLev : Has P w K mg base 2 "levels" ["row"] spLevels) (mL : mg "LONGEST" = some (.int 120 tL)) (mT : mg "TURNED" = some (.ref aT)) (T : Tab K aT [("(", ")"), (")", "(")])
    (mi : mg "isinstance" = none) (ms : mg "str" = none) (ml : mg "len" = none) (ma : mg "any" = none) (mm : mg "min" = none) (k1 : PySem.W.kitOne K (.type "str") (.type "str") = some true) :
    FnOk P w K mg base (CX1 P w) 3 f fd ["thing"] (spIsW K) := by
  refine F.ok1 scIsW (fun vs H Q E h => ?_) (fun cdv A outer s H vs Q E hr h => ?_)
  · rcases h with ⟨z, rfl, _⟩ | ⟨x, t, rfl, _⟩ <;> rfl
  refine ⟨_, pss_cons (ps_if (PW.pt (pw_or (pt_not (pt_val (pe_callB (call_isinst (.ty "str") (.type "str") fun _ e => e) rfl mi PyProof.Rows.boot_isinstance (pa_cons (pv 0) (pa_cons (pe_bltn (v := .ty "str") rfl ms PyProof.Rows.boot_str rfl) pa_nil)))))
      (pw_or1 (pt_cmpR op_gt (pe_callB call_len_str rfl ml PySem.boot_len (pa_cons (pv 0) pa_nil)) (pe_glob (v := .int 120) rfl mL ⟨_, rfl⟩) (nomark _))))) (pss_one (ps_ret pe_bl)) pss_nil)
    (pss_cons (ps_if (pt_val (pe_callB (call_any rfl) rfl ma (by decide +kernel) (pa_cons
        (pe_comp (esc := defScope st_is_whole) (EN := ["thing", "heads"]) (N := ["sign", "thing", "heads"]) ⟨by rfl, by decide +kernel, by decide +kernel, by rfl, by decide +kernel, by rfl, by decide +kernel, by rfl, by decide +kernel⟩ rfl rfl rfl
          (pi_str (pv 0)) (fun _ _ _ _ _ _ => pifs_nil) (fun _ _ _ _ _ _ => pe_cmpR (op_notinTab (K := K) rfl T) (pv 0) (pe_glob (v := .ref aT) rfl mT rfl) rfl)) pa_nil))) (pss_one (ps_ret pe_bl)) pss_nil)
    (pss_cons (ps_set (i := 1) scIsW.nd rfl (Or.inl rfl) (pe_callH hLev hr pass1 (pa_cons (pv 0) pa_nil)))
    (pss_one (ps_ret (pe_and (pe_cmpR op_eq (pe_callB (call_minL rfl) rfl mm PyProof.Rows.boot_min (pa_cons (pv 1) pa_nil)) pe_int (nomark _))
      (pe_one (pe_cmpR op_eq (pe_ix ix_list (pv 1) (pe_un un_neg pe_int) (fun _ _ => rfl)) pe_int (nomark _)))))))), ?_⟩
  rcases h with ⟨z, rfl, hz, q⟩ | ⟨x, t, rfl, ty, kt, q⟩
  · have hzs : z.length ≤ sizeLine := Nat.le_of_lt (small1000 (by omega))
    have hcz := cs_length z
    refine ⟨_, rfl, _, _, _, rfl, .str z, k1, true, rfl, ?_⟩
    refine iteF ?_
    refine ⟨_, rfl, z, rfl, hzs, _, _, rfl, rfl, _, rfl, ?_⟩
    refine ite2 (fun h => ?_) (fun h => ?_)
    · have hl : (120 : Int) < z.length := of_decide_eq_true h
      have := q H (Same.refl _)
      rw [decide_eq_false (by omega), Bool.false_and] at this
      exact this
    · have hl : z.length ≤ 120 := by
        have : ¬ (120 : Int) < z.length := fun zz => h (decide_eq_true zz)
        omega
      rw [decide_eq_true hl, Bool.true_and] at q
      refine ⟨_, rfl, z, rfl, fun D hD => ?_⟩
      refine comp_str (fun i ys H' => Same H H' ∧ ys = (bad ((cs z).take i)).map V.bl ∧ H' D = some (.lst ys)) ⟨same_new hD _, rfl, upd_same⟩ ?_ ?_
      · rintro i c ys H2 hc ⟨hs2, rfl, hD2⟩
        have hi : i < (cs z).length := (List.getElem?_eq_some_iff.mp hc).1
        have hic : (cs z)[i] = c := (List.getElem?_eq_some_iff.mp hc).2
        refine ⟨_, rfl, ⟨#[c]⟩, rfl, rfl, hD2, ?_, fun b o eb => ?_, ?_, upd_same⟩
        · unfold bad
          rw [List.length_map, List.length_map, List.length_take]
          exact small1000 (by omega)
        · rw [upd_ne (ne_of_none eb hD)]; exact hs2 b o eb
        · rw [in_turned]
          unfold bad
          rw [Br.take_succ_snoc hi, hic, List.map_append, List.map_append]
          rfl
      · rintro ys H2 ⟨hs2, rfl, hD2⟩
        rw [List.take_length] at hD2
        refine ⟨D, bad (cs z), rfl, SqL.of hD2, _, rfl, ?_⟩
        refine ite2 (fun h => ?_) (fun h => ?_)
        · have hb := (bad_any (cs z)).mp h
          have e : Br.lw 0 (cs z) = false := by
            rw [Bool.eq_false_iff]
            exact fun zz => hb ((Br.lw_whole (by omega)).mp zz).1
          have := q H2 hs2
          rw [e] at this
          exact this
        · have hb : Br.IsBr (cs z) := Classical.byContradiction fun n => h ((bad_any (cs z)).mpr n)
          refine ⟨_, rfl, z, rfl, by omega, fun p H3 hp hs3 hl3 => ?_⟩
          have hlen : (Br.heads (cs z)).length = (cs z).length + 1 := Br.heads_length _
          refine ⟨_, rfl, p, Br.heads (cs z), rfl, SqL.of hl3, by omega, fun M hM hle => ⟨rfl, _, rfl, ?_⟩⟩
          have qq := q H3 (hs2.trans hs3)
          have M0 : M ≤ 0 := hle 0 (Br.mem_heads.mpr ⟨0, Nat.zero_le _, by rw [List.take_zero]; rfl⟩)
          have last : atI ((Br.heads (cs z)).map V.int) (-1) = some (.int (Br.lev (cs z))) := by
            have e : Br.heads (cs z) = upTo (cs z) (cs z).length := rfl
            rw [e, upTo_last, List.take_length]
          refine ite2 (fun h1 => ?_) (fun h1 => ?_)
          · have eM : M = 0 := V.int.inj (of_decide_eq_true h1)
            refine ⟨_, rfl, 1, rfl, p, _, _, _, rfl, rfl, SqL.of hl3, last, rfl, ?_⟩
            have e : decide (V.int (Br.lev (cs z)) = V.int 0) = Br.lw 0 (cs z) := by
              rw [Bool.eq_iff_iff, decide_eq_true_iff, Br.lw_whole (by omega)]
              constructor
              · intro hv
                exact ⟨hb, fun k hk => by rw [← eM]; exact hle _ (Br.mem_heads.mpr ⟨k, hk, rfl⟩), V.int.inj hv⟩
              · intro hw
                rw [hw.2.2]
            rw [e]
            exact qq
          · have nM : ¬ M = 0 := fun e => h1 (decide_eq_true (congrArg V.int e))
            have e : Br.lw 0 (cs z) = false := by
              rw [Bool.eq_false_iff]
              intro zz
              have hw := (Br.lw_whole (by omega)).mp zz
              obtain ⟨k, hk, ek⟩ := Br.mem_heads.mp hM
              have := hw.2.1 k hk
              omega
            rw [e] at qq
            exact qq
  · refine ⟨_, rfl, _, _, _, rfl, ty, kt, false, rfl, ?_⟩
    exact iteT (iteT q)
def IsRow (z : Str) : Prop := z.length ≤ 120 ∧ Br.Whole (cs z)
theorem isRow_iff {z : Str} (h : z.length ≤ 900) : (decide (z.length ≤ 120) && Br.lw 0 (cs z)) = true ↔ IsRow z := by
  have hc := cs_length z
  rw [Bool.and_eq_true, decide_eq_true_iff, Br.lw_whole (by omega)]
  rfl

/-! ### partner -/
def spPartner (C : Addr) : Sp := fun vs H Q E => ∃ z p, vs = [.str z, .int p] ∧ z.length ≤ 900 ∧
  ((0 ≤ p ∧ p < z.length) → Br.Whole (cs z) ∧ ∀ m : Nat, (Br.Pair (cs z) p.toNat m ∨ Br.Pair (cs z) m p.toNat) → Q (.int (m : Nat)) H) ∧ (¬ (0 ≤ p ∧ p < z.length) → E (.ref C) none H)
theorem scPartner : FnScope ["row", "place", "step", "level", "here"] ["row", "place"] (defScope st_partner) := ⟨rfl, rfl, rfl, by decide +kernel, rfl, by decide +kernel, by decide +kernel⟩
theorem ok_partner {C : Addr} (F : Fun K "partner" "partner" st_partner f fd) (hRise : Has P w K mg base 1 "rise" ["sign"] spRise) (mC : mg "NoPlace" = some (.ref C)) (xC : XCl K C) (ml : mg "len" = none) :
    FnOk P w K mg base (CX1 P w) 2 f fd ["row", "place"] (spPartner C) := by
  refine F.okX scPartner (fun vs H Q E h => ?_) (fun cdv A outer s H vs Q E hr h => ?_)
  · obtain ⟨z, p, rfl, _⟩ := h
    rfl
  obtain ⟨z, p, rfl, hz, q1, q2⟩ := h
  have hzs : z.length ≤ sizeLine := Nat.le_of_lt (small1000 (by omega))
  have hcz := cs_length z
  refine ⟨_, pss_cons (ps_if (PW.pt (pw_or (pt_cmpR op_lt (pv 1) pe_int (nomark _)) (pw_or1 (pt_cmpR op_ge (pv 1) (pe_callB call_len_str rfl ml PySem.boot_len (pa_cons (pv 0) pa_nil)) (nomark _))))) (pss_one (ps_raise rfl mC xC.q)) pss_nil)
    (PSs.nox (pss_cons (ps_set (i := 2) scPartner.nd rfl (Or.inl rfl) (pe_callH hRise hr pass1 (pa_cons (pe_ix ix_str (pv 0) (pv 1) (fun _ _ => rfl)) pa_nil)))
    (pss_cons (ps_set (i := 3) scPartner.nd rfl (Or.inl rfl) (pv 2)) (pss_cons (ps_set (i := 4) scPartner.nd rfl (Or.inl rfl) (pv 1))
    (pss_cons (ps_while PassesOwn.never (pt_cmpR op_ne (pv 3) pe_int (nomark _))
      (pss_cons (ps_set (i := 4) scPartner.nd rfl (Or.inl rfl) (pe_op op_add (pv 4) (pv 2))) (pss_one (ps_set (i := 3) scPartner.nd rfl (Or.inl rfl) (pe_op op_add (pv 3) (pe_callH hRise hr pass1 (pa_cons (pe_ix ix_str (pv 0) (pv 4) (fun _ _ => rfl)) pa_nil)))))))
    (pss_one (ps_ret (pv 4)))))))), ?_⟩
  refine ⟨_, rfl, _, _, rfl, rfl, _, rfl, ?_⟩
  refine ite2 (fun h => ?_) (fun h => ?_)
  · have hp : p < 0 := of_decide_eq_true h
    exact iteT (q2 fun z => by omega)
  · have hp : ¬ p < 0 := fun zz => h (decide_eq_true zz)
    refine ⟨_, rfl, _, rfl, z, rfl, hzs, _, _, rfl, rfl, _, rfl, ?_⟩
    refine ite2 (fun h2 => ?_) (fun h2 => ?_)
    · have hp2 : (z.length : Int) ≤ p := of_decide_eq_true h2
      exact q2 fun z => by omega
    · have hp2 : ¬ (z.length : Int) ≤ p := fun zz => h2 (decide_eq_true zz)
      obtain ⟨i, rfl⟩ := Int.eq_ofNat_of_zero_le (show 0 ≤ p by omega)
      obtain ⟨wh, q⟩ := q1 ⟨by omega, by omega⟩
      rw [Int.toNat_natCast] at q
      have hi : i < (cs z).length := by omega
      refine ⟨_, rfl, _, rfl, z, _, (cs z)[i], rfl, rfl, hzs, atI_nat (List.getElem?_eq_getElem hi), _, rfl, ?_⟩
      have ci : (cs z)[i]? = some (cs z)[i] := List.getElem?_eq_getElem hi
      rcases wh.1 _ (List.getElem_mem hi) with e40 | e41
      · rw [e40] at ci
        rw [e40]
        refine ⟨_, rfl, _, rfl, ?_⟩
        refine ⟨fun m σ H' => ∃ here : Nat, σ = [some (.str z), some (.int (i : Nat)), some (.int 1), some (.int (Br.at' (cs z) (here + 1) - Br.at' (cs z) i)), some (.int (here : Nat))] ∧ H' = H ∧ m = z.length - here ∧ Br.ToRight (cs z) i here, ⟨_, i, ?_, rfl, rfl, Br.ToRight.start hi⟩, ?_⟩
        · have : Br.at' (cs z) (i + 1) - Br.at' (cs z) i = Br.rise 40 := by rw [Br.at_succ hi, e40]; omega
          rw [this]
          rfl
        · rintro m σ H' ⟨here, rfl, rfl, rfl, tr⟩
          refine ⟨_, rfl, rfl, _, rfl, ?_⟩
          refine ite2 (fun h3 => ?_) (fun h3 => ?_)
          · have hne : Br.at' (cs z) (here + 1) - Br.at' (cs z) i ≠ 0 := fun e => by
              rw [e] at h3
              simp at h3
            have tn := tr.next wh ci hne
            have hl := tn.lt
            refine ⟨_, fun σ' H' n => n, _, rfl, _, rfl, _, _, rfl, rfl, _, rfl, _, rfl, _, rfl, z, _, (cs z)[here + 1], rfl, rfl, hzs, ?_, _, rfl, _, _, rfl, rfl, z.length - (here + 1), by omega, here + 1, ?_, rfl, rfl, tn⟩
            · exact atI_nat (List.getElem?_eq_getElem hl)
            · have e2 : Br.at' (cs z) (here + 1 + 1) = Br.at' (cs z) (here + 1) + Br.rise (cs z)[here + 1] := Br.at_succ hl
              have e3 : Br.at' (cs z) (here + 1 + 1) - Br.at' (cs z) i = Br.at' (cs z) (here + 1) - Br.at' (cs z) i + Br.rise (cs z)[here + 1] := by omega
              rw [e3]
              rfl
          · have he : Br.at' (cs z) (here + 1) - Br.at' (cs z) i = 0 := Classical.byContradiction fun n => h3 (by simp [n])
            exact ⟨_, rfl, q here (.inl (tr.done wh ci he))⟩
      · rw [e41] at ci
        rw [e41]
        refine ⟨_, rfl, _, rfl, ?_⟩
        refine ⟨fun m σ H' => ∃ here : Nat, σ = [some (.str z), some (.int (i : Nat)), some (.int (-1)), some (.int (Br.at' (cs z) (i + 1) - Br.at' (cs z) here)), some (.int (here : Nat))] ∧ H' = H ∧ m = here ∧ Br.ToLeft (cs z) i here, ⟨_, i, ?_, rfl, rfl, Br.ToLeft.start hi⟩, ?_⟩
        · have : Br.at' (cs z) (i + 1) - Br.at' (cs z) i = Br.rise 41 := by rw [Br.at_succ hi, e41]; omega
          rw [this]
          rfl
        · rintro m σ H' ⟨here, rfl, rfl, em, tl⟩
          refine ⟨_, rfl, rfl, _, rfl, ?_⟩
          refine ite2 (fun h3 => ?_) (fun h3 => ?_)
          · have hne : Br.at' (cs z) (i + 1) - Br.at' (cs z) here ≠ 0 := fun e => by
              rw [e] at h3
              simp at h3
            have tn := tl.next wh ci hne
            have h0 := (tl.more wh ci hne).2
            have hle := tl.le
            obtain ⟨j, rfl⟩ : ∃ j, here = j + 1 := ⟨here - 1, by omega⟩
            have hj : j < (cs z).length := by omega
            have ej : ((j + 1 : Nat) : Int) + -1 = (j : Int) := by omega
            refine ⟨_, fun σ' H' n => n, _, rfl, _, rfl, _, _, rfl, rfl, _, rfl, _, rfl, _, rfl, z, _, (cs z)[j], rfl, rfl, hzs, ?_, _, rfl, _, _, rfl, rfl, j, by omega, j, ?_, rfl, rfl, tn⟩
            · rw [ej]
              exact atI_nat (List.getElem?_eq_getElem hj)
            · have e2 : Br.at' (cs z) (j + 1) = Br.at' (cs z) j + Br.rise (cs z)[j] := Br.at_succ hj
              have e3 : Br.at' (cs z) (i + 1) - Br.at' (cs z) j = Br.at' (cs z) (i + 1) - Br.at' (cs z) (j + 1) + Br.rise (cs z)[j] := by omega
              rw [e3, ← ej]
              rfl
          · have he : Br.at' (cs z) (i + 1) - Br.at' (cs z) here = 0 := Classical.byContradiction fun n => h3 (by simp [n])
            exact ⟨_, rfl, q here (.inr (tl.done wh ci he))⟩

/-! ### one_sign_more -/
def spOne : Sp := fun vs H Q _ => ∃ (a : Addr) (ws : List Int), vs = [.ref a] ∧ H a = some (.lst (ws.map V.int)) ∧ ws.length ≤ 900 ∧ ∀ p H', H p = none → Same H H' → H' p = some (.lst ((Br.oneMore ws).map V.int)) → Q (.ref p) H'
theorem scOne : FnScope ["ways", "more", "level", "shut", "opened"] ["ways"] (defScope st_one_sign_more) := ⟨rfl, rfl, rfl, by decide +kernel, rfl, by decide +kernel, by decide +kernel⟩
theorem atI_map {ws : List Int} {k : Int} {j : Nat} (e : k = (j : Int)) (h : j < ws.length) : atI (ws.map V.int) k = some (V.int (ws.getD j 0)) := by
  subst e
  refine atI_nat ?_
  rw [List.getElem?_map, List.getElem?_eq_getElem h, List.getD_eq_getElem?_getD, List.getElem?_eq_getElem h]
  rfl
theorem oneMore_at (ws : List Int) {i : Nat} (h : i < ws.length) : (Br.oneMore ws).take (i + 1) = (Br.oneMore ws).take i ++ [(if 0 < i then ws.getD (i - 1) 0 else 0) + (if i + 1 < ws.length then ws.getD (i + 1) 0 else 0)] := by
  have hl := Br.oneMore_length ws
  rw [List.take_add_one, List.getElem?_eq_getElem (by omega)]
  congr 1
  show [(Br.oneMore ws)[i]] = _
  congr 1
  unfold Br.oneMore
  rw [List.getElem_map, List.getElem_range]
theorem ok_one (F : Fun K "one_sign_more" "one_sign_more" st_one_sign_more f fd) (ml : mg "len" = none) (mr : mg "range" = none) : FnOk P w K mg base (CX1 P w) 1 f fd ["ways"] spOne := by
  refine F.ok1 scOne (fun vs H Q E h => ?_) (fun cdv A outer s H vs Q E hr h => ?_)
  · obtain ⟨c, ws, rfl, _⟩ := h
    rfl
  obtain ⟨a, ws, rfl, ha, hw, q⟩ := h
  refine ⟨_, pss_cons (ps_set (i := 1) scOne.nd rfl (Or.inl rfl) (pe_lst pa_nil))
    (pss_cons (ps_for PassesOwn.never rfl (pi_range1 rfl mr (pa_cons (pe_callB call_len_seq rfl ml PySem.boot_len (pa_cons (pv 0) pa_nil)) pa_nil)) (pg_name (i := 2) scOne.nd rfl (Or.inl rfl))
      (pss_cons (ps_set (i := 3) scOne.nd rfl (Or.inl rfl) (pe_ifExp (pt_cmpR op_gt (pv 2) pe_int (nomark _)) (pe_ix ix_list (pv 0) (pe_op op_sub (pv 2) pe_int) (fun _ _ => rfl)) pe_int))
      (pss_cons (ps_set (i := 4) scOne.nd rfl (Or.inl rfl) (pe_ifExp (pt_cmpR op_lt (pe_op op_add (pv 2) pe_int) (pe_callB call_len_seq rfl ml PySem.boot_len (pa_cons (pv 0) pa_nil)) (nomark _)) (pe_ix ix_list (pv 0) (pe_op op_add (pv 2) pe_int) (fun _ _ => rfl)) pe_int))
      (pss_one (ps_expr (pe_bm PySem.F.plainAttrs_list PySem.F.slot_list_append PySem.F.type_list_append mt_append (pv 1) (pa_cons (pe_op op_add (pv 3) (pv 4)) pa_nil)))))))
    (pss_one (ps_ret (pv 1)))), ?_⟩
  refine ⟨(by show 0 ≤ sizeLine; decide), fun p hp => ?_⟩
  have ha1 : (upd H p (.lst [])) a = some (.lst (ws.map V.int)) := same_new hp _ _ _ ha
  refine ⟨_, rfl, a, _, rfl, .inl (SqL.of ha1), _, rfl, by rw [List.length_map]; omega, by rw [List.length_map]; omega, ?_⟩
  rw [List.length_map, Int.toNat_natCast]
  refine for_range (fun i σ H' => (∃ x2 x3 x4, σ = [some (.ref a), some (.ref p), x2, x3, x4]) ∧ Same H H' ∧ H' p = some (.lst (((Br.oneMore ws).take i).map V.int))) ⟨⟨none, none, none, rfl⟩, same_new hp _, upd_same⟩ ?_ ?_
  · rintro i σ H1 hi ⟨⟨x2, x3, x4, rfl⟩, hs, hl⟩
    have e0 : (0 : Int) + (i : Int) = ((i : Nat) : Int) := by omega
    rw [e0]
    have ha2 := hs _ _ ha
    have ol := Br.oneMore_length ws
    have fin : ∀ x y : Int, x = (if 0 < i then ws.getD (i - 1) 0 else 0) → y = (if i + 1 < ws.length then ws.getD (i + 1) 0 else 0) →
        (fun σ2 H2 => (∃ x2 x3 x4, σ2 = [some (.ref a), some (.ref p), x2, x3, x4]) ∧ Same H H2 ∧ H2 p = some (.lst (((Br.oneMore ws).take (i + 1)).map V.int))) ([some (.ref a), some (.ref p), some (.int i), some (.int x), some (.int y)] : St) (upd H1 p (.lst (((Br.oneMore ws).take i).map V.int ++ [V.int (x + y)]))) := by
      rintro x y rfl rfl
      refine ⟨⟨_, _, _, rfl⟩, fun b o e => ?_, ?_⟩
      · rw [upd_ne (ne_of_none e hp)]; exact hs b o e
      · rw [upd_same, oneMore_at ws hi, List.map_append]
        rfl
    have app : ∀ x y : Int, x = (if 0 < i then ws.getD (i - 1) 0 else 0) → y = (if i + 1 < ws.length then ws.getD (i + 1) 0 else 0) → ∃ l xs v, V.ref p = .ref l ∧ ([V.int (x + y)] : List V) = [v] ∧ H1 l = some (.lst xs) ∧ xs.length < sizeLine ∧
        (fun σ2 H2 => (∃ x2 x3 x4, σ2 = [some (.ref a), some (.ref p), x2, x3, x4]) ∧ Same H H2 ∧ H2 p = some (.lst (((Br.oneMore ws).take (i + 1)).map V.int))) ([some (.ref a), some (.ref p), some (.int i), some (.int x), some (.int y)] : St) (upd H1 l (.lst (xs ++ [v]))) := fun x y ex ey =>
      ⟨p, _, _, rfl, rfl, hl, by rw [List.length_map, List.length_take]; exact small1000 (by omega), fin x y ex ey⟩
    refine ⟨_, rfl, _, _, rfl, rfl, _, rfl, ?_⟩
    have step2 : ∀ x : Int, x = (if 0 < i then ws.getD (i - 1) 0 else 0) → ∀ (R : V → Hp → Prop), (∀ y : Int, y = (if i + 1 < ws.length then ws.getD (i + 1) 0 else 0) → R (.int y) H1) →
        tIf (tTest (tOp (rI0 fun i j => .bl (decide (i < j))) (tOp (rI0 fun i j => .int (i + j)) (tVar 2) (tC (.int 1))) (tCB (fun xs H Q => ∃ p ys, xs = [.ref p] ∧ (SqL K H p ys ∨ SqT K H p ys) ∧ Q (.int ys.length) H) (tCons (tVar 0) tNil)))) (tOp (rIxL K) (tVar 0) (tOp (rI0 fun i j => .int (i + j)) (tVar 2) (tC (.int 1)))) (tC (.int 0)) [some (.ref a), some (.ref p), some (.int i), some (.int x), x4] H1 R := fun x ex R hR => by
      refine ⟨_, rfl, _, _, rfl, rfl, _, rfl, a, _, rfl, .inl (SqL.of ha2), _, _, rfl, rfl, _, rfl, ?_⟩
      refine ite2 (fun h => ?_) (fun h => ?_)
      · have h' := of_decide_eq_true h
        rw [List.length_map] at h'
        have h2 : i + 1 < ws.length := by omega
        exact ⟨_, rfl, _, rfl, _, _, rfl, rfl, a, _, _, _, rfl, rfl, SqL.of ha2, atI_map (show (i : Int) + 1 = ((i + 1 : Nat) : Int) by omega) h2, hR _ (by rw [if_pos h2])⟩
      · have h2 : ¬ i + 1 < ws.length := fun z => h (decide_eq_true (by rw [List.length_map]; omega))
        exact hR 0 (by rw [if_neg h2])
    refine ite2 (fun h => ?_) (fun h => ?_)
    · have h0 : 0 < i := by have := of_decide_eq_true h; omega
      refine ⟨_, rfl, _, rfl, _, _, rfl, rfl, a, _, _, _, rfl, rfl, SqL.of ha2, atI_map (show (i : Int) - 1 = ((i - 1 : Nat) : Int) by omega) (by omega), ?_⟩
      refine step2 _ (by rw [if_pos h0]) _ fun y ey => ?_
      exact ⟨_, rfl, .inl ⟨rfl, _, SqL.of hl⟩, _, rfl, _, rfl, _, _, rfl, rfl, app _ y (by rw [if_pos h0]) ey⟩
    · have h0 : ¬ 0 < i := fun z => h (decide_eq_true (by omega))
      refine step2 0 (by rw [if_neg h0]) _ fun y ey => ?_
      exact ⟨_, rfl, .inl ⟨rfl, _, SqL.of hl⟩, _, rfl, _, rfl, _, _, rfl, rfl, app _ y (by rw [if_neg h0]) ey⟩
  · rintro σ H1 ⟨⟨x2, x3, x4, rfl⟩, hs, hl⟩
    rw [List.take_of_length_le (by rw [Br.oneMore_length]; omega)] at hl
    exact ⟨_, rfl, q p H1 hp hs hl⟩

/-! ### endings, endings_of_size, count -/
/-- a table of rows of ints at p -/
def Tabl (H : Hp) (p : Addr) (t n : Nat) (as : List Addr) : Prop := as.length = n + 1 ∧ H p = some (.lst (as.map V.ref)) ∧ (∀ i a, as[i]? = some a → H a = some (.lst ((Br.wrow t i).map V.int))) ∧ ∀ a ∈ as, a ≠ p
theorem Tabl.same {H H' : Hp} {p : Addr} {t n : Nat} {as : List Addr} (h : Tabl H p t n as) (s : Same H H') : Tabl H' p t n as := ⟨h.1, s _ _ h.2.1, fun i a e => s _ _ (h.2.2.1 i a e), h.2.2.2⟩
def spEndings : Sp := fun vs H Q _ => ∃ n t : Nat, vs = [.int n, .int t] ∧ n ≤ 500 ∧ t ≤ 500 ∧ ∀ p as H', Same H H' → Tabl H' p t n as → Q (.ref p) H'
theorem scEndings : FnScope ["signs", "top", "ways", "table", "step"] ["signs", "top"] (defScope st_endings) := ⟨rfl, rfl, rfl, by decide +kernel, rfl, by decide +kernel, by decide +kernel⟩
theorem rep0 (v : V) (t : Nat) : (List.replicate t [v]).flatten = List.replicate t v := by
  induction t with
  | zero => rfl
  | succ t ih => rw [List.replicate_succ, List.flatten_cons, ih, List.replicate_succ]; rfl
theorem ok_endings (F : Fun K "endings" "endings" st_endings f fd) (hOne : Has P w K mg base 1 "one_sign_more" ["ways"] spOne) (mr : mg "range" = none) : FnOk P w K mg base (CX1 P w) 2 f fd ["signs", "top"] spEndings := by
  refine F.ok1 scEndings (fun vs H Q E h => ?_) (fun cdv A outer s H vs Q E hr h => ?_)
  · obtain ⟨c, ws, rfl, _⟩ := h
    rfl
  obtain ⟨n, t, rfl, hn, ht, q⟩ := h
  refine ⟨_, pss_cons (ps_set (i := 2) scEndings.nd rfl (Or.inl rfl) (pe_op op_cat (pe_lst (pa_cons pe_int pa_nil)) (pe_op op_rep (pe_lst (pa_cons pe_int pa_nil)) (pv 1))))
    (pss_cons (ps_set (i := 3) scEndings.nd rfl (Or.inl rfl) (pe_lst (pa_cons (pv 2) pa_nil)))
    (pss_cons (ps_for PassesOwn.never rfl (pi_range1 rfl mr (pa_cons (pv 0) pa_nil)) (pg_name (i := 4) scEndings.nd rfl (Or.inl rfl))
      (pss_cons (ps_set (i := 2) scEndings.nd rfl (Or.inl rfl) (pe_callH hOne hr pass1 (pa_cons (pv 2) pa_nil)))
      (pss_one (ps_expr (pe_bm PySem.F.plainAttrs_list PySem.F.slot_list_append PySem.F.type_list_append mt_append (pv 3) (pa_cons (pv 2) pa_nil))))))
    (pss_one (ps_ret (pv 3))))), ?_⟩
  refine ⟨(by show 1 ≤ sizeLine; decide), fun p1 f1 => ⟨(by show 1 ≤ sizeLine; decide), fun p2 f2 => ⟨_, rfl, p2, _, _, rfl, rfl, upd_same, by omega, by omega, ?_, fun p3 f3 => ⟨p1, p3, [V.int 1], (List.replicate (t : Int).toNat [V.int 0]).flatten, rfl, rfl, ?_, upd_same, ?_, fun p4 f4 => ?_⟩⟩⟩⟩
  · show 1 * (t : Int).toNat ≤ sizeLine
    have := small1000 (n := 1000) (by omega)
    omega
  · have g1 := same_new f2 (.lst [V.int 0]) _ _ (upd_same (H := H) (a := p1) (o := .lst [V.int 1]))
    exact same_new f3 _ _ _ g1
  · rw [len_rep]
    show 1 + (t : Int).toNat * 1 ≤ sizeLine
    have := small1000 (n := 1000) (by omega)
    omega
  have s4 : Same H (upd (upd (upd (upd H p1 (.lst [V.int 1])) p2 (.lst [V.int 0])) p3 (.lst (List.replicate (t : Int).toNat [V.int 0]).flatten)) p4 (.lst ([V.int 1] ++ (List.replicate (t : Int).toNat [V.int 0]).flatten))) :=
    (((same_new f1 _).trans (same_new f2 _)).trans (same_new f3 _)).trans (same_new f4 _)
  have e4 : [V.int 1] ++ (List.replicate (t : Int).toNat [V.int 0]).flatten = (Br.wrow t 0).map V.int := by
    rw [Int.toNat_natCast]
    unfold Br.wrow
    rw [List.map_cons, List.map_replicate, rep0]
    rfl
  have u4 : (upd (upd (upd (upd H p1 (.lst [V.int 1])) p2 (.lst [V.int 0])) p3 (.lst (List.replicate (t : Int).toNat [V.int 0]).flatten)) p4 (.lst ([V.int 1] ++ (List.replicate (t : Int).toNat [V.int 0]).flatten))) p4 = some (.lst ((Br.wrow t 0).map V.int)) := by rw [upd_same, e4]
  generalize (upd (upd (upd (upd H p1 (.lst [V.int 1])) p2 (.lst [V.int 0])) p3 (.lst (List.replicate (t : Int).toNat [V.int 0]).flatten)) p4 (.lst ([V.int 1] ++ (List.replicate (t : Int).toNat [V.int 0]).flatten))) = H4 at s4 u4
  refine ⟨_, rfl, (by show 1 ≤ sizeLine; decide), fun p f5 => ?_⟩
  have n45 := ne_of_none u4 f5
  refine ⟨_, rfl, _, rfl, by omega, by omega, ?_⟩
  rw [Int.toNat_natCast]
  refine for_range (fun i σ H' => ∃ wa x4 as, σ = [some (.int n), some (.int t), some (.ref wa), some (.ref p), x4] ∧ Same H4 H' ∧ Tabl H' p t i as ∧ as[i]? = some wa) ⟨p4, none, [p4], rfl, same_new f5 _, ⟨rfl, upd_same, ?_, ?_⟩, rfl⟩ ?_ ?_
  · rintro i a e
    cases i with
    | zero => cases e; rw [upd_ne n45]; exact u4
    | succ i => cases e
  · rintro a ha
    rw [List.mem_singleton.mp ha]; exact n45
  · rintro i σ H1 hi ⟨wa, x4, as, rfl, hs, T, hw⟩
    have hwl := Br.wrow_length t i
    have hi0 : (0 : Int) + (i : Int) = ((i : Nat) : Int) := by omega
    rw [hi0]
    refine ⟨_, rfl, wa, Br.wrow t i, rfl, T.2.2.1 i wa hw, by omega, fun p6 H6 f6 s6 h6 => ?_⟩
    have T6 := T.same s6
    have n6 : p6 ≠ p := fun e => by
      have := T.2.1
      rw [← e, f6] at this
      cases this
    refine ⟨_, rfl, .inl ⟨rfl, _, SqL.of T6.2.1⟩, _, rfl, p, _, _, rfl, rfl, T6.2.1, ?_, p6, _, as ++ [p6], rfl, ?_, ⟨?_, ?_, ?_, ?_⟩, ?_⟩
    · rw [List.length_map, T.1]; exact small1000 (by omega)
    · intro b o e
      have : b ≠ p := fun z => by subst z; rw [f5] at e; cases e
      rw [upd_ne this]
      exact s6 _ _ (hs _ _ e)
    · rw [List.length_append, T.1]; rfl
    · rw [upd_same, List.map_append]; rfl
    · intro j a e
      have : a ≠ p := by
        rcases List.mem_append.mp (List.mem_of_getElem? e) with m | m
        · exact T.2.2.2 a m
        · rw [List.mem_singleton.mp m]; exact n6
      rw [upd_ne this]
      rcases Nat.lt_or_ge j as.length with hj | hj
      · rw [List.getElem?_append_left hj] at e
        exact T6.2.2.1 j a e
      · rw [List.getElem?_append_right hj] at e
        have : j - as.length = 0 := by
          rcases Nat.eq_zero_or_pos (j - as.length) with z | z
          · exact z
          · rw [List.getElem?_eq_none (by rw [List.length_singleton]; omega)] at e; cases e
        rw [this] at e
        cases e
        have ej : j = i + 1 := by have := T.1; omega
        rw [ej]
        exact h6
    · rintro a m
      rcases List.mem_append.mp m with m | m
      · exact T.2.2.2 a m
      · rw [List.mem_singleton.mp m]; exact n6
    · rw [List.getElem?_append_right (by have := T.1; omega), T.1, Nat.sub_self]; rfl
  · rintro σ H1 ⟨wa, x4, as, rfl, hs, T, hw⟩
    exact ⟨_, rfl, q p as H1 (s4.trans hs) T⟩
theorem Tabl.row {H : Hp} {p : Addr} {t n : Nat} {as : List Addr} (h : Tabl H p t n as) {i : Nat} (hi : i ≤ n) : ∃ a, (as.map V.ref)[i]? = some (.ref a) ∧ H a = some (.lst ((Br.wrow t i).map V.int)) := by
  have : i < as.length := by have := h.1; omega
  exact ⟨as[i], by rw [List.getElem?_map, List.getElem?_eq_getElem this]; rfl, h.2.2.1 i _ (List.getElem?_eq_getElem this)⟩
def spCount : Sp := fun vs H Q _ => ∃ n b : Nat, vs = [.int n, .int b] ∧ n ≤ 200 ∧ ∀ H', Same H H' → Q (.int (Br.cnt n b : Nat)) H'
theorem scCount : FnScope ["size", "bound", "signs"] ["size", "bound"] (defScope st_count) := ⟨rfl, rfl, rfl, by decide +kernel, rfl, by decide +kernel, by decide +kernel⟩
theorem ok_count (F : Fun K "count" "count" st_count f fd) (hEnd : Has P w K mg base 2 "endings" ["signs", "top"] spEndings) (mm : mg "min" = none) : FnOk P w K mg base (CX1 P w) 3 f fd ["size", "bound"] spCount := by
  refine F.ok1 scCount (fun vs H Q E h => ?_) (fun cdv A outer s H vs Q E hr h => ?_)
  · obtain ⟨c, ws, rfl, _⟩ := h
    rfl
  obtain ⟨n, b, rfl, hn, q⟩ := h
  refine ⟨_, pss_cons (ps_if (PW.pt (pw_or (pt_cmpR op_lt (pv 0) pe_int (nomark _)) (pw_or1 (pt_cmpR op_lt (pv 1) pe_int (nomark _))))) (pss_one (ps_ret pe_int)) pss_nil)
    (pss_cons (ps_set (i := 2) scCount.nd rfl (Or.inl rfl) (pe_op op_mul pe_int (pv 0)))
    (pss_one (ps_ret (pe_ix ix_list (pe_ix ix_list (pe_callH hEnd hr pass1 (pa_cons (pv 2) (pa_cons (pe_callB (call_min2 rfl) rfl mm PyProof.Rows.boot_min (pa_cons (pv 0) (pa_cons (pv 1) pa_nil))) pa_nil))) (pv 2) (fun _ _ => rfl)) pe_int (fun _ _ => rfl))))), ?_⟩
  refine ⟨_, rfl, _, _, rfl, rfl, _, rfl, ?_⟩
  refine ite2 (fun h => absurd (of_decide_eq_true h) (by omega)) (fun _ => ?_)
  refine ⟨_, rfl, _, _, rfl, rfl, _, rfl, ?_⟩
  refine ite2 (fun h => absurd (of_decide_eq_true h) (by omega)) (fun _ => ?_)
  refine ⟨_, rfl, _, _, rfl, rfl, .inl ⟨by decide, by decide⟩, ?_⟩
  have e2 : (2 : Int) * (n : Int) = ((2 * n : Nat) : Int) := by omega
  have em : (if (b : Int) < (n : Int) then (b : Int) else (n : Int)) = ((min n b : Nat) : Int) := by split <;> omega
  refine ⟨_, rfl, _, rfl, _, rfl, _, _, rfl, ?_⟩
  refine ⟨2 * n, min n b, ?_, by omega, by omega, fun p as H1 hs1 T => ?_⟩
  · show [V.int (2 * (n : Int)), V.int (if (b : Int) < (n : Int) then (b : Int) else (n : Int))] = _
    rw [em, e2]
  obtain ⟨a, ea, ha⟩ := T.row (Nat.le_refl _)
  refine ⟨_, rfl, p, _, _, _, rfl, rfl, SqL.of T.2.1, atI_of e2 ea, a, _, _, V.int (Br.cnt n b : Nat), rfl, rfl, SqL.of ha, ?_, q H1 hs1⟩
  have g := Br.wrow_get (min n b) (2 * n) 0 (Nat.zero_le _)
  exact atI_nat (j := 0) (by rw [List.getElem?_map, g]; rfl)

def spOfSize : Sp := fun vs H Q _ => ∃ n : Nat, vs = [.int n] ∧ n ≤ 200 ∧ ∀ p as H', Same H H' → Tabl H' p (n + 1) (2 * n) as → Q (.ref p) H'
theorem scOfSize : FnScope ["size"] ["size"] (defScope st_endings_of_size) := ⟨rfl, rfl, rfl, by decide +kernel, rfl, by decide +kernel, by decide +kernel⟩
theorem ok_ofsize (F : Fun K "endings_of_size" "endings_of_size" st_endings_of_size f fd) (hEnd : Has P w K mg base 2 "endings" ["signs", "top"] spEndings) : FnOk P w K mg base (CX1 P w) 3 f fd ["size"] spOfSize := by
  refine F.ok1 scOfSize (fun vs H Q E h => ?_) (fun cdv A outer s H vs Q E hr h => ?_)
  · obtain ⟨c, rfl, _⟩ := h
    rfl
  obtain ⟨n, rfl, hn, q⟩ := h
  refine ⟨_, pss_one (ps_ret (pe_callH hEnd hr pass1 (pa_cons (pe_op op_mul pe_int (pv 0)) (pa_cons (pe_op op_add (pv 0) pe_int) pa_nil)))), ?_⟩
  refine ⟨_, rfl, _, _, rfl, rfl, .inl ⟨by decide, by decide⟩, _, rfl, _, _, rfl, rfl, 2 * n, n + 1, ?_, by omega, by omega, q⟩
  have e2 : (2 : Int) * (n : Int) = ((2 * n : Nat) : Int) := by omega
  show [V.int (2 * (n : Int)), V.int ((n : Int) + 1)] = _
  rw [e2]
  rfl

/-! ### number, has_row, row_of, next_row -/
def spNumber (C : Addr) : Sp := fun vs H Q E => ∃ z, vs = [.str z] ∧ z.length ≤ 900 ∧ (IsRow z → ∀ H', Same H H' → Q (.int (Br.rank (cs z) 0 : Nat)) H') ∧ (¬ IsRow z → ∀ H', Same H H' → E (.ref C) none H')
theorem scNumber : FnScope ["row", "table", "left", "level", "ahead", "sign"] ["row"] (defScope st_number) := ⟨rfl, rfl, rfl, by decide +kernel, rfl, by decide +kernel, by decide +kernel⟩
theorem drop_at {r : List Nat} {i : Nat} (h : i < r.length) : r.drop i = r[i] :: r.drop (i + 1) := List.drop_eq_getElem_cons h
theorem ok_number {C : Addr} (F : Fun K "number" "number" st_number f fd) (hIsW : Has P w K mg base 3 "is_whole" ["thing"] (spIsW K)) (hOf : Has P w K mg base 3 "endings_of_size" ["size"] spOfSize) (mC : mg "NoRow" = some (.ref C)) (xC : XCl K C) (ml : mg "len" = none) :
    FnOk P w K mg base (CX1 P w) 4 f fd ["row"] (spNumber C) := by
  refine F.okX scNumber (fun vs H Q E h => ?_) (fun cdv A outer s H vs Q E hr h => ?_)
  · obtain ⟨z, rfl, _⟩ := h
    rfl
  obtain ⟨z, rfl, hz, q1, q2⟩ := h
  have hzs : z.length ≤ sizeLine := Nat.le_of_lt (small1000 (by omega))
  have hcz := cs_length z
  refine ⟨_, pss_cons (ps_if (pt_not (pt_val (pe_callH hIsW hr pass1 (pa_cons (pv 0) pa_nil)))) (pss_one (ps_raise rfl mC xC.q)) pss_nil)
    (PSs.nox (pss_cons (ps_set (i := 1) scNumber.nd rfl (Or.inl rfl) (pe_callH hOf hr pass1 (pa_cons (pe_op op_fdiv (pe_callB call_len_str rfl ml PySem.boot_len (pa_cons (pv 0) pa_nil)) pe_int) pa_nil)))
    (pss_cons (ps_set (i := 2) scNumber.nd rfl (Or.inl rfl) (pe_callB call_len_str rfl ml PySem.boot_len (pa_cons (pv 0) pa_nil)))
    (pss_cons (ps_set (i := 3) scNumber.nd rfl (Or.inl rfl) pe_int) (pss_cons (ps_set (i := 4) scNumber.nd rfl (Or.inl rfl) pe_int)
    (pss_cons (ps_for PassesOwn.never rfl (pi_str (pv 0)) (pg_name (i := 5) scNumber.nd rfl (Or.inl rfl))
      (pss_cons (ps_set (i := 2) scNumber.nd rfl (Or.inl rfl) (pe_op op_sub (pv 2) pe_int))
      (pss_one (ps_if (pt_cmpR op_eq (pv 5) pe_str (nomark _)) (pss_one (ps_set (i := 3) scNumber.nd rfl (Or.inl rfl) (pe_op op_add (pv 3) pe_int)))
        (pss_cons (ps_set (i := 4) scNumber.nd rfl (Or.inl rfl) (pe_op op_add (pv 4) (pe_ix ix_list (pe_ix ix_list (pv 1) (pv 2) (fun _ _ => rfl)) (pe_op op_add (pv 3) pe_int) (fun _ _ => rfl))))
        (pss_one (ps_set (i := 3) scNumber.nd rfl (Or.inl rfl) (pe_op op_sub (pv 3) pe_int))))))))
    (pss_one (ps_ret (pv 4))))))))), ?_⟩
  refine ⟨_, rfl, .inl ⟨z, rfl, hz, fun H1 hs1 => ⟨_, rfl, ?_⟩⟩⟩
  refine ite2 (fun h => ?_) (fun h => ?_)
  · exact q2 (fun hw => by rw [(isRow_iff hz).mpr hw] at h; cases h) H1 hs1
  · have hw : IsRow z := (isRow_iff hz).mp (by
      cases e : (decide (z.length ≤ 120) && Br.lw 0 (cs z)) with
      | true => rfl
      | false => exact absurd (by rw [e]; rfl) h)
    have ev := Br.whole_even hw.2
    rw [hcz] at ev
    have h120 := hw.1
    refine ⟨_, rfl, z, rfl, hzs, _, _, rfl, rfl, ⟨by decide, by decide⟩, z.length / 2, ?_, by omega, fun p as H2 hs2 T => ?_⟩
    · show [V.int ((z.length : Int) / 2)] = _
      rfl
    refine ⟨_, rfl, z, rfl, hzs, ?_⟩
    refine ⟨_, rfl, z, rfl, for_str (fun i σ H' => ∃ (l a : Nat) (x5 : Option V), σ = [some (.str z), some (.ref p), some (.int ((z.length - i : Nat) : Int)), some (.int (l : Nat)), some (.int (a : Nat)), x5] ∧ H' = H2 ∧ Br.Path ((cs z).drop i) l ∧ l ≤ i ∧ a + Br.rank ((cs z).drop i) l = Br.rank (cs z) 0) ⟨0, 0, none, rfl, rfl, ?_, Nat.le_refl _, ?_⟩ ?_ ?_⟩
    · exact (Br.path_whole _).mpr hw.2
    · rw [List.drop_zero]; omega
    · rintro i c σ H3 hc ⟨l, a, x5, rfl, rfl, pa, hl, ha⟩
      have hi : i < (cs z).length := (List.getElem?_eq_some_iff.mp hc).1
      have hic : (cs z)[i] = c := (List.getElem?_eq_some_iff.mp hc).2
      rw [drop_at hi, hic] at pa ha
      have hdl : ((cs z).drop (i + 1)).length = z.length - i - 1 := by rw [List.length_drop]; omega
      have el : ((z.length - i : Nat) : Int) - 1 = ((z.length - (i + 1) : Nat) : Int) := by omega
      have res : ∀ (l' a' : Nat), Br.Path ((cs z).drop (i + 1)) l' → l' ≤ i + 1 → a' + Br.rank ((cs z).drop (i + 1)) l' = Br.rank (cs z) 0 → ∀ (u v w : Int), u = ((z.length - i : Nat) : Int) - 1 → v = (l' : Int) → w = (a' : Int) →
          ∃ (l a : Nat) (x5 : Option V), ([some (.str z), some (.ref p), some (.int u), some (.int v), some (.int w), some (.str ⟨#[c]⟩)] : St) = [some (.str z), some (.ref p), some (.int ((z.length - (i + 1) : Nat) : Int)), some (.int (l : Nat)), some (.int (a : Nat)), x5] ∧ H3 = H3 ∧ Br.Path ((cs z).drop (i + 1)) l ∧ l ≤ i + 1 ∧ a + Br.rank ((cs z).drop (i + 1)) l = Br.rank (cs z) 0 := by
        rintro l' a' p1 p2 p3 u v w rfl rfl rfl
        exact ⟨l', a', _, by rw [el], rfl, p1, p2, p3⟩
      refine ⟨_, rfl, _, _, rfl, rfl, ?_⟩
      refine ⟨_, rfl, rfl, _, rfl, ?_⟩
      refine ite2 (fun h4 => ?_) (fun h4 => ?_)
      · have e : c = 40 := by
          have := of_decide_eq_true h4
          rw [par_l] at this
          exact one_eq.mp (V.str.inj this)
        subst e
        rcases pa with ⟨_, pa⟩ | ⟨e, _⟩
        · rw [Br.rank, if_pos rfl] at ha
          exact ⟨_, rfl, _, _, rfl, rfl, res (l + 1) a pa (by omega) ha _ _ _ rfl (by omega) rfl⟩
        · cases e
      · have e : ¬ c = 40 := fun z => h4 (by rw [par_l, z]; exact decide_eq_true rfl)
        rcases pa with ⟨e2, _⟩ | ⟨e2, h0, pa⟩
        · exact absurd e2 e
        · have hle := Br.path_le _ _ pa
          rw [hdl] at hle
          rw [Br.rank, if_neg e, hdl] at ha
          obtain ⟨b, eb, hb⟩ := T.row (i := z.length - (i + 1)) (by omega)
          have g := Br.wrow_ways (n := z.length / 2) (m := z.length - (i + 1)) (l := l + 1) (by omega) (by omega)
          refine ⟨_, rfl, _, rfl, _, rfl, p, _, _, _, rfl, rfl, SqL.of T.2.1, atI_of el eb, _, rfl, _, _, rfl, rfl, b, _, _, V.int (Br.ways (z.length - (i + 1)) (l + 1) : Nat), rfl, rfl, SqL.of hb, atI_of (j := l + 1) (by omega) (by rw [List.getElem?_map, g]; rfl), _, _, rfl, rfl, _, rfl, _, _, rfl, rfl, ?_⟩
          refine res (l - 1) (a + Br.ways (z.length - (i + 1)) (l + 1)) pa (by omega) ?_ _ _ _ rfl (by omega) (by omega)
          have : z.length - i - 1 = z.length - (i + 1) := by omega
          rw [this] at ha
          omega
    · rintro σ H3 ⟨l, a, x5, rfl, rfl, pa, hl, ha⟩
      rw [List.drop_of_length_le (Nat.le_refl _)] at ha
      have : a = Br.rank (cs z) 0 := by simpa [Br.rank] using ha
      subst this
      exact ⟨_, rfl, q1 hw _ (hs1.trans hs2)⟩

/-! ### has_row, row_of, next_row -/
theorem cnt_ways (n : Nat) : Br.cnt n n = Br.ways (2 * n) 0 := by
  unfold Br.cnt
  rw [Nat.min_self, Br.waysB_eq n (2 * n) 0 (Nat.zero_le _) (by omega)]
def HasNo (n : Nat) (k : Int) : Prop := 0 ≤ k ∧ k < (Br.ways (2 * n) 0 : Nat)
instance (n : Nat) (k : Int) : Decidable (HasNo n k) := by unfold HasNo; infer_instance
def spHasRow : Sp := fun vs H Q _ => ∃ (n : Nat) (k : Int), vs = [.int n, .int k] ∧ n ≤ 60 ∧ ∀ H', Same H H' → Q (.bl (decide (HasNo n k))) H'
theorem scHasRow : FnScope ["size", "wanted"] ["size", "wanted"] (defScope st_has_row) := ⟨rfl, rfl, rfl, by decide +kernel, rfl, by decide +kernel, by decide +kernel⟩
theorem ok_hasrow {tL : Tok} (F : Fun K "has_row" "has_row" st_has_row f fd) (hCnt : Has P w K mg base 3 "count" ["size", "bound"] spCount) (mL : mg "LONGEST" = some (.int 120 tL)) : FnOk P w K mg base (CX1 P w) 4 f fd ["size", "wanted"] spHasRow := by
  refine F.ok1 scHasRow (fun vs H Q E h => ?_) (fun cdv A outer s H vs Q E hr h => ?_)
  · obtain ⟨z, k, rfl, _⟩ := h
    rfl
  obtain ⟨n, k, rfl, hn, q⟩ := h
  refine ⟨_, pss_cons (ps_if (PW.pt (pw_or (pt_cmpR op_gt (pe_op op_mul pe_int (pv 0)) (pe_glob (v := .int 120) rfl mL ⟨_, rfl⟩) (nomark _)) (pw_or1 (pt_cmpR op_lt (pv 1) pe_int (nomark _))))) (pss_one (ps_ret pe_bl)) pss_nil)
    (pss_one (ps_ret (pe_cmpR op_lt (pv 1) (pe_callH hCnt hr pass1 (pa_cons (pv 0) (pa_cons (pv 0) pa_nil))) (nomark _)))), ?_⟩
  refine ⟨_, rfl, _, _, rfl, rfl, .inl ⟨by decide, by decide⟩, _, _, rfl, rfl, _, rfl, ?_⟩
  refine ite2 (fun h => absurd (of_decide_eq_true h) (by omega)) (fun _ => ?_)
  refine ⟨_, rfl, _, _, rfl, rfl, _, rfl, ?_⟩
  refine ite2 (fun h => ?_) (fun h => ?_)
  · have hk : k < 0 := of_decide_eq_true h
    have e : decide (HasNo n k) = false := decide_eq_false fun z => by have := z.1; omega
    have := q H (Same.refl _)
    rw [e] at this
    exact this
  · have hk : ¬ k < 0 := fun z => h (decide_eq_true z)
    refine ⟨_, rfl, _, rfl, _, rfl, n, n, rfl, by omega, fun H1 hs1 => ⟨_, _, rfl, rfl, ?_⟩⟩
    have e : decide (k < ((Br.cnt n n : Nat) : Int)) = decide (HasNo n k) := by
      rw [cnt_ways, Bool.eq_iff_iff, decide_eq_true_iff, decide_eq_true_iff]
      unfold HasNo
      constructor
      · intro z; exact ⟨by omega, z⟩
      · intro z; exact z.2
    show Q (.bl (decide (k < ((Br.cnt n n : Nat) : Int)))) H1
    rw [e]
    exact q H1 hs1
def spRowOf (C : Addr) : Sp := fun vs H Q E => ∃ (n : Nat) (k : Int), vs = [.int n, .int k] ∧ n ≤ 60 ∧ (HasNo n k → ∀ z H', Same H H' → cs z = Br.unrank (2 * n) 0 k.toNat → Q (.str z) H') ∧ (¬ HasNo n k → ∀ H', Same H H' → E (.ref C) none H')
theorem scRowOf : FnScope ["size", "number", "table", "signs", "level", "rest", "left", "opened"] ["size", "number"] (defScope st_row_of) := ⟨rfl, rfl, rfl, by decide +kernel, rfl, by decide +kernel, by decide +kernel⟩
theorem ones_snoc (r : List Nat) (c : Nat) : (ones r).map V.str ++ [V.str ⟨#[c]⟩] = (ones (r ++ [c])).map V.str := by
  unfold ones
  rw [List.map_append, List.map_append]
  rfl
theorem ok_rowof {C : Addr} (F : Fun K "row_of" "row_of" st_row_of f fd) (hHas : Has P w K mg base 4 "has_row" ["size", "wanted"] spHasRow) (hOf : Has P w K mg base 3 "endings_of_size" ["size"] spOfSize) (mC : mg "NoRow" = some (.ref C)) (xC : XCl K C) (mr : mg "range" = none) :
    FnOk P w K mg base (CX1 P w) 5 f fd ["size", "number"] (spRowOf C) := by
  refine F.okX scRowOf (fun vs H Q E h => ?_) (fun cdv A outer s H vs Q E hr h => ?_)
  · obtain ⟨z, k, rfl, _⟩ := h
    rfl
  obtain ⟨n, k, rfl, hn, q1, q2⟩ := h
  have hr3 := hr.mono (show 3 ≤ 4 by decide)
  refine ⟨_, pss_cons (ps_if (pt_not (pt_val (pe_callH hHas hr pass1 (pa_cons (pv 0) (pa_cons (pv 1) pa_nil))))) (pss_one (ps_raise rfl mC xC.q)) pss_nil)
    (PSs.nox (pss_cons (ps_set (i := 2) scRowOf.nd rfl (Or.inl rfl) (pe_callH hOf hr3 pass1 (pa_cons (pv 0) pa_nil)))
    (pss_cons (ps_set (i := 3) scRowOf.nd rfl (Or.inl rfl) (pe_lst pa_nil)) (pss_cons (ps_set (i := 4) scRowOf.nd rfl (Or.inl rfl) pe_int) (pss_cons (ps_set (i := 5) scRowOf.nd rfl (Or.inl rfl) (pv 1))
    (pss_cons (ps_for PassesOwn.never rfl (pi_down rfl mr (pa_cons (pe_op op_sub (pe_op op_mul pe_int (pv 0)) pe_int) (pa_cons (pe_un un_neg pe_int) (pa_cons (pe_un un_neg pe_int) pa_nil)))) (pg_name (i := 6) scRowOf.nd rfl (Or.inl rfl))
      (pss_cons (ps_set (i := 7) scRowOf.nd rfl (Or.inl rfl) (pe_ix ix_list (pe_ix ix_list (pv 2) (pv 6) (fun _ _ => rfl)) (pe_op op_add (pv 4) pe_int) (fun _ _ => rfl)))
      (pss_one (ps_if (pt_cmpR op_lt (pv 5) (pv 7) (nomark _))
        (pss_cons (ps_expr (pe_bm PySem.F.plainAttrs_list PySem.F.slot_list_append PySem.F.type_list_append mt_append (pv 3) (pa_cons pe_str pa_nil))) (pss_one (ps_set (i := 4) scRowOf.nd rfl (Or.inl rfl) (pe_op op_add (pv 4) pe_int))))
        (pss_cons (ps_expr (pe_bm PySem.F.plainAttrs_list PySem.F.slot_list_append PySem.F.type_list_append mt_append (pv 3) (pa_cons pe_str pa_nil))) (pss_cons (ps_set (i := 4) scRowOf.nd rfl (Or.inl rfl) (pe_op op_sub (pv 4) pe_int))
          (pss_one (ps_set (i := 5) scRowOf.nd rfl (Or.inl rfl) (pe_op op_sub (pv 5) (pv 7))))))))))
    (pss_one (ps_ret (pe_bm PySem.F.plainAttrs_str PySem.F.slot_str_join PySem.F.type_str_join mt_join pe_str (pa_cons (pv 3) pa_nil)))))))))), ?_⟩
  refine ⟨_, rfl, _, rfl, n, k, rfl, hn, fun H1 hs1 => ⟨_, rfl, ?_⟩⟩
  refine ite2 (fun h => ?_) (fun h => ?_)
  · exact q2 (fun hw => by rw [decide_eq_true hw] at h; cases h) H1 hs1
  · have hw : HasNo n k := by
      by_cases z : HasNo n k
      · exact z
      · exact absurd (by rw [decide_eq_false z]; rfl) h
    obtain ⟨j, rfl⟩ := Int.eq_ofNat_of_zero_le hw.1
    have hj : j < Br.ways (2 * n) 0 := by have := hw.2; omega
    refine ⟨_, rfl, n, rfl, by omega, fun p as H2 hs2 T => ?_⟩
    refine ⟨by show 0 ≤ sizeLine; decide, fun sp hsp => ?_⟩
    refine ⟨_, rfl, ?_⟩
    refine ⟨_, rfl, _, _, rfl, rfl, .inl ⟨by decide, by decide⟩, _, _, rfl, rfl, 1, rfl, 1, rfl, _, -1, rfl, ⟨by omega, by omega, by decide, by decide⟩, ?_⟩
    have ec : ((2 : Int) * (n : Int) - 1 - -1).toNat = 2 * n := by omega
    rw [ec]
    refine for_down (fun i σ H' => ∃ (pre : List Nat) (l r : Nat) (x6 x7 : Option V), σ = [some (.int n), some (.int (j : Nat)), some (.ref p), some (.ref sp), some (.int (l : Nat)), some (.int (r : Nat)), x6, x7] ∧ Same H2 H' ∧ H' sp = some (.lst ((ones pre).map V.str)) ∧ pre.length = i ∧ l ≤ i ∧ r < Br.ways (2 * n - i) l ∧ pre ++ Br.unrank (2 * n - i) l r = Br.unrank (2 * n) 0 j)
      ⟨[], 0, j, none, none, rfl, same_new hsp _, upd_same, rfl, Nat.le_refl _, hj, rfl⟩ ?_ ?_
    · rintro i σ H3 hi ⟨pre, l, r, x6, x7, rfl, hs3, hl3, hpl, hli, hr3, hu⟩
      have T3 := T.same hs3
      obtain ⟨m, hm⟩ : ∃ m, 2 * n - i = m + 1 := ⟨2 * n - i - 1, by omega⟩
      have hm2 : 2 * n - (i + 1) = m := by omega
      rw [hm] at hr3 hu
      have hlm := Br.ways_pos hr3
      have el : (2 : Int) * (n : Int) - 1 - (i : Int) = ((m : Nat) : Int) := by omega
      obtain ⟨b, eb, hb⟩ := T3.row (i := m) (by omega)
      have g := Br.wrow_ways (n := n) (m := m) (l := l + 1) (by omega) (by omega)
      refine ⟨_, rfl, _, rfl, p, _, _, _, rfl, rfl, SqL.of T3.2.1, atI_of el eb, _, rfl, _, _, rfl, rfl, b, _, _, V.int (Br.ways m (l + 1) : Nat), rfl, rfl, SqL.of hb, atI_of (j := l + 1) (by omega) (by rw [List.getElem?_map, g]; rfl), ?_⟩
      refine ⟨_, rfl, _, rfl, _, _, rfl, rfl, _, rfl, ?_⟩
      have hlen : ((ones pre).map V.str).length < sizeLine := by
        unfold ones
        rw [List.length_map, List.length_map]; exact small1000 (by omega)
      have sm : ∀ o, Same H2 (upd H3 sp o) := fun o b u e => by
        rw [upd_ne (ne_of_none e hsp)]; exact hs3 b u e
      rw [Br.unrank] at hu
      refine ite2 (fun h4 => ?_) (fun h4 => ?_)
      · have hlt : r < Br.ways m (l + 1) := by have := of_decide_eq_true h4; omega
        rw [if_pos hlt] at hu
        refine ⟨_, rfl, .inl ⟨rfl, _, SqL.of hl3⟩, sp, _, _, rfl, rfl, hl3, hlen, ?_⟩
        refine ⟨_, rfl, _, _, rfl, rfl, pre ++ [40], l + 1, r, _, _, rfl, sm _, ?_, by rw [List.length_append, hpl]; rfl, by omega, ?_, ?_⟩
        · rw [upd_same, par_l, ones_snoc]
        · rw [hm2]; exact hlt
        · rw [hm2, List.append_assoc]; exact hu
      · have hge : ¬ r < Br.ways m (l + 1) := fun z => h4 (decide_eq_true (by omega))
        rw [if_neg hge] at hu
        have h0 : 0 < l := by
          rcases Nat.eq_zero_or_pos l with z | z
          · subst z
            exact absurd (by rw [Br.ways] at hr3; exact hr3) hge
          · exact z
        refine ⟨_, rfl, .inl ⟨rfl, _, SqL.of hl3⟩, sp, _, _, rfl, rfl, hl3, hlen, ?_⟩
        refine ⟨_, rfl, _, _, rfl, rfl, _, rfl, _, rfl, _, _, rfl, rfl, pre ++ [41], l - 1, r - Br.ways m (l + 1), some (.int (2 * (n : Int) - 1 - (i : Int))), some (.int (Br.ways m (l + 1) : Nat)), ?_, sm _, ?_, by rw [List.length_append, hpl]; rfl, by omega, ?_, ?_⟩
        · have e1 : (l : Int) - 1 = ((l - 1 : Nat) : Int) := by omega
          have e2 : (r : Int) - ((Br.ways m (l + 1) : Nat) : Int) = ((r - Br.ways m (l + 1) : Nat) : Int) := by omega
          rw [← e1, ← e2]
          rfl
        · rw [upd_same, par_r, ones_snoc]
        · rw [hm2]
          cases l with
          | zero => omega
          | succ l => rw [Br.ways] at hr3; have e : l + 1 + 1 = l + 2 := rfl; rw [e] at hge ⊢; show _ < Br.ways m l; omega
        · rw [hm2, List.append_assoc]; exact hu
    · rintro σ H3 ⟨pre, l, r, x6, x7, rfl, hs3, hl3, hpl, hli, hr3, hu⟩
      rw [Nat.sub_self, Br.unrank, List.append_nil] at hu
      refine ⟨rfl, _, rfl, Str.ofString "", sp, ones pre, rfl, rfl, SqL.of hl3, ?_, ?_⟩
      · rw [ones_sum, no_sign, hpl]
        show 2 * n + _ * 0 ≤ 16777216
        omega
      · refine q1 hw _ H3 ((hs1.trans hs2).trans hs3) ?_
        rw [cs_ones, hu, Int.toNat_natCast]
def spNext (C : Addr) : Sp := fun vs H Q E => ∃ z, vs = [.str z] ∧ z.length ≤ 900 ∧
  (IsRow z → (HasNo (z.length / 2) (Br.rank (cs z) 0 + 1 : Nat) → ∀ y H', Same H H' → cs y = Br.unrank (2 * (z.length / 2)) 0 (Br.rank (cs z) 0 + 1) → Q (.str y) H') ∧ (¬ HasNo (z.length / 2) (Br.rank (cs z) 0 + 1 : Nat) → ∀ H', Same H H' → Q .non H')) ∧ (¬ IsRow z → ∀ H', Same H H' → E (.ref C) none H')
theorem scNext : FnScope ["row", "size", "following"] ["row"] (defScope st_next_row) := ⟨rfl, rfl, rfl, by decide +kernel, rfl, by decide +kernel, by decide +kernel⟩
theorem ok_next {C : Addr} (F : Fun K "next_row" "next_row" st_next_row f fd) (hNum : Has P w K mg base 4 "number" ["row"] (spNumber C)) (hHas : Has P w K mg base 4 "has_row" ["size", "wanted"] spHasRow) (hRowOf : Has P w K mg base 5 "row_of" ["size", "number"] (spRowOf C)) (ml : mg "len" = none) :
    FnOk P w K mg base (CX1 P w) 6 f fd ["row"] (spNext C) := by
  refine F.okX scNext (fun vs H Q E h => ?_) (fun cdv A outer s H vs Q E hr h => ?_)
  · obtain ⟨z, rfl, _⟩ := h
    rfl
  obtain ⟨z, rfl, hz, q1, q2⟩ := h
  have hr4 := hr.mono (show 4 ≤ 5 by decide)
  have hzs : z.length ≤ sizeLine := Nat.le_of_lt (small1000 (by omega))
  refine ⟨_, pss_cons (ps_set (i := 1) scNext.nd rfl (Or.inl rfl) (pe_op op_fdiv (pe_callB call_len_str rfl ml PySem.boot_len (pa_cons (pv 0) pa_nil)) pe_int))
    (pss_cons (ps_set (i := 2) scNext.nd rfl (Or.inl rfl) (pe_op op_add (pe_callH hNum hr4 pass_on (pa_cons (pv 0) pa_nil)) pe_int))
    (PSs.nox (pss_one (ps_ret (pe_ifExp (pt_val (pe_callH hHas hr4 pass1 (pa_cons (pv 1) (pa_cons (pv 2) pa_nil)))) (pe_callH hRowOf hr pass1 (pa_cons (pv 1) (pa_cons (pv 2) pa_nil))) pe_non))))), ?_⟩
  refine ⟨_, rfl, z, rfl, hzs, _, _, rfl, rfl, ⟨by decide, by decide⟩, _, rfl, z, rfl, hz, fun hw H1 hs1 => ?_, fun hw => q2 hw⟩
  have h120 := hw.1
  obtain ⟨qa, qb⟩ := q1 hw
  refine ⟨_, _, rfl, rfl, _, rfl, _, rfl, z.length / 2, _, rfl, by omega, fun H2 hs2 => ⟨_, rfl, ?_⟩⟩
  refine ite2 (fun h => ?_) (fun h => ?_)
  · have hh : HasNo (z.length / 2) ((Br.rank (cs z) 0 : Nat) + 1 : Int) := of_decide_eq_true h
    refine ⟨_, rfl, _, rfl, z.length / 2, _, rfl, by omega, fun _ y H3 hs3 ey => qa hh y H3 ((hs1.trans hs2).trans hs3) ?_, fun n => absurd hh n⟩
    exact ey
  · exact qb (fun hh => h (decide_eq_true hh)) H2 (hs1.trans hs2)

/-! ### tree_of, row_by_tree, mirrored -/
theorem dat_leaf {H : Hp} {v : V} (h : Dat H v (Br.trD .leaf)) : v = .non := by
  have h' : Dat H v .none := h
  cases h'
  rfl
theorem dat_node {H : Hp} {v : V} {a b : Br.Tr} (h : Dat H v (Br.trD (.node a b))) : ∃ p x y, v = .ref p ∧ H p = some (.tup [x, y]) ∧ Dat H x (Br.trD a) ∧ Dat H y (Br.trD b) := by
  have h' : Dat H v (.tuple [Br.trD a, Br.trD b]) := h
  cases h' with
  | tup hp t =>
    cases t with
    | cons h1 t =>
      cases t with
      | cons h2 t =>
        cases t
        exact ⟨_, _, _, rfl, hp, h1, h2⟩
theorem dat_pair {H : Hp} {p : Addr} {x y : V} {a b : Br.Tr} (hp : H p = some (.tup [x, y])) (h1 : Dat H x (Br.trD a)) (h2 : Dat H y (Br.trD b)) : Dat H (.ref p) (Br.trD (.node a b)) := .tup hp (.cons h1 (.cons h2 .nil))
theorem str_nil {z : Str} : z = Str.ofString "" ↔ cs z = [] := by
  have c0 : cs (Str.ofString "") = [] := by decide +kernel
  constructor
  · rintro rfl; exact c0
  · intro h; exact cs_inj (h.trans c0.symm)
theorem node_ne (a b : Br.Tr) : Br.rw (.node a b) ≠ [] := fun h => by rw [Br.rw] at h; cases h
def spTree (d : Nat) : Sp := fun vs H Q _ => ∃ (z : Str) (t : Br.Tr), vs = [.str z] ∧ cs z = Br.rw t ∧ Br.sz t < d ∧ z.length ≤ 900 ∧ ∀ v H', Same H H' → Dat H' v (Br.trD t) → Q v H'
theorem scTree : FnScope ["row", "shut"] ["row"] (defScope st_tree_of) := ⟨rfl, rfl, rfl, by decide +kernel, rfl, by decide +kernel, by decide +kernel⟩
/-- the parts of a row that isn't empty -/
theorem cut_in {z : Str} {a b : Br.Tr} (h : cs z = Br.rw (.node a b)) {m : Nat} (hm : m = (Br.rw a).length + 1) : cs (Txt.slice z (some 1) (some (m : Nat))) = Br.rw a := by
  have hl := cs_length z
  have hn : (Br.rw (.node a b)).length = (Br.rw a).length + (Br.rw b).length + 2 := by rw [Br.rw, List.length_cons, List.length_append, List.length_cons]; omega
  rw [h] at hl
  have := cs_cut z 1 m (by omega) (by omega)
  refine this.trans ?_
  rw [h, hm]
  exact Br.node_in a b
theorem cut_out {z : Str} {a b : Br.Tr} (h : cs z = Br.rw (.node a b)) {m : Nat} (hm : m = (Br.rw a).length + 1) : cs (Txt.slice z (some ((m : Int) + 1)) none) = Br.rw b := by
  have hl := cs_length z
  have hn : (Br.rw (.node a b)).length = (Br.rw a).length + (Br.rw b).length + 2 := by rw [Br.rw, List.length_cons, List.length_append, List.length_cons]; omega
  rw [h] at hl
  have e : (m : Int) + 1 = ((m + 1 : Nat) : Int) := by omega
  rw [e, cs_from z (m + 1) (by omega), h, hm]
  exact Br.node_out a b
theorem ok_tree {C : Addr} (F : Fun K "tree_of" "tree_of" st_tree_of f fd) (S : Self K mg f fd "tree_of" ["row"]) (hPar : Has P w K mg base 2 "partner" ["row", "place"] (spPartner C)) : ∀ d, FnOk P w K mg base (CX1 P w) (d + 3) f fd ["row"] (spTree d) := by
  refine rec_ok S (fun vs H Q E h => by obtain ⟨_, _, _, _, h, _⟩ := h; omega) fun d hS => ?_
  refine F.ok1 (k := d + 3) scTree (fun vs H Q E h => ?_) (fun cdv A outer s H vs Q E hr h => ?_)
  · obtain ⟨z, t, rfl, _⟩ := h
    rfl
  obtain ⟨z, t, rfl, hz, ht, hzl, q⟩ := h
  have hr2 := hr.mono (show 2 ≤ d + 3 by omega)
  have hzs : z.length ≤ sizeLine := Nat.le_of_lt (small1000 (by omega))
  refine ⟨_, pss_cons (ps_if (pt_cmpR op_eq (pv 0) pe_str (nomark _)) (pss_one (ps_ret pe_non)) pss_nil)
    (pss_cons (ps_set (i := 1) scTree.nd rfl (Or.inl rfl) (pe_callH hPar hr2 pass1 (pa_cons (pv 0) (pa_cons pe_int pa_nil))))
    (pss_one (ps_ret (pe_tup (pa_cons (pe_callH hS hr pass1 (pa_cons (pe_slice sl_str (pv 0) (po_some pe_int) (po_some (pv 1))) pa_nil)) (pa_cons (pe_callH hS hr pass1 (pa_cons (pe_slice sl_str (pv 0) (po_some (pe_op op_add (pv 1) pe_int)) po_none) pa_nil)) pa_nil)))))), ?_⟩
  refine ⟨_, rfl, rfl, _, rfl, ?_⟩
  cases t with
  | leaf =>
    refine ite2 (fun _ => q _ H (Same.refl _) .non) (fun h => absurd (decide_eq_true (congrArg V.str (str_nil.mpr hz))) h)
  | node a b =>
    refine ite2 (fun h => ?_) (fun _ => ?_)
    · exact absurd (hz.symm.trans (str_nil.mp (V.str.inj (of_decide_eq_true h)))) (node_ne a b)
    have hw := Br.rw_whole (.node a b)
    rw [← hz] at hw
    have hcz := cs_length z
    have hpos : 0 < z.length := by
      rcases Nat.eq_zero_or_pos z.length with e | e
      · rw [e] at hcz
        exact absurd (hz.symm.trans (List.eq_nil_of_length_eq_zero hcz)) (node_ne a b)
      · exact e
    refine ⟨_, rfl, z, 0, rfl, hzl, fun _ => ⟨hw, fun m hm => ?_⟩, fun n => absurd ⟨by decide, by omega⟩ n⟩
    have em : m = (Br.rw a).length + 1 := by
      rcases hm with hm | hm
      · rw [hz] at hm; exact Br.pair_node hm
      · have := hm.lt; omega
    rw [Br.sz] at ht
    refine ⟨_, rfl, _, rfl, _, rfl, _, rfl, z, rfl, hzs, _, a, rfl, cut_in hz em, by omega, Nat.le_trans (slice_len _ _ _) hzl, fun v1 H1 s1 d1 => ?_⟩
    refine ⟨_, rfl, _, rfl, _, _, rfl, rfl, _, rfl, z, rfl, hzs, _, b, rfl, cut_out hz em, by omega, Nat.le_trans (slice_len _ _ _) hzl, fun v2 H2 s2 d2 => ?_⟩
    refine ⟨by show 2 ≤ sizeLine; decide, fun p hp => q _ _ ((s1.trans s2).trans (same_new hp _)) ?_⟩
    exact dat_pair upd_same ((d1.same s2).same (same_new hp _)) (d2.same (same_new hp _))

/-! ### forest_of, row_by_forest; _law_forest, _law_tree, _law_mirrored -/
theorem foL_nil {H : Hp} {xs : List V} (h : Dats H xs (Br.foL .leaf)) : xs = [] := by
  have h' : Dats H xs [] := h
  cases h'
  rfl
theorem foL_cons {H : Hp} {xs : List V} {a b : Br.Tr} (h : Dats H xs (Br.foL (.node a b))) : ∃ p ys zs, xs = .ref p :: zs ∧ H p = some (.tup ys) ∧ Dats H ys (Br.foL a) ∧ Dats H zs (Br.foL b) := by
  have h' : Dats H xs (.tuple (Br.foL a) :: Br.foL b) := h
  cases h' with
  | cons h1 t =>
    cases h1 with
    | tup hp g => exact ⟨_, _, _, rfl, hp, g, t⟩
theorem dat_tup {H : Hp} {v : V} {ds : List PyData} (h : Dat H v (.tuple ds)) : ∃ p xs, v = .ref p ∧ H p = some (.tup xs) ∧ Dats H xs ds := by
  cases h with
  | tup hp g => exact ⟨_, _, rfl, hp, g⟩
def spForest (d : Nat) : Sp := fun vs H Q _ => ∃ (z : Str) (t : Br.Tr), vs = [.str z] ∧ cs z = Br.rw t ∧ Br.sz t < d ∧ z.length ≤ 900 ∧ ∀ v H', Same H H' → Dat H' v (.tuple (Br.foL t)) → Q v H'
theorem scForest : FnScope ["row", "forests", "rest", "shut"] ["row"] (defScope st_forest_of) := ⟨rfl, rfl, rfl, by decide +kernel, rfl, by decide +kernel, by decide +kernel⟩
theorem foL_length : ∀ t, (Br.foL t).length ≤ Br.sz t
  | .leaf => Nat.le_refl _
  | .node a b => by
    have := foL_length b
    rw [Br.foL, List.length_cons, Br.sz]; omega
/-- a list that grows by tuples -/
theorem grown {H0 H : Hp} {p : Addr} {xs : List V} {v : V} {ds : List PyData} {e : PyData} (hs : Same H0 H) (hn : H0 p = none) (hp : H p = some (.lst xs)) (hd : Dats H xs ds) (hv : Dat H v e) :
    Same H0 (upd H p (.lst (xs ++ [v]))) ∧ (upd H p (.lst (xs ++ [v]))) p = some (.lst (xs ++ [v])) ∧ Dats (upd H p (.lst (xs ++ [v]))) (xs ++ [v]) (ds ++ [e]) :=
  ⟨fun b o q => by rw [upd_ne (ne_of_none q hn)]; exact hs b o q, upd_same, (hd.keepL hp).append (.cons (hv.keepL hp) .nil)⟩
theorem ok_forest {C : Addr} (F : Fun K "forest_of" "forest_of" st_forest_of f fd) (S : Self K mg f fd "forest_of" ["row"]) (hPar : Has P w K mg base 2 "partner" ["row", "place"] (spPartner C)) (mt : mg "tuple" = none) : ∀ d, FnOk P w K mg base (CX1 P w) (d + 3) f fd ["row"] (spForest d) := by
  refine rec_ok S (fun vs H Q E h => by obtain ⟨_, _, _, _, h, _⟩ := h; omega) fun d hS => ?_
  refine F.ok1 (k := d + 3) scForest (fun vs H Q E h => ?_) (fun cdv A outer s H vs Q E hr h => ?_)
  · obtain ⟨z, t, rfl, _⟩ := h
    rfl
  obtain ⟨z, t, rfl, hz, ht, hzl, q⟩ := h
  have hr2 := hr.mono (show 2 ≤ d + 3 by omega)
  have s1k := small1000 (n := 1000) (by omega)
  refine ⟨_, pss_cons (ps_set (i := 1) scForest.nd rfl (Or.inl rfl) (pe_lst pa_nil)) (pss_cons (ps_set (i := 2) scForest.nd rfl (Or.inl rfl) (pv 0))
    (pss_cons (ps_while PassesOwn.never (pt_cmpR op_ne (pv 2) pe_str (nomark _))
      (pss_cons (ps_set (i := 3) scForest.nd rfl (Or.inl rfl) (pe_callH hPar hr2 pass1 (pa_cons (pv 2) (pa_cons pe_int pa_nil))))
      (pss_cons (ps_expr (pe_bm PySem.F.plainAttrs_list PySem.F.slot_list_append PySem.F.type_list_append mt_append (pv 1) (pa_cons (pe_callH hS hr pass1 (pa_cons (pe_slice sl_str (pv 2) (po_some pe_int) (po_some (pv 3))) pa_nil)) pa_nil)))
      (pss_one (ps_set (i := 2) scForest.nd rfl (Or.inl rfl) (pe_slice sl_str (pv 2) (po_some (pe_op op_add (pv 3) pe_int)) po_none))))))
    (pss_one (ps_ret (pe_callTy call_tuple_of rfl mt PyProof.Rows.boot_tuple (pa_cons (pv 1) pa_nil)))))), ?_⟩
  refine ⟨by show 0 ≤ sizeLine; decide, fun p hp => ?_⟩
  refine ⟨_, rfl, ?_⟩
  refine ⟨fun m σ H' => ∃ (y : Str) (u : Br.Tr) (x3 : Option V) (xs : List V) (ds : List PyData), σ = [some (.str z), some (.ref p), some (.str y), x3] ∧ cs y = Br.rw u ∧ y.length ≤ 900 ∧ Same H H' ∧ H' p = some (.lst xs) ∧ Dats H' xs ds ∧ ds ++ Br.foL u = Br.foL t ∧ Br.sz u ≤ Br.sz t ∧ m = Br.sz u,
    ⟨_, z, t, none, [], [], rfl, hz, hzl, same_new hp _, upd_same, .nil, rfl, Nat.le_refl _, rfl⟩, ?_⟩
  rintro m σ H1 ⟨y, u, x3, xs, ds, rfl, hy, hyl, hs, hl, hd, he, hu, rfl⟩
  have hys : y.length ≤ sizeLine := by omega
  refine ⟨_, rfl, rfl, _, rfl, ?_⟩
  cases u with
  | leaf =>
    refine ite2 (fun h => ?_) (fun _ => ?_)
    · have e : y = Str.ofString "" := str_nil.mpr hy
      subst e
      exact absurd h (by simp)
    · have e : ds = Br.foL t := by rw [← he, Br.foL, List.append_nil]
      subst e
      refine ⟨_, rfl, p, _, rfl, .inl ⟨SqL.of hl, fun l hlf => q _ _ (hs.trans (same_new hlf _)) ?_⟩⟩
      exact .tup upd_same (hd.same (same_new hlf _))
  | node a b =>
    refine ite2 (fun _ => ?_) (fun h => ?_)
    · have hw := Br.rw_whole (.node a b)
      rw [← hy] at hw
      have hcy := cs_length y
      have hpos : 0 < y.length := by
        rcases Nat.eq_zero_or_pos y.length with e | e
        · rw [e] at hcy
          exact absurd (hy.symm.trans (List.eq_nil_of_length_eq_zero hcy)) (node_ne a b)
        · exact e
      have hsz : Br.sz a + Br.sz b + 1 ≤ Br.sz t := by rw [Br.sz] at hu; exact hu
      refine ⟨fun σ' H' => ∃ (y : Str) (u : Br.Tr) (x3 : Option V) (xs : List V) (ds : List PyData), σ' = [some (.str z), some (.ref p), some (.str y), x3] ∧ cs y = Br.rw u ∧ y.length ≤ 900 ∧ Same H H' ∧ H' p = some (.lst xs) ∧ Dats H' xs ds ∧ ds ++ Br.foL u = Br.foL t ∧ Br.sz u ≤ Br.sz t ∧ Br.sz u < Br.sz (.node a b),
        fun σ' H' ⟨y, u, x3, xs, ds, h1, h2, h3, h4, h5, h6, h7, h8, h9⟩ => ⟨_, h9, y, u, x3, xs, ds, h1, h2, h3, h4, h5, h6, h7, h8, rfl⟩, ?_⟩
      refine ⟨_, rfl, y, 0, rfl, hyl, fun _ => ⟨hw, fun m hm => ?_⟩, fun n => absurd ⟨by decide, by omega⟩ n⟩
      have em : m = (Br.rw a).length + 1 := by
        rcases hm with hm | hm
        · rw [hy] at hm; exact Br.pair_node hm
        · have := hm.lt; omega
      refine ⟨_, rfl, .inl ⟨rfl, _, SqL.of hl⟩, _, rfl, _, rfl, _, rfl, _, rfl, y, rfl, hys, _, a, rfl, cut_in hy em, by omega, Nat.le_trans (slice_len _ _ _) hyl, fun v1 H2 s2 d2 => ?_⟩
      have hl2 := s2 _ _ hl
      have hd2 := hd.same s2
      have hlen := hd.length
      have hfl := foL_length t
      have hrl := Br.rw_length t
      have hcz := cs_length z
      rw [hz] at hcz
      have hdl : ds.length ≤ (Br.foL t).length := by rw [← he, List.length_append]; omega
      refine ⟨p, _, _, rfl, rfl, hl2, by omega, ?_⟩
      obtain ⟨g1, g2, g3⟩ := grown (hs.trans s2) hp hl2 hd2 d2
      refine ⟨_, rfl, _, rfl, _, _, rfl, rfl, _, rfl, y, rfl, hys, _, b, _, _, _, rfl, cut_out hy em, Nat.le_trans (slice_len _ _ _) hyl, g1, g2, g3, ?_, by omega, by rw [Br.sz]; omega⟩
      rw [← he, Br.foL, List.append_assoc]
      rfl
    · refine absurd ?_ h
      have : ¬ y = Str.ofString "" := fun e => absurd (hy.symm.trans (str_nil.mp e)) (node_ne a b)
      simp [this]
theorem foL_inj : ∀ a b, Br.foL a = Br.foL b → a = b
  | .leaf, .leaf, _ => rfl
  | .leaf, .node _ _, h => by simp [Br.foL] at h
  | .node _ _, .leaf, h => by simp [Br.foL] at h
  | .node a b, .node a' b', h => by
    simp [Br.foL] at h
    rw [foL_inj a a' h.1, foL_inj b b' h.2]

/-! ### _law_mix -/
def spMix : Sp := fun vs H Q _ => ∃ c p m : Int, vs = [.int c, .int p, .int m] ∧ 0 < p ∧ 0 < m ∧ Q (.int (c * 48271 % p % m)) H
theorem scMix : FnScope ["_law_cell_here", "_law_prime", "_law_many"] ["_law_cell_here", "_law_prime", "_law_many"] (defScope st__law_mix) := ⟨rfl, rfl, rfl, by decide +kernel, rfl, by decide +kernel, by decide +kernel⟩
theorem ok_mix (F : Fun K "_law_mix" "_law_mix" st__law_mix f fd) : FnOk P w K mg base (CX1 P w) 1 f fd ["_law_cell_here", "_law_prime", "_law_many"] spMix := by
  refine F.ok1 scMix (fun vs H Q E h => ?_) (fun cdv A outer s H vs Q E hr h => ?_)
  · obtain ⟨c, p, m, rfl, _⟩ := h
    rfl
  obtain ⟨c, p, m, rfl, hp, hm, q⟩ := h
  refine ⟨_, pss_one (ps_ret (pe_op op_mod (pe_op op_mod (pe_op op_mul (pv 0) pe_int) (pv 1)) (pv 2))), ?_⟩
  exact ⟨_, rfl, _, _, rfl, rfl, .inr ⟨by decide, by decide⟩, _, rfl, _, _, rfl, rfl, hp, _, rfl, _, _, rfl, rfl, hm, q⟩

/-! ### _law_cell -/
def spCell (K : PySem.W.Frag) : Sp := fun vs H Q _ => ∃ (a : Addr) (ns : List Int) (k : Nat), vs = [.ref a, .int k] ∧ SqL K H a (ns.map V.int) ∧ ∀ c : Int, Q (.int c) H
theorem scCell : FnScope ["_law_script", "_law_k"] ["_law_script", "_law_k"] (defScope st__law_cell) := ⟨rfl, rfl, rfl, by decide +kernel, rfl, by decide +kernel, by decide +kernel⟩
theorem ok_cell (F : Fun K "_law_cell" "_law_cell" st__law_cell f fd) (ml : mg "len" = none) : FnOk P w K mg base (CX1 P w) 1 f fd ["_law_script", "_law_k"] (spCell K) := by
  refine F.ok1 scCell (fun vs H Q E h => ?_) (fun cdv A outer s H vs Q E hr h => ?_)
  · obtain ⟨a, ns, k, rfl, _⟩ := h
    rfl
  obtain ⟨a, ns, k, rfl, hq, q⟩ := h
  refine ⟨_, pss_cons (ps_if (pt_cmpR op_lt (pv 1) (pe_callB call_len_seq rfl ml PySem.boot_len (pa_cons (pv 0) pa_nil)) (nomark _)) (pss_one (ps_ret (pe_ix ix_list (pv 0) (pv 1) (fun _ _ => rfl)))) pss_nil)
    (pss_one (ps_ret pe_int)), ?_⟩
  refine ⟨_, rfl, _, rfl, a, _, rfl, .inl hq, _, _, rfl, rfl, _, rfl, ?_⟩
  refine ite2 (fun h => ?_) (fun _ => q 0)
  have h' := of_decide_eq_true h
  rw [List.length_map] at h'
  have hk : k < ns.length := by omega
  exact ⟨_, rfl, _, rfl, a, _, _, _, rfl, rfl, hq, atI_nat (j := k) (by rw [List.getElem?_map, List.getElem?_eq_getElem hk]; rfl), q _⟩

/-! ### _law_all -/
theorem cs_mk (l : List Nat) : cs (mkS l) = l := rfl
theorem one_row (a b : List Nat) : Str.ofString "(" ++ mkS a ++ Str.ofString ")" ++ mkS b = mkS (40 :: a ++ 41 :: b) := by
  refine cs_inj ?_
  rw [cs_append, cs_append, cs_append, par_l, par_r, cs_mk, cs_mk, cs_mk]
  show [40] ++ a ++ [41] ++ b = _
  simp
theorem len_mk (l : List Nat) : (mkS l).length = l.length := by rw [← cs_length, cs_mk]
theorem tS_append (a b : List (List Nat)) : tS (a ++ b) = tS a ++ tS b := by unfold tS; rw [List.map_append, List.map_append]
theorem tS_length (a : List (List Nat)) : (tS a).length = a.length := by unfold tS; rw [List.length_map, List.length_map]
theorem tS_get {ls : List (List Nat)} {i : Nat} {x : V} (h : (tS ls)[i]? = some x) : ∃ r, ls[i]? = some r ∧ x = .str (mkS r) := by
  unfold tS at h
  rw [List.map_map, List.getElem?_map] at h
  cases e : ls[i]? with
  | none => rw [e] at h; cases h
  | some r => rw [e] at h; exact ⟨r, rfl, (Option.some.inj h).symm⟩
/-- what the first k turns have written; of turn k, the first i rows inside -/
noncomputable def wr (n k i : Nat) : List (List Nat) := ((List.range k).flatMap fun j => (Br.S j).flatMap fun a => (Br.S (n - 1 - j)).map fun b => 40 :: a ++ 41 :: b) ++ ((Br.S k).take i).flatMap fun a => (Br.S (n - 1 - k)).map fun b => 40 :: a ++ 41 :: b
theorem wr_full (n k : Nat) : wr n k (Br.S k).length = wr n (k + 1) 0 := by
  unfold wr
  rw [List.take_length, List.take_zero, List.flatMap_nil, List.append_nil, List.range_succ, List.flatMap_append]
  simp
theorem wr_step (n k i : Nat) (a : List Nat) (h : (Br.S k)[i]? = some a) : wr n k (i + 1) = wr n k i ++ (Br.S (n - 1 - k)).map fun b => 40 :: a ++ 41 :: b := by
  unfold wr
  rw [List.take_add_one, h, Option.toList_some, List.flatMap_append, List.append_assoc]
  simp
theorem wr_fwd (n : Nat) : wr n n 0 = Br.fwd Br.S n := by
  unfold wr Br.fwd
  rw [List.take_zero, List.flatMap_nil, List.append_nil]
theorem wr_few : ∀ n, n < 7 → ∀ k, k < n → ∀ i, i ≤ (Br.S k).length → (wr n k i).length ≤ 132 := by decide +kernel
def spAll (d : Nat) : Sp := fun vs H Q _ => ∃ n : Nat, vs = [.int n] ∧ n < d ∧ n < 7 ∧ ∀ p H', Same H H' → H p = none → H' p = some (.lst (tS (Br.S n))) → Q (.ref p) H'
theorem scAll : FnScope ["_law_size", "_law_found", "_law_k", "_law_one"] ["_law_size"] (defScope st__law_all) := ⟨rfl, rfl, rfl, by decide +kernel, rfl, by decide +kernel, by decide +kernel⟩
set_option maxHeartbeats 1000000 in
theorem ok_all (F : Fun K "_law_all" "_law_all" st__law_all f fd) (S : Self K mg f fd "_law_all" ["_law_size"]) (mr : mg "range" = none) (mso : mg "sorted" = none) : ∀ d, FnOk P w K mg base (CX1 P w) (d + 3) f fd ["_law_size"] (spAll d) := by
  refine rec_ok S (fun vs H Q E h => by obtain ⟨_, _, h, _⟩ := h; omega) fun d hS => ?_
  refine F.ok1 (k := d + 3) scAll (fun vs H Q E h => ?_) (fun cdv A outer s H vs Q E hr h => ?_)
  · obtain ⟨n, rfl, _⟩ := h
    rfl
  obtain ⟨n, rfl, hd, h7, q⟩ := h
  have s1k := small1000 (n := 1000) (by omega)
  refine ⟨_, pss_cons (ps_if (pt_cmpR op_eq (pv 0) pe_int (nomark _)) (pss_one (ps_ret (pe_lst (pa_cons pe_str pa_nil)))) pss_nil)
    (pss_cons (ps_set (i := 1) scAll.nd rfl (Or.inl rfl) (pe_lst pa_nil))
    (pss_cons (ps_for PassesOwn.never rfl (pi_range1 rfl mr (pa_cons (pv 0) pa_nil)) (pg_name (i := 2) scAll.nd rfl (Or.inl rfl))
      (pss_one (ps_for PassesOwn.never rfl (pi_list (pe_callH hS hr pass1 (pa_cons (pv 2) pa_nil))) (pg_name (i := 3) scAll.nd rfl (Or.inr rfl))
        (pss_one (ps_expr (pe_bm PySem.F.plainAttrs_list PySem.F.slot_list_extend PySem.F.type_list_extend mt_extend (pv 1) (pa_cons
          (pe_comp (esc := defScope st__law_all) (EN := ["_law_size", "_law_found", "_law_k", "_law_one"]) (N := ["_law_other", "_law_size", "_law_found", "_law_k", "_law_one"]) ⟨by rfl, by decide +kernel, by decide +kernel, by rfl, by decide +kernel, by rfl, by decide +kernel, by rfl, by decide +kernel⟩ rfl rfl rfl
            (pi_list (pe_callH hS hr pass1 (pa_cons (pe_op op_sub (pe_op op_sub (pv 0) pe_int) (pv 2)) pa_nil))) (fun _ _ _ _ _ _ => pifs_nil)
            (fun _ _ _ _ _ _ => pe_op op_add_str (pe_op op_add_str (pe_op op_add_str pe_str (pv 4)) pe_str) (pv 0))) pa_nil)))))))
    (pss_one (ps_ret (pe_callB call_sortA rfl mso PyProof.Rows.boot_sorted (pa_cons (pv 1) pa_nil)))))), ?_⟩
  refine ⟨_, rfl, rfl, _, rfl, ?_⟩
  refine ite2 (fun h => ?_) (fun h => ?_)
  · have e : n = 0 := by have := V.int.inj (of_decide_eq_true h); omega
    subst e
    refine ⟨by show 1 ≤ sizeLine; decide, fun p hp => q p _ (same_new hp _) hp ?_⟩
    rw [upd_same, no_sign]
    rfl
  have h0 : 0 < n := by
    rcases Nat.eq_zero_or_pos n with e | e
    · subst e; exact absurd rfl h
    · exact e
  refine ⟨by show 0 ≤ sizeLine; decide, fun p hp => ?_⟩
  refine ⟨_, rfl, _, rfl, by omega, by omega, ?_⟩
  have en : ((n : Int)).toNat = n := by omega
  rw [en]
  refine for_range (fun i σ H' => (∃ x2 x3, σ = [some (.int n), some (.ref p), x2, x3]) ∧ Same H H' ∧ H' p = some (.lst (tS (wr n i 0)))) ⟨⟨none, none, rfl⟩, same_new hp _, by rw [upd_same]; rfl⟩ ?_ ?_
  · rintro k σ H1 hk ⟨⟨x2, x3, rfl⟩, hs1, hp1⟩
    have e0 : (0 : Int) + (k : Int) = ((k : Nat) : Int) := by omega
    rw [e0]
    refine ⟨_, rfl, k, rfl, by omega, by omega, fun pk H2 hs2 hf2 hk2 => ⟨pk, rfl, ⟨_, SqL.of hk2⟩, ?_⟩⟩
    have hpk : pk ≠ p := fun e => by rw [e, hp1] at hf2; cases hf2
    refine for_list (xs := tS (Br.S k)) (fun i σ H' => (∃ x3, σ = [some (.int n), some (.ref p), some (.int k), x3]) ∧ Same H H' ∧ H' p = some (.lst (tS (wr n k i))) ∧ H' pk = some (.lst (tS (Br.S k)))) ⟨⟨x3, rfl⟩, hs1.trans hs2, hs2 _ _ hp1, hk2⟩ ?_ ?_ ?_
    · rintro i σ H' _ ⟨_, _, _, h⟩
      exact SqL.of h
    · rintro i x σ H3 hx ⟨⟨x3, rfl⟩, hs3, hp3, hk3⟩
      obtain ⟨a, ha, rfl⟩ := tS_get hx
      have hil : i < (Br.S k).length := (List.getElem?_eq_some_iff.mp ha).1
      obtain ⟨la, _⟩ := Br.S_all k (by omega) a (List.mem_of_getElem? ha)
      have ez : (n : Int) - 1 - (k : Int) = ((n - 1 - k : Nat) : Int) := by omega
      refine ⟨_, rfl, .inl ⟨rfl, _, SqL.of hp3⟩, _, rfl, _, _, rfl, rfl, _, rfl, _, _, rfl, rfl, n - 1 - k, by show [V.int ((n : Int) - 1 - (k : Int))] = _; rw [ez], by omega, by omega, fun pm H4 hs4 hf4 hm4 => ⟨pm, rfl, ⟨_, SqL.of hm4⟩, fun D hD => ?_⟩⟩
      refine comp_list (xs := tS (Br.S (n - 1 - k))) (fun j ys H' => Same H4 H' ∧ ys = tS (((Br.S (n - 1 - k)).take j).map fun b => 40 :: a ++ 41 :: b) ∧ H' D = some (.lst ys)) ⟨same_new hD _, rfl, upd_same⟩ ?_ ?_ ?_
      · rintro j ys H' _ ⟨hs', _⟩
        exact SqL.of (hs' _ _ hm4)
      · rintro j x ys H5 hx5 ⟨hs5, rfl, hD5⟩
        obtain ⟨b, hb, rfl⟩ := tS_get hx5
        obtain ⟨lb, _⟩ := Br.S_all (n - 1 - k) (by omega) b (List.mem_of_getElem? hb)
        have l1 : (Str.ofString "(").length = 1 := by decide +kernel
        have l2 : (Str.ofString ")").length = 1 := by decide +kernel
        have n0 := len_mk a
        have n1 := len_mk b
        have n2 : (Str.ofString "(" ++ mkS a).length = a.length + 1 := by rw [← cs_length, cs_append, List.length_append, cs_length, cs_length, l1, n0]; omega
        have n3 : (Str.ofString "(" ++ mkS a ++ Str.ofString ")").length = a.length + 2 := by rw [← cs_length, cs_append, List.length_append, cs_length, cs_length, l2, n2]
        refine ⟨_, rfl, _, _, rfl, rfl, by omega, _, _, rfl, rfl, by omega, _, rfl, _, _, rfl, rfl, by omega, hD5, ?_, fun c o ec => ?_, ?_, upd_same⟩
        · rw [tS_length, List.length_map, List.length_take]
          have := (Br.S_few (n - 1 - k) (by omega)).1
          omega
        · rw [upd_ne (ne_of_none ec hD)]; exact hs5 c o ec
        · rw [one_row, List.take_add_one, hb, List.map_append, tS_append]
          rfl
      · rintro ys H5 ⟨hs5, rfl, hD5⟩
        rw [List.take_of_length_le (by rw [tS_length]; omega)] at hD5
        have hp5 : H5 p = some (.lst (tS (wr n k i))) := hs5 _ _ (hs4 _ _ hp3)
        have step := wr_step n k i a ha
        refine ⟨p, D, _, _, rfl, rfl, hp5, hD5, ?_, ⟨_, rfl⟩, same_but (hs3.trans (hs4.trans hs5)) hp _, ?_, ?_⟩
        · rw [← List.length_append, ← tS_append, ← step, tS_length]
          have := wr_few n h7 k hk (i + 1) (by omega)
          omega
        · rw [upd_same, step, tS_append]
        · rw [upd_ne hpk]; exact hs5 _ _ (hs4 _ _ hk3)
    · rintro σ H' ⟨⟨x3, rfl⟩, hs', hp', _⟩
      rw [tS_length, wr_full] at hp'
      exact ⟨⟨_, _, rfl⟩, hs', hp'⟩
  · rintro σ H1 ⟨⟨x2, x3, rfl⟩, hs1, hp1⟩
    rw [wr_fwd] at hp1
    refine ⟨_, rfl, p, n, rfl, h0, h7, SqL.of hp1, fun l hl => ?_⟩
    refine q l _ (hs1.trans (same_new hl _)) ?_ upd_same
    cases e : H l with
    | none => rfl
    | some o => rw [hs1 _ _ e] at hl; cases hl

/-! ### threes, cut_of -/
def spThrees (d : Nat) : Sp := fun vs H Q _ => ∃ (z : Str) (t : Br.Tr) (g l : Int), vs = [.str z, .int g, .int l] ∧ cs z = Br.rw t ∧ l = g + Br.sz t + 1 ∧ Br.sz t < d ∧ z.length ≤ 900 ∧
  ∀ p as H', Same H H' → H' p = some (.lst (as.map V.ref)) → TupI H' as (Br.th t g) → Q (.ref p) H'
theorem scThrees : FnScope ["row", "first", "last", "shut", "within", "middle"] ["row", "first", "last"] (defScope st_threes) := ⟨rfl, rfl, rfl, by decide +kernel, rfl, by decide +kernel, by decide +kernel⟩
theorem tup_few {H : Hp} {as : List Addr} {t : Br.Tr} {g : Int} (T : TupI H as (Br.th t g)) : (as.map V.ref).length = Br.sz t := by rw [List.length_map, T.length, Br.th_length]
set_option maxHeartbeats 1000000 in
theorem ok_threes {C : Addr} (F : Fun K "threes" "threes" st_threes f fd) (S : Self K mg f fd "threes" ["row", "first", "last"]) (hPar : Has P w K mg base 2 "partner" ["row", "place"] (spPartner C)) (ml : mg "len" = none) : ∀ d, FnOk P w K mg base (CX1 P w) (d + 3) f fd ["row", "first", "last"] (spThrees d) := by
  refine rec_ok S (fun vs H Q E h => by obtain ⟨_, _, _, _, _, _, _, h, _⟩ := h; omega) fun d hS => ?_
  refine F.ok1 (k := d + 3) scThrees (fun vs H Q E h => ?_) (fun cdv A outer s H vs Q E hr h => ?_)
  · obtain ⟨_, _, _, _, rfl, _⟩ := h
    rfl
  obtain ⟨z, t, g, l, rfl, hz, hl, ht, hzl, q⟩ := h
  have hr2 := hr.mono (show 2 ≤ d + 3 by omega)
  have s1k := small1000 (n := 1000) (by omega)
  have hzs : z.length ≤ sizeLine := by omega
  refine ⟨_, pss_cons (ps_if (pt_cmpR op_eq (pv 0) pe_str (nomark _)) (pss_one (ps_ret (pe_lst pa_nil))) pss_nil)
    (pss_cons (ps_set (i := 3) scThrees.nd rfl (Or.inl rfl) (pe_callH hPar hr2 pass1 (pa_cons (pv 0) (pa_cons pe_int pa_nil))))
    (pss_cons (ps_set (i := 4) scThrees.nd rfl (Or.inl rfl) (pe_slice sl_str (pv 0) (po_some pe_int) (po_some (pv 3))))
    (pss_cons (ps_set (i := 5) scThrees.nd rfl (Or.inl rfl) (pe_op op_add (pe_op op_add (pv 1) (pe_op op_fdiv (pe_callB call_len_str rfl ml PySem.boot_len (pa_cons (pv 4) pa_nil)) pe_int)) pe_int))
    (pss_one (ps_ret (pe_op op_cat (pe_op op_cat (pe_lst (pa_t (pe_tup (pa_cons (pv 1) (pa_cons (pv 5) (pa_cons (pv 2) pa_nil)))) pa_nil)) (pe_callH hS hr pass1 (pa_cons (pv 4) (pa_cons (pv 1) (pa_cons (pv 5) pa_nil)))))
      (pe_callH hS hr pass1 (pa_cons (pe_slice sl_str (pv 0) (po_some (pe_op op_add (pv 3) pe_int)) po_none) (pa_cons (pv 5) (pa_cons (pv 2) pa_nil)))))))))), ?_⟩
  refine ⟨_, rfl, rfl, _, rfl, ?_⟩
  cases t with
  | leaf =>
    refine ite2 (fun _ => ⟨by show 0 ≤ sizeLine; decide, fun p hp => q p [] _ (same_new hp _) upd_same .nil⟩) (fun h => absurd (decide_eq_true (congrArg V.str (str_nil.mpr hz))) h)
  | node a b =>
    refine ite2 (fun h => ?_) (fun _ => ?_)
    · exact absurd (hz.symm.trans (str_nil.mp (V.str.inj (of_decide_eq_true h)))) (node_ne a b)
    have hw := Br.rw_whole (.node a b)
    rw [← hz] at hw
    have hcz := cs_length z
    have hpos : 0 < z.length := by
      rcases Nat.eq_zero_or_pos z.length with e | e
      · rw [e] at hcz
        exact absurd (hz.symm.trans (List.eq_nil_of_length_eq_zero hcz)) (node_ne a b)
      · exact e
    refine ⟨_, rfl, z, 0, rfl, hzl, fun _ => ⟨hw, fun m hm => ?_⟩, fun n => absurd ⟨by decide, by omega⟩ n⟩
    have em : m = (Br.rw a).length + 1 := by
      rcases hm with hm | hm
      · rw [hz] at hm; exact Br.pair_node hm
      · have := hm.lt; omega
    have hs2 : ((Br.sz (.node a b) : Nat) : Int) = Br.sz a + Br.sz b + 1 := by rw [Br.sz]; omega
    have hs3 : Br.sz (.node a b) = Br.sz a + Br.sz b + 1 := Br.sz.eq_2 a b
    have ci := cut_in hz em
    have co := cut_out hz em
    have lw : (Txt.slice z (some 1) (some (m : Nat))).length = 2 * Br.sz a := by rw [← cs_length, ci, Br.rw_length]
    have li := slice_len z (some 1) (some (m : Nat))
    have lo := slice_len z (some ((m : Int) + 1)) none
    have lz : z.length = 2 * (Br.sz a + Br.sz b + 1) := by rw [← cs_length, hz, Br.rw_length, hs3]
    refine ⟨_, rfl, _, rfl, _, rfl, _, rfl, z, rfl, hzs, ?_⟩
    generalize Txt.slice z (some 1) (some (m : Nat)) = wi at ci lw li
    refine ⟨_, rfl, _, rfl, wi, rfl, by omega, _, _, rfl, rfl, ⟨by decide, by decide⟩, _, _, rfl, rfl, _, _, rfl, rfl, ?_⟩
    have em2 : (fun i j : Int => V.int (i + j)) ((fun i j : Int => i + j) g ((wi.length : Int) / 2)) 1 = V.int (g + Br.sz a + 1) := by
      show V.int (g + (wi.length : Int) / 2 + 1) = _
      rw [lw]
      congr 1
      omega
    rw [em2]
    refine ⟨_, rfl, _, rfl, _, rfl, by show 3 ≤ sizeLine; decide, fun p1 f1 => ⟨by show 1 ≤ sizeLine; decide, fun p2 f2 => ?_⟩⟩
    refine ⟨_, rfl, _, rfl, _, rfl, wi, a, g, _, rfl, ci, rfl, by omega, by omega, fun p3 as1 H3 sm3 hp3 T3 => ?_⟩
    have hl2 : l = g + Br.sz a + Br.sz b + 2 := by omega
    subst hl2
    have g2 := sm3 _ _ (upd_same (H := upd H p1 (.tup [V.int g, V.int (g + Br.sz a + 1), V.int (g + Br.sz a + Br.sz b + 2)])) (a := p2) (o := .lst [.ref p1]))
    have g1 := sm3 _ _ (same_new f2 (.lst [.ref p1]) _ _ (upd_same (H := H) (a := p1) (o := .tup [V.int g, V.int (g + Br.sz a + 1), V.int (g + Br.sz a + Br.sz b + 2)])))
    have n3 := tup_few T3
    refine ⟨p2, p3, _, _, rfl, rfl, g2, hp3, by rw [n3]; show 1 + _ ≤ _; omega, fun p4 f4 => ?_⟩
    refine ⟨_, rfl, _, rfl, _, _, rfl, rfl, _, rfl, z, rfl, hzs, _, rfl, _, rfl, _, b, _, _, rfl, co, by omega, by omega, by omega, fun p5 as2 H5 sm5 hp5 T5 => ?_⟩
    have n5 := tup_few T5
    refine ⟨p4, p5, _, _, rfl, rfl, sm5 _ _ upd_same, hp5, by rw [List.length_append, n3, n5]; show 1 + _ + _ ≤ _; omega, fun p6 f6 => ?_⟩
    have s45 : Same H3 (upd H5 p6 (.lst ([.ref p1] ++ as1.map V.ref ++ as2.map V.ref))) := ((same_new f4 _).trans sm5).trans (same_new f6 _)
    refine q p6 (p1 :: (as1 ++ as2)) _ ((((same_new f1 _).trans (same_new f2 _)).trans sm3).trans s45) ?_ ?_
    · rw [upd_same, List.map_cons, List.map_append]
      rfl
    · rw [Br.th]
      exact .cons (s45 _ _ g1) ((T3.same s45).append (T5.same (same_new f6 _)))
def spCut : Sp := fun vs H Q _ => ∃ (z : Str) (t : Br.Tr), vs = [.str z] ∧ cs z = Br.rw t ∧ Br.sz t ≤ 20 ∧ ∀ p as ts H', Same H H' → H' p = some (.tup (as.map V.ref)) → TupI H' as ts → ts.Perm (Br.th t 0) → ts.Pairwise (· < ·) → Q (.ref p) H'
theorem scCut : FnScope ["row"] ["row"] (defScope st_cut_of) := ⟨rfl, rfl, rfl, by decide +kernel, rfl, by decide +kernel, by decide +kernel⟩
theorem th_ne (t : Br.Tr) (g : Int) : ∀ x ∈ Br.th t g, x ≠ [] := fun x hx e => by
  obtain ⟨a, b, c, rfl, _⟩ := Br.th_in t g x hx
  cases e
theorem ok_cut (F : Fun K "cut_of" "cut_of" st_cut_of f fd) (hTh : Has P w K mg base 24 "threes" ["row", "first", "last"] (spThrees 21)) (ml : mg "len" = none) (mso : mg "sorted" = none) (mt : mg "tuple" = none) : FnOk P w K mg base (CX1 P w) 25 f fd ["row"] spCut := by
  refine F.ok1 scCut (fun vs H Q E h => ?_) (fun cdv A outer s H vs Q E hr h => ?_)
  · obtain ⟨_, _, rfl, _⟩ := h
    rfl
  obtain ⟨z, t, rfl, hz, ht, q⟩ := h
  have s1k := small1000 (n := 1000) (by omega)
  have lz : z.length = 2 * Br.sz t := by rw [← cs_length, hz, Br.rw_length]
  refine ⟨_, pss_one (ps_ret (pe_callTy call_tuple_of rfl mt PyProof.Rows.boot_tuple (pa_cons (pe_callB call_sortT rfl mso PyProof.Rows.boot_sorted (pa_cons
    (pe_callH hTh hr pass1 (pa_cons (pv 0) (pa_cons pe_int (pa_cons (pe_op op_add (pe_op op_fdiv (pe_callB call_len_str rfl ml PySem.boot_len (pa_cons (pv 0) pa_nil)) pe_int) pe_int) pa_nil)))) pa_nil)) pa_nil))), ?_⟩
  refine ⟨_, rfl, _, rfl, z, rfl, by omega, _, _, rfl, rfl, ⟨by decide, by decide⟩, _, _, rfl, rfl, z, t, 0, _, rfl, hz, by omega, by omega, by omega, fun p as H1 s1 hp T => ?_⟩
  refine ⟨p, as, _, rfl, SqL.of hp, T, by rw [Br.th_length]; omega, Br.th_nd t 0, th_ne t 0, fun l as' ts' T' pm so hl => ?_⟩
  refine ⟨l, _, rfl, .inl ⟨SqL.of upd_same, fun l2 h2 => ?_⟩⟩
  exact q l2 as' ts' _ ((s1.trans (same_new hl _)).trans (same_new h2 _)) upd_same (T'.same ((same_new hl _).trans (same_new h2 _))) pm so

/-! ### parting_of -/
theorem S_split : ∀ n, n < 6 → ∀ r ∈ Br.S n, ((Txt.split (mkS r) (Str.ofString "(")).drop 1).map (·.length) = Br.shuts r ∧ (Txt.split (mkS r) (Str.ofString "(")).length ≤ 6 ∧ ∀ y ∈ Txt.split (mkS r) (Str.ofString "("), y.length ≤ 10 := by decide +kernel
def spParting : Sp := fun vs H Q _ => ∃ (n : Nat) (r : List Nat), vs = [.str (mkS r)] ∧ n < 6 ∧ r ∈ Br.S n ∧ ∀ p as H', Same H H' → H' p = some (.tup (as.map V.ref)) → TupI H' as (Br.ptg r) → Q (.ref p) H'
theorem scParting : FnScope ["row", "free", "blocks", "point", "stretch", "kept"] ["row"] (defScope st_parting_of) := ⟨rfl, rfl, rfl, by decide +kernel, rfl, by decide +kernel, by decide +kernel⟩
theorem cut_from (xs : List V) (k : Nat) (hk : k ≤ xs.length) : cutV xs (some (k : Int)) none = xs.drop k := by
  unfold cutV
  rw [HT.sIx_nat, HT.sIx_none, Nat.min_eq_left hk]
  exact List.take_of_length_le (by rw [List.length_drop]; omega)
theorem cut_to (xs : List V) (k : Nat) (hk : k ≤ xs.length) : cutV xs none (some (k : Int)) = xs.take k := by
  unfold cutV
  rw [HT.sIx_nat, HT.sIx_none, Nat.min_eq_left hk, List.drop_zero, Nat.sub_zero]
theorem parting_same {a b : List (List Int)} (p : a.Perm b) (ha : a.Pairwise (· < ·)) (hb : b.Pairwise (· < ·)) : a = b :=
  List.Perm.eq_of_pairwise (fun x y _ _ h1 h2 => absurd h2 (List.lt_asymm h1)) ha hb p
theorem tup_keepL {H : Hp} {as : List Addr} {ts : List (List Int)} {p : Addr} {ys : List V} {o : HO} (T : TupI H as ts) (hp : H p = some (.lst ys)) : TupI (upd H p o) as ts := by
  induction T with
  | nil => exact .nil
  | @cons a t as ts h _ ih =>
    refine .cons ?_ ih
    have n : a ≠ p := fun e => by rw [e, hp] at h; cases h
    rw [upd_ne n]; exact h
theorem upd_none {H : Hp} {a b : Addr} {o : HO} (h : upd H a o b = none) : b ≠ a ∧ H b = none := by
  have n : b ≠ a := fun e => by rw [e, upd_same] at h; cases h
  exact ⟨n, by rw [upd_ne n] at h; exact h⟩
set_option maxHeartbeats 2000000 in
theorem ok_parting (F : Fun K "parting_of" "parting_of" st_parting_of f fd) (ml : mg "len" = none) (mt : mg "tuple" = none) (mso : mg "sorted" = none) (me : mg "enumerate" = none) : FnOk P w K mg base (CX1 P w) 1 f fd ["row"] spParting := by
  refine F.ok1 scParting (fun vs H Q E h => ?_) (fun cdv A outer s H vs Q E hr h => ?_)
  · obtain ⟨_, _, rfl, _⟩ := h
    rfl
  obtain ⟨n, r, rfl, hn, hr6, q⟩ := h
  have s1k := small1000 (n := 1000) (by omega)
  obtain ⟨sp1, sp2, sp3⟩ := S_split n hn r hr6
  obtain ⟨pt1, pt2, pt3, pt4, pt5⟩ := Br.S_ptg n hn r hr6
  have lr := (Br.S_all n (by omega) r hr6).1
  have lz : (mkS r).length ≤ 900 := by rw [len_mk]; omega
  refine ⟨_, pss_cons (ps_set (i := 1) scParting.nd rfl (Or.inl rfl) (pe_lst pa_nil))
    (pss_cons (ps_set (i := 2) scParting.nd rfl (Or.inl rfl) (pe_lst pa_nil))
    (pss_cons (ps_for PassesOwn.never rfl (pi_enumL rfl me (pa_cons (pe_slice sl_list (pe_bm PySem.F.plainAttrs_str PySem.F.slot_str_split PySem.F.type_str_split mt_split (pv 0) (pa_cons pe_str pa_nil)) (po_some pe_int) po_none) pa_nil))
        (pg_tup rfl (pgs_cons (pg_name (i := 3) scParting.nd rfl (Or.inl rfl)) (pgs_cons (pg_name (i := 4) scParting.nd rfl (Or.inl rfl)) pgs_nil)))
      (pss_cons (ps_expr (pe_bm PySem.F.plainAttrs_list PySem.F.slot_list_append PySem.F.type_list_append mt_append (pv 1) (pa_cons (pv 3) pa_nil)))
      (pss_one (ps_if (pt_cmpR op_ne (pv 4) pe_str (nomark _))
        (pss_cons (ps_set (i := 5) scParting.nd rfl (Or.inl rfl) (pe_op op_sub (pe_callB call_len_seq rfl ml PySem.boot_len (pa_cons (pv 1) pa_nil)) (pe_callB call_len_str rfl ml PySem.boot_len (pa_cons (pv 4) pa_nil))))
        (pss_cons (ps_expr (pe_bm PySem.F.plainAttrs_list PySem.F.slot_list_append PySem.F.type_list_append mt_append (pv 2) (pa_cons (pe_callTy call_tuple_of rfl mt PyProof.Rows.boot_tuple (pa_cons (pe_slice sl_list (pv 1) (po_some (pv 5)) po_none) pa_nil)) pa_nil)))
        (pss_one (ps_set (i := 1) scParting.nd rfl (Or.inl rfl) (pe_slice sl_list (pv 1) po_none (po_some (pv 5))))))) pss_nil))))
    (pss_one (ps_ret (pe_callTy call_tuple_of rfl mt PyProof.Rows.boot_tuple (pa_cons (pe_callB call_sortT rfl mso PyProof.Rows.boot_sorted (pa_cons (pv 2) pa_nil)) pa_nil)))))), ?_⟩
  generalize ez : mkS r = z at sp1 sp2 sp3 lz
  have hzs : z.length ≤ sizeLine := by omega
  refine ⟨by show 0 ≤ sizeLine; decide, fun p1 f1 => ⟨by show 0 ≤ sizeLine; decide, fun p2 f2 => ?_⟩⟩
  have hy0 : ((Str.ofString "(").length == 0) = false := by decide +kernel
  refine ⟨_, rfl, rfl, z, _, rfl, rfl, hy0, lz, by omega, fun p3 f3 => ?_⟩
  refine ⟨1, rfl, p3, _, rfl, SqL.of upd_same, fun p4 f4 => ?_⟩
  have s1 := same_new f1 (.lst [])
  have s2 := same_new f2 (.lst [])
  have s3 := same_new f3 (.lst ((Txt.split z (Str.ofString "(")).map V.str))
  have s4 := same_new f4 (.lst (cutV ((Txt.split z (Str.ofString "(")).map V.str) (some 1) none))
  have e4 : cutV ((Txt.split z (Str.ofString "(")).map V.str) (some 1) none = ((Txt.split z (Str.ofString "(")).drop 1).map V.str ∨ Txt.split z (Str.ofString "(") = [] := by
    rcases Nat.lt_or_ge 0 (Txt.split z (Str.ofString "(")).length with h | h
    · left
      have := cut_from ((Txt.split z (Str.ofString "(")).map V.str) 1 (by rw [List.length_map]; omega)
      rw [show ((1 : Nat) : Int) = 1 from rfl] at this
      rw [this, List.map_drop]
    · exact .inr (List.eq_nil_of_length_eq_zero (by omega))
  have e5 : cutV ((Txt.split z (Str.ofString "(")).map V.str) (some 1) none = ((Txt.split z (Str.ofString "(")).drop 1).map V.str := by
    rcases e4 with e | e
    · exact e
    · rw [e]; rfl
  generalize hL : (Txt.split z (Str.ofString "(")).drop 1 = L at e5 sp1
  have hLy : ∀ y ∈ L, y.length ≤ 10 := fun y hy => sp3 y (List.mem_of_mem_drop (by rw [hL]; exact hy))
  have hLl : L.length = (Br.shuts r).length := by rw [← sp1, List.length_map]
  rw [e5] at s4 ⊢
  refine ⟨p4, _, rfl, upd_same, for_enumL (xs := L.map V.str) (fun i σ H' => ∃ (pf pb : Addr) (bs : List Addr) (x3 x4 x5 : Option V), σ = [some (.str z), some (.ref pf), some (.ref pb), x3, x4, x5] ∧ Same H H' ∧ H' p4 = some (.lst (L.map V.str)) ∧ H' pf = some (.lst ((Br.afterP r i).1.map V.int)) ∧
    H' pb = some (.lst (bs.map V.ref)) ∧ TupI H' bs (Br.afterP r i).2 ∧ H pf = none ∧ H pb = none ∧ pf ≠ pb ∧ pf ≠ p4 ∧ pb ≠ p4) ?_ ?_ ?_ ?_⟩
  · have g2 := upd_none f2
    have g3 := upd_none f3
    have g4 := upd_none f4
    have g42 := upd_none g4.2
    have g43 := upd_none g42.2
    exact ⟨p1, p2, [], none, none, none, rfl, ((s1.trans s2).trans s3).trans s4, upd_same, s4 _ _ (s3 _ _ (s2 _ _ upd_same)), s4 _ _ (s3 _ _ upd_same), .nil, f1, g2.2, Ne.symm g2.1, Ne.symm g43.1, Ne.symm g42.1⟩
  · rintro i σ H' ⟨_, _, _, _, _, _, _, _, h, _⟩
    exact h
  · rintro i y σ H1 T hy ⟨pf, pb, bs, x3, x4, x5, rfl, hs, h4, hpf, hpb, Tb, nf, nb, n1, n2, n3⟩ hT
    rw [List.getElem?_map] at hy
    obtain ⟨yy, hyy, rfl⟩ : ∃ yy, L[i]? = some yy ∧ y = .str yy := by
      cases e : L[i]? with
      | none => rw [e] at hy; cases hy
      | some yy => rw [e] at hy; exact ⟨yy, rfl, (Option.some.inj hy).symm⟩
    have hi : i < (Br.shuts r).length := by rw [← hLl]; exact (List.getElem?_eq_some_iff.mp hyy).1
    have hk : (Br.shuts r).getD i 0 = yy.length := by
      rw [← sp1, List.getD_eq_getElem?_getD, List.getElem?_map, hyy]; rfl
    have yl := hLy yy (List.mem_of_getElem? hyy)
    obtain ⟨st1, st2, st3, st4⟩ := Br.S_step hn hr6 hi
    rw [hk] at st1 st2
    refine ⟨T, _, rfl, SqT.of upd_same, rfl, _, _, rfl, _, _, rfl, rfl, ?_⟩
    have sT := same_new hT (.tup [V.int (i : Nat), V.str yy])
    have hpf1 := sT _ _ hpf
    have hpb1 := sT _ _ hpb
    have h41 := sT _ _ h4
    have hs1 := hs.trans sT
    have Tb1 := Tb.same sT
    generalize upd H1 T (.tup [V.int (i : Nat), V.str yy]) = H2 at hpf1 hpb1 h41 hs1 Tb1
    clear sT hpf hpb h4 hs Tb hT
    have fl : ((Br.afterP r i).1.map V.int).length = (Br.afterP r i).1.length := List.length_map ..
    refine ⟨_, rfl, .inl ⟨rfl, _, SqL.of hpf1⟩, _, rfl, pf, _, _, rfl, rfl, hpf1, by omega, ?_⟩
    have m1 : (Br.afterP r i).1.map V.int ++ [V.int (i : Nat)] = ((Br.afterP r i).1 ++ [(i : Int)]).map V.int := by rw [List.map_append]; rfl
    rw [m1]
    have hpb2 : (upd H2 pf (.lst (((Br.afterP r i).1 ++ [(i : Int)]).map V.int))) pb = some (.lst (bs.map V.ref)) := by rw [upd_ne (Ne.symm n1)]; exact hpb1
    have h42 : (upd H2 pf (.lst (((Br.afterP r i).1 ++ [(i : Int)]).map V.int))) p4 = some (.lst (L.map V.str)) := by rw [upd_ne (Ne.symm n2)]; exact h41
    have hs2 : Same H (upd H2 pf (.lst (((Br.afterP r i).1 ++ [(i : Int)]).map V.int))) := same_but hs1 nf _
    have Tb2 := tup_keepL (o := .lst (((Br.afterP r i).1 ++ [(i : Int)]).map V.int)) Tb1 hpf1
    have hpf2 : (upd H2 pf (.lst (((Br.afterP r i).1 ++ [(i : Int)]).map V.int))) pf = some (.lst (((Br.afterP r i).1 ++ [(i : Int)]).map V.int)) := upd_same
    generalize upd H2 pf (.lst (((Br.afterP r i).1 ++ [(i : Int)]).map V.int)) = H3 at hpb2 h42 hs2 Tb2 hpf2 ⊢
    clear hpf1 hpb1 h41 hs1 Tb1
    refine ⟨_, rfl, rfl, _, rfl, ?_⟩
    have c0 : (Str.ofString "").length = 0 := by decide +kernel
    refine ite2 (fun c => ?_) (fun c => ?_)
    · have k0 : 0 < yy.length := by
        rcases Nat.eq_zero_or_pos yy.length with e | e
        · exfalso
          have ey : yy = Str.ofString "" := cs_inj (by
            have h1 : (cs yy).length = 0 := by rw [cs_length]; exact e
            have h2 : cs (Str.ofString "") = [] := by decide +kernel
            rw [h2]; exact List.eq_nil_of_length_eq_zero h1)
          rw [ey, decide_eq_true (rfl : V.str (Str.ofString "") = V.str (Str.ofString ""))] at c
          cases c
        · exact e
      have fl2 : (((Br.afterP r i).1 ++ [(i : Int)]).map V.int).length = (Br.afterP r i).1.length + 1 := by rw [List.length_map, List.length_append]; rfl
      refine ⟨_, rfl, pf, _, rfl, .inl (SqL.of hpf2), _, rfl, yy, rfl, by omega, _, _, rfl, rfl, ?_⟩
      have ek : (fun i j : Int => V.int (i - j)) ((((Br.afterP r i).1 ++ [(i : Int)]).map V.int).length : Nat) (yy.length : Nat) = V.int (((Br.afterP r i).1.length + 1 - yy.length : Nat) : Int) := by
        show V.int (((((Br.afterP r i).1 ++ [(i : Int)]).map V.int).length : Int) - (yy.length : Int)) = _
        rw [fl2]
        congr 1
        omega
      rw [ek]
      have st5 : Br.afterP r (i + 1) = (((Br.afterP r i).1 ++ [(i : Int)]).take ((Br.afterP r i).1.length + 1 - yy.length), (Br.afterP r i).2 ++ [((Br.afterP r i).1 ++ [(i : Int)]).drop ((Br.afterP r i).1.length + 1 - yy.length)]) := by
        rw [st2]
        unfold Br.stepP
        rw [if_neg (show ¬ yy.length = 0 by omega)]
      generalize hkk : (Br.afterP r i).1.length + 1 - yy.length = kk at st5
      refine ⟨_, rfl, .inl ⟨rfl, _, SqL.of hpb2⟩, _, rfl, _, rfl, _, rfl, pf, _, rfl, SqL.of hpf2, fun p5 f5 => ⟨p5, _, rfl, .inl ⟨SqL.of upd_same, fun p6 f6 => ?_⟩⟩⟩
      have s5 := same_new f5 (.lst (cutV (((Br.afterP r i).1 ++ [(i : Int)]).map V.int) (some (kk : Int)) none))
      have s6 := same_new f6 (.tup (cutV (((Br.afterP r i).1 ++ [(i : Int)]).map V.int) (some (kk : Int)) none))
      have e6 : cutV (((Br.afterP r i).1 ++ [(i : Int)]).map V.int) (some (kk : Int)) none = (((Br.afterP r i).1 ++ [(i : Int)]).drop kk).map V.int := by rw [cut_from _ _ (by omega), List.map_drop]
      have blen := Tb2.length
      refine ⟨pb, _, _, rfl, rfl, s6 _ _ (s5 _ _ hpb2), by rw [List.length_map, blen]; omega, ?_⟩
      have g6 := upd_none f6
      have hb6 := s6 _ _ (s5 _ _ hpb2)
      have h46 := s6 _ _ (s5 _ _ h42)
      have hf6 := s6 _ _ (s5 _ _ hpf2)
      have ht6 : upd (upd H3 p5 (.lst (cutV (((Br.afterP r i).1 ++ [(i : Int)]).map V.int) (some (kk : Int)) none))) p6 (.tup (cutV (((Br.afterP r i).1 ++ [(i : Int)]).map V.int) (some (kk : Int)) none)) p6 = some (.tup ((((Br.afterP r i).1 ++ [(i : Int)]).drop kk).map V.int)) := by rw [upd_same, e6]
      have T6 := (Tb2.same (s5.trans s6)).append (.cons ht6 .nil)
      have hs6 := hs2.trans (s5.trans s6)
      generalize upd (upd H3 p5 (.lst (cutV (((Br.afterP r i).1 ++ [(i : Int)]).map V.int) (some (kk : Int)) none))) p6 (.tup (cutV (((Br.afterP r i).1 ++ [(i : Int)]).map V.int) (some (kk : Int)) none)) = H6 at hb6 h46 hf6 ht6 T6 hs6 ⊢
      have T7 := tup_keepL (o := .lst (bs.map V.ref ++ [V.ref p6])) T6 hb6
      have hs7 : Same H (upd H6 pb (.lst (bs.map V.ref ++ [V.ref p6]))) := same_but hs6 nb _
      have h47 : upd H6 pb (.lst (bs.map V.ref ++ [V.ref p6])) p4 = some (.lst (L.map V.str)) := by rw [upd_ne (Ne.symm n3)]; exact h46
      have hf7 : upd H6 pb (.lst (bs.map V.ref ++ [V.ref p6])) pf = some (.lst (((Br.afterP r i).1 ++ [(i : Int)]).map V.int)) := by rw [upd_ne n1]; exact hf6
      have hb7 : upd H6 pb (.lst (bs.map V.ref ++ [V.ref p6])) pb = some (.lst ((bs ++ [p6]).map V.ref)) := by rw [upd_same, List.map_append]; rfl
      generalize upd H6 pb (.lst (bs.map V.ref ++ [V.ref p6])) = H7 at T7 hs7 h47 hf7 hb7 ⊢
      refine ⟨_, rfl, _, rfl, _, rfl, pf, _, rfl, SqL.of hf7, fun p7 f7 => ?_⟩
      have s7 := same_new f7 (.lst (cutV (((Br.afterP r i).1 ++ [(i : Int)]).map V.int) none (some (kk : Int))))
      have e7 : cutV (((Br.afterP r i).1 ++ [(i : Int)]).map V.int) none (some (kk : Int)) = (((Br.afterP r i).1 ++ [(i : Int)]).take kk).map V.int := by rw [cut_to _ _ (by omega), List.map_take]
      have n7 : H p7 = none := by
        cases e : H p7 with
        | none => rfl
        | some o => rw [hs7 _ _ e] at f7; cases f7
      refine ⟨p7, pb, bs ++ [p6], _, _, _, rfl, hs7.trans s7, s7 _ _ h47, ?_, s7 _ _ hb7, ?_, n7, nb, fun e => ?_, fun e => ?_, n3⟩
      · rw [upd_same, st5, e7]
      · rw [st5]; exact T7.same s7
      · rw [e, hb7] at f7; cases f7
      · rw [e, h47] at f7; cases f7
    · have k0 : yy.length = 0 := by
        have c' : decide (V.str yy = V.str (Str.ofString "")) = true := by
          cases hd : decide (V.str yy = V.str (Str.ofString "")) with
          | true => rfl
          | false => rw [hd] at c; exact absurd rfl c
        rw [V.str.inj (of_decide_eq_true c')]
        exact c0
      have st5 : Br.afterP r (i + 1) = ((Br.afterP r i).1 ++ [(i : Int)], (Br.afterP r i).2) := by
        rw [st2]
        unfold Br.stepP
        rw [if_pos k0]
      exact ⟨pf, pb, bs, _, _, _, rfl, hs2, h42, by rw [st5]; exact hpf2, hpb2, by rw [st5]; exact Tb2, nf, nb, n1, n2, n3⟩
  · rintro σ H1 ⟨pf, pb, bs, x3, x4, x5, rfl, hs, h4, hpf, hpb, Tb, nf, nb, n1, n2, n3⟩
    rw [List.length_map, hLl] at Tb
    refine ⟨_, rfl, pb, bs, _, rfl, SqL.of hpb, Tb, by show (Br.blocks r).length < 64; omega, pt2, pt3, fun l as' ts' T' pm so hl => ?_⟩
    have e : ts' = Br.ptg r := parting_same (pm.trans (Br.srtI_perm (Br.blocks r)).symm) so (Br.upI_ok _ pt1)
    subst e
    refine ⟨l, _, rfl, .inl ⟨SqL.of upd_same, fun l2 h2 => ?_⟩⟩
    exact q l2 as' _ ((hs.trans (same_new hl _)).trans (same_new h2 _)) upd_same (T'.same ((same_new hl _).trans (same_new h2 _)))

/-! ### law -/
abbrev LN : List Str := ["_law_script", "_law_size", "_law_due", "_law_many", "_law_rows", "_law_row", "_law_place", "_law_way", "_law_found"]
abbrev LN1 : List Str := ["_law_place", "_law_script", "_law_size", "_law_due", "_law_many", "_law_rows", "_law_row", "#", "_law_way", "_law_found"]
theorem scLaw : FnScope LN ["_law_script"] (defScope st_law) := ⟨rfl, rfl, rfl, by decide +kernel, rfl, by decide +kernel, by decide +kernel⟩
abbrev XL (P : Program) (w : World) (K : PySem.W.Frag) (mg : Str → Option Value) (base : Heap) (f : Addr) (cdv : Value) (A : Around) (outer : List Env) (s : Shared) (H : Hp) (E : XK) : Cx := (cxOf (CX1 P w) P w K mg base LN "law" (defScope st_law) f cdv A outer s H E).nox
def lst (i : Nat) : Stmt := (defBody st_law).getD i (.Pass ⟨0, 0, 0, 0⟩)
def inn (i j : Nat) : Stmt := (forBody (lst i)).getD j (.Pass ⟨0, 0, 0, 0⟩)
theorem room_u {k : Nat} {A : Around} (hr : Room k A) : A.units + 200 < cLine := by have := hr.un; omega
theorem eqv_ne {d : PyData} (h : d.canLay0 = true) {A B : Prop} (g : B) : if (!PyData.eqv d d) = true then A else B := by rw [eqD_refl h]; exact iteF g
noncomputable def sD (ls : List (List Nat)) : List PyData := ls.map fun r => PyData.str (mkS r)
theorem strs_dat (H : Hp) : ∀ ls : List (List Nat), Dats H (tS ls) (sD ls)
  | [] => .nil
  | x :: ls => .cons (.str (mkS x)) (strs_dat H ls)
theorem strs_lay : ∀ ls : List (List Nat), (∀ r ∈ ls, Br.IsBr r) → PyData.canLayAll0 (sD ls) = true
  | [], _ => rfl
  | x :: ls, h => by
    have h1 : ((mkS x).cps.all (· < 0x110000)) = true := by
      rw [← Array.all_toList, List.all_eq_true]
      intro c hc
      rcases h x List.mem_cons_self c hc with rfl | rfl <;> rfl
    have h2 := strs_lay ls fun y hy => h y (List.mem_cons_of_mem _ hy)
    show (((mkS x).cps.all (· < 0x110000)) && PyData.canLayAll0 (sD ls)) = true
    rw [h1, h2]; rfl
theorem strs_depth : ∀ ls : List (List Nat), PyData.depthAll (sD ls) = 0
  | [] => rfl
  | x :: ls => by
    show max 0 (PyData.depthAll (sD ls)) = 0
    rw [strs_depth ls]; rfl
theorem S_at {n i : Nat} (hi : i < (Br.S n).length) : (Br.S n)[i]? = some ((Br.S n).getD i []) := by
  rw [List.getD_eq_getElem?_getD, List.getElem?_eq_getElem hi]; rfl
theorem tS_at {ls : List (List Nat)} {i : Nat} {r : List Nat} (h : ls[i]? = some r) : (tS ls)[i]? = some (.str (mkS r)) := by
  unfold tS
  rw [List.map_map, List.getElem?_map, h]; rfl
theorem has_no {n i : Nat} (hn : n < 6) : HasNo n (i : Int) ↔ i < (Br.S n).length := by
  have h := (Br.S_many n hn).1
  have h2 := Br.cnt_T (s := n) (b := n) (by omega) (by omega)
  have h3 := cnt_ways n
  unfold HasNo
  omega
theorem S_isrow {n i : Nat} (hn : n < 6) (hi : i < (Br.S n).length) : IsRow (mkS ((Br.S n).getD i [])) ∧ (mkS ((Br.S n).getD i [])).length = 2 * n := by
  have hm : (Br.S n).getD i [] ∈ Br.S n := List.mem_of_getElem? (S_at hi)
  obtain ⟨l, _⟩ := Br.S_all n (by omega) _ hm
  have hl : (mkS ((Br.S n).getD i [])).length = 2 * n := by rw [len_mk, l]
  refine ⟨⟨by omega, ?_⟩, hl⟩
  have := (Br.S_rank n hn i hi).2.2
  exact (Br.lw_whole (by rw [cs_mk, l]; omega)).mp (by rw [cs_mk]; exact this)
section
variable {cdv : Value} {A : Around} {outer : List Env} {s₀ : Shared} {H₀ : Hp} {E : XK}
theorem w_rows {C : Addr} (hr : Room 25 (XL P w K mg base f cdv A outer s₀ H₀ E).A) (hRo : Has P w K mg base 5 "row_of" ["size", "number"] (spRowOf C)) (mr : mg "range" = none) :
    PS (XL P w K mg base f cdv A outer s₀ H₀ E) (lst 3) (fun D σ H => ∃ n : Nat, Holds σ 1 (.int n) ∧ Holds σ 3 (.int ((Br.S n).length : Nat)) ∧ n < 6 ∧ ∀ p H', Same H H' → H' p = some (.lst (tS (Br.S n))) → D.nx (σ.set 4 (some (.ref p))) H') := by
  have hr5 := hr.mono (show 5 ≤ 25 by decide)
  refine PS.imp (ps_comp (esc := defScope st_law) (EN := LN) (N := LN1) (i := 4)
        ⟨by rfl, by decide +kernel, by decide +kernel, by rfl, by decide +kernel, by rfl, by decide +kernel, by rfl, by decide +kernel⟩ rfl rfl rfl
        (pi_range1 rfl mr (pa_cons (pv 3) pa_nil)) (fun _ _ _ _ _ _ => pifs_nil) (fun _ _ _ _ _ _ => pe_callH hRo hr5 pass1 (pa_cons (pv 2) (pa_cons (pv 0) pa_nil))) scLaw.nd rfl rfl rfl) fun D σ H h => ?_
  obtain ⟨n, h1, h3, hn, q⟩ := h
  have s1k := small1000 (n := 1000) (by omega)
  have few := (Br.S_few n (by omega)).1
  refine ⟨_, h3, _, rfl, by omega, by omega, fun D' hD => ?_⟩
  have en : (((Br.S n).length : Nat) : Int).toNat = (Br.S n).length := by omega
  rw [en]
  refine comp_range (fun i ys H' => Same H H' ∧ ys = tS ((Br.S n).take i) ∧ H' D' = some (.lst ys)) ⟨same_new hD _, rfl, upd_same⟩ ?_ ?_
  · rintro i ys H2 hi ⟨hs2, rfl, hD2⟩
    have e0 : (0 : Int) + (i : Int) = ((i : Nat) : Int) := by omega
    rw [e0]
    have g2 : (some (V.int ((i : Nat) : Int)) :: σ)[2]? = some (some (.int n)) := h1
    have hno := (has_no (i := i) hn).mpr hi
    refine ⟨_, g2, _, rfl, n, i, rfl, by omega, fun _ z H3 s3 ez => ⟨s3 _ _ hD2, ?_, fun c o ec => ?_, ?_, upd_same⟩, fun x => absurd hno x⟩
    · rw [tS_length, List.length_take]; omega
    · rw [upd_ne (ne_of_none ec hD)]; exact s3 _ _ (hs2 c o ec)
    · have e : z = mkS ((Br.S n).getD i []) := cs_inj (by
        rw [ez, cs_mk]
        exact (Br.S_rank n hn i hi).1)
      rw [e, List.take_add_one, S_at hi, tS_append]
      rfl
  · rintro ys H2 ⟨hs2, rfl, hD2⟩
    rw [List.take_length] at hD2
    exact q D' H2 hs2 hD2
theorem w_same (hr : Room 25 (XL P w K mg base f cdv A outer s₀ H₀ E).A) : PS (XL P w K mg base f cdv A outer s₀ H₀ E) (lst 4) (fun D σ H => ∃ (n : Nat) (p q : Addr), Holds σ 2 (.ref p) ∧ Holds σ 4 (.ref q) ∧ n < 6 ∧ H p = some (.lst (tS (Br.S n))) ∧ H q = some (.lst (tS (Br.S n))) ∧ D.nx σ H) := by
  have hu := room_u hr
  refine PS.imp (ps_if (pt_cmpR (op_neD hu) (pv 4) (pv 2) (nomark _)) (pss_one (ps_ret pe_bl)) pss_nil) fun D σ H h => ?_
  obtain ⟨n, p, q, h2, h4, hn, hp, hq, nx⟩ := h
  have lay : (PyData.list (sD (Br.S n))).canLay0 = true := strs_lay _ fun r hr => (Br.S_all n (by omega) r hr).2
  refine ⟨_, h4, _, h2, PyData.list (sD (Br.S n)), PyData.list (sD (Br.S n)), .inr ⟨q, _, _, rfl, hq, strs_dat _ _, rfl⟩, .inr ⟨p, _, _, rfl, hp, strs_dat _ _, rfl⟩, lay, lay, ?_, _, rfl, eqv_ne lay nx⟩
  show PyData.depthAll (sD (Br.S n)) + 1 ≤ 150
  rw [strs_depth]; decide
theorem w_next {C : Addr} (hr : Room 25 (XL P w K mg base f cdv A outer s₀ H₀ E).A) (hNx : Has P w K mg base 6 "next_row" ["row"] (spNext C)) (mr : mg "range" = none) :
    PS (XL P w K mg base f cdv A outer s₀ H₀ E) (lst 6) (fun D σ H => ∃ (n : Nat) (p : Addr) (x0 x1 x2 x6 x7 x8 : Option V), σ = [x0, x1, x2, some (.int ((Br.S n).length : Nat)), some (.ref p), some (.str (mkS ((Br.S n).getD 0 []))), x6, x7, x8] ∧ n < 6 ∧ H p = some (.lst (tS (Br.S n))) ∧
      ∀ y6 H', Same H H' → D.nx [x0, x1, x2, some (.int ((Br.S n).length : Nat)), some (.ref p), some .non, y6, x7, x8] H') := by
  have hr6 := hr.mono (show 6 ≤ 25 by decide)
  refine PS.imp (ps_for PassesOwn.never rfl (pi_range1 rfl mr (pa_cons (pv 3) pa_nil)) (pg_name (i := 6) scLaw.nd rfl (Or.inl rfl))
    (pss_cons (ps_if (pt_cmpR op_ne (pv 5) (pe_ix ix_list (pv 4) (pv 6) (fun _ _ => rfl)) (nomark _)) (pss_one (ps_ret pe_bl)) pss_nil)
    (pss_one (ps_set (i := 5) scLaw.nd rfl (Or.inl rfl) (pe_callH hNx hr6 pass1 (pa_cons (pv 5) pa_nil)))))) fun D σ H h => ?_
  obtain ⟨n, p, x0, x1, x2, x6, x7, x8, rfl, hn, hp, q⟩ := h
  have pos := (Br.S_many n hn).2
  refine ⟨_, rfl, _, rfl, by omega, ?_, ?_⟩
  · have := (Br.S_few n (by omega)).1
    omega
  have en : (((Br.S n).length : Nat) : Int).toNat = (Br.S n).length := by omega
  rw [en]
  refine for_range (fun i σ' H' => Same H H' ∧ ∃ y5 y6, σ' = [x0, x1, x2, some (.int ((Br.S n).length : Nat)), some (.ref p), some y5, y6, x7, x8] ∧ (i < (Br.S n).length → y5 = .str (mkS ((Br.S n).getD i []))) ∧ (i = (Br.S n).length → y5 = .non)) ⟨Same.refl _, _, _, rfl, fun _ => rfl, fun e => by omega⟩ ?_ ?_
  · rintro i σ' H1 hi ⟨hs1, y5, y6, rfl, g1, g2⟩
    have e0 : (0 : Int) + (i : Int) = ((i : Nat) : Int) := by omega
    rw [e0, g1 hi]
    refine ⟨_, rfl, _, rfl, _, rfl, p, _, _, _, rfl, rfl, SqL.of (hs1 _ _ hp), atI_nat (tS_at (S_at hi)), rfl, _, rfl, iteNS rfl ?_⟩
    obtain ⟨ir, il⟩ := S_isrow hn hi
    have hz : (mkS ((Br.S n).getD i [])).length / 2 = n := by omega
    have hrk : Br.rank (cs (mkS ((Br.S n).getD i []))) 0 = i := (Br.S_rank n hn i hi).2.1
    refine ⟨_, rfl, mkS ((Br.S n).getD i []), rfl, by omega, fun _ => ⟨fun hno y H2 s2 ey => ?_, fun hno H2 s2 => ?_⟩, fun x => absurd ir x⟩
    · rw [hz, hrk] at hno
      rw [hz, hrk] at ey
      have hi1 := (has_no hn).mp hno
      refine ⟨hs1.trans s2, _, _, rfl, fun h => ?_, fun h => by omega⟩
      have e : y = mkS ((Br.S n).getD (i + 1) []) := cs_inj (by
        rw [ey, cs_mk]
        exact (Br.S_rank n hn (i + 1) h).1)
      rw [e]
    · rw [hz, hrk] at hno
      have hi1 : ¬ i + 1 < (Br.S n).length := fun x => hno ((has_no hn).mpr x)
      exact ⟨hs1.trans s2, _, _, rfl, fun h => absurd h hi1, fun _ => rfl⟩
  · rintro σ' H1 ⟨hs1, y5, y6, rfl, _, g2⟩
    rw [g2 rfl]
    exact q y6 H1 hs1
end

/-! ### law: the keys -/
def iD (ts : List (List Int)) : List PyData := ts.map fun t => PyData.tuple (t.map PyData.int)
theorem ints_dat (H : Hp) : ∀ t : List Int, Dats H (t.map V.int) (t.map PyData.int)
  | [] => .nil
  | x :: t => .cons (.int x) (ints_dat H t)
theorem tups_dat {H : Hp} {as : List Addr} {ts : List (List Int)} (T : TupI H as ts) : Dats H (as.map V.ref) (iD ts) := by
  induction T with
  | nil => exact .nil
  | cons h _ ih => exact .cons (.tup h (ints_dat H _)) ih
theorem ints_inj : ∀ a b : List Int, a.map PyData.int = b.map PyData.int → a = b
  | [], [], _ => rfl
  | [], _ :: _, h => by cases h
  | _ :: _, [], h => by cases h
  | x :: a, y :: b, h => by
    rw [List.map_cons, List.map_cons] at h
    rw [PyData.int.inj (List.cons.inj h).1, ints_inj a b (List.cons.inj h).2]
theorem iD_inj : ∀ a b : List (List Int), iD a = iD b → a = b
  | [], [], _ => rfl
  | [], _ :: _, h => by cases h
  | _ :: _, [], h => by cases h
  | x :: a, y :: b, h => by
    have h' : PyData.tuple (x.map PyData.int) :: iD a = PyData.tuple (y.map PyData.int) :: iD b := h
    rw [ints_inj x y (PyData.tuple.inj (List.cons.inj h').1), iD_inj a b (List.cons.inj h').2]
theorem ints_smp : ∀ t : List Int, smpAll (t.map PyData.int) = true
  | [] => rfl
  | x :: t => ints_smp t
theorem iD_smp : ∀ ts : List (List Int), smpAll (iD ts) = true
  | [] => rfl
  | t :: ts => by
    show (smpAll (t.map PyData.int) && smpAll (iD ts)) = true
    rw [ints_smp, iD_smp]; rfl
theorem ints_depth : ∀ t : List Int, PyData.depthAll (t.map PyData.int) = 0
  | [] => rfl
  | x :: t => by
    show max 0 (PyData.depthAll (t.map PyData.int)) = 0
    rw [ints_depth]; rfl
theorem iD_depth : ∀ ts : List (List Int), PyData.depthAll (iD ts) ≤ 1
  | [] => by show 0 ≤ 1; decide
  | t :: ts => by
    show max (PyData.depthAll (t.map PyData.int) + 1) (PyData.depthAll (iD ts)) ≤ 1
    rw [ints_depth]
    have := iD_depth ts
    omega
theorem fo_smp : ∀ t : Br.Tr, smpAll (Br.foL t) = true
  | .leaf => rfl
  | .node a b => by
    show (smpAll (Br.foL a) && smpAll (Br.foL b)) = true
    rw [fo_smp a, fo_smp b]; rfl
theorem tr_smp : ∀ t : Br.Tr, smp (Br.trD t) = true
  | .leaf => rfl
  | .node a b => by
    show (smp (Br.trD a) && (smp (Br.trD b) && true)) = true
    rw [tr_smp a, tr_smp b]; rfl
theorem tr_depth : ∀ t : Br.Tr, (Br.trD t).depth ≤ Br.sz t
  | .leaf => Nat.le_refl _
  | .node a b => by
    have h1 := tr_depth a
    have h2 := tr_depth b
    show max (Br.trD a).depth (max (Br.trD b).depth 0) + 1 ≤ Br.sz a + Br.sz b + 1
    omega
/-- d is the key of the row r, in the way wy -/
def KR : Nat → List Nat → PyData → Prop
  | 0, r, d => ∃ t, Br.rw t = r ∧ d = .tuple (Br.foL t)
  | 1, r, d => ∃ t, Br.rw t = r ∧ d = Br.trD t
  | 2, r, d => d = .tuple (iD (Br.ptg r))
  | _, r, d => ∃ t ts, Br.rw t = r ∧ ts.Perm (Br.th t 0) ∧ d = .tuple (iD ts)
theorem map_inj {α β : Type} {g : α → β} : ∀ {l : List α}, (l.map g).Nodup → ∀ {x y : α}, x ∈ l → y ∈ l → g x = g y → x = y
  | [], _, _, _, h, _, _ => by cases h
  | z :: l, nd, x, y, hx, hy, e => by
    rw [List.map_cons, List.nodup_cons] at nd
    rcases List.mem_cons.mp hx with e1 | hx
    · rcases List.mem_cons.mp hy with e2 | hy
      · rw [e1, e2]
      · exact absurd (by rw [← e1, e]; exact List.mem_map_of_mem hy) nd.1
    · rcases List.mem_cons.mp hy with e2 | hy
      · exact absurd (by rw [← e2, ← e]; exact List.mem_map_of_mem hx) nd.1
      · exact map_inj nd.2 hx hy e
theorem KR_inj {n wy : Nat} {r r' : List Nat} {d : PyData} (hn : n < 6) (hw : wy < 4) (h1 : r ∈ Br.S n) (h2 : r' ∈ Br.S n) (k1 : KR wy r d) (k2 : KR wy r' d) : r = r' := by
  match wy, hw with
  | 0, _ =>
    obtain ⟨t, e, ed⟩ := k1
    obtain ⟨t', e', ed'⟩ := k2
    have := foL_inj t t' (PyData.tuple.inj (ed.symm.trans ed'))
    rw [← e, ← e', this]
  | 1, _ =>
    obtain ⟨t, e, ed⟩ := k1
    obtain ⟨t', e', ed'⟩ := k2
    rw [← e, ← e', Br.trD_inj t t' (ed.symm.trans ed')]
  | 2, _ =>
    have e1 : d = .tuple (iD (Br.ptg r)) := k1
    have e2 : d = .tuple (iD (Br.ptg r')) := k2
    exact map_inj (Br.ptg_nd n hn) h1 h2 (iD_inj _ _ (PyData.tuple.inj (e1.symm.trans e2)))
  | 3, _ =>
    obtain ⟨t, ts, e, pm, ed⟩ := k1
    obtain ⟨t', ts', e', pm', ed'⟩ := k2
    have ets := iD_inj _ _ (PyData.tuple.inj (ed.symm.trans ed'))
    subst ets
    have l1 := (Br.S_all n (by omega) r h1).1
    have l2 := (Br.S_all n (by omega) r' h2).1
    rw [← e, Br.rw_length] at l1
    rw [← e', Br.rw_length] at l2
    rw [← e, ← e', Br.th_inj t t' 0 (by omega) (pm.symm.trans pm')]
mutual
theorem dat_keepX {H : Hp} {p : Addr} {o : HO} (hp : ∀ xs, H p ≠ some (.tup xs)) : ∀ {v : V} {d : PyData}, Dat H v d → Dat (upd H p o) v d
  | _, _, .non => .non
  | _, _, .int i => .int i
  | _, _, .str z => .str z
  | _, _, .bl b => .bl b
  | _, _, .tup (p := q) h t => .tup (by
      have n : q ≠ p := fun e => by rw [e] at h; exact hp _ h
      rw [upd_ne n]; exact h) (dats_keepX hp t)
theorem dats_keepX {H : Hp} {p : Addr} {o : HO} (hp : ∀ xs, H p ≠ some (.tup xs)) : ∀ {v : List V} {d : List PyData}, Dats H v d → Dats (upd H p o) v d
  | _, _, .nil => .nil
  | _, _, .cons h t => .cons (dat_keepX hp h) (dats_keepX hp t)
end
section
variable {cdv : Value} {A : Around} {outer : List Env} {s₀ : Shared} {H₀ : Hp} {E : XK}
set_option maxHeartbeats 2000000 in
theorem w_put (hr : Room 25 (XL P w K mg base f cdv A outer s₀ H₀ E).A) (hFo : Has P w K mg base 10 "forest_of" ["row"] (spForest 7)) (hTr : Has P w K mg base 10 "tree_of" ["row"] (spTree 7)) (hPt : Has P w K mg base 1 "parting_of" ["row"] spParting) (hCu : Has P w K mg base 25 "cut_of" ["row"] spCut) :
    PS (XL P w K mg base f cdv A outer s₀ H₀ E) (inn 8 1) (fun D σ H => ∃ (n wy : Nat) (p a : Addr) (H0 : Hp) (x0 x1 x2 x3 x5 x6 : Option V), σ = [x0, x1, x2, x3, some (.ref p), x5, x6, some (.int wy), some (.ref a)] ∧ n < 6 ∧ wy < 4 ∧ Same H0 H ∧ H0 p = some (.lst (tS (Br.S n))) ∧ H0 a = none ∧ H a = some (DE a []) ∧
      ∀ es y5 H', Same H0 H' → es.length = (Br.S n).length → H' a = some (DE a es) → D.nx [x0, x1, x2, x3, some (.ref p), y5, x6, some (.int wy), some (.ref a)] H') := by
  have hu := room_u hr
  obtain ⟨f0, fd0, F0, b0, k0, m0⟩ := hFo.ex
  obtain ⟨f1, fd1, F1, b1, k1, m1⟩ := hTr.ex
  obtain ⟨f2, fd2, F2, b2, k2, m2⟩ := hPt.ex
  obtain ⟨f3, fd3, F3, b3, k3, m3⟩ := hCu.ex
  refine PS.imp (ps_for PassesOwn.never rfl (pi_list (pv 4)) (pg_name (i := 5) scLaw.nd rfl (Or.inl rfl))
    (pss_one (ps_putN hu (pv 8) (pe_callV (pe_ix ix_list (pe_lst (pa_cons (pe_glob (v := .ref f0) rfl m0 rfl) (pa_cons (pe_glob (v := .ref f1) rfl m1 rfl) (pa_cons (pe_glob (v := .ref f2) rfl m2 rfl) (pa_cons (pe_glob (v := .ref f3) rfl m3 rfl) pa_nil))))) (pv 7) (fun _ _ => rfl)) pass1 (pa_cons (pv 5) pa_nil)) pe_bl rfl))) fun D σ H h => ?_
  obtain ⟨n, wy, p, a, H0, x0, x1, x2, x3, x5, x6, rfl, hn, hw, hs, hp, na, ha, q⟩ := h
  have s1k := small1000 (n := 1000) (by omega)
  have few := (Br.S_few n (by omega)).1
  have hr10 := hr.mono (show 10 ≤ 25 by decide)
  have hr1 := hr.mono (show 1 ≤ 25 by decide)
  by_cases hB : n = 0 ∧ wy = 1
  · obtain ⟨rfl, rfl⟩ := hB
    have S0 : Br.S 0 = [[]] := rfl
    refine ⟨_, rfl, p, rfl, ⟨_, SqL.of (hs _ _ hp)⟩, for_list (xs := tS (Br.S 0)) (fun i σ' H' => Same H0 H' ∧ (∃ y5, σ' = [x0, x1, x2, x3, some (.ref p), y5, x6, some (.int (1 : Nat)), some (.ref a)]) ∧ ∃ es : List DictEntry, H' a = some (DE a es) ∧ es.length = i ∧ (i = 0 → es = [])) ⟨hs, ⟨_, rfl⟩, [], ha, rfl, fun _ => rfl⟩ ?_ ?_ ?_⟩
    · rintro i σ' H1 _ ⟨hs1, _⟩
      exact SqL.of (hs1 _ _ hp)
    · rintro i x σ' H1 hx ⟨hs1, ⟨y5, rfl⟩, es, ha1, hl, h0⟩
      obtain ⟨r, hr', rfl⟩ := tS_get hx
      have hi : i < (Br.S 0).length := (List.getElem?_eq_some_iff.mp hr').1
      have ei : i = 0 := by rw [S0] at hi; simpa using hi
      subst ei
      rw [S0] at hr'
      have er : r = [] := by cases hr'; rfl
      subst er
      rw [h0 rfl] at ha1
      refine ⟨_, rfl, by show 4 ≤ sizeLine; decide, fun pL fL => ?_⟩
      have sL := same_new fL (.lst [V.ref f0, V.ref f1, V.ref f2, V.ref f3])
      refine ⟨_, rfl, pL, _, _, _, rfl, rfl, SqL.of upd_same, rfl, f1, _, rfl, ⟨_, _, _, F1, hr10, b1, k1⟩, _, rfl, mkS [], .leaf, rfl, rfl, by decide, by rw [len_mk]; show 0 ≤ 900; omega, fun v H3 s3 dv => ?_⟩
      have ev := dat_leaf dv
      subst ev
      have sA := sL.trans s3
      refine ⟨a, rfl, .inr ⟨sA _ _ ha1, rfl, fun es2 hes => ⟨same_but (hs1.trans sA) na _, ⟨_, rfl⟩, es2, upd_same, hes, fun e => by omega⟩⟩⟩
    · rintro σ' H1 ⟨hs1, ⟨y5, rfl⟩, es, ha1, hl, _⟩
      exact q es y5 H1 hs1 (by rw [hl, tS_length]) ha1
  · refine ⟨_, rfl, p, rfl, ⟨_, SqL.of (hs _ _ hp)⟩, for_list (xs := tS (Br.S n)) (fun i σ' H' => Same H0 H' ∧ (∃ y5, σ' = [x0, x1, x2, x3, some (.ref p), y5, x6, some (.int wy), some (.ref a)]) ∧ ∃ xs : List (PyData × Addr), H' a = some (DE a (entN P w xs)) ∧ xs.length = i ∧ (xs.map (·.1)).Nodup ∧
      ∀ j x, xs[j]? = some x → KR wy ((Br.S n).getD j []) x.1 ∧ Dat H' (.ref x.2) x.1 ∧ smp x.1 = true ∧ x.1.depth ≤ 7) ⟨hs, ⟨_, rfl⟩, [], ha, rfl, .nil, fun j x h => by simp at h⟩ ?_ ?_ ?_⟩
    · rintro i σ' H1 _ ⟨hs1, _⟩
      exact SqL.of (hs1 _ _ hp)
    · rintro i x σ' H1 hx ⟨hs1, ⟨y5, rfl⟩, xs, ha1, hl, nd, hk⟩
      obtain ⟨r, hr', rfl⟩ := tS_get hx
      have hi : i < (Br.S n).length := (List.getElem?_eq_some_iff.mp hr').1
      have hrS : r ∈ Br.S n := List.mem_of_getElem? hr'
      have er : (Br.S n).getD i [] = r := by rw [List.getD_eq_getElem?_getD, hr']; rfl
      refine ⟨_, rfl, by show 4 ≤ sizeLine; decide, fun pL fL => ?_⟩
      have sL := same_new fL (.lst [V.ref f0, V.ref f1, V.ref f2, V.ref f3])
      have haL := sL _ _ ha1
      have hs2 := hs1.trans sL
      have hkL : ∀ j x, xs[j]? = some x → KR wy ((Br.S n).getD j []) x.1 ∧ Dat (upd H1 pL (.lst [V.ref f0, V.ref f1, V.ref f2, V.ref f3])) (.ref x.2) x.1 ∧ smp x.1 = true ∧ x.1.depth ≤ 7 := fun j x e => by
        obtain ⟨g1, g2, g3, g4⟩ := hk j x e
        exact ⟨g1, g2.same sL, g3, g4⟩
      have hpL : (upd H1 pL (.lst [V.ref f0, V.ref f1, V.ref f2, V.ref f3])) pL = some (.lst [V.ref f0, V.ref f1, V.ref f2, V.ref f3]) := upd_same
      generalize upd H1 pL (.lst [V.ref f0, V.ref f1, V.ref f2, V.ref f3]) = H2 at haL hs2 hkL hpL ⊢
      clear sL hk ha1 hs1
      obtain ⟨lr, br⟩ := Br.S_all n (by omega) r hrS
      have hwh : Br.Whole r := by
        have := (Br.S_rank n hn i hi).2.2
        rw [er] at this
        exact (Br.lw_whole (by omega)).mp this
      obtain ⟨t, et⟩ := Br.whole_tr hwh
      have hsz : Br.sz t = n := by
        have := Br.rw_length t
        rw [et, lr] at this
        omega
      have lz : (mkS r).length ≤ 900 := by rw [len_mk]; omega
      /- what is done with the key -/
      have put : ∀ (H3 : Hp) (b : Addr) (d : PyData), Same H2 H3 → Dat H3 (.ref b) d → KR wy r d → smp d = true → d.depth ≤ 7 →
          (∃ a', V.ref a = .ref a' ∧ ((∃ xs b' d, H3 a' = some (DE a' (entN P w xs)) ∧ (∀ z ∈ xs, Dat H3 (.ref z.2) z.1 ∧ smp z.1 = true ∧ z.1.depth ≤ 7) ∧ V.ref b = .ref b' ∧ Dat H3 (.ref b') d ∧ smp d = true ∧ d.depth ≤ 7 ∧ (xs.map (·.1)).Nodup ∧ d ∉ xs.map (·.1) ∧ xs.length ≤ 500 ∧
            (Same H0 (upd H3 a' (DE a' (entN P w (xs ++ [(d, b')])))) ∧ (∃ y5, [x0, x1, x2, x3, some (.ref p), some (.str (mkS r)), x6, some (.int wy), some (.ref a)] = [x0, x1, x2, x3, some (.ref p), y5, x6, some (.int wy), some (.ref a)]) ∧ ∃ ys : List (PyData × Addr), upd H3 a' (DE a' (entN P w (xs ++ [(d, b')]))) a = some (DE a (entN P w ys)) ∧ ys.length = i + 1 ∧ (ys.map (·.1)).Nodup ∧
              ∀ j x, ys[j]? = some x → KR wy ((Br.S n).getD j []) x.1 ∧ Dat (upd H3 a' (DE a' (entN P w (xs ++ [(d, b')])))) (.ref x.2) x.1 ∧ smp x.1 = true ∧ x.1.depth ≤ 7)) ∨ False)) := fun H3 b d s3 db kd sd dd => by
        have ha3 := s3 _ _ haL
        have hno : ∀ xs', H3 a ≠ some (.tup xs') := fun xs' e => by rw [ha3] at e; cases e
        have nin : d ∉ xs.map (·.1) := fun hm => by
          obtain ⟨x, hx, ex⟩ := List.mem_map.mp hm
          obtain ⟨j, hj⟩ := List.mem_iff_getElem?.mp hx
          have hjl : j < xs.length := (List.getElem?_eq_some_iff.mp hj).1
          obtain ⟨g1, _⟩ := hkL j x hj
          rw [ex] at g1
          have hjS : (Br.S n)[j]? = some ((Br.S n).getD j []) := S_at (by omega)
          have e := KR_inj hn hw hrS (List.mem_of_getElem? hjS) kd g1
          have := (List.getElem?_inj hi (Br.S_nd n hn)).mp (by rw [hr', hjS, e] : (Br.S n)[i]? = (Br.S n)[j]?)
          omega
        refine ⟨a, rfl, .inl ⟨xs, b, d, ha3, fun z hz => ?_, rfl, db, sd, dd, nd, nin, by omega, ?_, ⟨_, rfl⟩, xs ++ [(d, b)], upd_same, by rw [List.length_append, hl]; rfl, ?_, fun j x hj => ?_⟩⟩
        · obtain ⟨j, hj⟩ := List.mem_iff_getElem?.mp hz
          obtain ⟨_, g2, g3, g4⟩ := hkL j z hj
          exact ⟨g2.same s3, g3, g4⟩
        · exact same_but (hs2.trans s3) na _
        · rw [List.map_append, List.nodup_append]
          refine ⟨nd, (by simp), fun u hu v hv e => ?_⟩
          have : v = d := by simpa using hv
          rw [e, this] at hu
          exact nin hu
        · rcases Nat.lt_or_ge j xs.length with h | h
          · rw [List.getElem?_append_left h] at hj
            obtain ⟨g1, g2, g3, g4⟩ := hkL j x hj
            exact ⟨g1, dat_keepX hno (g2.same s3), g3, g4⟩
          · rw [List.getElem?_append_right h] at hj
            have hj0 : j - xs.length = 0 := by
              have := (List.getElem?_eq_some_iff.mp hj).1
              simp at this
              omega
            rw [hj0] at hj
            cases hj
            have ej : j = i := by omega
            rw [ej, er]
            exact ⟨kd, dat_keepX hno db, sd, dd⟩
      have w4 : wy = 0 ∨ wy = 1 ∨ wy = 2 ∨ wy = 3 := by omega
      have csr : cs (mkS r) = Br.rw t := by rw [cs_mk, et]
      rcases w4 with rfl | rfl | rfl | rfl
      · refine ⟨_, rfl, pL, _, _, _, rfl, rfl, SqL.of hpL, rfl, f0, _, rfl, ⟨_, _, _, F0, hr10, b0, k0⟩, _, rfl, mkS r, t, rfl, csr, by omega, lz, fun v H3 s3 dv => ?_⟩
        obtain ⟨b, ys, rfl, _, _⟩ := dat_tup dv
        obtain ⟨a', e, h⟩ := put H3 b _ s3 dv ⟨t, et, rfl⟩ (fo_smp t) (by have := Br.foL_depth t; show PyData.depthAll (Br.foL t) + 1 ≤ 7; omega)
        exact ⟨a', e, .inl (h.resolve_right id)⟩
      · refine ⟨_, rfl, pL, _, _, _, rfl, rfl, SqL.of hpL, rfl, f1, _, rfl, ⟨_, _, _, F1, hr10, b1, k1⟩, _, rfl, mkS r, t, rfl, csr, by omega, lz, fun v H3 s3 dv => ?_⟩
        have hb : ∃ b, v = .ref b := by
          cases t with
          | leaf =>
            have : n = 0 := by rw [← hsz]; rfl
            exact absurd ⟨this, rfl⟩ hB
          | node x y =>
            obtain ⟨b, _, _, e, _⟩ := dat_node dv
            exact ⟨b, e⟩
        obtain ⟨b, rfl⟩ := hb
        obtain ⟨a', e, h⟩ := put H3 b _ s3 dv ⟨t, et, rfl⟩ (tr_smp t) (by have := tr_depth t; omega)
        exact ⟨a', e, .inl (h.resolve_right id)⟩
      · refine ⟨_, rfl, pL, _, _, _, rfl, rfl, SqL.of hpL, rfl, f2, _, rfl, ⟨_, _, _, F2, hr1, b2, k2⟩, _, rfl, n, r, rfl, hn, hrS, fun b as H3 s3 hb T => ?_⟩
        obtain ⟨a', e, h⟩ := put H3 b (.tuple (iD (Br.ptg r))) s3 (.tup hb (tups_dat T)) rfl (iD_smp _) (by have := iD_depth (Br.ptg r); show PyData.depthAll (iD (Br.ptg r)) + 1 ≤ 7; omega)
        exact ⟨a', e, .inl (h.resolve_right id)⟩
      · refine ⟨_, rfl, pL, _, _, _, rfl, rfl, SqL.of hpL, rfl, f3, _, rfl, ⟨_, _, _, F3, hr, b3, k3⟩, _, rfl, mkS r, t, rfl, csr, by omega, fun b as ts H3 s3 hb T pm so => ?_⟩
        obtain ⟨a', e, h⟩ := put H3 b (.tuple (iD ts)) s3 (.tup hb (tups_dat T)) ⟨t, ts, et, pm, rfl⟩ (iD_smp _) (by have := iD_depth ts; show PyData.depthAll (iD ts) + 1 ≤ 7; omega)
        exact ⟨a', e, .inl (h.resolve_right id)⟩
    · rintro σ' H1 ⟨hs1, ⟨y5, rfl⟩, xs, ha1, hl, nd, hk⟩
      refine q (entN P w xs) y5 H1 hs1 ?_ ha1
      unfold entN
      rw [List.length_map, hl, tS_length]
theorem w_way (hr : Room 25 (XL P w K mg base f cdv A outer s₀ H₀ E).A) (hFo : Has P w K mg base 10 "forest_of" ["row"] (spForest 7)) (hTr : Has P w K mg base 10 "tree_of" ["row"] (spTree 7)) (hPt : Has P w K mg base 1 "parting_of" ["row"] spParting) (hCu : Has P w K mg base 25 "cut_of" ["row"] spCut) (ml : mg "len" = none) (mr : mg "range" = none) :
    PS (XL P w K mg base f cdv A outer s₀ H₀ E) (lst 8) (fun D σ H => ∃ (n : Nat) (p : Addr) (x0 x1 x2 x5 x6 x7 x8 : Option V), σ = [x0, x1, x2, some (.int ((Br.S n).length : Nat)), some (.ref p), x5, x6, x7, x8] ∧ n < 6 ∧ H p = some (.lst (tS (Br.S n))) ∧ ∀ σ' H', D.nx σ' H') := by
  refine PS.imp (ps_for PassesOwn.never rfl (pi_range1 rfl mr (pa_cons pe_int pa_nil)) (pg_name (i := 7) scLaw.nd rfl (Or.inl rfl))
    (pss_cons (ps_set (i := 8) scLaw.nd rfl (Or.inl rfl) pe_dnewN) (pss_cons (w_put hr hFo hTr hPt hCu)
    (pss_one (ps_if (pt_cmpR op_ne (pe_callB call_lenN rfl ml PySem.boot_len (pa_cons (pv 8) pa_nil)) (pv 3) (nomark _)) (pss_one (ps_ret pe_bl)) pss_nil))))) fun D σ H h => ?_
  obtain ⟨n, p, x0, x1, x2, x5, x6, x7, x8, rfl, hn, hp, q⟩ := h
  have few := (Br.S_few n (by omega)).1
  refine ⟨4, rfl, by decide, by decide, ?_⟩
  refine for_range (fun i σ' H' => Same H H' ∧ ∃ y5 y7 y8, σ' = [x0, x1, x2, some (.int ((Br.S n).length : Nat)), some (.ref p), y5, x6, y7, y8]) ⟨Same.refl _, x5, x7, x8, rfl⟩ ?_ fun σ' H' _ => q σ' H'
  rintro i σ' H1 hi ⟨hs1, y5, y7, y8, rfl⟩
  have hi4 : i < 4 := hi
  have e0 : (0 : Int) + (i : Int) = ((i : Nat) : Int) := by omega
  rw [e0]
  refine fun a fa => ⟨n, i, p, a, H1, _, _, _, _, _, _, rfl, hn, hi4, same_new fa _, hs1 _ _ hp, fa, upd_same, fun es z5 H2 s2 hl ha => ?_⟩
  refine ⟨_, rfl, a, es, rfl, ha, by omega, _, rfl, rfl, _, rfl, ?_⟩
  exact iteNS (by rw [hl]) ⟨hs1.trans s2, _, _, _, rfl⟩
end
def spLaw (K : PySem.W.Frag) : Sp := fun vs H Q _ => ∃ (a : Addr) (ns : List Int), vs = [.ref a] ∧ SqL K H a (ns.map V.int) ∧ ns.length ≤ 63 ∧ (∀ m ∈ ns, Builtin.Int.intBits m ≤ 2 ^ 20) ∧ ∀ H', Q (.bl true) H'
theorem ok_law {C : Addr} (F : Fun K "law" "law" st_law f fd) (hCell : Has P w K mg base 1 "_law_cell" ["_law_script", "_law_k"] (spCell K)) (hMix : Has P w K mg base 1 "_law_mix" ["_law_cell_here", "_law_prime", "_law_many"] spMix)
    (hAll : Has P w K mg base 10 "_law_all" ["_law_size"] (spAll 7)) (hC : Has P w K mg base 3 "count" ["size", "bound"] spCount) (hRo : Has P w K mg base 5 "row_of" ["size", "number"] (spRowOf C)) (hNx : Has P w K mg base 6 "next_row" ["row"] (spNext C))
    (hFo : Has P w K mg base 10 "forest_of" ["row"] (spForest 7)) (hTr : Has P w K mg base 10 "tree_of" ["row"] (spTree 7)) (hPt : Has P w K mg base 1 "parting_of" ["row"] spParting) (hCu : Has P w K mg base 25 "cut_of" ["row"] spCut)
    (ml : mg "len" = none) (mr : mg "range" = none) : FnOk P w K mg base (CX1 P w) 26 f fd ["_law_script"] (spLaw K) := by
  refine F.ok1 scLaw (fun vs H Q E h => ?_) (fun cdv A outer s H vs Q E hr h => ?_)
  · obtain ⟨a, ns, rfl, _⟩ := h
    rfl
  obtain ⟨a, ns, rfl, hS, h63, hb, q⟩ := h
  have hr1 := hr.mono (show 1 ≤ 25 by decide)
  have hr3 := hr.mono (show 3 ≤ 25 by decide)
  have hr10 := hr.mono (show 10 ≤ 25 by decide)
  refine ⟨_, pss_cons (ps_set (i := 1) scLaw.nd rfl (Or.inr rfl) (pe_callH hMix hr1 pass1 (pa_cons (pe_callH hCell hr1 pass1 (pa_cons (pv 0) (pa_cons pe_int pa_nil))) (pa_cons pe_int (pa_cons pe_int pa_nil)))))
    (pss_cons (ps_set (i := 2) scLaw.nd rfl (Or.inl rfl) (pe_callH hAll hr10 pass1 (pa_cons (pv 1) pa_nil)))
    (pss_cons (ps_set (i := 3) scLaw.nd rfl (Or.inl rfl) (pe_callH hC hr3 pass1 (pa_cons (pv 1) (pa_cons (pv 1) pa_nil))))
    (pss_cons (w_rows hr hRo mr) (pss_cons (w_same hr)
    (pss_cons (ps_set (i := 5) scLaw.nd rfl (Or.inl rfl) (pe_ix ix_list (pv 4) pe_int (fun _ _ => rfl)))
    (pss_cons (w_next hr hNx mr)
    (pss_cons (ps_if (pt_cmpR op_notN (pv 5) pe_non (nomark _)) (pss_one (ps_ret pe_bl)) pss_nil)
    (pss_cons (w_way hr hFo hTr hPt hCu ml mr) (pss_one (ps_ret pe_bl)))))))))), ?_⟩
  refine ⟨_, rfl, a, ns, 0, rfl, hS, fun c => ⟨c, 9929, 6, rfl, by decide, by decide, ?_⟩⟩
  obtain ⟨n, en, hn⟩ : ∃ n : Nat, c * 48271 % 9929 % 6 = (n : Int) ∧ n < 6 := ⟨(c * 48271 % 9929 % 6).toNat, by omega, by omega⟩
  rw [en]
  refine ⟨_, rfl, n, rfl, by omega, by omega, fun p2 H2 s2 _ hp2 => ?_⟩
  refine ⟨_, rfl, _, rfl, n, n, rfl, by omega, fun H3 s3 => ?_⟩
  have em : (Br.cnt n n : Int) = ((Br.S n).length : Nat) := by
    rw [Br.cnt_T (s := n) (b := n) (by omega) (by omega), (Br.S_many n hn).1]
  rw [em]
  refine ⟨n, rfl, rfl, hn, fun p4 H4 s4 hp4 => ?_⟩
  refine ⟨n, p2, p4, rfl, rfl, hn, s4 _ _ (s3 _ _ hp2), hp4, ?_⟩
  have h0 := tS_at (S_at (n := n) (i := 0) (Br.S_many n hn).2)
  refine ⟨_, rfl, p4, _, _, _, rfl, rfl, SqL.of hp4, atI_nat (j := 0) h0, ?_⟩
  refine ⟨n, p4, _, _, _, _, _, _, rfl, hn, hp4, fun y6 H5 s5 => ?_⟩
  refine ⟨_, rfl, rfl, _, rfl, ?_⟩
  refine iteF ?_
  exact ⟨n, p4, _, _, _, _, _, _, _, rfl, hn, s5 _ _ hp4, fun σ' H' => q H'⟩

end
theorem all_mk {l : PySem.W.OpenLaw} {w : World} {K : PySem.W.Frag} {h : Heap} {mg : Str → Option Value} {f0 f1 f2 f3 f4 f5 f6 f7 f8 f9 f10 f11 f12 f13 f14 f15 f16 f17 f18 f19 f20 fa : Addr} {od0 an0 od1 an1 od2 an2 od3 an3 od4 an4 od5 an5 od6 an6 od7 an7 od8 an8 od9 an9 od10 an10 od11 an11 od12 an12 od13 an13 od14 an14 od15 an15 od16 an16 od17 an17 od18 an18 od19 an19 od20 an20 : Option Addr} {sl0 sl1 sl2 sl3 sl4 sl5 sl6 sl7 sl8 sl9 sl10 sl11 sl12 sl13 sl14 sl15 sl16 sl17 sl18 sl19 sl20 : Array (Option Value)} {oc0 kV0 dc0 pm0 cd0 ct0 oc1 kV1 dc1 pm1 cd1 ct1 oc2 kV2 dc2 pm2 cd2 ct2 oc3 kV3 dc3 pm3 cd3 ct3 oc4 kV4 dc4 pm4 cd4 ct4 oc5 kV5 dc5 pm5 cd5 ct5 oc6 kV6 dc6 pm6 cd6 ct6 oc7 kV7 dc7 pm7 cd7 ct7 oc8 kV8 dc8 pm8 cd8 ct8 oc9 kV9 dc9 pm9 cd9 ct9 oc10 kV10 dc10 pm10 cd10 ct10 oc11 kV11 dc11 pm11 cd11 ct11 oc12 kV12 dc12 pm12 cd12 ct12 oc13 kV13 dc13 pm13 cd13 ct13 oc14 kV14 dc14 pm14 cd14 ct14 oc15 kV15 dc15 pm15 cd15 ct15 oc16 kV16 dc16 pm16 cd16 ct16 oc17 kV17 dc17 pm17 cd17 ct17 oc18 kV18 dc18 pm18 cd18 ct18 oc19 kV19 dc19 pm19 cd19 ct19 oc20 kV20 dc20 pm20 cd20 ct20 : Value} {e_NoPlace e_NoRow : Addr} {t_LONGEST : Tok} {aT : Addr} (X : K.In h) (G : h.Ns mainGlobals mg) (hfa : mg "law" = some (.ref fa))
    (x_gg : PySem.W.specialIn K (.builtin "object.__class__") "__get__" = some (some (.builtin "getset_descriptor.__get__")))
    (x_tk : PySem.W.takesIn K (.builtin "object.__class__") = some true)
    (x_ns_NoPlace : PySem.W.nsIn K mainGlobals "NoPlace" = some (some (.ref e_NoPlace)))
    (x_q_NoPlace : PySem.W.excIn K e_NoPlace bmV "ValueError.__new__" = true)
    (x_ga_NoPlace : PySem.W.findIn K (.ref e_NoPlace) "__getattribute__" = some (some (.builtin "BaseException.__getattribute__")))
    (x_gt_NoPlace : PySem.W.findIn K (.ref e_NoPlace) "__getattr__" = some none)
    (x_cl_NoPlace : PySem.W.findIn K (.ref e_NoPlace) "__class__" = some (some (.builtin "object.__class__")))
    (x_mo_NoPlace : PySem.W.mroIn K e_NoPlace (.type "object") = some true)
    (x_mb_NoPlace : PySem.W.mroIn K e_NoPlace (.type "BaseException") = some true)
    (x_ct_NoPlace : PySem.W.typeIn K (.ref e_NoPlace) = some (.type "type"))
    (x_ns_NoRow : PySem.W.nsIn K mainGlobals "NoRow" = some (some (.ref e_NoRow)))
    (x_q_NoRow : PySem.W.excIn K e_NoRow bmV "ValueError.__new__" = true)
    (x_ga_NoRow : PySem.W.findIn K (.ref e_NoRow) "__getattribute__" = some (some (.builtin "BaseException.__getattribute__")))
    (x_gt_NoRow : PySem.W.findIn K (.ref e_NoRow) "__getattr__" = some none)
    (x_cl_NoRow : PySem.W.findIn K (.ref e_NoRow) "__class__" = some (some (.builtin "object.__class__")))
    (x_mo_NoRow : PySem.W.mroIn K e_NoRow (.type "object") = some true)
    (x_mb_NoRow : PySem.W.mroIn K e_NoRow (.type "BaseException") = some true)
    (x_ct_NoRow : PySem.W.typeIn K (.ref e_NoRow) = some (.type "type"))
    (y_str_str : PySem.W.kitOne K (.type "str") (.type "str") = some true)
    (g_LONGEST : PySem.W.nsIn K mainGlobals "LONGEST" = some (some (.int 120 t_LONGEST)))
    (g_T : PySem.W.nsIn K mainGlobals "TURNED" = some (some (.ref aT)))
    (g_T2 : PyProof.Rows.KTD.tabLook (PyProof.Rows.KTD.datLooks fun b => K.lookup b) (fun b => K.lookup b) aT (tabV [("(", ")"), (")", "(")]) = true)
    (a0 : PySem.W.nsIn K mainGlobals "rise" = some (some (.ref f0)))
    (l0 : K.lookup f0 = some ⟨oc0, od0, .func (PySem.W.fnOf "rise" "rise" (defArgs st_rise) (defBody st_rise) (defScope st_rise) .none kV0 dc0 pm0 an0 cd0 ct0), sl0⟩)
    (c0 : PySem.W.codeIn K cd0 "rise" = true)
    (k0 : PySem.W.keepIn K (.ref f0) = true)
    (a1 : PySem.W.nsIn K mainGlobals "levels" = some (some (.ref f1)))
    (l1 : K.lookup f1 = some ⟨oc1, od1, .func (PySem.W.fnOf "levels" "levels" (defArgs st_levels) (defBody st_levels) (defScope st_levels) .none kV1 dc1 pm1 an1 cd1 ct1), sl1⟩)
    (c1 : PySem.W.codeIn K cd1 "levels" = true)
    (k1 : PySem.W.keepIn K (.ref f1) = true)
    (a2 : PySem.W.nsIn K mainGlobals "is_whole" = some (some (.ref f2)))
    (l2 : K.lookup f2 = some ⟨oc2, od2, .func (PySem.W.fnOf "is_whole" "is_whole" (defArgs st_is_whole) (defBody st_is_whole) (defScope st_is_whole) .none kV2 dc2 pm2 an2 cd2 ct2), sl2⟩)
    (c2 : PySem.W.codeIn K cd2 "is_whole" = true)
    (k2 : PySem.W.keepIn K (.ref f2) = true)
    (a3 : PySem.W.nsIn K mainGlobals "partner" = some (some (.ref f3)))
    (l3 : K.lookup f3 = some ⟨oc3, od3, .func (PySem.W.fnOf "partner" "partner" (defArgs st_partner) (defBody st_partner) (defScope st_partner) .none kV3 dc3 pm3 an3 cd3 ct3), sl3⟩)
    (c3 : PySem.W.codeIn K cd3 "partner" = true)
    (k3 : PySem.W.keepIn K (.ref f3) = true)
    (a4 : PySem.W.nsIn K mainGlobals "one_sign_more" = some (some (.ref f4)))
    (l4 : K.lookup f4 = some ⟨oc4, od4, .func (PySem.W.fnOf "one_sign_more" "one_sign_more" (defArgs st_one_sign_more) (defBody st_one_sign_more) (defScope st_one_sign_more) .none kV4 dc4 pm4 an4 cd4 ct4), sl4⟩)
    (c4 : PySem.W.codeIn K cd4 "one_sign_more" = true)
    (k4 : PySem.W.keepIn K (.ref f4) = true)
    (a5 : PySem.W.nsIn K mainGlobals "endings" = some (some (.ref f5)))
    (l5 : K.lookup f5 = some ⟨oc5, od5, .func (PySem.W.fnOf "endings" "endings" (defArgs st_endings) (defBody st_endings) (defScope st_endings) .none kV5 dc5 pm5 an5 cd5 ct5), sl5⟩)
    (c5 : PySem.W.codeIn K cd5 "endings" = true)
    (k5 : PySem.W.keepIn K (.ref f5) = true)
    (a6 : PySem.W.nsIn K mainGlobals "count" = some (some (.ref f6)))
    (l6 : K.lookup f6 = some ⟨oc6, od6, .func (PySem.W.fnOf "count" "count" (defArgs st_count) (defBody st_count) (defScope st_count) .none kV6 dc6 pm6 an6 cd6 ct6), sl6⟩)
    (c6 : PySem.W.codeIn K cd6 "count" = true)
    (k6 : PySem.W.keepIn K (.ref f6) = true)
    (a7 : PySem.W.nsIn K mainGlobals "endings_of_size" = some (some (.ref f7)))
    (l7 : K.lookup f7 = some ⟨oc7, od7, .func (PySem.W.fnOf "endings_of_size" "endings_of_size" (defArgs st_endings_of_size) (defBody st_endings_of_size) (defScope st_endings_of_size) .none kV7 dc7 pm7 an7 cd7 ct7), sl7⟩)
    (c7 : PySem.W.codeIn K cd7 "endings_of_size" = true)
    (k7 : PySem.W.keepIn K (.ref f7) = true)
    (a8 : PySem.W.nsIn K mainGlobals "number" = some (some (.ref f8)))
    (l8 : K.lookup f8 = some ⟨oc8, od8, .func (PySem.W.fnOf "number" "number" (defArgs st_number) (defBody st_number) (defScope st_number) .none kV8 dc8 pm8 an8 cd8 ct8), sl8⟩)
    (c8 : PySem.W.codeIn K cd8 "number" = true)
    (k8 : PySem.W.keepIn K (.ref f8) = true)
    (a9 : PySem.W.nsIn K mainGlobals "has_row" = some (some (.ref f9)))
    (l9 : K.lookup f9 = some ⟨oc9, od9, .func (PySem.W.fnOf "has_row" "has_row" (defArgs st_has_row) (defBody st_has_row) (defScope st_has_row) .none kV9 dc9 pm9 an9 cd9 ct9), sl9⟩)
    (c9 : PySem.W.codeIn K cd9 "has_row" = true)
    (k9 : PySem.W.keepIn K (.ref f9) = true)
    (a10 : PySem.W.nsIn K mainGlobals "row_of" = some (some (.ref f10)))
    (l10 : K.lookup f10 = some ⟨oc10, od10, .func (PySem.W.fnOf "row_of" "row_of" (defArgs st_row_of) (defBody st_row_of) (defScope st_row_of) .none kV10 dc10 pm10 an10 cd10 ct10), sl10⟩)
    (c10 : PySem.W.codeIn K cd10 "row_of" = true)
    (k10 : PySem.W.keepIn K (.ref f10) = true)
    (a11 : PySem.W.nsIn K mainGlobals "next_row" = some (some (.ref f11)))
    (l11 : K.lookup f11 = some ⟨oc11, od11, .func (PySem.W.fnOf "next_row" "next_row" (defArgs st_next_row) (defBody st_next_row) (defScope st_next_row) .none kV11 dc11 pm11 an11 cd11 ct11), sl11⟩)
    (c11 : PySem.W.codeIn K cd11 "next_row" = true)
    (k11 : PySem.W.keepIn K (.ref f11) = true)
    (a12 : PySem.W.nsIn K mainGlobals "parting_of" = some (some (.ref f12)))
    (l12 : K.lookup f12 = some ⟨oc12, od12, .func (PySem.W.fnOf "parting_of" "parting_of" (defArgs st_parting_of) (defBody st_parting_of) (defScope st_parting_of) .none kV12 dc12 pm12 an12 cd12 ct12), sl12⟩)
    (c12 : PySem.W.codeIn K cd12 "parting_of" = true)
    (k12 : PySem.W.keepIn K (.ref f12) = true)
    (a13 : PySem.W.nsIn K mainGlobals "threes" = some (some (.ref f13)))
    (l13 : K.lookup f13 = some ⟨oc13, od13, .func (PySem.W.fnOf "threes" "threes" (defArgs st_threes) (defBody st_threes) (defScope st_threes) .none kV13 dc13 pm13 an13 cd13 ct13), sl13⟩)
    (c13 : PySem.W.codeIn K cd13 "threes" = true)
    (k13 : PySem.W.keepIn K (.ref f13) = true)
    (a14 : PySem.W.nsIn K mainGlobals "cut_of" = some (some (.ref f14)))
    (l14 : K.lookup f14 = some ⟨oc14, od14, .func (PySem.W.fnOf "cut_of" "cut_of" (defArgs st_cut_of) (defBody st_cut_of) (defScope st_cut_of) .none kV14 dc14 pm14 an14 cd14 ct14), sl14⟩)
    (c14 : PySem.W.codeIn K cd14 "cut_of" = true)
    (k14 : PySem.W.keepIn K (.ref f14) = true)
    (a15 : PySem.W.nsIn K mainGlobals "forest_of" = some (some (.ref f15)))
    (l15 : K.lookup f15 = some ⟨oc15, od15, .func (PySem.W.fnOf "forest_of" "forest_of" (defArgs st_forest_of) (defBody st_forest_of) (defScope st_forest_of) .none kV15 dc15 pm15 an15 cd15 ct15), sl15⟩)
    (c15 : PySem.W.codeIn K cd15 "forest_of" = true)
    (k15 : PySem.W.keepIn K (.ref f15) = true)
    (a16 : PySem.W.nsIn K mainGlobals "tree_of" = some (some (.ref f16)))
    (l16 : K.lookup f16 = some ⟨oc16, od16, .func (PySem.W.fnOf "tree_of" "tree_of" (defArgs st_tree_of) (defBody st_tree_of) (defScope st_tree_of) .none kV16 dc16 pm16 an16 cd16 ct16), sl16⟩)
    (c16 : PySem.W.codeIn K cd16 "tree_of" = true)
    (k16 : PySem.W.keepIn K (.ref f16) = true)
    (a17 : PySem.W.nsIn K mainGlobals "_law_cell" = some (some (.ref f17)))
    (l17 : K.lookup f17 = some ⟨oc17, od17, .func (PySem.W.fnOf "_law_cell" "_law_cell" (defArgs st__law_cell) (defBody st__law_cell) (defScope st__law_cell) .none kV17 dc17 pm17 an17 cd17 ct17), sl17⟩)
    (c17 : PySem.W.codeIn K cd17 "_law_cell" = true)
    (k17 : PySem.W.keepIn K (.ref f17) = true)
    (a18 : PySem.W.nsIn K mainGlobals "_law_mix" = some (some (.ref f18)))
    (l18 : K.lookup f18 = some ⟨oc18, od18, .func (PySem.W.fnOf "_law_mix" "_law_mix" (defArgs st__law_mix) (defBody st__law_mix) (defScope st__law_mix) .none kV18 dc18 pm18 an18 cd18 ct18), sl18⟩)
    (c18 : PySem.W.codeIn K cd18 "_law_mix" = true)
    (k18 : PySem.W.keepIn K (.ref f18) = true)
    (a19 : PySem.W.nsIn K mainGlobals "_law_all" = some (some (.ref f19)))
    (l19 : K.lookup f19 = some ⟨oc19, od19, .func (PySem.W.fnOf "_law_all" "_law_all" (defArgs st__law_all) (defBody st__law_all) (defScope st__law_all) .none kV19 dc19 pm19 an19 cd19 ct19), sl19⟩)
    (c19 : PySem.W.codeIn K cd19 "_law_all" = true)
    (k19 : PySem.W.keepIn K (.ref f19) = true)
    (a20 : PySem.W.nsIn K mainGlobals "law" = some (some (.ref f20)))
    (l20 : K.lookup f20 = some ⟨oc20, od20, .func (PySem.W.fnOf "law" "law" (defArgs st_law) (defBody st_law) (defScope st_law) .none kV20 dc20 pm20 an20 cd20 ct20), sl20⟩)
    (c20 : PySem.W.codeIn K cd20 "law" = true)
    (k20 : PySem.W.keepIn K (.ref f20) = true)
    (z_isinstance : PySem.W.nsIn K mainGlobals "isinstance" = some none)
    (z_str : PySem.W.nsIn K mainGlobals "str" = some none)
    (z_len : PySem.W.nsIn K mainGlobals "len" = some none)
    (z_any : PySem.W.nsIn K mainGlobals "any" = some none)
    (z_min : PySem.W.nsIn K mainGlobals "min" = some none)
    (z_range : PySem.W.nsIn K mainGlobals "range" = some none)
    (z_sorted : PySem.W.nsIn K mainGlobals "sorted" = some none)
    (z_tuple : PySem.W.nsIn K mainGlobals "tuple" = some none)
    (z_enumerate : PySem.W.nsIn K mainGlobals "enumerate" = some none)
    : ∃ fd : FuncData, (∀ (s : Shared) (v : Value), BindsTo s fd ⟨[v], []⟩ [("_law_script", v)]) ∧ ∀ base : Heap, K.In base → base.Ns mainGlobals mg → FnOk l.prog w K mg base (CX1 l.prog w) 26 fa fd ["_law_script"] (spLaw K) := by
  have e := hfa.symm.trans (PySem.W.mg_of X G a20)
  cases e
  have m_NoPlace := PySem.W.mg_of X G x_ns_NoPlace
  have x_NoPlace : XCl K e_NoPlace := ⟨x_q_NoPlace, x_ga_NoPlace, x_gt_NoPlace, x_cl_NoPlace, x_gg, x_tk, x_mo_NoPlace, x_mb_NoPlace, x_ct_NoPlace⟩
  have m_NoRow := PySem.W.mg_of X G x_ns_NoRow
  have x_NoRow : XCl K e_NoRow := ⟨x_q_NoRow, x_ga_NoRow, x_gt_NoRow, x_cl_NoRow, x_gg, x_tk, x_mo_NoRow, x_mb_NoRow, x_ct_NoRow⟩
  have m_LONGEST := PySem.W.mg_of X G g_LONGEST
  have m_T := PySem.W.mg_of X G g_T
  have T : Tab K aT [("(", ")"), (")", "(")] := ⟨g_T2⟩
  have n_isinstance := PySem.W.mg_none_of X G z_isinstance
  have n_str := PySem.W.mg_none_of X G z_str
  have n_len := PySem.W.mg_none_of X G z_len
  have n_any := PySem.W.mg_none_of X G z_any
  have n_min := PySem.W.mg_none_of X G z_min
  have n_range := PySem.W.mg_none_of X G z_range
  have n_sorted := PySem.W.mg_none_of X G z_sorted
  have n_tuple := PySem.W.mg_none_of X G z_tuple
  have n_enumerate := PySem.W.mg_none_of X G z_enumerate
  have F0 := fun_mk (st := st_rise) l0 c0 k0
  have F1 := fun_mk (st := st_levels) l1 c1 k1
  have F2 := fun_mk (st := st_is_whole) l2 c2 k2
  have F3 := fun_mk (st := st_partner) l3 c3 k3
  have F4 := fun_mk (st := st_one_sign_more) l4 c4 k4
  have F5 := fun_mk (st := st_endings) l5 c5 k5
  have F6 := fun_mk (st := st_count) l6 c6 k6
  have F7 := fun_mk (st := st_endings_of_size) l7 c7 k7
  have F8 := fun_mk (st := st_number) l8 c8 k8
  have F9 := fun_mk (st := st_has_row) l9 c9 k9
  have F10 := fun_mk (st := st_row_of) l10 c10 k10
  have F11 := fun_mk (st := st_next_row) l11 c11 k11
  have F12 := fun_mk (st := st_parting_of) l12 c12 k12
  have F13 := fun_mk (st := st_threes) l13 c13 k13
  have F14 := fun_mk (st := st_cut_of) l14 c14 k14
  have F15 := fun_mk (st := st_forest_of) l15 c15 k15
  have F16 := fun_mk (st := st_tree_of) l16 c16 k16
  have F17 := fun_mk (st := st__law_cell) l17 c17 k17
  have F18 := fun_mk (st := st__law_mix) l18 c18 k18
  have F19 := fun_mk (st := st__law_all) l19 c19 k19
  have F20 := fun_mk (st := st_law) l20 c20 k20
  refine ⟨PySem.W.fnOf "law" "law" (defArgs st_law) (defBody st_law) (defScope st_law) .none kV20 dc20 pm20 an20 cd20 ct20, fun s v => .of_eq rfl, fun base _ _ => ?_⟩
  have h_rise : Has l.prog w K mg base 1 "rise" ["sign"] spRise := ⟨_, _, ok_rise F0, F0.binds (ps := ["sign"]) fun _ _ _ _ _ _ us hl => match us, hl with | [_], _ => rfl, k0, PySem.W.mg_of X G a0⟩
  have h_levels : Has l.prog w K mg base 2 "levels" ["row"] spLevels := ⟨_, _, ok_levels F1 h_rise, F1.binds (ps := ["row"]) fun _ _ _ _ _ _ us hl => match us, hl with | [_], _ => rfl, k1, PySem.W.mg_of X G a1⟩
  have h_is_whole : Has l.prog w K mg base 3 "is_whole" ["thing"] (spIsW K) := ⟨_, _, ok_isW F2 h_levels m_LONGEST m_T T n_isinstance n_str n_len n_any n_min y_str_str, F2.binds (ps := ["thing"]) fun _ _ _ _ _ _ us hl => match us, hl with | [_], _ => rfl, k2, PySem.W.mg_of X G a2⟩
  have h_partner : Has l.prog w K mg base 2 "partner" ["row", "place"] (spPartner e_NoPlace) := ⟨_, _, ok_partner F3 h_rise m_NoPlace x_NoPlace n_len, F3.binds (ps := ["row", "place"]) fun _ _ _ _ _ _ us hl => match us, hl with | [_, _], _ => rfl, k3, PySem.W.mg_of X G a3⟩
  have h_one_sign_more : Has l.prog w K mg base 1 "one_sign_more" ["ways"] spOne := ⟨_, _, ok_one F4 n_len n_range, F4.binds (ps := ["ways"]) fun _ _ _ _ _ _ us hl => match us, hl with | [_], _ => rfl, k4, PySem.W.mg_of X G a4⟩
  have h_endings : Has l.prog w K mg base 2 "endings" ["signs", "top"] spEndings := ⟨_, _, ok_endings F5 h_one_sign_more n_range, F5.binds (ps := ["signs", "top"]) fun _ _ _ _ _ _ us hl => match us, hl with | [_, _], _ => rfl, k5, PySem.W.mg_of X G a5⟩
  have h_count : Has l.prog w K mg base 3 "count" ["size", "bound"] spCount := ⟨_, _, ok_count F6 h_endings n_min, F6.binds (ps := ["size", "bound"]) fun _ _ _ _ _ _ us hl => match us, hl with | [_, _], _ => rfl, k6, PySem.W.mg_of X G a6⟩
  have h_endings_of_size : Has l.prog w K mg base 3 "endings_of_size" ["size"] spOfSize := ⟨_, _, ok_ofsize F7 h_endings, F7.binds (ps := ["size"]) fun _ _ _ _ _ _ us hl => match us, hl with | [_], _ => rfl, k7, PySem.W.mg_of X G a7⟩
  have h_number : Has l.prog w K mg base 4 "number" ["row"] (spNumber e_NoRow) := ⟨_, _, ok_number F8 h_is_whole h_endings_of_size m_NoRow x_NoRow n_len, F8.binds (ps := ["row"]) fun _ _ _ _ _ _ us hl => match us, hl with | [_], _ => rfl, k8, PySem.W.mg_of X G a8⟩
  have h_has_row : Has l.prog w K mg base 4 "has_row" ["size", "wanted"] spHasRow := ⟨_, _, ok_hasrow F9 h_count m_LONGEST, F9.binds (ps := ["size", "wanted"]) fun _ _ _ _ _ _ us hl => match us, hl with | [_, _], _ => rfl, k9, PySem.W.mg_of X G a9⟩
  have h_row_of : Has l.prog w K mg base 5 "row_of" ["size", "number"] (spRowOf e_NoRow) := ⟨_, _, ok_rowof F10 h_has_row h_endings_of_size m_NoRow x_NoRow n_range, F10.binds (ps := ["size", "number"]) fun _ _ _ _ _ _ us hl => match us, hl with | [_, _], _ => rfl, k10, PySem.W.mg_of X G a10⟩
  have h_next_row : Has l.prog w K mg base 6 "next_row" ["row"] (spNext e_NoRow) := ⟨_, _, ok_next F11 h_number h_has_row h_row_of n_len, F11.binds (ps := ["row"]) fun _ _ _ _ _ _ us hl => match us, hl with | [_], _ => rfl, k11, PySem.W.mg_of X G a11⟩
  have h_parting_of : Has l.prog w K mg base 1 "parting_of" ["row"] spParting := ⟨_, _, ok_parting F12 n_len n_tuple n_sorted n_enumerate, F12.binds (ps := ["row"]) fun _ _ _ _ _ _ us hl => match us, hl with | [_], _ => rfl, k12, PySem.W.mg_of X G a12⟩
  have s_threes : Self K mg f13 _ "threes" ["row", "first", "last"] := ⟨F13.binds (ps := ["row", "first", "last"]) fun _ _ _ _ _ _ us hl => match us, hl with | [_, _, _], _ => rfl, k13, PySem.W.mg_of X G a13⟩
  have h_threes : ∀ d, Has l.prog w K mg base (d + 3) "threes" ["row", "first", "last"] (spThrees d) := fun d => ⟨_, _, ok_threes F13 s_threes h_partner n_len d, s_threes.b, s_threes.k, s_threes.m⟩
  have h_cut_of : Has l.prog w K mg base 25 "cut_of" ["row"] spCut := ⟨_, _, ok_cut F14 (h_threes 21) n_len n_sorted n_tuple, F14.binds (ps := ["row"]) fun _ _ _ _ _ _ us hl => match us, hl with | [_], _ => rfl, k14, PySem.W.mg_of X G a14⟩
  have s_forest_of : Self K mg f15 _ "forest_of" ["row"] := ⟨F15.binds (ps := ["row"]) fun _ _ _ _ _ _ us hl => match us, hl with | [_], _ => rfl, k15, PySem.W.mg_of X G a15⟩
  have h_forest_of : ∀ d, Has l.prog w K mg base (d + 3) "forest_of" ["row"] (spForest d) := fun d => ⟨_, _, ok_forest F15 s_forest_of h_partner n_tuple d, s_forest_of.b, s_forest_of.k, s_forest_of.m⟩
  have s_tree_of : Self K mg f16 _ "tree_of" ["row"] := ⟨F16.binds (ps := ["row"]) fun _ _ _ _ _ _ us hl => match us, hl with | [_], _ => rfl, k16, PySem.W.mg_of X G a16⟩
  have h_tree_of : ∀ d, Has l.prog w K mg base (d + 3) "tree_of" ["row"] (spTree d) := fun d => ⟨_, _, ok_tree F16 s_tree_of h_partner d, s_tree_of.b, s_tree_of.k, s_tree_of.m⟩
  have h__law_cell : Has l.prog w K mg base 1 "_law_cell" ["_law_script", "_law_k"] (spCell K) := ⟨_, _, ok_cell F17 n_len, F17.binds (ps := ["_law_script", "_law_k"]) fun _ _ _ _ _ _ us hl => match us, hl with | [_, _], _ => rfl, k17, PySem.W.mg_of X G a17⟩
  have h__law_mix : Has l.prog w K mg base 1 "_law_mix" ["_law_cell_here", "_law_prime", "_law_many"] spMix := ⟨_, _, ok_mix F18, F18.binds (ps := ["_law_cell_here", "_law_prime", "_law_many"]) fun _ _ _ _ _ _ us hl => match us, hl with | [_, _, _], _ => rfl, k18, PySem.W.mg_of X G a18⟩
  have s__law_all : Self K mg f19 _ "_law_all" ["_law_size"] := ⟨F19.binds (ps := ["_law_size"]) fun _ _ _ _ _ _ us hl => match us, hl with | [_], _ => rfl, k19, PySem.W.mg_of X G a19⟩
  have h__law_all : ∀ d, Has l.prog w K mg base (d + 3) "_law_all" ["_law_size"] (spAll d) := fun d => ⟨_, _, ok_all F19 s__law_all n_range n_sorted d, s__law_all.b, s__law_all.k, s__law_all.m⟩
  exact ok_law F20 h__law_cell h__law_mix (h__law_all 7) h_count h_row_of h_next_row (h_forest_of 7) (h_tree_of 7) h_parting_of h_cut_of n_len n_range
theorem walk {l : PySem.W.OpenLaw} {q : Program} {loose : List Str} {XP : (Str → Option Value) → Heap → Prop} {YP : World → Heap → Prop} {d : DefRec} {K : Params → PySem.W.Frag} (hn : l.most = some 63) (hdf : d.params.defaults = [])
    (hY : ∀ (w : World) (h : Heap), YP w h → (K w.params).In h)
    (F : ∀ (w : World) (mg : Str → Option Value) (fa : Addr) (h : Heap), (K w.params).In h → h.Ns mainGlobals mg → mg d.name = some (.ref fa) →
      ∃ fd : FuncData, (∀ (s : Shared) (u : Value), BindsTo s fd ⟨[u], []⟩ [("_law_script", u)]) ∧ ∀ base : Heap, (K w.params).In base → base.Ns mainGlobals mg → FnOk l.prog w (K w.params) mg base (CX1 l.prog w) 26 fa fd ["_law_script"] (spLaw (K w.params))) :
    PySem.W.WalkO q loose XP YP l.row.toRowW d [] (fun f vs => PySem.call f vs) :=
  L2.walk_bits (n := 63) (k := 26) (x := "_law_script") (sp := fun w => spLaw (K w.params)) hn (by decide) hdf ⟨rfl, by decide, by decide⟩ hY F (fun _ _ a ns hl hb _ hS => ⟨a, ns, rfl, hS, hl, hb, fun _ => rfl⟩)
end Nk10
open PySem PySem.W PyProof.Rows
set_option maxRecDepth 100000 in
set_option maxHeartbeats 0 in
theorem PySem.Challenge.cw_bracketnumbers_k10_whole_all_of_a_size_holds : PySem.Challenge.rw_bracketnumbers_k10_whole_all_of_a_size.Holds := by
  w_on; o_law; k_head; (case hw => w_witness2)
  k_fill
  refine Nk10.walk (l := PySem.Challenge.rw_bracketnumbers_k10_whole_all_of_a_size) rfl rfl (fun w h Y => PySem.W.kIn_of Y) ?F
  case F =>
    intro w mg fa h KX G hmg
    refine' Nk10.all_mk KX G hmg ?x_gg ?x_tk ?x_ns_NoPlace ?x_q_NoPlace ?x_ga_NoPlace ?x_gt_NoPlace ?x_cl_NoPlace ?x_mo_NoPlace ?x_mb_NoPlace ?x_ct_NoPlace ?x_ns_NoRow ?x_q_NoRow ?x_ga_NoRow ?x_gt_NoRow ?x_cl_NoRow ?x_mo_NoRow ?x_mb_NoRow ?x_ct_NoRow ?y_str_str ?g_LONGEST ?g_T ?g_T2 ?a0 ?l0 ?c0 ?k0 ?a1 ?l1 ?c1 ?k1 ?a2 ?l2 ?c2 ?k2 ?a3 ?l3 ?c3 ?k3 ?a4 ?l4 ?c4 ?k4 ?a5 ?l5 ?c5 ?k5 ?a6 ?l6 ?c6 ?k6 ?a7 ?l7 ?c7 ?k7 ?a8 ?l8 ?c8 ?k8 ?a9 ?l9 ?c9 ?k9 ?a10 ?l10 ?c10 ?k10 ?a11 ?l11 ?c11 ?k11 ?a12 ?l12 ?c12 ?k12 ?a13 ?l13 ?c13 ?k13 ?a14 ?l14 ?c14 ?k14 ?a15 ?l15 ?c15 ?k15 ?a16 ?l16 ?c16 ?k16 ?a17 ?l17 ?c17 ?k17 ?a18 ?l18 ?c18 ?k18 ?a19 ?l19 ?c19 ?k19 ?a20 ?l20 ?c20 ?k20 ?z_isinstance ?z_str ?z_len ?z_any ?z_min ?z_range ?z_sorted ?z_tuple ?z_enumerate
    (case x_gg => k_is)
    (case x_tk => k_is)
    (case x_ns_NoPlace => k_is)
    (case x_q_NoPlace => k_exc)
    (case x_ga_NoPlace => k_is)
    (case x_gt_NoPlace => k_is)
    (case x_cl_NoPlace => k_is)
    (case x_mo_NoPlace => k_is)
    (case x_mb_NoPlace => k_is)
    (case x_ct_NoPlace => k_is)
    (case x_ns_NoRow => k_is)
    (case x_q_NoRow => k_exc)
    (case x_ga_NoRow => k_is)
    (case x_gt_NoRow => k_is)
    (case x_cl_NoRow => k_is)
    (case x_mo_NoRow => k_is)
    (case x_mb_NoRow => k_is)
    (case x_ct_NoRow => k_is)
    (case y_str_str => kit_is)
    (case g_LONGEST => k_is)
    (case g_T => k_is)
    (case g_T2 => kernel_rfl)
    (case a0 => k_is)
    (case l0 => k_is)
    (case c0 => k_is)
    (case k0 => k_is)
    (case a1 => k_is)
    (case l1 => k_is)
    (case c1 => k_is)
    (case k1 => k_is)
    (case a2 => k_is)
    (case l2 => k_is)
    (case c2 => k_is)
    (case k2 => k_is)
    (case a3 => k_is)
    (case l3 => k_is)
    (case c3 => k_is)
    (case k3 => k_is)
    (case a4 => k_is)
    (case l4 => k_is)
    (case c4 => k_is)
    (case k4 => k_is)
    (case a5 => k_is)
    (case l5 => k_is)
    (case c5 => k_is)
    (case k5 => k_is)
    (case a6 => k_is)
    (case l6 => k_is)
    (case c6 => k_is)
    (case k6 => k_is)
    (case a7 => k_is)
    (case l7 => k_is)
    (case c7 => k_is)
    (case k7 => k_is)
    (case a8 => k_is)
    (case l8 => k_is)
    (case c8 => k_is)
    (case k8 => k_is)
    (case a9 => k_is)
    (case l9 => k_is)
    (case c9 => k_is)
    (case k9 => k_is)
    (case a10 => k_is)
    (case l10 => k_is)
    (case c10 => k_is)
    (case k10 => k_is)
    (case a11 => k_is)
    (case l11 => k_is)
    (case c11 => k_is)
    (case k11 => k_is)
    (case a12 => k_is)
    (case l12 => k_is)
    (case c12 => k_is)
    (case k12 => k_is)
    (case a13 => k_is)
    (case l13 => k_is)
    (case c13 => k_is)
    (case k13 => k_is)
    (case a14 => k_is)
    (case l14 => k_is)
    (case c14 => k_is)
    (case k14 => k_is)
    (case a15 => k_is)
    (case l15 => k_is)
    (case c15 => k_is)
    (case k15 => k_is)
    (case a16 => k_is)
    (case l16 => k_is)
    (case c16 => k_is)
    (case k16 => k_is)
    (case a17 => k_is)
    (case l17 => k_is)
    (case c17 => k_is)
    (case k17 => k_is)
    (case a18 => k_is)
    (case l18 => k_is)
    (case c18 => k_is)
    (case k18 => k_is)
    (case a19 => k_is)
    (case l19 => k_is)
    (case c19 => k_is)
    (case k19 => k_is)
    (case a20 => k_is)
    (case l20 => k_is)
    (case c20 => k_is)
    (case k20 => k_is)
    (case z_isinstance => k_is)
    (case z_str => k_is)
    (case z_len => k_is)
    (case z_any => k_is)
    (case z_min => k_is)
    (case z_range => k_is)
    (case z_sorted => k_is)
    (case z_tuple => k_is)
    (case z_enumerate => k_is)
#print axioms PySem.Challenge.cw_bracketnumbers_k10_whole_all_of_a_size_holds
