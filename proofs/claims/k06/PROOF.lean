import PyProof.Rows.All
import Wide.All
import OpenK.AllK
import Wide.FinOn
import Lean
import PyProof.EqAt
import PyProof.EqKinds
import PyProof.NeKinds
import PyProof.TupleCall
import PySem.Challenge.RW_bracketnumbers_k06_whole_partings
set_option Elab.async false
set_option linter.all false
set_option maxRecDepth 100000
namespace L2
open PySem PySem.Spec PyProof.Rows
abbrev Key := Sum Int Str
def keyIs : Key → Value → Bool
  | .inl k, v => Value.isInt k v
  | .inr x, v => Value.isStrOf x v
def keyH (w : World) : Key → Int
  | .inl k => hashInt k
  | .inr x => hashStr w x
theorem keyIs_shape : ∀ {k : Key} {v : Value}, keyIs k v = true → (∃ i t, k = Sum.inl i ∧ v = Value.int i t) ∨ (∃ x t, k = Sum.inr x ∧ v = Value.str x t)
  | .inl i, v, h => by
    obtain ⟨t, e⟩ := Value.isInt_shape (k := i) (v := v) h
    exact .inl ⟨i, t, rfl, e⟩
  | .inr x, v, h => by
    obtain ⟨t, e⟩ := Value.isStrOf_shape (x := x) (v := v) h
    exact .inr ⟨x, t, rfl, e⟩
theorem keyIs_int (i : Int) (t : Tok) : keyIs (.inl i) (.int i t) = true := by simp [keyIs, Value.isInt]
theorem keyIs_str (x : Str) (t : Tok) : keyIs (.inr x) (.str x t) = true := by simp [keyIs, Value.isStrOf]
theorem key_ll (a b : Int) : decide ((Sum.inl a : Key) = Sum.inl b) = (a == b) := by
  by_cases e : a = b
  · subst e; simp
  · have h : ¬ (Sum.inl a : Key) = Sum.inl b := fun q => e (Sum.inl.inj q)
    rw [decide_eq_false h]
    exact (beq_eq_false_iff_ne.mpr e).symm
theorem key_rr (a b : Str) : decide ((Sum.inr a : Key) = Sum.inr b) = decide (a = b) := by
  by_cases e : a = b
  · subst e; simp
  · have h : ¬ (Sum.inr a : Key) = Sum.inr b := fun q => e (Sum.inr.inj q)
    rw [decide_eq_false h, decide_eq_false e]
theorem key_lr (a : Int) (b : Str) : decide ((Sum.inl a : Key) = Sum.inr b) = false := decide_eq_false (fun q => nomatch q)
theorem key_rl (a : Str) (b : Int) : decide ((Sum.inr a : Key) = Sum.inl b) = false := decide_eq_false (fun q => nomatch q)
def mixKind (prog : Program) (w : World) : PySem.KeyKind prog w Key where
  is := keyIs
  hash := keyH w
  inj := fun v a b ha hb => by
    rcases keyIs_shape ha with ⟨i, t, rfl, rfl⟩ | ⟨x, t, rfl, rfl⟩
    · rcases keyIs_shape hb with ⟨j, u, rfl, e⟩ | ⟨y, u, rfl, e⟩
      · injection e with e1 _; rw [e1]
      · exact nomatch e
    · rcases keyIs_shape hb with ⟨j, u, rfl, e⟩ | ⟨y, u, rfl, e⟩
      · exact nomatch e
      · injection e with e1 _; rw [e1]
  byValue := fun k v h => by
    rcases keyIs_shape h with ⟨i, t, rfl, rfl⟩ | ⟨x, t, rfl, rfl⟩ <;> rfl
  pyHash := fun hv h => by
    rcases keyIs_shape hv with ⟨i, t, rfl, rfl⟩ | ⟨x, t, rfl, rfl⟩
    · exact wpAny_pyHash_int h
    · exact wpAny_pyHash_str h
  eqBool := fun hu hv h => by
    rcases keyIs_shape hu with ⟨i, t, rfl, rfl⟩ | ⟨x, t, rfl, rfl⟩
    · rcases keyIs_shape hv with ⟨j, u, rfl, rfl⟩ | ⟨y, u, rfl, rfl⟩
      · rw [key_ll] at h; exact wpAny_eqBool_int h
      · rw [key_lr] at h; exact SeqAt.EqAt.int_str i t y u _ _ _ _ h
    · rcases keyIs_shape hv with ⟨j, u, rfl, rfl⟩ | ⟨y, u, rfl, rfl⟩
      · rw [key_rl] at h; exact SeqAt.EqAt.str_int x t j u _ _ _ _ h
      · rw [key_rr] at h; exact wpAny_eqBool_str h
  «strs» := fun k x t v h => by
    rcases keyIs_shape h with ⟨i, u, rfl, e⟩ | ⟨y, u, rfl, e⟩
    · exact nomatch e
    · injection e with e1 _
      subst e1
      cases v <;> rfl
theorem mixKind_int (prog : Program) (w : World) (i : Int) (t : Tok) : (mixKind prog w).is (.inl i) (.int i t) = true := keyIs_int i t
theorem mixKind_str (prog : Program) (w : World) (x : Str) (t : Tok) : (mixKind prog w).is (.inr x) (.str x t) = true := keyIs_str x t
end L2
namespace L2
open PySem PySem.Spec PyProof.Rows
inductive V where
  | non | bl (b : Bool) | int (i : Int) | str (x : Str) | byt (b : Array UInt8) | flt (b : UInt64) | ref (a : Addr) | ty (n : String)
  deriving DecidableEq
def RelV : V → Value → Prop
  | .non, u => u = Value.none
  | .bl b, u => u = Value.bool b
  | .int i, u => ∃ t, u = Value.int i t
  | .str x, u => ∃ t, u = Value.str x t
  | .byt b, u => ∃ t, u = Value.bytes b t
  | .flt b, u => ∃ t, u = Value.float b t
  | .ref a, u => u = Value.ref a
  | .ty n, u => u = Value.type n
abbrev Vals : List V → List Value → Prop := Paired RelV
theorem Vals.length {xs : List V} {us : List Value} (r : Vals xs us) : xs.length = us.length := Paired.length r
theorem Vals.get : ∀ {xs : List V} {us : List Value} {i : Nat} {x : V}, Vals xs us → xs[i]? = some x → ∃ u, us[i]? = some u ∧ RelV x u
  | _, _, _, _, .nil, e => by simp at e
  | _, _, 0, _, .cons r _, e => by simp at e; subst e; exact ⟨_, rfl, r⟩
  | _, _, i + 1, x, .cons _ t, e => by
    obtain ⟨u, h1, h2⟩ := Vals.get (i := i) (x := x) t (by simpa using e)
    exact ⟨u, by simpa using h1, h2⟩
theorem Vals.set {x : V} {u : Value} (r : RelV x u) : ∀ {xs : List V} {us : List Value} (i : Nat), Vals xs us → Vals (xs.set i x) (us.set i u)
  | _, _, _, .nil => .nil
  | _, _, 0, .cons _ t => .cons r t
  | _, _, i + 1, .cons q t => .cons q (Vals.set r i t)
theorem Vals.append : ∀ {xs ys : List V} {us ws : List Value}, Vals xs us → Vals ys ws → Vals (xs ++ ys) (us ++ ws)
  | _, _, _, _, .nil, s => s
  | _, _, _, _, .cons r t, s => .cons r (Vals.append t s)
theorem Vals.take : ∀ {xs : List V} {us : List Value} (n : Nat), Vals xs us → Vals (xs.take n) (us.take n)
  | _, _, 0, _ => .nil
  | _, _, _ + 1, .nil => .nil
  | _, _, n + 1, .cons r t => .cons r (Vals.take n t)
theorem Vals.drop : ∀ {xs : List V} {us : List Value} (n : Nat), Vals xs us → Vals (xs.drop n) (us.drop n)
  | _, _, 0, r => r
  | _, _, _ + 1, .nil => .nil
  | _, _, n + 1, .cons _ t => Vals.drop n t
def RelO : Option V → Option Value → Prop
  | some v, some u => RelV v u
  | none, none => True
  | _, _ => False
def KV {κ : Type} : List (κ × V) → List (κ × Value) → Prop := Paired fun (p : κ × V) (q : κ × Value) => p.1 = q.1 ∧ RelV p.2 q.2
def kV : Key → V
  | .inl i => .int i
  | .inr x => .str x
inductive HO where
  | lst (xs : List V)
  | tup (xs : List V)
  | dK (kvs : List (Key × V)) | dT (kvs : List (List Key × V))
  | set (S : Int → Bool) (n : Nat)
  | ins (C dx : Addr) (fs : List (Str × V))
  | own (x : Addr)
  | xd (fs : List (Str × V))
  | met (f x : Addr)
  | rng (lo hi : Int)
  | frz (o : Obj) (u : HO)
  | tbl (ps : Array Value)
  | ext (φ : Heap → Prop)
abbrev Hp := Addr → Option HO
def upd (H : Hp) (a : Addr) (o : HO) : Hp := fun b => if b = a then some o else H b
theorem upd_same {H : Hp} {a : Addr} {o : HO} : upd H a o a = some o := by unfold upd; rw [if_pos rfl]
theorem upd_ne {H : Hp} {a b : Addr} {o : HO} (h : b ≠ a) : upd H a o b = H b := by unfold upd; rw [if_neg h]
theorem ne_of {H : Hp} {a b : Addr} {o u : HO} (h : H a = some o) (h' : H b = some u) (d : o ≠ u) : a ≠ b := by
  intro e; subst e; rw [h] at h'; exact d (Option.some.inj h')
theorem ne_of_none {H : Hp} {a b : Addr} {o : HO} (h : H a = some o) (h' : H b = none) : a ≠ b := by
  intro e; subst e; rw [h] at h'; cases h'
section
variable (P : Program) (w : World)
def ObjOk (H : Hp) (h : Heap) (a : Addr) : HO → Prop
  | .lst xs => xs.length ≤ sizeLine ∧ ∃ (its : List Value) (n : Nat), Vals xs its ∧ h.get? a = some { cls := .type "list", data := .seq its.toArray n }
  | .tup xs => xs.length ≤ sizeLine ∧ ∃ its : List Value, Vals xs its ∧ IsTup h a its.toArray
  | .dK kvs => kvs.length ≤ sizeLine ∧ (a == sysModules) = false ∧ ∃ vs, KV kvs vs ∧ h.DictOf (mixKind P w) a vs
  | .dT kvs => kvs.length ≤ sizeLine ∧ (a == sysModules) = false ∧ ∃ xs : List (List Key × Addr × Value),
      Paired (fun (p : List Key × V) (q : List Key × Addr × Value) => p.1 = q.1 ∧ H q.2.1 = some (.tup (p.1.map kV)) ∧ RelV p.2 q.2.2) kvs xs ∧
      ∃ o es ep, h.get? a = some o ∧ o.ExactDict ∧ o.data = .dict es ep ∧ es.toList = xs.map (entryOfKey (tupleKind (mixKind P w))) ∧ (xs.map (·.1)).Nodup
  | .set S n => h.SetOf (intKind P w) a S n
  | .ins C dx fs => H dx = some (.own a) ∧ fs.length ≤ 1000 ∧ dx ≠ a ∧ h.get? a = some (PySem.W.instObj C dx) ∧
      ∃ mA, h.Ns1 dx mA ∧ (∀ f, RelO (fs.lookup f) (mA f)) ∧ PySem.Within mA (fs.map (·.1))
  | .own _ => ∃ o, h.get? a = some o
  | .xd fs => ∃ mA, h.Ns1 a mA ∧ ∀ f, RelO (fs.lookup f) (mA f)
  | .rng lo hi => ∃ t u v, h.get? a = some { cls := .type "range", data := .fields #[.int lo t, .int hi u, .int 1 v] }
  | .frz o u => h.get? a = some o ∧ ObjOk H h a u
  | .tbl ps => h.get? a = some { cls := .none, data := .fields ps }
  | .met f x => h.get? a = some (PySem.W.methodObj (.ref f) (.ref x))
  | .ext φ => φ h ∧ (∃ o, h.get? a = some o) ∧ ∀ h1 h2 : Heap, φ h1 → (∀ o, h1.get? a = some o → h2.get? a = some o) → φ h2
def HOk (H : Hp) (h : Heap) : Prop := ∀ a o, H a = some o → ObjOk P w H h a o
end
section
variable {P : Program} {w : World} {H H' : Hp} {h h' : Heap} {a : Addr} {o : HO}
theorem ObjOk.lt (x : ObjOk P w H h a o) : a < h.objs.size := by
  cases o with
  | lst xs => obtain ⟨_, _, _, _, e⟩ := x; exact Heap.lt_size e
  | tup xs => obtain ⟨_, _, _, p⟩ := x; exact p.lt
  | dK kvs => obtain ⟨_, _, _, _, o, _, _, e, _⟩ := x; exact Heap.lt_size e
  | dT kvs => obtain ⟨_, _, _, _, o, _, _, e, _⟩ := x; exact Heap.lt_size e
  | set S n => obtain ⟨o, _, _, _, e, _⟩ := x; exact Heap.lt_size e
  | ins C dx fs => obtain ⟨_, _, _, e, _⟩ := x; exact Heap.lt_size e
  | own y => obtain ⟨_, e⟩ := x; exact Heap.lt_size e
  | xd fs => obtain ⟨_, ⟨_, _, _, e, _⟩, _⟩ := x; exact Heap.lt_size e
  | rng lo hi => obtain ⟨_, _, _, e⟩ := x; exact Heap.lt_size e
  | frz ob u => obtain ⟨e, _⟩ := x; exact Heap.lt_size e
  | tbl ps => exact Heap.lt_size (show h.get? a = some _ from x)
  | met f y => exact Heap.lt_size (show h.get? a = some _ from x)
  | ext φ => obtain ⟨_, ⟨_, e⟩, _⟩ := x; exact Heap.lt_size e
theorem Paired.mapP {α β : Type} {F G : α → β → Prop} : ∀ {l₁ : List α} {l₂ : List β}, Paired F l₁ l₂ → (∀ a b, F a b → G a b) → Paired G l₁ l₂
  | _, _, .nil, _ => .nil
  | _, _, .cons r t, f => .cons (f _ _ r) (Paired.mapP t f)
theorem ObjOk.stay (x : ObjOk P w H h a o) (k : ∀ b u, (b = a ∨ H b = some (.own a)) → h.get? b = some u → h'.get? b = some u)
    (ho : ∀ b, H b = some (.own a) → H' b = some (.own a)) (ht : ∀ b xs, H b = some (.tup xs) → H' b = some (.tup xs)) : ObjOk P w H' h' a o := by
  induction o with
  | lst xs => obtain ⟨z, its, n, r, e⟩ := x; exact ⟨z, its, n, r, k _ _ (.inl rfl) e⟩
  | tup xs => obtain ⟨z, its, r, ob, e, c⟩ := x; exact ⟨z, its, r, ob, k _ _ (.inl rfl) e, c⟩
  | dK kvs => obtain ⟨z, y, vs, r, ob, es, ep, e, c⟩ := x; exact ⟨z, y, vs, r, ob, es, ep, k _ _ (.inl rfl) e, c⟩
  | dT kvs =>
    obtain ⟨z, y, xs, r, ob, es, ep, e, c⟩ := x
    exact ⟨z, y, xs, Paired.mapP r fun p q z => ⟨z.1, ht _ _ z.2.1, z.2.2⟩, ob, es, ep, k _ _ (.inl rfl) e, c⟩
  | set S n => obtain ⟨ob, es, ep, t, e, c⟩ := x; exact ⟨ob, es, ep, t, k _ _ (.inl rfl) e, c⟩
  | ins C dx fs =>
    obtain ⟨d, z, ne, e, mA, ⟨od, es, ep, e2, c⟩, r⟩ := x
    exact ⟨ho _ d, z, ne, k _ _ (.inl rfl) e, mA, ⟨od, es, ep, k _ _ (.inr d) e2, c⟩, r⟩
  | own y => obtain ⟨ob, e⟩ := x; exact ⟨ob, k _ _ (.inl rfl) e⟩
  | xd fs => obtain ⟨mA, ⟨od, es, ep, e, c⟩, r⟩ := x; exact ⟨mA, ⟨od, es, ep, k _ _ (.inl rfl) e, c⟩, r⟩
  | rng lo hi => obtain ⟨t, u, v, e⟩ := x; exact ⟨t, u, v, k _ _ (.inl rfl) e⟩
  | frz ob u ih => obtain ⟨e, q⟩ := x; exact ⟨k _ _ (.inl rfl) e, ih q⟩
  | tbl ps =>
    have e : h.get? a = some { cls := .none, data := .fields ps } := x
    show h'.get? a = some { cls := .none, data := .fields ps }
    exact k a _ (.inl rfl) e
  | met f y =>
    have e : h.get? a = some (PySem.W.methodObj (.ref f) (.ref y)) := x
    show h'.get? a = some (PySem.W.methodObj (.ref f) (.ref y))
    exact k a _ (.inl rfl) e
  | ext φ => obtain ⟨p, ⟨o, e⟩, st⟩ := x; exact ⟨st _ _ p fun o q => k _ _ (.inl rfl) q, ⟨o, k _ _ (.inl rfl) e⟩, st⟩
theorem HOk.lt (x : HOk P w H h) (e : H a = some o) : a < h.objs.size := (x a o e).lt
theorem HOk.fresh (x : HOk P w H h) (e : h.objs.size ≤ a) : H a = none := by
  cases q : H a with
  | none => rfl
  | some u => exact absurd (Nat.lt_of_lt_of_le (x.lt q) e) (Nat.lt_irrefl _)
theorem HOk.kept (x : HOk P w H h) (k : ∀ b u, h.get? b = some u → h'.get? b = some u) : HOk P w H h' := fun a o e =>
  (x a o e).stay (fun b u _ q => k b u q) (fun _ q => q) fun _ _ q => q
theorem HOk.laid (x : HOk P w H h) (k : ∀ b u, h.get? b = some u → h'.get? b = some u) (hp : h.objs.size ≤ a) (new : ObjOk P w (upd H a o) h' a o) : HOk P w (upd H a o) h' := fun b u e => by
  have hn := x.fresh hp
  by_cases hb : b = a
  · subst hb; rw [upd_same] at e; cases e; exact new
  · rw [upd_ne hb] at e
    exact (x b u e).stay (fun c v _ q => k c v q) (fun c q => by rw [upd_ne (ne_of_none q hn)]; exact q) fun c xs q => by rw [upd_ne (ne_of_none q hn)]; exact q
end
def Rd (H : Hp) (a : Addr) (u : HO) : Prop := H a = some u ∨ ∃ o, H a = some (.frz o u)
theorem Rd.ok {P : Program} {w : World} {H : Hp} {h : Heap} {a : Addr} {u : HO} (r : Rd H a u) (x : HOk P w H h) : ObjOk P w H h a u := by
  rcases r with r | ⟨o, r⟩
  · exact x a u r
  · obtain ⟨_, q⟩ := x a _ r
    exact q
def Mut : Option HO → Prop
  | some (.lst _) => True
  | some (.dK _) => True
  | some (.dT _) => True
  | some (.set _ _) => True
  | some (.ins _ _ _) => True
  | some (.ext _) => True
  | _ => False
section
variable {P : Program} {w : World} {H : Hp} {h h' : Heap} {x e : Addr} {o' : HO}
theorem HOk.write (ok : HOk P w H h) (mu : Mut (H x)) (he : e = x ∨ H e = some (.own x)) (k : ∀ b u, b ≠ e → h.get? b = some u → h'.get? b = some u) (heo : ∃ u, h'.get? e = some u)
    (new : ObjOk P w (upd H x o') h' x o') : HOk P w (upd H x o') h' := fun b u q => by
  have nown : ∀ c y, H c = some (.own y) → c ≠ x := fun c y r z => by subst z; rw [r] at mu; exact mu
  have ntup : ∀ c xs, H c = some (.tup xs) → c ≠ x := fun c xs r z => by subst z; rw [r] at mu; exact mu
  by_cases hb : b = x
  · subst hb; rw [upd_same] at q; cases q; exact new
  · rw [upd_ne hb] at q
    by_cases hbe : b = e
    · have q' : H b = some (.own x) := by
        rcases he with z | z
        · exact absurd (hbe.trans z) hb
        · rw [hbe]; exact z
      rw [q] at q'; cases q'
      obtain ⟨v, hv⟩ := heo
      exact ⟨v, by rw [hbe]; exact hv⟩
    · refine (ok b u q).stay (fun c v hc r => k c v ?_ r) (fun c r => by rw [upd_ne (nown c b r)]; exact r) fun c xs r => by rw [upd_ne (ntup c xs r)]; exact r
      rcases hc with rfl | hc
      · exact hbe
      · rintro rfl
        rcases he with z | z
        · exact nown c b hc z
        · rw [hc] at z; cases z; exact hb rfl
end
structure Un (fs ex : List Addr) (H H' : Hp) (h h' : Heap) : Prop where
  keep : ∀ b o, h.get? b = some o → H b = none → b ∉ fs → b ∉ ex → h'.get? b = some o
  slot : ∀ b o, h.get? b = some o → H b = none → b ∈ fs → b ∉ ex → ∃ sl, h'.get? b = some { o with slots := sl }
  free : ∀ b o, h.get? b = some o → H b = none → b ∉ ex → H' b = none
  there : ∀ b o, h.get? b = some o → b ∉ ex → ∃ o', h'.get? b = some o'
  tups : ∀ b xs, H b = some (.tup xs) → H' b = some (.tup xs)
  frzs : ∀ b o u, H b = some (.frz o u) → H' b = some (.frz o u)
  tbls : ∀ b ps, H b = some (.tbl ps) → ∃ more, H' b = some (.tbl (ps ++ more))
section
variable {fs fs' ex ex' : List Addr} {H H1 H2 : Hp} {h h1 h2 h' : Heap} {a x e : Addr} {o : HO}
theorem Un.any (u : Un fs ex H H1 h h1) {b : Addr} {ob : Obj} (q : h.get? b = some ob) (n : H b = none) (hx : b ∉ ex) : ∃ sl, h1.get? b = some { ob with slots := sl } := by
  by_cases hb : b ∈ fs
  · exact u.slot b ob q n hb hx
  · exact ⟨ob.slots, u.keep b ob q n hb hx⟩
theorem Un.kept (k : ∀ b u, h.get? b = some u → h'.get? b = some u) : Un fs ex H H h h' :=
  ⟨fun b ob q _ _ _ => k b ob q, fun b ob q _ _ _ => ⟨ob.slots, k b ob q⟩, fun _ _ _ n _ => n, fun b ob q _ => ⟨ob, k b ob q⟩, fun _ _ q => q, fun _ _ _ q => q, fun _ ps q => ⟨#[], by rw [q]; simp⟩⟩
theorem Un.refl : Un fs ex H H h h := Un.kept fun _ _ q => q
theorem Un.laid (k : ∀ b u, h.get? b = some u → h'.get? b = some u) (hp : h.objs.size ≤ a) (hn : H a = none) : Un fs ex H (upd H a o) h h' where
  keep := fun b u q _ _ _ => k b u q
  slot := fun b u q _ _ _ => ⟨u.slots, k b u q⟩
  free := fun b u q n _ => by rw [upd_ne (Nat.ne_of_lt (Nat.lt_of_lt_of_le (Heap.lt_size q) hp))]; exact n
  there := fun b u q _ => ⟨u, k b u q⟩
  tups := fun b xs q => by rw [upd_ne (ne_of_none q hn)]; exact q
  frzs := fun b u xs q => by rw [upd_ne (ne_of_none q hn)]; exact q
  tbls := fun b ps q => ⟨#[], by rw [upd_ne (ne_of_none q hn), q]; simp⟩
theorem Un.write (mu : Mut (H x)) (he : e = x ∨ H e = some (.own x)) (k : ∀ b u, b ≠ e → h.get? b = some u → h'.get? b = some u) (heo : ∃ u, h'.get? e = some u) : Un fs ex H (upd H x o) h h' := by
  have hx : ∀ b, H b = none → b ≠ x := fun b n z => by subst z; rw [n] at mu; exact mu
  have hb : ∀ b, H b = none → b ≠ e := fun b n z => by
    subst z
    rcases he with r | r
    · exact hx b n r
    · rw [n] at r; cases r
  have hm : ∀ b u, H b = some u → ¬ Mut (some u) → b ≠ x := fun b u q nm z => by subst z; rw [q] at mu; exact nm mu
  refine ⟨fun b u q n _ _ => k b u (hb b n) q, fun b u q n _ _ => ⟨u.slots, k b u (hb b n) q⟩, fun b u q n _ => by rw [upd_ne (hx b n)]; exact n, fun b u q _ => ?_,
    fun b xs q => by rw [upd_ne (hm b _ q fun z => z)]; exact q, fun b u xs q => by rw [upd_ne (hm b _ q fun z => z)]; exact q, fun b ps q => ⟨#[], by rw [upd_ne (hm b _ q fun z => z), q]; simp⟩⟩
  by_cases hbe : b = e
  · subst hbe; exact heo
  · exact ⟨u, k b u hbe q⟩
end
def trk (h : Heap) (H : Hp) : List Addr := (List.range h.objs.size).filter fun a => (H a).isSome
def hidT (h : Heap) (H : Hp) : Heap := PySem.W.hideAll h (trk h H)
theorem hidT_size (h : Heap) (H : Hp) : (hidT h H).objs.size = h.objs.size := PySem.W.hideAll_size _ _
theorem hidT_get {h : Heap} {H : Hp} {b : Addr} {o : Obj} (e : h.get? b = some o) (n : H b = none) : (hidT h H).get? b = some o :=
  PySem.W.hideAll_get _ e fun hm => by
    have q : (H b).isSome = true := (List.mem_filter.mp hm).2
    rw [n] at q; simp at q
theorem of_hidT {h : Heap} {H : Hp} {b : Addr} {o : Obj} (e : (hidT h H).get? b = some o) : h.get? b = some o ∧ H b = none := by
  have e' : h.get? b = some o := PySem.W.of_hideAll (trk h H) e
  refine ⟨e', ?_⟩
  cases q : H b with
  | none => rfl
  | some x =>
    have hm : b ∈ trk h H := List.mem_filter.mpr ⟨List.mem_range.mpr (Heap.lt_size e'), by simp [q]⟩
    have z : (hidT h H).get? b = none := PySem.W.hideAll_none (trk h H) hm
    rw [z] at e; cases e
def allNews (g h : Heap) (L : Addr) : List (Addr × Obj) := (List.range h.objs.size).filterMap fun a => if a = L ∨ (g.get? a).isSome = true then none else (h.get? a).map fun o => (a, o)
def rest (g h : Heap) (L d : Addr) : List (Addr × Obj) := (allNews g h L).filter fun p => decide (p.1 ≠ d)
end L2
namespace L2
open PySem PySem.Spec PyProof.Rows
structure Mod (K : PySem.W.Frag) (mg : Str → Option Value) (base : Heap) : Prop where
  kin : K.In base
  glob : base.Ns mainGlobals mg
  blt : ∃ mb, base.Ns builtinsNs mb ∧ ∀ x : Str, x ≠ "__name__" → mb x = bootBuiltins x
  nolimit : base.NoLimit
structure Cx where
  prog : Program
  w : World
  K : PySem.W.Frag
  mg : Str → Option Value
  base : Heap
  A : Around
  N : List Str
  s₀ : Shared
  H₀ : Hp
  env : Env
  outer : List Env
  stack : List Env
  ex : List Addr
  fn : Str → Bool
  calm : Bool
  pn : List (Addr × Obj)
  xe : Value → Shared → Prop
def frs (l : List Env) : List Addr := l.filterMap (·.frame)
abbrev Cx.fs (X : Cx) : List Addr := frs X.outer
def Vis (sc : Scope) (x : Str) : Prop := sc.names.lookup x = some .local ∨ sc.names.lookup x = some .cell ∨ sc.names.lookup x = some .free
def Loc (sc : Scope) (x : Str) : Prop := sc.names.lookup x = some .local ∨ sc.names.lookup x = some .cell
def Look (env : Env) (h : Heap) (m : Str → Option Value) (x : Str) (u : Value) : Prop :=
  (env.kindOf x = some .local ∧ m x = some u) ∨ ((env.kindOf x = some .cell ∨ env.kindOf x = some .free) ∧ ∃ c, env.cells.lookup x = some c ∧ h.IsCell c (some u))
structure Cx.Ok (X : Cx) : Prop where
  mod : Mod X.K X.mg X.base
  kind : X.env.scope.kind = .function
  glob : X.env.globals = mainGlobals
  blt : X.env.builtins = builtinsNs
  above : X.s₀.heap.objs.size ≤ X.env.locals
  inj : ∀ x y c, X.env.cells.lookup x = some c → X.env.cells.lookup y = some c → x = y
  has : ∀ x, (X.env.kindOf x = some .cell ∨ X.env.kindOf x = some .free) → ∃ c, X.env.cells.lookup x = some c
  cab : ∀ x c, X.fn x = true → X.env.cells.lookup x = some c → X.s₀.heap.objs.size ≤ c
  hd : X.calm = true → X.A.handled = none
  frames : X.A.frames = some X.stack
  stk : X.stack = X.outer ∨ (X.stack = X.env :: X.outer ∧ X.env.frame = some X.env.locals)
  exf : ∀ b ∈ X.ex, b ≠ X.env.locals ∧ ∀ x c, X.env.cells.lookup x = some c → c ≠ b
  bs : ∀ b o, X.base.get? b = some o → X.s₀.heap.get? b = some o ∧ X.H₀ b = none
  bsz : X.base.objs.size ≤ X.s₀.heap.objs.size
  noex : ∀ b o, X.base.get? b = some o → b ∉ X.ex
  exfs : ∀ b ∈ X.ex, b ∉ X.fs
  funs : X.s₀.heap.FunFrames X.base X.outer
  frf : ∀ b ∈ X.fs, X.H₀ b = none
structure Inv (X : Cx) (pins : List (Addr × Obj)) (σ : List (Option V)) (H : Hp) (s : Shared) : Prop where
  ok : X.Ok
  os : s.os = X.s₀.os
  bare : AllBare s.gens
  base : Un X.fs X.ex X.H₀ H X.s₀.heap s.heap
  loc : ∃ m, s.heap.Ns X.env.locals m ∧ ∀ (i : Nat) (x : Str) (v : V), X.N[i]? = some x → σ[i]? = some (some v) → Vis X.env.scope x → ∃ u, RelV v u ∧ Look X.env s.heap m x u
  cell : ∀ x c, X.env.cells.lookup x = some c → ∃ v, s.heap.IsCell c v
  free : H X.env.locals = none
  freeC : ∀ x c, X.env.cells.lookup x = some c → H c = none
  pin : ∀ p ∈ X.pn ++ pins, s.heap.get? p.1 = some p.2 ∧ H p.1 = none ∧ p.1 ≠ X.env.locals ∧ p.1 ∉ X.fs ∧ ∀ v, p.2.data ≠ .cell v
  hok : HOk X.prog X.w H s.heap
  len : σ.length = X.N.length
section
variable {X : Cx} {pins : List (Addr × Obj)} {σ : List (Option V)} {H H' : Hp} {s : Shared} {h' : Heap}
theorem Cx.Ok.nofr (ok : X.Ok) {b : Addr} {o : Obj} (e : X.base.get? b = some o) : b ∉ X.fs := fun hb => by
  have := (ok.funs.mem hb).1
  rw [e] at this; cases this
theorem Inv.bs (I : Inv X pins σ H s) : ∀ b o, X.base.get? b = some o → s.heap.get? b = some o ∧ H b = none := fun b o e =>
  ⟨I.base.keep b o (I.ok.bs b o e).1 (I.ok.bs b o e).2 (I.ok.nofr e) (I.ok.noex b o e), I.base.free b o (I.ok.bs b o e).1 (I.ok.bs b o e).2 (I.ok.noex b o e)⟩
theorem Inv.bk (I : Inv X pins σ H s) : ∀ b o, X.base.get? b = some o → s.heap.get? b = some o := fun b o e => (I.bs b o e).1
theorem Inv.mod (I : Inv X pins σ H s) : Mod X.K X.mg X.base := I.ok.mod
theorem Inv.kIn (I : Inv X pins σ H s) : X.K.In s.heap := I.ok.mod.kin.keeps I.bk
theorem Inv.fr (I : Inv X pins σ H s) : ∃ m, Fr X.base X.env.locals s.heap m :=
  let ⟨m, hn, _⟩ := I.loc
  ⟨m, hn, I.bk, Nat.le_trans I.ok.bsz I.ok.above⟩
theorem Inv.lt (I : Inv X pins σ H s) : X.env.locals < s.heap.objs.size := let ⟨_, hn, _⟩ := I.loc; hn.lt
theorem Inv.sz (I : Inv X pins σ H s) : X.s₀.heap.objs.size ≤ s.heap.objs.size := Nat.le_trans I.ok.above (Nat.le_of_lt I.lt)
theorem Inv.nofs (I : Inv X pins σ H s) {a : Addr} (h : s.heap.objs.size ≤ a) : a ∉ X.fs := fun hb => by
  obtain ⟨_, o, ho, _⟩ := I.ok.funs.mem hb
  exact absurd (Nat.lt_of_lt_of_le (Heap.lt_size ho) (Nat.le_trans I.sz h)) (Nat.lt_irrefl _)
theorem Inv.cne (I : Inv X pins σ H s) : ∀ x c, X.env.cells.lookup x = some c → c ≠ X.env.locals := fun x c e z => by
  obtain ⟨v, o, ho, hd⟩ := I.cell x c e
  obtain ⟨m, ⟨o', es, ep, ho', hd', _⟩, _⟩ := I.loc
  rw [z, ho'] at ho; cases ho; rw [hd'] at hd; cases hd
theorem Inv.funs (I : Inv X pins σ H s) : s.heap.FunFrames X.base X.outer := by
  have all : ∀ (l : List Env), (∀ b ∈ frs l, b ∈ X.fs) → X.s₀.heap.FunFrames X.base l → s.heap.FunFrames X.base l := by
    intro l
    induction l with
    | nil => intro _ _; trivial
    | cons env r ih =>
      intro hs hl
      obtain ⟨hk, ⟨L, o, hf, hn, ho, hd⟩, hr⟩ := hl
      have hL : L ∈ X.fs := hs L (by unfold frs; rw [List.filterMap_cons, hf]; exact List.mem_cons_self)
      obtain ⟨sl, e⟩ := I.base.slot L o ho (I.ok.frf L hL) hL fun z => I.ok.exfs L z hL
      exact ⟨hk, ⟨L, _, hf, hn, e, hd⟩, ih (fun b hb => hs b (by unfold frs; rw [List.filterMap_cons, hf]; exact List.mem_cons_of_mem _ hb)) hr⟩
  exact all X.outer (fun _ hb => hb) I.ok.funs
theorem Inv.stack (I : Inv X pins σ H s) : s.heap.FunFrames X.base X.stack := by
  rcases I.ok.stk with e | ⟨e, hf⟩
  · rw [e]; exact I.funs
  · rw [e]
    obtain ⟨m, hn, _⟩ := I.loc
    refine .cons (by rw [I.ok.kind]; decide) hf hn ?_ I.funs
    exact Heap.get?_none_of_le (Nat.le_trans I.ok.bsz I.ok.above)
theorem Inv.stkSub (I : Inv X pins σ H s) : ∀ b ∈ frs X.stack, b ∈ X.env.locals :: X.fs := fun b hb => by
  rcases I.ok.stk with e | ⟨e, hf⟩
  · rw [e] at hb; exact List.mem_cons_of_mem _ hb
  · rw [e] at hb
    unfold frs at hb
    rw [List.filterMap_cons, hf] at hb
    exact hb
theorem Inv.stkFree (I : Inv X pins σ H s) : ∀ b ∈ frs X.stack, H b = none := fun b hb => by
  rcases List.mem_cons.mp (I.stkSub b hb) with e | hb
  · rw [e]; exact I.free
  · obtain ⟨_, o, ho, _⟩ := I.ok.funs.mem hb
    exact I.base.free b o ho (I.ok.frf b hb) fun z => I.ok.exfs b z hb
theorem Inv.step {g' : Array GenState} {t' : Nat} {d' : Drawn} {ch : List Addr} (I : Inv X pins σ H s)
    (hch : ∀ b ∈ ch, (b ∈ X.ex ∨ X.s₀.heap.objs.size ≤ b) ∧ b ≠ X.env.locals ∧ (∀ x c, X.env.cells.lookup x = some c → c ≠ b) ∧ ∀ p ∈ X.pn ++ pins, p.1 ≠ b)
    (keep : ∀ b o, b ≠ X.env.locals → b ∉ X.fs → b ∉ ch → s.heap.get? b = some o → H b = none → h'.get? b = some o)
    (slot : ∀ b o, b ≠ X.env.locals → b ∈ X.fs → b ∉ ch → s.heap.get? b = some o → H b = none → ∃ sl, h'.get? b = some { o with slots := sl }) (free : ∀ b o, b ∉ ch → s.heap.get? b = some o → H b = none → H' b = none)
    (there : ∀ b o, b ∉ ch → s.heap.get? b = some o → ∃ o', h'.get? b = some o')
    (tups : ∀ b xs, H b = some (.tup xs) → H' b = some (.tup xs)) (frzs : ∀ b o u, H b = some (.frz o u) → H' b = some (.frz o u)) (tbls : ∀ b ps, H b = some (.tbl ps) → ∃ more, H' b = some (.tbl (ps ++ more)))
    (ns : ∀ m, s.heap.Ns X.env.locals m → h'.Ns X.env.locals m) (hok : HOk X.prog X.w H' h') (hg : AllBare g') :
    Inv X pins σ H' { s with heap := h', gens := g', drawn := d', toks := t' } := by
  have neL : ∀ b o, X.s₀.heap.get? b = some o → b ≠ X.env.locals := fun b o e => Nat.ne_of_lt (Nat.lt_of_lt_of_le (Heap.lt_size e) I.ok.above)
  have neC : ∀ b o, X.s₀.heap.get? b = some o → b ∉ X.ex → b ∉ ch := fun b o e hx hb => by
    rcases (hch b hb).1 with z | z
    · exact hx z
    · exact absurd (Nat.lt_of_lt_of_le (Heap.lt_size e) z) (Nat.lt_irrefl _)
  have cellK : ∀ x c, X.env.cells.lookup x = some c → ∀ v, s.heap.IsCell c v → h'.IsCell c v := fun x c e v ⟨o, ho, hd⟩ => by
    have nch : c ∉ ch := fun z => (hch c z).2.2.1 x c e rfl
    by_cases hc : c ∈ X.fs
    · obtain ⟨sl, q⟩ := slot c o (I.cne x c e) hc nch ho (I.freeC x c e)
      exact ⟨_, q, hd⟩
    · exact ⟨o, keep c o (I.cne x c e) hc nch ho (I.freeC x c e), hd⟩
  refine ⟨I.ok, I.os, hg, ⟨fun b o e n hb hx => ?_, fun b o e n hb hx => ?_, fun b o e n hx => ?_, fun b o e hx => ?_, fun b xs e => tups b xs (I.base.tups b xs e), fun b o xs e => frzs b o xs (I.base.frzs b o xs e), fun b ps e => ?_⟩, ?_, fun x c e => ?_, ?_, fun x c e => ?_, fun p hp => ?_, hok, I.len⟩
  · exact keep b o (neL b o e) hb (neC b o e hx) (I.base.keep b o e n hb hx) (I.base.free b o e n hx)
  · obtain ⟨sl, e1⟩ := I.base.slot b o e n hb hx
    obtain ⟨sl', e2⟩ := slot b _ (neL b o e) hb (neC b o e hx) e1 (I.base.free b o e n hx)
    exact ⟨sl', e2⟩
  · obtain ⟨o', e1⟩ := I.base.there b o e hx
    exact free b o' (neC b o e hx) e1 (I.base.free b o e n hx)
  · obtain ⟨o', e1⟩ := I.base.there b o e hx
    exact there b o' (neC b o e hx) e1
  · obtain ⟨m1, e1⟩ := I.base.tbls b ps e
    obtain ⟨m2, e2⟩ := tbls b _ e1
    exact ⟨m1 ++ m2, by rw [e2, Array.append_assoc]⟩
  · obtain ⟨m, hn, hl⟩ := I.loc
    refine ⟨m, ns m hn, fun i x v e1 e2 e3 => ?_⟩
    obtain ⟨u, r, l⟩ := hl i x v e1 e2 e3
    refine ⟨u, r, ?_⟩
    rcases l with l | ⟨k, c, e, z⟩
    · exact .inl l
    · exact .inr ⟨k, c, e, cellK x c e _ z⟩
  · obtain ⟨v, z⟩ := I.cell x c e
    exact ⟨v, cellK x c e v z⟩
  · obtain ⟨m, ⟨o, _, _, ho, _⟩, _⟩ := I.loc
    exact free _ o (fun z => (hch _ z).2.1 rfl) ho I.free
  · obtain ⟨v, o, ho, hd⟩ := I.cell x c e
    exact free c o (fun z => (hch c z).2.2.1 x c e rfl) ho (I.freeC x c e)
  · obtain ⟨e, n, ne, nf, d⟩ := I.pin p hp
    have nch : p.1 ∉ ch := fun z => (hch p.1 z).2.2.2 p hp rfl
    exact ⟨keep p.1 p.2 ne nf nch e n, free p.1 p.2 nch e n, ne, nf, d⟩
theorem Inv.un {t' : Nat} (I : Inv X pins σ H s) (u : Un X.fs [] H H' s.heap h') (hok : HOk X.prog X.w H' h') : Inv X pins σ H' { s with heap := h', toks := t' } := by
  obtain ⟨m, ⟨o, es, ep, ho, r⟩, _⟩ := id I.loc
  obtain ⟨sl, hL⟩ := u.any ho I.free (by simp)
  exact I.step (g' := s.gens) (d' := s.drawn) (ch := []) (fun _ z => nomatch z) (fun b o _ hb _ e n => u.keep b o e n hb (by simp)) (fun b o _ hb _ e n => u.slot b o e n hb (by simp)) (fun b o _ e n => u.free b o e n (by simp)) (fun b o _ e => u.there b o e (by simp)) u.tups u.frzs u.tbls (fun m' hm => by
    obtain ⟨o', es', ep', ho', r'⟩ := hm
    rw [ho] at ho'; cases ho'
    exact ⟨_, es', ep', hL, r'⟩) hok I.bare
theorem Inv.call {g' : Array GenState} {t' : Nat} {d' : Drawn} {ch : List Addr} (I : Inv X pins σ H s) (u : Un (frs X.stack) ch H H' s.heap h') (hok : HOk X.prog X.w H' h') (hg : AllBare g')
    (hch : ∀ b ∈ ch, (b ∈ X.ex ∨ X.s₀.heap.objs.size ≤ b) ∧ b ≠ X.env.locals ∧ (∀ x c, X.env.cells.lookup x = some c → c ≠ b) ∧ ∀ p ∈ X.pn ++ pins, p.1 ≠ b) :
    Inv X pins σ H' { s with heap := h', gens := g', drawn := d', toks := t' } := by
  obtain ⟨m, ⟨o, es, ep, ho, r⟩, _⟩ := id I.loc
  obtain ⟨sl, hL⟩ := u.any ho I.free fun z => (hch _ z).2.1 rfl
  exact I.step (ch := ch) hch (fun b o hL hb hc e n => u.keep b o e n (fun z => (List.mem_cons.mp (I.stkSub b z)).elim hL hb) hc) (fun b o _ _ hc e n => u.any e n hc) (fun b o hc e n => u.free b o e n hc) (fun b o hc e => u.there b o e hc) u.tups u.frzs u.tbls (fun m' hm => by
    obtain ⟨o', es', ep', ho', r'⟩ := hm
    rw [ho] at ho'; cases ho'
    exact ⟨_, es', ep', hL, r'⟩) hok hg
theorem Inv.turned {t' : Nat} {it : Addr} (I : Inv X pins σ H s) (k : ∀ b o, b ≠ it → s.heap.get? b = some o → h'.get? b = some o) (hn : H it = none) (hL : it ≠ X.env.locals)
    (h1 : it ∈ X.ex ∨ X.s₀.heap.objs.size ≤ it) (h2 : ∀ x c, X.env.cells.lookup x = some c → c ≠ it) (h3 : ∀ p ∈ X.pn ++ pins, p.1 ≠ it) : Inv X pins σ H { s with heap := h', toks := t' } := by
  have nit : ∀ b u, H b = some u → b ≠ it := fun b u e z => by rw [z, hn] at e; cases e
  refine I.step (g' := s.gens) (d' := s.drawn) (ch := [it]) (fun b hb => ?_) (fun b o _ _ hc e _ => k b o (fun z => hc (by simp [z])) e) (fun b o _ _ hc e _ => ⟨o.slots, k b o (fun z => hc (by simp [z])) e⟩) (fun _ _ _ _ n => n)
    (fun b o hc e => ⟨o, k b o (fun z => hc (by simp [z])) e⟩) (fun _ _ e => e) (fun _ _ _ e => e) (fun b ps e => ⟨#[], by rw [e]; simp⟩) (fun m hm => ?_) (fun b u e => ?_) I.bare
  · have e : b = it := by simpa using hb
    subst e
    exact ⟨h1, hL, h2, h3⟩
  · obtain ⟨o, es, ep, ho, r⟩ := hm
    exact ⟨o, es, ep, k _ o (Ne.symm hL) ho, r⟩
  · refine (I.hok b u e).stay (fun c v hc q => k c v ?_ q) (fun _ q => q) fun _ _ q => q
    rcases hc with z | z
    · rw [z]; exact nit b u e
    · exact nit c _ z
theorem Inv.tok (I : Inv X pins σ H s) (t : Nat) : Inv X pins σ H { s with toks := t } := I.un (h' := s.heap) (t' := t) Un.refl I.hok
theorem Inv.kept {t' : Nat} (I : Inv X pins σ H s) (k : ∀ b u, s.heap.get? b = some u → h'.get? b = some u) : Inv X pins σ H { s with heap := h', toks := t' } := I.un (Un.kept k) (I.hok.kept k)
theorem Inv.laid {a : Addr} {o : HO} {t' : Nat} (I : Inv X pins σ H s) (k : ∀ b u, s.heap.get? b = some u → h'.get? b = some u) (hp : s.heap.objs.size ≤ a) (new : ObjOk X.prog X.w (upd H a o) h' a o) :
    Inv X pins σ (upd H a o) { s with heap := h', toks := t' } := I.un (Un.laid k hp (I.hok.fresh hp)) (I.hok.laid k hp new)
theorem Inv.write {x e : Addr} {o : HO} {t' : Nat} (I : Inv X pins σ H s) (mu : Mut (H x)) (he : e = x ∨ H e = some (.own x)) (k : ∀ b u, b ≠ e → s.heap.get? b = some u → h'.get? b = some u) (heo : ∃ u, h'.get? e = some u)
    (new : ObjOk X.prog X.w (upd H x o) h' x o) : Inv X pins σ (upd H x o) { s with heap := h', toks := t' } := I.un (Un.write mu he k heo) (I.hok.write mu he k heo new)
theorem Inv.weak {σ' : List (Option V)} (I : Inv X pins σ H s) (hl : σ'.length = σ.length) (w : ∀ (i : Nat) v, σ'[i]? = some (some v) → σ[i]? = some (some v)) : Inv X pins σ' H s :=
  ⟨I.ok, I.os, I.bare, I.base, let ⟨m, hn, hl'⟩ := I.loc; ⟨m, hn, fun i x v e1 e2 e3 => hl' i x v e1 (w i v e2) e3⟩, I.cell, I.free, I.freeC, I.pin, I.hok, hl.trans I.len⟩
theorem Inv.pins_of {pins' : List (Addr × Obj)} (I : Inv X pins σ H s) (h : ∀ p ∈ pins', s.heap.get? p.1 = some p.2 ∧ H p.1 = none ∧ p.1 ≠ X.env.locals ∧ p.1 ∉ X.fs ∧ ∀ v, p.2.data ≠ .cell v) : Inv X pins' σ H s :=
  ⟨I.ok, I.os, I.bare, I.base, I.loc, I.cell, I.free, I.freeC, fun p hp => (List.mem_append.mp hp).elim (fun z => I.pin p (List.mem_append_left _ z)) (h p), I.hok, I.len⟩
theorem nodup_ix {N : List Str} (hN : N.Nodup) {i j : Nat} {x : Str} (a : N[i]? = some x) (b : N[j]? = some x) : i = j := by
  obtain ⟨h1, e1⟩ := List.getElem?_eq_some_iff.mp a
  obtain ⟨h2, e2⟩ := List.getElem?_eq_some_iff.mp b
  exact (List.getElem_inj hN).mp (e1.trans e2.symm)
theorem store_ok2 {M : Model} {A : Around} {E : Value → Shared → Prop} {i : Nat} {x : Str} {v : V} {u : Value} {Q : Unit → Shared → Prop} (I : Inv X pins σ H s) (hN : X.N.Nodup) (hi : X.N[i]? = some x) (hx : Loc X.env.scope x) (r : RelV v u)
    (h : ∀ s', Inv X pins (σ.set i (some v)) H s' → (∃ a, Heap.SameBut a s.heap s'.heap ∧ (a = X.env.locals ∨ X.env.cells.lookup x = some a)) → Q () s') (hf : X.fn x = true ∨ X.env.scope.names.lookup x = some .local := by first | exact .inl rfl | exact .inr rfl | assumption) : wpAny M A (storeName X.env x u) Q E s := by
  obtain ⟨m, hn, hl⟩ := id I.loc
  have hcls : (X.env.scope.kind == .class || (X.env.scope.kind == .module && X.env.locals != X.env.globals)) = false := by rw [I.ok.kind]; rfl
  have hiσ : i < σ.length := by rw [I.len]; exact (List.getElem?_eq_some_iff.mp hi).1
  have cne := I.cne
  have tracked : ∀ {a : Addr} {h' : Heap}, (∃ o, s.heap.get? a = some o ∧ H a = none) → Heap.SameBut a s.heap h' → HOk X.prog X.w H h' := fun {a h'} ha hs b ob e => by
    obtain ⟨_, _, hfree⟩ := ha
    refine (I.hok b ob e).stay (fun c w' hc q => (hs.2 c ?_).trans q) (fun _ q => q) fun _ _ q => q
    rintro rfl
    rcases hc with rfl | hc
    · rw [hfree] at e; cases e
    · rw [hfree] at hc; cases hc
  rcases hx with hk | hk
  · refine wpAny_storeName_local hk hn (fun h' hn' hs => ?_) hcls
    obtain ⟨oL, _, _, hoL, _⟩ := id hn
    refine h _ ⟨I.ok, I.os, I.bare, ⟨fun b o e n hb hx => ?_, fun b o e n hb hx => ?_, I.base.free, fun b o e hx => ?_, I.base.tups, I.base.frzs, I.base.tbls⟩, ⟨_, hn', fun j y v' e1 e2 e3 => ?_⟩, fun y c e => ?_, I.free, I.freeC, fun p hp => ?_, tracked ⟨oL, hoL, I.free⟩ hs, by simpa using I.len⟩ ⟨_, hs, .inl rfl⟩
    · exact (hs.2 b (Nat.ne_of_lt (Nat.lt_of_lt_of_le (Heap.lt_size e) I.ok.above))).trans (I.base.keep b o e n hb hx)
    · obtain ⟨sl, e1⟩ := I.base.slot b o e n hb hx
      exact ⟨sl, (hs.2 b (Nat.ne_of_lt (Nat.lt_of_lt_of_le (Heap.lt_size e) I.ok.above))).trans e1⟩
    · obtain ⟨o', e1⟩ := I.base.there b o e hx
      exact ⟨o', (hs.2 b (Nat.ne_of_lt (Nat.lt_of_lt_of_le (Heap.lt_size e) I.ok.above))).trans e1⟩
    · by_cases hj : j = i
      · subst hj
        rw [hi] at e1; cases e1
        rw [List.getElem?_set_self hiσ] at e2
        cases e2
        exact ⟨u, r, .inl ⟨hk, by simp⟩⟩
      · rw [List.getElem?_set_ne (Ne.symm hj)] at e2
        obtain ⟨u', r', q⟩ := hl j y v' e1 e2 e3
        refine ⟨u', r', ?_⟩
        rcases q with ⟨k, e⟩ | ⟨k, c, e, z⟩
        · refine .inl ⟨k, ?_⟩
          have : y ≠ x := fun e => hj (nodup_ix hN e1 (e ▸ hi))
          simp [this, e]
        · exact .inr ⟨k, c, e, z.sameBut hs (cne y c e)⟩
    · obtain ⟨w', z⟩ := I.cell y c e
      exact ⟨w', z.sameBut hs (cne y c e)⟩
    · obtain ⟨e, n, ne, nf, d⟩ := I.pin p hp
      exact ⟨(hs.2 p.1 ne).trans e, n, ne, nf, d⟩
  · have hfn : X.fn x = true := by
      rcases hf with z | z
      · exact z
      · rw [z] at hk; cases hk
    obtain ⟨c, hc⟩ := I.ok.has x (.inl hk)
    obtain ⟨w', z⟩ := I.cell x c hc
    refine wpAny_storeName_cell I.ok.kind hk hc z (fun h' hc' hs => ?_)
    obtain ⟨oc, hoc, hocd⟩ := id z
    refine h { s with heap := h' } ⟨I.ok, I.os, I.bare, ⟨fun b o e n hb hx => ?_, fun b o e n hb hx => ?_, I.base.free, fun b o e hx => ?_, I.base.tups, I.base.frzs, I.base.tbls⟩, ⟨m, hn.sameBut hs (Ne.symm (cne x c hc)), fun j y v' e1 e2 e3 => ?_⟩, fun y c' e => ?_, I.free, I.freeC, fun p hp => ?_, tracked ⟨oc, hoc, I.freeC x c hc⟩ hs, by simpa using I.len⟩ ⟨c, hs, .inr hc⟩
    · exact (hs.2 b (Nat.ne_of_lt (Nat.lt_of_lt_of_le (Heap.lt_size e) (I.ok.cab x c hfn hc)))).trans (I.base.keep b o e n hb hx)
    · obtain ⟨sl, e1⟩ := I.base.slot b o e n hb hx
      exact ⟨sl, (hs.2 b (Nat.ne_of_lt (Nat.lt_of_lt_of_le (Heap.lt_size e) (I.ok.cab x c hfn hc)))).trans e1⟩
    · obtain ⟨o', e1⟩ := I.base.there b o e hx
      exact ⟨o', (hs.2 b (Nat.ne_of_lt (Nat.lt_of_lt_of_le (Heap.lt_size e) (I.ok.cab x c hfn hc)))).trans e1⟩
    · by_cases hj : j = i
      · subst hj
        rw [hi] at e1; cases e1
        rw [List.getElem?_set_self hiσ] at e2
        cases e2
        exact ⟨u, r, .inr ⟨.inl hk, c, hc, hc'⟩⟩
      · rw [List.getElem?_set_ne (Ne.symm hj)] at e2
        obtain ⟨u', r', q⟩ := hl j y v' e1 e2 e3
        refine ⟨u', r', ?_⟩
        rcases q with q | ⟨k, c', e, z'⟩
        · exact .inl q
        · refine .inr ⟨k, c', e, z'.sameBut hs ?_⟩
          rintro rfl
          exact hj (nodup_ix hN e1 (I.ok.inj _ _ _ e hc ▸ hi))
    · by_cases hcc : c' = c
      · subst hcc; exact ⟨_, hc'⟩
      · obtain ⟨w2, z2⟩ := I.cell y c' e
        exact ⟨w2, z2.sameBut hs hcc⟩
    · obtain ⟨e, n, ne, nf, d⟩ := I.pin p hp
      refine ⟨(hs.2 p.1 ?_).trans e, n, ne, nf, d⟩
      intro q
      rw [q, hoc] at e
      have q' : oc = p.2 := Option.some.inj e
      exact d w' (by rw [← q']; exact hocd)
theorem store_ok {M : Model} {A : Around} {E : Value → Shared → Prop} {i : Nat} {x : Str} {v : V} {u : Value} {Q : Unit → Shared → Prop} (I : Inv X pins σ H s) (hN : X.N.Nodup) (hi : X.N[i]? = some x) (hx : Loc X.env.scope x) (r : RelV v u)
    (h : ∀ s', Inv X pins (σ.set i (some v)) H s' → Q () s') (hf : X.fn x = true ∨ X.env.scope.names.lookup x = some .local := by first | exact .inl rfl | exact .inr rfl | assumption) : wpAny M A (storeName X.env x u) Q E s :=
  store_ok2 I hN hi hx r (fun s' I' _ => h s' I') hf
theorem Inv.call' {s' : Shared} {ch : List Addr} (I : Inv X pins σ H s) (ho : s'.os = s.os) (u : Un (frs X.stack) ch H H' s.heap s'.heap) (hok : HOk X.prog X.w H' s'.heap) (hg : AllBare s'.gens)
    (hch : ∀ b ∈ ch, (b ∈ X.ex ∨ X.s₀.heap.objs.size ≤ b) ∧ b ≠ X.env.locals ∧ (∀ x c, X.env.cells.lookup x = some c → c ≠ b) ∧ ∀ p ∈ X.pn ++ pins, p.1 ≠ b) : Inv X pins σ H' s' := by
  obtain ⟨h', g', d', t', o'⟩ := s'
  have e : o' = s.os := ho
  subst e
  exact I.call (g' := g') (t' := t') (d' := d') u hok hg hch
end
abbrev XK := Value → Option Addr → Hp → Prop
abbrev St := List (Option V)
abbrev VK := V → Hp → Prop
abbrev TE := St → Hp → VK → Prop
abbrev TT := St → Hp → (Bool → Hp → Prop) → Prop
abbrev TA := St → Hp → (List V → Hp → Prop) → Prop
structure Ends where
  nx : St → Hp → Prop
  rt : VK
  bk : St → Hp → Prop := fun _ _ => False
  ct : St → Hp → Prop := fun _ _ => False
abbrev TS := Ends → St → Hp → Prop
def EP (X : Cx) (pins : List (Addr × Obj)) (σ : St) (Q : VK) (u : Value) (s' : Shared) : Prop := ∃ v H', Inv X pins σ H' s' ∧ RelV v u ∧ Q v H'
def TP (X : Cx) (pins : List (Addr × Obj)) (σ : St) (Q : Bool → Hp → Prop) (b : Bool) (s' : Shared) : Prop := ∃ H', Inv X pins σ H' s' ∧ Q b H'
def AP (X : Cx) (pins : List (Addr × Obj)) (σ : St) (Q : List V → Hp → Prop) (us : List Value) (s' : Shared) : Prop := ∃ vs H', Inv X pins σ H' s' ∧ Vals vs us ∧ Q vs H'
def SP (X : Cx) (pins : List (Addr × Obj)) (D : Ends) (f : Flow) (s' : Shared) : Prop :=
  match f with
  | .next => ∃ σ' H', Inv X pins σ' H' s' ∧ D.nx σ' H'
  | .brk => ∃ σ' H', Inv X pins σ' H' s' ∧ D.bk σ' H'
  | .cont => ∃ σ' H', Inv X pins σ' H' s' ∧ D.ct σ' H'
  | .ret u => ∃ v σ' H', Inv X pins σ' H' s' ∧ RelV v u ∧ D.rt v H'
structure PE (X : Cx) (e : Expr) (t : TE) : Prop where
  go : ∀ (pins : List (Addr × Obj)) (s : Shared) (σ : St) (H : Hp) (Q : VK), Inv X pins σ H s → t σ H Q → wpAny (model X.prog X.w) X.A (eval e X.env) (EP X pins σ Q) X.xe s
instance {X : Cx} {e : Expr} {t : TE} : CoeFun (PE X e t) (fun _ => ∀ (pins : List (Addr × Obj)) (s : Shared) (σ : St) (H : Hp) (Q : VK), Inv X pins σ H s → t σ H Q → wpAny (model X.prog X.w) X.A (eval e X.env) (EP X pins σ Q) X.xe s) := ⟨fun h => h.go⟩
structure PT (X : Cx) (e : Expr) (t : TT) : Prop where
  go : ∀ (pins : List (Addr × Obj)) (s : Shared) (σ : St) (H : Hp) (Q : Bool → Hp → Prop), Inv X pins σ H s → t σ H Q → wpAny (model X.prog X.w) X.A (isTrue e X.env (eval e X.env)) (TP X pins σ Q) X.xe s
instance {X : Cx} {e : Expr} {t : TT} : CoeFun (PT X e t) (fun _ => ∀ (pins : List (Addr × Obj)) (s : Shared) (σ : St) (H : Hp) (Q : Bool → Hp → Prop), Inv X pins σ H s → t σ H Q → wpAny (model X.prog X.w) X.A (isTrue e X.env (eval e X.env)) (TP X pins σ Q) X.xe s) := ⟨fun h => h.go⟩
structure PW (X : Cx) (e : Expr) (t : TT) : Prop where
  go : ∀ (whole : Sem Value) (pins : List (Addr × Obj)) (s : Shared) (σ : St) (H : Hp) (Q : Bool → Hp → Prop), Inv X pins σ H s → t σ H Q → wpAny (model X.prog X.w) X.A (isTrue e X.env whole) (TP X pins σ Q) X.xe s
instance {X : Cx} {e : Expr} {t : TT} : CoeFun (PW X e t) (fun _ => ∀ (whole : Sem Value) (pins : List (Addr × Obj)) (s : Shared) (σ : St) (H : Hp) (Q : Bool → Hp → Prop), Inv X pins σ H s → t σ H Q → wpAny (model X.prog X.w) X.A (isTrue e X.env whole) (TP X pins σ Q) X.xe s) := ⟨fun h => h.go⟩
theorem PW.pt {X : Cx} {e : Expr} {t : TT} (h : PW X e t) : PT X e t := ⟨h.go _⟩
structure PA (X : Cx) (es : List Expr) (t : TA) : Prop where
  go : ∀ (pos : Pos) (pins : List (Addr × Obj)) (s : Shared) (σ : St) (H : Hp) (Q : List V → Hp → Prop), Inv X pins σ H s → t σ H Q → wpAny (model X.prog X.w) X.A (spliced (backTo pos (starEach es X.env))) (AP X pins σ Q) X.xe s
instance {X : Cx} {es : List Expr} {t : TA} : CoeFun (PA X es t) (fun _ => ∀ (pos : Pos) (pins : List (Addr × Obj)) (s : Shared) (σ : St) (H : Hp) (Q : List V → Hp → Prop), Inv X pins σ H s → t σ H Q → wpAny (model X.prog X.w) X.A (spliced (backTo pos (starEach es X.env))) (AP X pins σ Q) X.xe s) := ⟨fun h => h.go⟩
structure PS (X : Cx) (st : Stmt) (t : TS) : Prop where
  go : ∀ (pins : List (Addr × Obj)) (s : Shared) (σ : St) (H : Hp) (D : Ends), Inv X pins σ H s → t D σ H → wpAny (model X.prog X.w) X.A (exec st X.env) (SP X pins D) X.xe s
instance {X : Cx} {st : Stmt} {t : TS} : CoeFun (PS X st t) (fun _ => ∀ (pins : List (Addr × Obj)) (s : Shared) (σ : St) (H : Hp) (D : Ends), Inv X pins σ H s → t D σ H → wpAny (model X.prog X.w) X.A (exec st X.env) (SP X pins D) X.xe s) := ⟨fun h => h.go⟩
structure PSs (X : Cx) (st : List Stmt) (t : TS) : Prop where
  go : ∀ (pins : List (Addr × Obj)) (s : Shared) (σ : St) (H : Hp) (D : Ends), Inv X pins σ H s → t D σ H → wpAny (model X.prog X.w) X.A (execs st X.env) (SP X pins D) X.xe s
instance {X : Cx} {st : List Stmt} {t : TS} : CoeFun (PSs X st t) (fun _ => ∀ (pins : List (Addr × Obj)) (s : Shared) (σ : St) (H : Hp) (D : Ends), Inv X pins σ H s → t D σ H → wpAny (model X.prog X.w) X.A (execs st X.env) (SP X pins D) X.xe s) := ⟨fun h => h.go⟩
theorem thn {α : Type} {t : Sem α} {Q Q' : α → Shared → Prop} {M : Model} {A : Around} {E : Value → Shared → Prop} {s : Shared} (h : wpAny M A t Q E s) (hQ : ∀ a s, Q a s → Q' a s) : wpAny M A t Q' E s := wpAny_mono h hQ fun _ _ x => x
end L2
namespace L2
open PySem PySem.Spec PyProof.Rows
section
variable {X : Cx}
theorem bin {a b : Expr} {ta tb : TE} (ha : PE X a ta) (hb : PE X b tb) {pins : List (Addr × Obj)} {s : Shared} {σ : St} {H : Hp} {R : V → V → Hp → Prop} (I : Inv X pins σ H s) (h : ta σ H fun x H1 => tb σ H1 fun y H2 => R x y H2)
    {α : Type} {Q : α → Shared → Prop} {f : Value → Value → Sem α}
    (hf : ∀ v u s2 x y H2, Inv X pins σ H2 s2 → RelV x v → RelV y u → R x y H2 → wpAny (model X.prog X.w) X.A (f v u) Q X.xe s2) :
    wpAny (model X.prog X.w) X.A (eval a X.env) (fun v s₁ => wpAny (model X.prog X.w) X.A (eval b X.env) (fun u s₂ => wpAny (model X.prog X.w) X.A (f v u) Q X.xe s₂) X.xe s₁) X.xe s := by
  refine thn (ha pins s σ H _ I h) fun v s1 ⟨x, H1, I1, r1, q1⟩ => ?_
  refine thn (hb pins s1 σ H1 _ I1 q1) fun u s2 ⟨y, H2, I2, r2, q2⟩ => ?_
  exact hf v u s2 x y H2 I2 r1 r2 q2
def tVar (i : Nat) : TE := fun σ H Q => ∃ v, σ[i]? = some (some v) ∧ Q v H
def tC (v : V) : TE := fun _ H Q => Q v H
theorem pe_var {i : Nat} {x : Str} {pos : Pos} (hN : X.N[i]? = some x) (hv : Vis X.env.scope x) (hd : (x == ("__debug__" : Str)) = false := by decide) (hcd : (x == ("__classdict__" : Str)) = false := by decide) : PE X (.Name x pos) (tVar i) := by
  constructor
  intro pins s σ H Q I h
  obtain ⟨v, e, h⟩ := h
  obtain ⟨m, hn, hl⟩ := I.loc
  obtain ⟨u, r, l⟩ := hl i x v hN e hv
  have fin : EP X pins σ Q u s := ⟨v, H, I, r, h⟩
  rcases l with ⟨hk, hm⟩ | ⟨hk, c, hc, hcell⟩
  · exact wpAny_Name (wpAny_loadName_local I.ok.kind hk hn hm fin) hd
  · rcases hk with hk | hk
    · exact wpAny_Name (wpAny_loadName_cell I.ok.kind hk hc hcell fin) hd
    · exact wpAny_Name (wpAny_loadName_free I.ok.kind hk hc hcell fin hcd) hd
theorem pe_int {i j pos} : PE X (.Constant (.int i) j pos) (tC (.int i)) := ⟨fun _ _ _ H _ I h => wpAny_Constant_int ⟨.int i, H, I.tok _, ⟨_, rfl⟩, h⟩⟩
theorem pe_bl {b j pos} : PE X (.Constant (.bool b) j pos) (tC (.bl b)) := ⟨fun _ _ _ H _ I h => Constant_bool ⟨.bl b, H, I, rfl, h⟩⟩
theorem pe_non {j pos} : PE X (.Constant .none j pos) (tC .non) := ⟨fun _ _ _ H _ I h => Constant_none ⟨.non, H, I, rfl, h⟩⟩
theorem pe_str {x j pos} : PE X (.Constant (.str x) j pos) (tC (.str x)) := ⟨fun _ _ _ H _ I h => Calls.Constant_str ⟨.str x, H, I.tok _, ⟨_, rfl⟩, h⟩⟩
def Gl (X : Cx) (x : Str) : Prop := X.env.kindOf x = some .globalImplicit
theorem ld_glob {E : Value → Shared → Prop} {pins : List (Addr × Obj)} {s : Shared} {σ : St} {H : Hp} {x : Str} {u : Value} {pos : Pos} {Q : Value → Shared → Prop} (I : Inv X pins σ H s) (hg : Gl X x) (hm : X.mg x = some u) (h : Q u s)
    (hd : (x == ("__debug__" : Str)) = false := by decide) : wpAny (model X.prog X.w) X.A (eval (.Name x pos) X.env) Q E s :=
  Calls.Name_function_global I.ok.kind hg (Calls.loadGlobal_global (by rw [I.ok.glob]; exact I.mod.glob.keeps I.bk) hm h) hd
theorem ld_blt {E : Value → Shared → Prop} {pins : List (Addr × Obj)} {s : Shared} {σ : St} {H : Hp} {x : Str} {u : Value} {pos : Pos} {Q : Value → Shared → Prop} (I : Inv X pins σ H s) (hg : Gl X x) (hm : X.mg x = none) (hv : bootBuiltins x = some u) (h : Q u s)
    (hn : x ≠ "__name__" := by decide) (hd : (x == ("__debug__" : Str)) = false := by decide) : wpAny (model X.prog X.w) X.A (eval (.Name x pos) X.env) Q E s := by
  obtain ⟨mb, h1, h2⟩ := I.mod.blt
  exact Calls.Name_function_global I.ok.kind hg (Calls.loadGlobal_builtin (by rw [I.ok.glob]; exact I.mod.glob.keeps I.bk) hm (by rw [I.ok.blt]; exact h1.keeps I.bk) ((h2 x hn).trans hv) h) hd
theorem pe_glob {x : Str} {v : V} {u : Value} {pos : Pos} (hg : Gl X x) (hm : X.mg x = some u) (r : RelV v u) (hd : (x == ("__debug__" : Str)) = false := by decide) : PE X (.Name x pos) (tC v) :=
  ⟨fun _ _ _ H _ I h => ld_glob I hg hm ⟨v, H, I, r, h⟩ hd⟩
theorem pe_bltn {x : Str} {v : V} {u : Value} {pos : Pos} (hg : Gl X x) (hm : X.mg x = none) (hv : bootBuiltins x = some u) (r : RelV v u) (hn : x ≠ "__name__" := by decide) (hd : (x == ("__debug__" : Str)) = false := by decide) : PE X (.Name x pos) (tC v) :=
  ⟨fun _ _ _ H _ I h => ld_blt I hg hm hv ⟨v, H, I, r, h⟩ hn hd⟩
def t2I (ta tb : TE) (k : Int → Int → Hp → Prop) : St → Hp → Prop := fun σ H => ta σ H fun x H1 => tb σ H1 fun y H2 => ∃ i j, x = .int i ∧ y = .int j ∧ k i j H2
def tAdd (ta tb : TE) : TE := fun σ H Q => t2I ta tb (fun i j H2 => Q (.int (i + j)) H2) σ H
def tSub (ta tb : TE) : TE := fun σ H Q => t2I ta tb (fun i j H2 => Q (.int (i - j)) H2) σ H
def tMul (ta tb : TE) : TE := fun σ H Q => t2I ta tb (fun i j H2 => (-(2 ^ 64) < i ∧ i < 2 ^ 64) ∧ Q (.int (i * j)) H2) σ H
variable {a b : Expr} {ta tb : TE} {pos : Pos}
structure PC (X : Cx) (op : CmpOp) (a b : Expr) (t : TE) : Prop where
  go : ∀ (pins : List (Addr × Obj)) (s : Shared) (σ : St) (H : Hp) (Q : VK), Inv X pins σ H s → t σ H Q →
    wpAny (model X.prog X.w) X.A (eval a X.env) (fun v s₁ => wpAny (model X.prog X.w) X.A (eval b X.env) (fun u s₂ => wpAny (model X.prog X.w) X.A (compareOp op v u) (EP X pins σ Q) X.xe s₂) X.xe s₁) X.xe s
instance {X : Cx} {op : CmpOp} {a b : Expr} {t : TE} : CoeFun (PC X op a b t) (fun _ => ∀ (pins : List (Addr × Obj)) (s : Shared) (σ : St) (H : Hp) (Q : VK), Inv X pins σ H s → t σ H Q →
    wpAny (model X.prog X.w) X.A (eval a X.env) (fun v s₁ => wpAny (model X.prog X.w) X.A (eval b X.env) (fun u s₂ => wpAny (model X.prog X.w) X.A (compareOp op v u) (EP X pins σ Q) X.xe s₂) X.xe s₁) X.xe s) := ⟨fun h => h.go⟩
def tCmp (p : Int → Int → Bool) (ta tb : TE) : TE := fun σ H Q => t2I ta tb (fun i j H2 => Q (.bl (p i j)) H2) σ H
abbrev tLt : TE → TE → TE := tCmp fun i j => decide (i < j)
abbrev tLe : TE → TE → TE := tCmp fun i j => decide (i ≤ j)
abbrev tGt : TE → TE → TE := tCmp fun i j => decide (j < i)
abbrev tGe : TE → TE → TE := tCmp fun i j => decide (j ≤ i)
abbrev tEqI : TE → TE → TE := tCmp fun i j => decide (i = j)
abbrev tNeI : TE → TE → TE := tCmp fun i j => !decide (i = j)
def tIsN (ta : TE) : TE := fun σ H Q => ta σ H fun x H1 => Q (.bl (decide (x = .non))) H1
def tNotN (ta : TE) : TE := fun σ H Q => ta σ H fun x H1 => Q (.bl (!decide (x = .non))) H1
def tB (t : TE) : TT := fun σ H Q => t σ H fun x H1 => ∃ c, x = .bl c ∧ Q c H1
theorem pt_cmp {op : CmpOp} {t : TE} (h : PC X op a b t) (h1 : behindInMarks op b = false := by first | exact nobehind _ (by decide) (by decide) | rfl) : PT X (.Compare a [op] [b] pos) (tB t) := by
  constructor
  intro pins s σ H Q I hw
  refine wpAny_isTrue_Compare1 (thn (h pins s σ H _ I hw) fun v s1 h1 => thn h1 fun u s2 h2 => thn h2 fun c s3 ⟨x, H1, I1, r1, q1⟩ => ?_) h1
  obtain ⟨d, rfl, q⟩ := q1
  cases r1
  exact wpAny_truthy_bool ⟨H1, I1, q⟩
theorem pt_val {e : Expr} {t : TE} (h : PE X e t) (he : ∀ whole, isTrue e X.env whole = (do let v ← whole; standAt e.pos; holding [v] (truthy v)) := by intro _; rfl) : PT X e (tB t) := by
  constructor
  intro pins s σ H Q I hw
  refine isTrue_plain (thn (h pins s σ H _ I hw) fun v s1 ⟨x, H1, I1, r1, q1⟩ => ?_) (he _)
  obtain ⟨d, rfl, q⟩ := q1
  cases r1
  exact wpAny_truthy_bool ⟨H1, I1, q⟩
variable {tA tB' : TT} {rest : List Expr}
def tAnd (t u : TT) : TT := fun σ H Q => t σ H fun c H1 => if c = true then u σ H1 Q else Q false H1
def tOr (t u : TT) : TT := fun σ H Q => t σ H fun c H1 => if c = true then Q true H1 else u σ H1 Q
def tNot (t : TT) : TT := fun σ H Q => t σ H fun c H1 => Q (!c) H1
theorem pw_and1 (ha : PT X a tA) : PW X (.BoolOp .And [a] pos) tA := by
  constructor
  intro wh pins s σ H Q I h
  refine isTrue_and (thn (ha pins s σ H Q I h) fun c s1 e => ?_)
  cases c with
  | true => exact isTrue_and_nil e
  | false => exact e
theorem pw_or1 (ha : PT X a tA) : PW X (.BoolOp .Or [a] pos) tA := by
  constructor
  intro wh pins s σ H Q I h
  refine isTrue_or (thn (ha pins s σ H Q I h) fun c s1 e => ?_)
  cases c with
  | false => exact isTrue_or_nil e
  | true => exact e
theorem pw_and (ha : PT X a tA) (hb : PW X (.BoolOp .And (b :: rest) pos) tB') : PW X (.BoolOp .And (a :: b :: rest) pos) (tAnd tA tB') := by
  constructor
  intro wh pins s σ H Q I h
  refine isTrue_and (thn (ha pins s σ H _ I h) fun c s1 ⟨H1, I1, q1⟩ => ?_)
  cases c with
  | true => exact hb wh pins s1 σ H1 Q I1 q1
  | false => exact ⟨H1, I1, q1⟩
theorem pw_or (ha : PT X a tA) (hb : PW X (.BoolOp .Or (b :: rest) pos) tB') : PW X (.BoolOp .Or (a :: b :: rest) pos) (tOr tA tB') := by
  constructor
  intro wh pins s σ H Q I h
  refine isTrue_or (thn (ha pins s σ H _ I h) fun c s1 ⟨H1, I1, q1⟩ => ?_)
  cases c with
  | true => exact ⟨H1, I1, q1⟩
  | false => exact hb wh pins s1 σ H1 Q I1 q1
theorem pt_not (ha : PT X a tA) : PT X (.UnaryOp .Not a pos) (tNot tA) := by
  constructor
  intro pins s σ H Q I h
  exact isTrue_not (ha pins s σ H (fun c H1 => Q (!c) H1) I h)
def tAndV (ta tb : TE) : TE := fun σ H Q => ta σ H fun x H1 => ∃ c, x = .bl c ∧ if c = true then tb σ H1 Q else Q (.bl false) H1
def tOrV (ta tb : TE) : TE := fun σ H Q => ta σ H fun x H1 => ∃ c, x = .bl c ∧ if c = true then Q (.bl true) H1 else tb σ H1 Q
def tNotV (ta : TE) : TE := fun σ H Q => ta σ H fun x H1 => ∃ c, x = .bl c ∧ Q (.bl (!c)) H1
theorem pe_one {op} {t : TE} (h : PE X a t) : PE X (.BoolOp op [a] pos) t := ⟨fun pins s σ H Q I hw => BoolOp_one (h pins s σ H Q I hw)⟩
theorem pe_and (ha : PE X a ta) (hb : PE X (.BoolOp .And (b :: rest) pos) tb) : PE X (.BoolOp .And (a :: b :: rest) pos) (tAndV ta tb) := by
  constructor
  intro pins s σ H Q I h
  refine BoolOp_and (thn (ha pins s σ H _ I h) fun v s1 ⟨x, H1, I1, r1, q1⟩ => ?_)
  obtain ⟨c, rfl, q1⟩ := q1
  cases r1
  refine wpAny_truthy_bool ?_
  cases c with
  | true => exact hb pins s1 σ H1 Q I1 q1
  | false => exact ⟨.bl false, H1, I1, rfl, q1⟩
theorem pe_not (ha : PE X a ta) : PE X (.UnaryOp .Not a pos) (tNotV ta) := by
  constructor
  intro pins s σ H Q I h
  refine UnaryOp_ (thn (ha pins s σ H _ I h) fun v s1 ⟨x, H1, I1, r1, q1⟩ => ?_)
  obtain ⟨c, rfl, q1⟩ := q1
  cases r1
  exact not_of (wpAny_truthy_bool ⟨.bl (!c), H1, I1, rfl, q1⟩)
def tIf (t : TT) (ta tb : TE) : TE := fun σ H Q => t σ H fun c H1 => if c = true then ta σ H1 Q else tb σ H1 Q
theorem pe_ifExp {c : Expr} (hc : PT X c tA) (ha : PE X a ta) (hb : PE X b tb) : PE X (.IfExp c a b pos) (tIf tA ta tb) := by
  constructor
  intro pins s σ H Q I h
  refine wpAny_IfExp (thn (hc pins s σ H _ I h) fun d s1 ⟨H1, I1, q1⟩ => ?_)
  cases d with
  | true => exact ha pins s1 σ H1 Q I1 q1
  | false => exact hb pins s1 σ H1 Q I1 q1
end
end L2
namespace L2
open PySem PySem.Spec PyProof.Rows
def SqL (K : PySem.W.Frag) (H : Hp) (a : Addr) (xs : List V) : Prop :=
  Rd H a (.lst xs) ∨
    ∃ (o : Obj) (its : Array Value) (n : Nat), K.lookup a = some o ∧ o.cls = .type "list" ∧ o.dict = none ∧ o.data = .seq its n ∧ its.size ≤ sizeLine ∧ Vals xs its.toList
def SqT (K : PySem.W.Frag) (H : Hp) (a : Addr) (xs : List V) : Prop :=
  Rd H a (.tup xs) ∨
    ∃ (o : Obj) (its : Array Value) (n : Nat), K.lookup a = some o ∧ o.cls = .type "tuple" ∧ o.data = .seq its n ∧ its.size ≤ sizeLine ∧ Vals xs its.toList
def absV : Value → Option V
  | .none => some .non
  | .bool b => some (.bl b)
  | .int i _ => some (.int i)
  | .str x _ => some (.str x)
  | .bytes b _ => some (.byt b)
  | .float b _ => some (.flt b)
  | .ref a => some (.ref a)
  | .type n => some (.ty n)
  | _ => none
theorem RelV.abs {x : V} {u : Value} (r : RelV x u) : absV u = some x := by
  cases x with
  | non => cases r; rfl
  | bl _ => cases r; rfl
  | int _ => obtain ⟨t, rfl⟩ := r; rfl
  | str _ => obtain ⟨t, rfl⟩ := r; rfl
  | byt _ => obtain ⟨t, rfl⟩ := r; rfl
  | flt _ => obtain ⟨t, rfl⟩ := r; rfl
  | ref _ => cases r; rfl
  | ty _ => cases r; rfl
theorem RelV.inj {x y : V} {u : Value} (r : RelV x u) (q : RelV y u) : x = y := Option.some.inj (r.abs.symm.trans q.abs)
theorem Vals.inj : ∀ {xs ys : List V} {us : List Value}, Vals xs us → Vals ys us → xs = ys
  | _, _, _, .nil, .nil => rfl
  | _, _, _, .cons r t, .cons r' t' => by rw [r.inj r', Vals.inj t t']
section
variable {X : Cx} {pins : List (Addr × Obj)} {σ : St} {H : Hp} {s : Shared} {a : Addr} {xs ys : List V}
theorem SqL.of {K : PySem.W.Frag} (h : H a = some (.lst xs)) : SqL K H a xs := .inl (.inl h)
theorem SqT.of {K : PySem.W.Frag} (h : H a = some (.tup xs)) : SqT K H a xs := .inl (.inl h)
theorem Inv.list (I : Inv X pins σ H s) (h : SqL X.K H a xs) : ∃ its : List Value, Vals xs its ∧ PlainL s.heap a its.toArray ∧ xs.length ≤ sizeLine := by
  rcases h with h | ⟨o, its, n, hk, hc, hd, hs, hz, r⟩
  · obtain ⟨z, its, n, r, e⟩ := h.ok I.hok
    exact ⟨its, r, ⟨_, n, e, rfl, rfl, rfl⟩, z⟩
  · refine ⟨its.toList, r, ⟨o, n, I.kIn a o hk, hc, hd, by simpa using hs⟩, ?_⟩
    have e := r.length
    simp only [Array.length_toList] at e
    omega
theorem Inv.tuple (I : Inv X pins σ H s) (h : SqT X.K H a xs) : ∃ its : List Value, Vals xs its ∧ IsTup s.heap a its.toArray ∧ xs.length ≤ sizeLine := by
  rcases h with h | ⟨o, its, n, hk, hc, hs, hz, r⟩
  · obtain ⟨z, its, r, p⟩ := h.ok I.hok
    exact ⟨its, r, p, z⟩
  · refine ⟨its.toList, r, ⟨o, I.kIn a o hk, hc, n, by simpa using hs⟩, ?_⟩
    have e := r.length
    simp only [Array.length_toList] at e
    omega
theorem Inv.list_inj (I : Inv X pins σ H s) (h : SqL X.K H a xs) (h' : SqL X.K H a ys) : xs = ys := by
  obtain ⟨its, r, ⟨o, n, e, _, _, d⟩, _⟩ := I.list h
  obtain ⟨its', r', ⟨o', n', e', _, _, d'⟩, _⟩ := I.list h'
  rw [e] at e'; cases e'
  rw [d] at d'
  injection d' with d1 _
  have : its = its' := by simpa using congrArg Array.toList d1
  subst this
  exact r.inj r'
theorem Inv.tuple_inj (I : Inv X pins σ H s) (h : SqT X.K H a xs) (h' : SqT X.K H a ys) : xs = ys := by
  obtain ⟨its, r, ⟨o, e, _, n, d⟩, _⟩ := I.tuple h
  obtain ⟨its', r', ⟨o', e', _, n', d'⟩, _⟩ := I.tuple h'
  rw [e] at e'; cases e'
  rw [d] at d'
  injection d' with d1 _
  have : its = its' := by simpa using congrArg Array.toList d1
  subst this
  exact r.inj r'
end
abbrev Cx.wish (X : Cx) (E : Value → Shared → Prop) : Cx := { X with xe := E }
abbrev Cx.nox (X : Cx) : Cx := X.wish fun _ _ => False
theorem Cx.Ok.wish {X : Cx} (ok : X.Ok) (E : Value → Shared → Prop) : (X.wish E).Ok :=
  ⟨ok.mod, ok.kind, ok.glob, ok.blt, ok.above, ok.inj, ok.has, ok.cab, ok.hd, ok.frames, ok.stk, ok.exf, ok.bs, ok.bsz, ok.noex, ok.exfs, ok.funs, ok.frf⟩
theorem Cx.Ok.unwish {X : Cx} {E : Value → Shared → Prop} (ok : (X.wish E).Ok) : X.Ok :=
  ⟨ok.mod, ok.kind, ok.glob, ok.blt, ok.above, ok.inj, ok.has, ok.cab, ok.hd, ok.frames, ok.stk, ok.exf, ok.bs, ok.bsz, ok.noex, ok.exfs, ok.funs, ok.frf⟩
section
variable {X : Cx} {pins : List (Addr × Obj)} {σ : St} {H : Hp} {s : Shared} {E : Value → Shared → Prop}
theorem Inv.wish (I : Inv X pins σ H s) (E : Value → Shared → Prop) : Inv (X.wish E) pins σ H s := ⟨I.ok.wish E, I.os, I.bare, I.base, I.loc, I.cell, I.free, I.freeC, I.pin, I.hok, I.len⟩
theorem Inv.unwish (I : Inv (X.wish E) pins σ H s) : Inv X pins σ H s := ⟨I.ok.unwish, I.os, I.bare, I.base, I.loc, I.cell, I.free, I.freeC, I.pin, I.hok, I.len⟩
theorem SP.unwish {D : Ends} {f : Flow} {s' : Shared} (h : SP (X.wish E) pins D f s') : SP X pins D f s' := by
  cases f with
  | next => obtain ⟨σ', H', I, q⟩ := h; exact ⟨σ', H', I.unwish, q⟩
  | brk => obtain ⟨σ', H', I, q⟩ := h; exact ⟨σ', H', I.unwish, q⟩
  | cont => obtain ⟨σ', H', I, q⟩ := h; exact ⟨σ', H', I.unwish, q⟩
  | ret u => obtain ⟨v, σ', H', I, r, q⟩ := h; exact ⟨v, σ', H', I.unwish, r, q⟩
theorem PSs.nox {st : List Stmt} {t : TS} (h : PSs X.nox st t) : PSs X st t := ⟨fun pins s σ H D I hw =>
  wpAny_mono (h pins s σ H D (I.wish _) hw) (fun _ _ q => q.unwish) fun _ _ z => False.elim z⟩
end
section
variable {X : Cx} {st : Stmt} {rest : List Stmt} {t u : TS} {e : Expr} {te : TE} {pos : Pos}
def tNext : TS := fun D σ H => D.nx σ H
def tSeq (t u : TS) : TS := fun D σ H => t { D with nx := u D } σ H
theorem pss_nil : PSs X [] tNext := ⟨fun _ _ σ H _ I h => wpAny_execs_nil ⟨σ, H, I, h⟩⟩
theorem pss_cons (h1 : PS X st t) (h2 : PSs X rest u) : PSs X (st :: rest) (tSeq t u) := by
  constructor
  intro pins s σ H D I h
  refine wpAny_execs_cons (thn (h1 pins s σ H { D with nx := u D } I h) fun f s1 q => ?_)
  cases f with
  | next =>
    obtain ⟨σ', H', I', q⟩ := q
    exact h2 pins s1 σ' H' D I' q
  | ret v => exact q
  | brk => exact q
  | cont => exact q
theorem pss_one (h1 : PS X st t) : PSs X [st] t := by
  constructor
  intro pins s σ H D I h
  refine wpAny_execs_cons (thn (h1 pins s σ H D I h) fun f s1 q => ?_)
  cases f with
  | next => exact wpAny_execs_nil q
  | ret v => exact q
  | brk => exact q
  | cont => exact q
def tBreak : TS := fun D σ H => D.bk σ H
def tCont : TS := fun D σ H => D.ct σ H
theorem Inv.quiet {pins : List (Addr × Obj)} {σ : St} {H : Hp} {s : Shared} (I : Inv X pins σ H s) : interactive X.env = false := by simp [interactive, I.ok.kind]
def tDrop (te : TE) : TS := fun D σ H => te σ H fun _ H1 => D.nx σ H1
theorem ps_expr (he : PE X e te) (hs : swapsWith e none pos.line X.env = pure false := by rfl) : PS X (.Expr e pos) (tDrop te) := by
  constructor
  intro pins s σ H D I h
  exact wpAny_Expr_any (thn (he pins s σ H _ I h) fun v s1 ⟨x, H1, I1, r1, q1⟩ => ⟨σ, H1, I1, q1⟩) I.quiet hs
def tRet (te : TE) : TS := fun D σ H => te σ H D.rt
theorem ps_ret (he : PE X e te) : PS X (.Return (some e) pos) (tRet te) := by
  constructor
  intro pins s σ H D I h
  exact wpAny_Return_some (thn (he pins s σ H _ I h) fun v s1 ⟨x, H1, I1, r1, q1⟩ => ⟨x, σ, H1, I1, r1, q1⟩)
def tRetN : TS := fun D _ H => D.rt .non H
def tIfS (c : TT) (t u : TS) : TS := fun D σ H => c σ H fun b H1 => if b = true then t D σ H1 else u D σ H1
theorem ps_if {c : Expr} {a b : List Stmt} {tc : TT} (hc : PT X c tc) (ha : PSs X a t) (hb : PSs X b u) : PS X (.If c a b pos) (tIfS tc t u) := by
  constructor
  intro pins s σ H D I h
  refine wpAny_If (thn (hc pins s σ H _ I h) fun d s1 ⟨H1, I1, q1⟩ => ?_)
  cases d with
  | true => exact ha pins s1 σ H1 D I1 q1
  | false => exact hb pins s1 σ H1 D I1 q1
def tNever : TS := fun _ _ _ => False
end
abbrev TG := V → St → Hp → (St → Hp → Prop) → Prop
abbrev TGs := List V → St → Hp → (St → Hp → Prop) → Prop
structure PG (X : Cx) (target : Expr) (t : TG) : Prop where
  go : ∀ (pins : List (Addr × Obj)) (s : Shared) (σ : St) (H : Hp) (v : V) (u : Value) (Q : St → Hp → Prop), Inv X pins σ H s → RelV v u → t v σ H Q →
    wpAny (model X.prog X.w) X.A (assign target X.env u) (fun _ s' => ∃ σ' H', Inv X pins σ' H' s' ∧ Q σ' H') X.xe s
instance {X : Cx} {target : Expr} {t : TG} : CoeFun (PG X target t) (fun _ => ∀ (pins : List (Addr × Obj)) (s : Shared) (σ : St) (H : Hp) (v : V) (u : Value) (Q : St → Hp → Prop), Inv X pins σ H s → RelV v u → t v σ H Q →
    wpAny (model X.prog X.w) X.A (assign target X.env u) (fun _ s' => ∃ σ' H', Inv X pins σ' H' s' ∧ Q σ' H') X.xe s) := ⟨fun h => h.go⟩
structure PGs (X : Cx) (ts : List Expr) (t : TGs) : Prop where
  go : ∀ (pins : List (Addr × Obj)) (s : Shared) (σ : St) (H : Hp) (vs : List V) (us : List Value) (Q : St → Hp → Prop), Inv X pins σ H s → Vals vs us → t vs σ H Q →
    wpAny (model X.prog X.w) X.A (assignInOrder ((assignEach ts X.env).map (·.2)) us) (fun _ s' => ∃ σ' H', Inv X pins σ' H' s' ∧ Q σ' H') X.xe s
instance {X : Cx} {ts : List Expr} {t : TGs} : CoeFun (PGs X ts t) (fun _ => ∀ (pins : List (Addr × Obj)) (s : Shared) (σ : St) (H : Hp) (vs : List V) (us : List Value) (Q : St → Hp → Prop), Inv X pins σ H s → Vals vs us → t vs σ H Q →
    wpAny (model X.prog X.w) X.A (assignInOrder ((assignEach ts X.env).map (·.2)) us) (fun _ s' => ∃ σ' H', Inv X pins σ' H' s' ∧ Q σ' H') X.xe s) := ⟨fun h => h.go⟩
abbrev TSet := V → V → V → Hp → (Hp → Prop) → Prop
def PSet (X : Cx) (t : TSet) : Prop :=
  ∀ (pins : List (Addr × Obj)) (s : Shared) (σ : St) (H : Hp) (o i v : V) (ov iv u : Value) (Q : Hp → Prop), Inv X pins σ H s → RelV o ov → RelV i iv → RelV v u → t o i v H Q →
    wpAny (model X.prog X.w) X.A (setItem ov iv u) (fun _ s' => ∃ H', Inv X pins σ H' s' ∧ Q H') X.xe s
abbrev TIp := V → V → Hp → VK → Prop
def PIp (X : Cx) (op : Operator) (t : TIp) : Prop :=
  ∀ (pins : List (Addr × Obj)) (s : Shared) (σ : St) (H : Hp) (x y : V) (v u : Value) (Q : VK), Inv X pins σ H s → RelV x v → RelV y u → t x y H Q →
    wpAny (model X.prog X.w) X.A (inplaceOp op v u) (EP X pins σ Q) X.xe s
section
variable {X : Cx} {pos : Pos}
def gName (i : Nat) : TG := fun v σ H Q => Q (σ.set i (some v)) H
theorem pg_name {i : Nat} {x : Str} (hN : X.N.Nodup) (hi : X.N[i]? = some x) (hx : Loc X.env.scope x) (hf : X.fn x = true ∨ X.env.scope.names.lookup x = some .local := by first | exact .inl rfl | exact .inr rfl | assumption) : PG X (.Name x pos) (gName i) := by
  constructor
  intro pins s σ H v u Q I r h
  exact wpAny_assign_Name (store_ok I hN hi hx r (fun s' I' => ⟨_, H, I', h⟩) hf)
def gNil : TGs := fun vs σ H Q => vs = [] ∧ Q σ H
def gCons (t : TG) (u : TGs) : TGs := fun vs σ H Q => ∃ v r, vs = v :: r ∧ t v σ H fun σ' H' => u r σ' H' Q
theorem pgs_nil : PGs X [] gNil := by
  constructor
  intro pins s σ H vs us Q I r h
  obtain ⟨e, h⟩ := h
  subst e
  cases r
  exact assignInOrder_nil ⟨σ, H, I, h⟩
theorem pgs_cons {e : Expr} {es : List Expr} {t : TG} {u : TGs} (h1 : PG X e t) (h2 : PGs X es u)
    (hs : (assignEach (e :: es) X.env).map (·.2) = assign e X.env :: (assignEach es X.env).map (·.2) := by rfl) : PGs X (e :: es) (gCons t u) := by
  constructor
  intro pins s σ H vs us Q I r h
  obtain ⟨v, vr, e1, h⟩ := h
  subst e1
  cases r with
  | cons r rr =>
    rw [hs]
    refine assignInOrder_cons (thn (h1 pins s σ H _ _ _ I r h) fun _ s1 ⟨σ1, H1, I1, q1⟩ => ?_)
    exact h2 pins s1 σ1 H1 _ _ Q I1 rr q1
def gTup (K : PySem.W.Frag) (n : Nat) (t : TGs) : TG := fun v σ H Q => ∃ a xs, v = .ref a ∧ SqT K H a xs ∧ xs.length = n ∧ t xs σ H Q
theorem pg_tup {es : List Expr} {k : Nat} {t : TGs} {n : Nat} (hc : X.calm = true) (h : PGs X es t)
    (hn : (assignEach es X.env).length = n := by rfl) (hst : (assignEach es X.env).findIdx? (·.1) = none := by rfl) : PG X (.Tuple es k pos) (gTup X.K n t) := by
  constructor
  intro pins s σ H v u Q I r hw
  obtain ⟨a, xs, e1, hq, hl, hw⟩ := hw
  subst e1
  cases r
  obtain ⟨its, rv, ht, hz⟩ := I.tuple hq
  refine assign_Tuple_tuple (I.ok.hd hc) ht (by simp [hn, ← hl, rv.length]) hst fun h' hx => ?_
  have I1 : Inv X pins σ H { s with heap := h' } := I.kept (t' := s.toks) fun b o e => hx b o (Nat.ne_of_lt (Heap.lt_size e)) e
  exact h pins _ σ H xs _ Q I1 (by simpa using rv) hw
def gSub (to ti : TE) (t : TSet) : TG := fun v σ H Q => to σ H fun o H1 => ti σ H1 fun i H2 => t o i v H2 fun H3 => Q σ H3
theorem pg_sub {o i : Expr} {to ti : TE} {t : TSet} (ho : PE X o to) (hi : PE X i ti) (hs : PSet X t)
    (ha : ∀ v, assign (.Subscript o i pos) X.env v = (do
      let ov ← holding [v] (eval o X.env)
      let iv ← holding [v, ov] (eval i X.env)
      standAt pos
      holding [v, ov, iv] (setItem ov iv v)
      release [v, ov, iv] []) := by intro _; rfl) : PG X (.Subscript o i pos) (gSub to ti t) := by
  constructor
  intro pins s σ H v u Q I r h
  rw [ha]
  refine wpAny_bind (wpAny_holding (thn (ho pins s σ H _ I h) fun ov s1 ⟨x, H1, I1, r1, q1⟩ => ?_))
  refine wpAny_bind (wpAny_holding (thn (hi pins s1 σ H1 _ I1 q1) fun iv s2 ⟨y, H2, I2, r2, q2⟩ => ?_))
  refine wpAny_bind (wpAny_standAt (wpAny_bind (wpAny_holding (thn (hs pins s2 σ H2 x y v ov iv u _ I2 r1 r2 r q2) fun _ s3 ⟨H3, I3, q3⟩ => ?_))))
  exact wpAny_release ⟨σ, H3, I3, q3⟩
def tAsg (te : TE) (g : TG) : TS := fun D σ H => te σ H fun x H1 => g x σ H1 D.nx
theorem ps_asg {tg e : Expr} {te : TE} {g : TG} (he : PE X e te) (hg : PG X tg g) (hs : swapsWithSole [tg] e pos.line X.env = pure false := by rfl) (hw : swappedStores [tg] e X.env = pure none := by rfl)
    (h1 : (assignEach [tg] X.env).map (·.2) = [assign tg X.env] := by rfl) : PS X (.Assign [tg] e pos) (tAsg te g) := by
  constructor
  intro pins s σ H D I h
  refine wpAny_Assign_stores (thn (he pins s σ H _ I h) fun v s1 ⟨x, H1, I1, r1, q1⟩ => ?_) hs hw
  rw [h1]
  exact thn (hg pins s1 σ H1 x v _ I1 r1 q1) fun _ s2 q => q
theorem ps_set {i : Nat} {x : Str} {e : Expr} {te : TE} {pos' : Pos} (hN : X.N.Nodup) (hi : X.N[i]? = some x) (hx : Loc X.env.scope x) (he : PE X e te) (hs : swapsWith e (some (.Name x pos')) pos.line X.env = pure false := by rfl) (hf : X.fn x = true ∨ X.env.scope.names.lookup x = some .local := by first | exact .inl rfl | exact .inr rfl | assumption) :
    PS X (.Assign [.Name x pos'] e pos) (tAsg te (gName i)) := by
  constructor
  intro pins s σ H D I h
  refine wpAny_Assign_Name (thn (he pins s σ H _ I h) fun v s1 ⟨y, H1, I1, r1, q1⟩ => ?_) hs
  exact store_ok I1 hN hi hx r1 (fun s2 I2 => ⟨_, H1, I2, q1⟩) hf
def tPar (i j : Nat) (ta : TA) : TS := fun D σ H => ta σ H fun vs H1 => ∃ v w, vs = [v, w] ∧ D.nx ((σ.set i (some v)).set j (some w)) H1
def tAug (i : Nat) (te : TE) (ti : TIp) : TS := fun D σ H => ∃ x, σ[i]? = some (some x) ∧ te σ H fun y H1 => ti x y H1 fun z H2 => D.nx (σ.set i (some z)) H2
def tAugS (to ti te : TE) (tget : V → V → Hp → VK → Prop) (tip : TIp) (tset : TSet) : TS := fun D σ H => to σ H fun o H1 => ti σ H1 fun i H2 => tget o i H2 fun x H3 => te σ H3 fun y H4 => tip x y H4 fun z H5 => tset o i z H5 fun H6 => D.nx σ H6
def PGet (X : Cx) (t : V → V → Hp → VK → Prop) : Prop :=
  ∀ (pins : List (Addr × Obj)) (s : Shared) (σ : St) (H : Hp) (o i : V) (ov iv : Value) (Q : VK), Inv X pins σ H s → RelV o ov → RelV i iv → t o i H Q →
    wpAny (model X.prog X.w) X.A (getItem ov iv) (EP X pins σ Q) X.xe s
def ipI (f : Int → Int → Int) : TIp := fun x y H Q => ∃ i j, x = .int i ∧ y = .int j ∧ Q (.int (f i j)) H
end
section
variable {X : Cx} {pos : Pos}
def tWhile (c : TT) (tb : TS) : TS := fun D σ H => ∃ W : Nat → St → Hp → Prop, (∃ m, W m σ H) ∧ ∀ m σ H, W m σ H →
  c σ H fun b H1 => if b = true then ∃ N : St → Hp → Prop, (∀ σ' H', N σ' H' → ∃ m', m' < m ∧ W m' σ' H') ∧ tb { D with nx := N, ct := N, bk := D.nx } σ H1 else D.nx σ H1
end
structure It where
  go : Nat → Hp → Prop
  yld : Nat → Hp → V → Hp → Prop
  stop : Nat → Hp → Prop
def FpOk (X : Cx) (pins : List (Addr × Obj)) (H : Hp) (b : Addr) : Prop :=
  H b = none ∧ b ≠ X.env.locals ∧ b ∉ X.fs ∧ (b ∈ X.ex ∨ X.s₀.heap.objs.size ≤ b) ∧ (∀ x c, X.env.cells.lookup x = some c → c ≠ b) ∧ ∀ p ∈ X.pn ++ pins, p.1 ≠ b
theorem Inv.fpOk {X : Cx} {pins : List (Addr × Obj)} {σ : St} {H H' : Hp} {s : Shared} {b : Addr} (I : Inv X pins σ H s) (hb : s.heap.objs.size ≤ b) (hn : H' b = none) : FpOk X pins H' b := by
  refine ⟨hn, Nat.ne_of_gt (Nat.lt_of_lt_of_le I.lt hb), I.nofs hb, .inr (Nat.le_trans I.sz hb), fun x c e z => ?_, fun p hp z => ?_⟩
  · obtain ⟨v, q⟩ := I.cell x c e
    exact absurd (Nat.lt_of_lt_of_le q.lt (by rw [z]; exact hb)) (Nat.lt_irrefl _)
  · exact absurd (Nat.lt_of_lt_of_le (Heap.lt_size (I.pin p hp).1) (by rw [z]; exact hb)) (Nat.lt_irrefl _)
structure Turn (P : Program) (w : World) (K : PySem.W.Frag) (tg : Expr) (J : It) (fp : List Addr) (it : Addr) (tn : Nat → Heap → Prop) : Prop where
  mem : it ∈ fp
  obj : ∀ i h, tn i h → ∀ b ∈ fp, ∃ o, h.get? b = some o ∧ ∀ v, o.data ≠ .cell v
  keep : ∀ i h h', tn i h → (∀ b ∈ fp, ∀ o, h.get? b = some o → h'.get? b = some o) → tn i h'
  item : ∀ (X : Cx), X.prog = P → X.w = w → X.K = K → X.calm = true → ∀ (i : Nat) (pins : List (Addr × Obj)) (s : Shared) (σ : St) (H : Hp) (E : Value → Shared → Prop), Inv X pins σ H s → (∀ b ∈ fp, FpOk X pins H b) → tn i s.heap → J.go i H →
    wpAny (model P w) X.A (pyNext (.ref it)) (fun r s1 => ∃ u, r = some u ∧
      wpAny (model P w) X.A (letOwnedTupleGo tg (.ref it) u) (fun _ s2 => ∃ x H', Inv X pins σ H' s2 ∧ RelV x u ∧ J.yld i H x H' ∧ tn (i + 1) s2.heap ∧ ∀ b ∈ fp, H' b = none) E s1) E s
  done : ∀ (X : Cx), X.prog = P → X.w = w → X.K = K → X.calm = true → ∀ (i : Nat) (pins : List (Addr × Obj)) (s : Shared) (σ : St) (H : Hp) (E : Value → Shared → Prop), Inv X pins σ H s → (∀ b ∈ fp, FpOk X pins H b) → tn i s.heap → J.stop i H →
    wpAny (model P w) X.A (pyNext (.ref it)) (fun r s1 => r = none ∧ Inv X pins σ H s1) E s
  self : ∀ (A : Around) (i : Nat) (s : Shared) (Q : Value → Shared → Prop) (E : Value → Shared → Prop), tn i s.heap → Q (.ref it) s → wpAny (model P w) A (pyIter (.ref it)) Q E s
abbrev TI := St → Hp → (It → Hp → Prop) → Prop
def PIE (X : Cx) (pins : List (Addr × Obj)) (σ : St) (tg : Expr) (R : It → Hp → Prop) (itv : Value) (s2 : Shared) : Prop :=
  ∃ (it : Addr) (fp : List Addr) (tn : Nat → Heap → Prop) (J : It) (H' : Hp), itv = .ref it ∧ Inv X pins σ H' s2 ∧ Turn X.prog X.w X.K tg J fp it tn ∧ tn 0 s2.heap ∧ (∀ b ∈ fp, FpOk X pins H' b) ∧ R J H'
structure PI (X : Cx) (tg iter : Expr) (wi : TI) : Prop where
  go : ∀ (pins : List (Addr × Obj)) (s : Shared) (σ : St) (H : Hp) (R : It → Hp → Prop), Inv X pins σ H s → wi σ H R →
    wpAny (model X.prog X.w) X.A (eval iter X.env) (fun v s1 => wpAny (model X.prog X.w) X.A (pyIter v) (PIE X pins σ tg R) X.xe s1) X.xe s
instance {X : Cx} {tg iter : Expr} {wi : TI} : CoeFun (PI X tg iter wi) (fun _ => ∀ (pins : List (Addr × Obj)) (s : Shared) (σ : St) (H : Hp) (R : It → Hp → Prop), Inv X pins σ H s → wi σ H R →
    wpAny (model X.prog X.w) X.A (eval iter X.env) (fun v s1 => wpAny (model X.prog X.w) X.A (pyIter v) (PIE X pins σ tg R) X.xe s1) X.xe s) := ⟨fun h => h.go⟩
theorem go_of {M : Model} {A : Around} {E : Value → Shared → Prop} {s : Shared} {tg : Expr} {it : Addr} {u : Value} {o : Obj} {n : String} {vs : Array Value} {Q : Unit → Shared → Prop} (ho : s.heap.get? it = some o) (hc : o.cls = .type n) (hd : o.data = .fields vs)
    (hn : ["enumerate", "zip", "dict_itemiterator", "dict_reverseitemiterator", "odict_iterator", "itertools.zip_longest", "itertools.pairwise"].contains n = false) (hQ : Q () s) : wpAny M A (letOwnedTupleGo tg (.ref it) u) Q E s := by
  unfold letOwnedTupleGo
  cases tg <;> first
    | exact wpAny_pure hQ
    | (cases u <;> first
        | exact wpAny_pure hQ
        | (refine wpAny_bind (wpAny_load ho ?_)
           rw [hc, hd]
           show wpAny M A (if (["enumerate", "zip", "dict_itemiterator", "dict_reverseitemiterator", "odict_iterator", "itertools.zip_longest", "itertools.pairwise"].contains n && vs[0]? == some (rawInt _)) = true then _ else _) Q E s
           rw [if_neg (by intro h; rw [hn, Bool.false_and] at h; cases h)]
           exact wpAny_pure hQ))
def Itl (K : PySem.W.Frag) (a : Addr) : It :=
  ⟨fun i H => ∃ xs x, SqL K H a xs ∧ xs[i]? = some x, fun i H x H' => H' = H ∧ ∀ xs, SqL K H a xs → xs[i]? = some x, fun i H => ∃ xs, SqL K H a xs ∧ xs.length ≤ i⟩
def Itt (K : PySem.W.Frag) (a : Addr) : It :=
  ⟨fun i H => ∃ xs x, SqT K H a xs ∧ xs[i]? = some x, fun i H x H' => H' = H ∧ ∀ xs, SqT K H a xs → xs[i]? = some x, fun i H => ∃ xs, SqT K H a xs ∧ xs.length ≤ i⟩
def Itr (lo : Int) (n : Nat) : It := ⟨fun i _ => i < n, fun i H x H' => H' = H ∧ x = .int (lo + i), fun i _ => n ≤ i⟩
theorem turn_list {P : Program} {w : World} {K : PySem.W.Frag} {tg : Expr} (a it : Addr) : Turn P w K tg (Itl K a) [it] it (fun i h => h.IsListIter it a i) where
  mem := by simp
  obj := fun i h st b hb => by
    have e : b = it := by simpa using hb
    subst e
    obtain ⟨o, e, c, d⟩ := st
    exact ⟨o, e, fun v z => by rw [d] at z; cases z⟩
  keep := fun i h h' st k => st.at fun o e => k it (by simp) o e
  item := by
    intro X hP hw hK hc i pins s σ H E I hf st hg
    subst hP hw hK
    obtain ⟨xs, x, hq, hx⟩ := hg
    obtain ⟨its, rv, p, hz⟩ := I.list hq
    obtain ⟨u, hu, ru⟩ := rv.get hx
    obtain ⟨f0, f1, f2, f3, f4, f5⟩ := hf it (by simp)
    refine wpAny_pyNext_list_item st p.isList (x := u) (by simpa using hu) fun h' st' sb => ?_
    have I1 : Inv X pins σ H { s with heap := h' } := I.turned (t' := s.toks) (fun b o hb e => (sb.2 b hb).trans e) f0 f1 f3 f4 f5
    obtain ⟨o, e, c, d⟩ := id st'
    exact ⟨u, rfl, go_of (s := { s with heap := h' }) e c d (by decide) ⟨x, H, I1, ru, ⟨rfl, fun ys hy => by rw [I.list_inj hy hq]; exact hx⟩, st', fun b hb => (hf b hb).1⟩⟩
  done := by
    intro X hP hw hK hc i pins s σ H E I hf st hg
    subst hP hw hK
    obtain ⟨xs, hq, hx⟩ := hg
    obtain ⟨its, rv, p, hz⟩ := I.list hq
    obtain ⟨f0, f1, f2, f3, f4, f5⟩ := hf it (by simp)
    have hl := rv.length
    exact wpAny_pyNext_list_end (I.ok.hd hc) st p.isList (by simp; omega) fun h' eb => ⟨rfl, I.turned (t' := s.toks) (fun b o hb e => eb b o hb e) f0 f1 f3 f4 f5⟩
  self := fun _ _ _ _ _ st h => wpAny_pyIter_listiter st h
theorem turn_tuple {P : Program} {w : World} {K : PySem.W.Frag} {tg : Expr} (a it : Addr) : Turn P w K tg (Itt K a) [it] it (fun i h => h.IsTupleIter it a i) where
  mem := by simp
  obj := fun i h st b hb => by
    have e : b = it := by simpa using hb
    subst e
    obtain ⟨o, e, c, d⟩ := st
    exact ⟨o, e, fun v z => by rw [d] at z; cases z⟩
  keep := fun i h h' st k => st.at fun o e => k it (by simp) o e
  item := by
    intro X hP hw hK hc i pins s σ H E I hf st hg
    subst hP hw hK
    obtain ⟨xs, x, hq, hx⟩ := hg
    obtain ⟨its, rv, p, hz⟩ := I.tuple hq
    obtain ⟨u, hu, ru⟩ := rv.get hx
    obtain ⟨f0, f1, f2, f3, f4, f5⟩ := hf it (by simp)
    refine wpAny_pyNext_tuple_item st (show s.heap.IsTuple a its.toArray from p) (x := u) (by simpa using hu) fun h' st' sb => ?_
    have I1 : Inv X pins σ H { s with heap := h' } := I.turned (t' := s.toks) (fun b o hb e => (sb.2 b hb).trans e) f0 f1 f3 f4 f5
    obtain ⟨o, e, c, d⟩ := id st'
    exact ⟨u, rfl, go_of (s := { s with heap := h' }) e c d (by decide) ⟨x, H, I1, ru, ⟨rfl, fun ys hy => by rw [I.tuple_inj hy hq]; exact hx⟩, st', fun b hb => (hf b hb).1⟩⟩
  done := by
    intro X hP hw hK hc i pins s σ H E I hf st hg
    subst hP hw hK
    obtain ⟨xs, hq, hx⟩ := hg
    obtain ⟨its, rv, p, hz⟩ := I.tuple hq
    obtain ⟨f0, f1, f2, f3, f4, f5⟩ := hf it (by simp)
    have hl := rv.length
    exact wpAny_pyNext_tuple_end (I.ok.hd hc) st (show s.heap.IsTuple a its.toArray from p) (by simp; omega) fun h' eb => ⟨rfl, I.turned (t' := s.toks) (fun b o hb e => eb b o hb e) f0 f1 f3 f4 f5⟩
  self := fun _ _ _ _ _ st h => wpAny_pyIter_tupleiter st h
theorem turn_range {P : Program} {w : World} {K : PySem.W.Frag} {tg : Expr} (it : Addr) (lo : Int) (n : Nat) : Turn P w K tg (Itr lo n) [it] it (fun i h => IsRangeIter h it (lo + (i : Nat) * 1) ((n : Int) - (i : Nat)) 1) where
  mem := by simp
  obj := fun i h st b hb => by
    have e : b = it := by simpa using hb
    subst e
    exact ⟨_, st, fun v z => by
      have z' : Data.fields _ = Data.cell v := z
      cases z'⟩
  keep := fun i h h' st k => k it (by simp) _ st
  item := by
    intro X hP hw hK hc i pins s σ H E I hf st hg
    subst hP hw hK
    obtain ⟨f0, f1, f2, f3, f4, f5⟩ := hf it (by simp)
    have W := Walks.range (prog := X.prog) (w := X.w) (I.ok.hd hc) it lo 1 n
    refine W.item i s _ _ hg st fun v h' tk hv st' kk => ?_
    obtain ⟨t, rfl⟩ := hv
    have I1 : Inv X pins σ H { s with heap := h', toks := tk } := I.turned (fun b o hb e => kk b o (by simpa using hb) e) f0 f1 f3 f4 f5
    refine ⟨_, rfl, go_of (s := { s with heap := h', toks := tk }) (n := "range_iterator") st' rfl rfl (by decide) ⟨.int (lo + i), H, I1, ⟨t, ?_⟩, ⟨rfl, rfl⟩, st', fun b hb => (hf b hb).1⟩⟩
    rw [Int.mul_one]
  done := by
    intro X hP hw hK hc i pins s σ H E I hf st hg
    subst hP hw hK
    obtain ⟨f0, f1, f2, f3, f4, f5⟩ := hf it (by simp)
    exact wpAny_pyNext_range_end (I.ok.hd hc) st (by have : n ≤ i := hg; omega) fun h' eb => ⟨rfl, I.turned (t' := s.toks) (fun b o hb e => eb b o hb e) f0 f1 f3 f4 f5⟩
  self := fun _ _ _ _ _ st h => wpAny_pyIter_rangeiter st h
end L2
namespace L2
open PySem PySem.Spec PyProof.Rows
section
variable {X : Cx} {tg : Expr}
def iList (K : PySem.W.Frag) (tl : TE) : TI := fun σ H R => tl σ H fun x H1 => ∃ a, x = .ref a ∧ (∃ xs, SqL K H1 a xs) ∧ R (Itl K a) H1
def iTup (K : PySem.W.Frag) (tl : TE) : TI := fun σ H R => tl σ H fun x H1 => ∃ a, x = .ref a ∧ (∃ xs, SqT K H1 a xs) ∧ R (Itt K a) H1
theorem pi_list {l : Expr} {tl : TE} (hl : PE X l tl) : PI X tg l (iList X.K tl) := by
  constructor
  intro pins s σ H R I h
  refine thn (hl pins s σ H _ I h) fun v s1 ⟨x, H1, I1, r1, q1⟩ => ?_
  obtain ⟨a, e, ⟨xs, hq⟩, q⟩ := q1
  subst e
  cases r1
  obtain ⟨its, rv, p, hz⟩ := I1.list hq
  refine wpAny_pyIter_list p.isList ?_
  refine ⟨s1.heap.objs.size, [s1.heap.objs.size], _, _, H1, rfl, I1.kept (t' := s1.toks) fun b o e => Heap.get?_push_of_some _ e, turn_list a _, ⟨_, Heap.get?_push_size _ rfl, rfl, rfl⟩, fun b hb => ?_, q⟩
  have e : b = s1.heap.objs.size := by simpa using hb
  subst e
  exact I1.fpOk (Nat.le_refl _) (I1.hok.fresh (Nat.le_refl _))
theorem pi_tup {l : Expr} {tl : TE} (hl : PE X l tl) : PI X tg l (iTup X.K tl) := by
  constructor
  intro pins s σ H R I h
  refine thn (hl pins s σ H _ I h) fun v s1 ⟨x, H1, I1, r1, q1⟩ => ?_
  obtain ⟨a, e, ⟨xs, hq⟩, q⟩ := q1
  subst e
  cases r1
  obtain ⟨its, rv, p, hz⟩ := I1.tuple hq
  refine wpAny_pyIter_tuple (show s1.heap.IsTuple a its.toArray from p) ?_
  refine ⟨s1.heap.objs.size, [s1.heap.objs.size], _, _, H1, rfl, I1.kept (t' := s1.toks) fun b o e => Heap.get?_push_of_some _ e, turn_tuple a _, ⟨_, Heap.get?_push_size _ rfl, rfl, rfl⟩, fun b hb => ?_, q⟩
  have e : b = s1.heap.objs.size := by simpa using hb
  subst e
  exact I1.fpOk (Nat.le_refl _) (I1.hok.fresh (Nat.le_refl _))
theorem range_it {pins : List (Addr × Obj)} {σ : St} {H : Hp} {s : Shared} {R : It → Hp → Prop} {E : Value → Shared → Prop} {lo hi : Int} {t u v : Tok} {tk : Nat} (I : Inv X pins σ H s) (h1 : -(2 ^ 62) ≤ lo) (h2 : lo < 2 ^ 62) (h3 : -(2 ^ 62) ≤ hi) (h4 : hi < 2 ^ 62)
    (q : R (Itr lo (hi - lo).toNat) H) : wpAny (model X.prog X.w) X.A (pyIter (.ref s.heap.objs.size)) (PIE X pins σ tg R) E { s with heap := s.heap.push { cls := .type "range", data := .fields #[.int lo t, .int hi u, .int 1 v] }, toks := tk } := by
  refine wpAny_pyIter_range (IsRange.new ..) (small_one h1 h2 h3 h4) ?_
  have I1 : Inv X pins σ H { s with heap := s.heap.push { cls := .type "range", data := .fields #[.int lo t, .int hi u, .int 1 v] }, toks := tk } := I.kept fun b o e => Heap.get?_push_of_some _ e
  refine ⟨(s.heap.push { cls := .type "range", data := .fields #[.int lo t, .int hi u, .int 1 v] }).objs.size, [(s.heap.push { cls := .type "range", data := .fields #[.int lo t, .int hi u, .int 1 v] }).objs.size], _, _, H, rfl,
    I1.kept (t' := tk) fun b o e => Heap.get?_push_of_some _ e, turn_range _ lo (hi - lo).toNat, ?_, fun b hb => ?_, q⟩
  · have e1 : lo + ((0 : Nat) : Int) * 1 = lo := by simp
    have e2 : (((hi - lo).toNat : Nat) : Int) - ((0 : Nat) : Int) = Builtin.Range.rangeSize lo hi 1 := by rw [rangeSize_one]; split <;> omega
    show IsRangeIter _ _ (lo + ((0 : Nat) : Int) * 1) ((((hi - lo).toNat : Nat) : Int) - ((0 : Nat) : Int)) 1
    rw [e1, e2]
    exact Heap.get?_push_size _ rfl
  · have e : b = (s.heap.push { cls := .type "range", data := .fields #[.int lo t, .int hi u, .int 1 v] }).objs.size := by simpa using hb
    subst e
    exact I1.fpOk (Nat.le_refl _) (I1.hok.fresh (Nat.le_refl _))
def iRng1 (ta : TA) : TI := fun σ H R => ta σ H fun vs H1 => ∃ j : Int, vs = [.int j] ∧ -(2 ^ 62) ≤ j ∧ j < 2 ^ 62 ∧ R (Itr 0 j.toNat) H1
def iRng2 (ta : TA) : TI := fun σ H R => ta σ H fun vs H1 => ∃ i j : Int, vs = [.int i, .int j] ∧ (-(2 ^ 62) ≤ i ∧ i < 2 ^ 62 ∧ -(2 ^ 62) ≤ j ∧ j < 2 ^ 62) ∧ R (Itr i (j - i).toNat) H1
theorem pi_range1 {a : Expr} {ta : TA} {p pos : Pos} (hg : Gl X "range") (hm : X.mg "range" = none) (ha : PA X [a] ta) (hs : starEach [a] X.env = [(false, eval a X.env)] := by rfl) : PI X tg (.Call (.Name "range" p) [a] [] pos) (iRng1 ta) := by
  constructor
  intro pins s σ H R I h
  refine Call_ (ld_blt I hg hm boot_range (PyProof.Rows.callWith_type1 (thn (ha pos pins s σ H _ I h) fun us s1 ⟨vs, H1, I1, r1, q1⟩ => ?_) hs rfl))
  obtain ⟨j, e, q1, q2, q⟩ := q1
  subst e
  cases r1 with
  | cons r rr =>
    cases rr
    obtain ⟨t, rfl⟩ := r
    exact call_range_1 (range_it I1 (by omega) (by omega) q1 q2 (by simpa using q))
theorem pi_range2 {a b : Expr} {ta : TA} {p pos : Pos} (hg : Gl X "range") (hm : X.mg "range" = none) (ha : PA X [a, b] ta) (hs : starEach [a, b] X.env = [(false, eval a X.env), (false, eval b X.env)] := by rfl) (hs2 : starEach [b] X.env = [(false, eval b X.env)] := by rfl) :
    PI X tg (.Call (.Name "range" p) [a, b] [] pos) (iRng2 ta) := by
  constructor
  intro pins s σ H R I h
  refine Call_ (ld_blt I hg hm boot_range (PyProof.Rows.callWith_type1 (thn (ha pos pins s σ H _ I h) fun us s1 ⟨vs, H1, I1, r1, q1⟩ => ?_) (by rw [hs, hs2]) (by rw [hs2]; rfl)))
  obtain ⟨i, j, e, ⟨q1, q2, q3, q4⟩, q⟩ := q1
  subst e
  cases r1 with
  | cons r rr =>
    cases rr with
    | cons r' rr =>
      cases rr
      obtain ⟨t, rfl⟩ := r
      obtain ⟨t', rfl⟩ := r'
      exact call_range_2 (range_it I1 q1 q2 q3 q4 q)
def tFor (wi : TI) (g : TG) (tb : TS) : TS := fun D σ H => wi σ H fun J H1 => ∃ W : Nat → Nat → St → Hp → Prop, (∃ m, W 0 m σ H1) ∧ ∀ i m σ H, W i m σ H →
  (J.stop i H ∧ D.nx σ H) ∨ (J.go i H ∧ ∃ N : St → Hp → Prop, (∀ σ' H', N σ' H' → ∃ m', m' < m ∧ W (i + 1) m' σ' H') ∧ ∀ x H', J.yld i H x H' → g x σ H' fun σ2 H2 => tb { D with nx := N, ct := N, bk := D.nx } σ2 H2)
def pinsAt (fp : List Addr) (h : Heap) : List (Addr × Obj) := fp.filterMap fun b => (h.get? b).map fun o => (b, o)
theorem mem_pinsAt {fp : List Addr} {h : Heap} {b : Addr} {o : Obj} (hb : b ∈ fp) (e : h.get? b = some o) : (b, o) ∈ pinsAt fp h := List.mem_filterMap.mpr ⟨b, hb, by rw [e]; rfl⟩
theorem of_pinsAt {fp : List Addr} {h : Heap} {p : Addr × Obj} (hp : p ∈ pinsAt fp h) : p.1 ∈ fp ∧ h.get? p.1 = some p.2 := by
  obtain ⟨b, hb, e⟩ := List.mem_filterMap.mp hp
  cases q : h.get? b with
  | none => rw [q] at e; cases e
  | some o =>
    rw [q] at e
    have e' : (b, o) = p := Option.some.inj e
    subst e'
    exact ⟨hb, q⟩
theorem Inv.pinned {pins : List (Addr × Obj)} {σ : St} {H : Hp} {s : Shared} {fp : List Addr} (I : Inv X pins σ H s) (hf : ∀ b ∈ fp, FpOk X pins H b) (ho : ∀ b ∈ fp, ∃ o, s.heap.get? b = some o ∧ ∀ v, o.data ≠ .cell v) : Inv X (pins ++ pinsAt fp s.heap) σ H s :=
  I.pins_of fun p hp => (List.mem_append.mp hp).elim (fun z => I.pin p (List.mem_append_right _ z)) fun z => by
    obtain ⟨hb, e⟩ := of_pinsAt z
    obtain ⟨f0, f1, f2, _⟩ := hf p.1 hb
    obtain ⟨o, e', d⟩ := ho p.1 hb
    rw [e] at e'; cases e'
    exact ⟨e, f0, f1, f2, d⟩
theorem Inv.unpinned {pins pl : List (Addr × Obj)} {σ : St} {H : Hp} {s : Shared} (I : Inv X (pins ++ pl) σ H s) : Inv X pins σ H s := I.pins_of fun p hp => I.pin p (List.mem_append_right _ (List.mem_append_left _ hp))
theorem ps_for {iter : Expr} {body : List Stmt} {wi : TI} {g : TG} {tb : TS} {pos : Pos} (hp : PassesOwn (model X.prog X.w) X.A X.env X.xe) (hc : X.calm = true) (hi : PI X tg iter wi) (hg : PG X tg g) (hb : PSs X body tb)
    (hs : ∀ x, foldedSetIterable iter X.env x = pure x := by intro _; rfl) : PS X (.For tg iter body [] pos) (tFor wi g tb) := by
  constructor
  intro pins s σ H D I h
  refine wpAny_For (thn (hi pins s σ H _ I h) fun v s1 h1 => thn h1 fun itv s2 h2 => ?_) hs
  obtain ⟨it, fp, tn, J, H2, e, I2, T, st2, f2, W, ⟨m0, w0⟩, turn⟩ := h2
  subst e
  have stat : ∀ {H' : Hp}, (∀ b ∈ fp, H' b = none) → ∀ b ∈ fp, FpOk X pins H' b := fun hn b hb => ⟨hn b hb, (f2 b hb).2⟩
  refine codeAny_forLoop_any (fun n s' => ∃ i σ' H', Inv X pins σ' H' s' ∧ tn i s'.heap ∧ (∀ b ∈ fp, H' b = none) ∧ W i n σ' H') ?_ m0 ⟨0, σ, H2, I2, st2, fun b hb => (f2 b hb).1, w0⟩
  rintro n s3 ⟨i, σ3, H3, I3, st3, fr3, w3⟩
  rcases turn i n σ3 H3 w3 with ⟨stop, qn⟩ | ⟨go, N, hN, step⟩
  · refine wpAny_passesOwn hp (thn (T.done X rfl rfl rfl hc i pins s3 σ3 H3 X.xe I3 (stat fr3) st3 stop) fun r s4 ⟨hr, I4⟩ => ?_)
    subst hr
    exact wpAny_execs_nil ⟨σ3, H3, I4, qn⟩
  · refine wpAny_passesOwn hp (thn (T.item X rfl rfl rfl hc i pins s3 σ3 H3 X.xe I3 (stat fr3) st3 go) fun r s4 ⟨u, hr, h4⟩ => ?_)
    subst hr
    refine wpAny_passesOwn hp (thn h4 fun _ s5 ⟨x, H5, I5, r5, y5, st5, fr5⟩ => ?_)
    have I5' := I5.pinned (stat fr5) (T.obj _ _ st5)
    refine wpAny_passesOwn hp (thn (hg _ s5 σ3 H5 x u _ I5' r5 (step x H5 y5)) fun _ s6 ⟨σ6, H6, I6, q6⟩ => ?_)
    refine wpAny_passesOwn hp (thn (hb _ s6 σ6 H6 _ I6 q6) fun f s7 q7 => ?_)
    have again : ∀ {σ7 : St} {H7 : Hp}, Inv X (pins ++ pinsAt fp s5.heap) σ7 H7 s7 → N σ7 H7 → ∃ m, m < n ∧ ∃ i σ' H', Inv X pins σ' H' s7 ∧ tn i s7.heap ∧ (∀ b ∈ fp, H' b = none) ∧ W i m σ' H' := fun {σ7 H7} I7 n7 => by
      obtain ⟨m', hm, w7⟩ := hN σ7 H7 n7
      refine ⟨m', hm, i + 1, σ7, H7, I7.unpinned, T.keep _ _ _ st5 fun b hb o e => (I7.pin (b, o) (List.mem_append_right _ (List.mem_append_right _ (mem_pinsAt hb e)))).1, fun b hb => ?_, w7⟩
      obtain ⟨o, e, d⟩ := T.obj _ _ st5 b hb
      exact (I7.pin (b, o) (List.mem_append_right _ (List.mem_append_right _ (mem_pinsAt hb e)))).2.1
    cases f with
    | next => obtain ⟨σ7, H7, I7, n7⟩ := q7; exact again I7 n7
    | cont => obtain ⟨σ7, H7, I7, n7⟩ := q7; exact again I7 n7
    | brk => obtain ⟨σ7, H7, I7, q7⟩ := q7; exact ⟨σ7, H7, I7.unpinned, q7⟩
    | ret v => obtain ⟨x7, σ7, H7, I7, r7, q7⟩ := q7; exact ⟨x7, σ7, H7, I7.unpinned, r7, q7⟩
end
theorem for_list {K : PySem.W.Frag} {a : Addr} {xs : List V} {g : TG} {tb : TS} {D : Ends} {σ : St} {H : Hp} (Pv : Nat → St → Hp → Prop) (h0 : Pv 0 σ H) (hl : ∀ i σ H, i ≤ xs.length → Pv i σ H → SqL K H a xs)
    (hs : ∀ i x σ H, xs[i]? = some x → Pv i σ H → g x σ H fun σ2 H2 => tb { D with nx := Pv (i + 1), ct := Pv (i + 1), bk := D.nx } σ2 H2) (hd : ∀ σ H, Pv xs.length σ H → D.nx σ H) :
    ∃ W : Nat → Nat → St → Hp → Prop, (∃ m, W 0 m σ H) ∧ ∀ i m σ H, W i m σ H →
      ((Itl K a).stop i H ∧ D.nx σ H) ∨ ((Itl K a).go i H ∧ ∃ N : St → Hp → Prop, (∀ σ' H', N σ' H' → ∃ m', m' < m ∧ W (i + 1) m' σ' H') ∧ ∀ x H', (Itl K a).yld i H x H' → g x σ H' fun σ2 H2 => tb { D with nx := N, ct := N, bk := D.nx } σ2 H2) := by
  refine ⟨fun i m σ H => m = xs.length - i ∧ i ≤ xs.length ∧ Pv i σ H, ⟨xs.length, by simp, Nat.zero_le _, h0⟩, ?_⟩
  rintro i m σ H ⟨rfl, hi, p⟩
  have q := hl i σ H hi p
  by_cases hlt : i < xs.length
  · refine .inr ⟨⟨xs, xs[i], q, by simp [hlt]⟩, Pv (i + 1), fun σ' H' p' => ⟨xs.length - (i + 1), by omega, rfl, hlt, p'⟩, fun x H' y => ?_⟩
    obtain ⟨e, y⟩ := y
    subst e
    exact hs i x σ _ (y xs q) p
  · have e : i = xs.length := by omega
    subst e
    exact .inl ⟨⟨xs, q, Nat.le_refl _⟩, hd σ H p⟩
theorem for_tup {K : PySem.W.Frag} {a : Addr} {xs : List V} {g : TG} {tb : TS} {D : Ends} {σ : St} {H : Hp} (Pv : Nat → St → Hp → Prop) (h0 : Pv 0 σ H) (hl : ∀ i σ H, i ≤ xs.length → Pv i σ H → SqT K H a xs)
    (hs : ∀ i x σ H, xs[i]? = some x → Pv i σ H → g x σ H fun σ2 H2 => tb { D with nx := Pv (i + 1), ct := Pv (i + 1), bk := D.nx } σ2 H2) (hd : ∀ σ H, Pv xs.length σ H → D.nx σ H) :
    ∃ W : Nat → Nat → St → Hp → Prop, (∃ m, W 0 m σ H) ∧ ∀ i m σ H, W i m σ H →
      ((Itt K a).stop i H ∧ D.nx σ H) ∨ ((Itt K a).go i H ∧ ∃ N : St → Hp → Prop, (∀ σ' H', N σ' H' → ∃ m', m' < m ∧ W (i + 1) m' σ' H') ∧ ∀ x H', (Itt K a).yld i H x H' → g x σ H' fun σ2 H2 => tb { D with nx := N, ct := N, bk := D.nx } σ2 H2) := by
  refine ⟨fun i m σ H => m = xs.length - i ∧ i ≤ xs.length ∧ Pv i σ H, ⟨xs.length, by simp, Nat.zero_le _, h0⟩, ?_⟩
  rintro i m σ H ⟨rfl, hi, p⟩
  have q := hl i σ H hi p
  by_cases hlt : i < xs.length
  · refine .inr ⟨⟨xs, xs[i], q, by simp [hlt]⟩, Pv (i + 1), fun σ' H' p' => ⟨xs.length - (i + 1), by omega, rfl, hlt, p'⟩, fun x H' y => ?_⟩
    obtain ⟨e, y⟩ := y
    subst e
    exact hs i x σ _ (y xs q) p
  · have e : i = xs.length := by omega
    subst e
    exact .inl ⟨⟨xs, q, Nat.le_refl _⟩, hd σ H p⟩
theorem for_range {lo : Int} {n : Nat} {g : TG} {tb : TS} {D : Ends} {σ : St} {H : Hp} (Pv : Nat → St → Hp → Prop) (h0 : Pv 0 σ H)
    (hs : ∀ i σ H, i < n → Pv i σ H → g (.int (lo + i)) σ H fun σ2 H2 => tb { D with nx := Pv (i + 1), ct := Pv (i + 1), bk := D.nx } σ2 H2) (hd : ∀ σ H, Pv n σ H → D.nx σ H) :
    ∃ W : Nat → Nat → St → Hp → Prop, (∃ m, W 0 m σ H) ∧ ∀ i m σ H, W i m σ H →
      ((Itr lo n).stop i H ∧ D.nx σ H) ∨ ((Itr lo n).go i H ∧ ∃ N : St → Hp → Prop, (∀ σ' H', N σ' H' → ∃ m', m' < m ∧ W (i + 1) m' σ' H') ∧ ∀ x H', (Itr lo n).yld i H x H' → g x σ H' fun σ2 H2 => tb { D with nx := N, ct := N, bk := D.nx } σ2 H2) := by
  refine ⟨fun i m σ H => m = n - i ∧ i ≤ n ∧ Pv i σ H, ⟨n, by simp, Nat.zero_le _, h0⟩, ?_⟩
  rintro i m σ H ⟨rfl, hi, p⟩
  by_cases hlt : i < n
  · refine .inr ⟨hlt, Pv (i + 1), fun σ' H' p' => ⟨n - (i + 1), by omega, rfl, hlt, p'⟩, fun x H' y => ?_⟩
    obtain ⟨e, y⟩ := y
    subst e y
    exact hs i σ _ hlt p
  · have e : i = n := by omega
    subst e
    exact .inl ⟨Nat.le_refl _, hd σ H p⟩
end L2
namespace L2
open PySem PySem.Spec PyProof.Rows
abbrev R2 := V → V → Hp → VK → Prop
def OpR (X : Cx) (f : Value → Value → Sem Value) (r : R2) : Prop :=
  ∀ (pins : List (Addr × Obj)) (s : Shared) (σ : St) (H : Hp) (x y : V) (v u : Value) (Q : VK), Inv X pins σ H s → RelV x v → RelV y u → r x y H Q →
    wpAny (model X.prog X.w) X.A (f v u) (EP X pins σ Q) X.xe s
def UnR (X : Cx) (f : Value → Sem Value) (r : V → Hp → VK → Prop) : Prop :=
  ∀ (pins : List (Addr × Obj)) (s : Shared) (σ : St) (H : Hp) (x : V) (v : Value) (Q : VK), Inv X pins σ H s → RelV x v → r x H Q →
    wpAny (model X.prog X.w) X.A (f v) (EP X pins σ Q) X.xe s
def CallR (X : Cx) (f : Value) (r : List V → Hp → VK → Prop) : Prop :=
  ∀ (pins : List (Addr × Obj)) (s : Shared) (σ : St) (H : Hp) (xs : List V) (us : List Value) (Q : VK), Inv X pins σ H s → Vals xs us → r xs H Q →
    wpAny (model X.prog X.w) X.A (call f us) (EP X pins σ Q) X.xe s
def TruR (X : Cx) (r : V → Hp → (Bool → Hp → Prop) → Prop) : Prop :=
  ∀ (pins : List (Addr × Obj)) (s : Shared) (σ : St) (H : Hp) (x : V) (v : Value) (Q : Bool → Hp → Prop), Inv X pins σ H s → RelV x v → r x H Q →
    wpAny (model X.prog X.w) X.A (truthy v) (TP X pins σ Q) X.xe s
def tOp (r : R2) (ta tb : TE) : TE := fun σ H Q => ta σ H fun x H1 => tb σ H1 fun y H2 => r x y H2 Q
def tUn (r : V → Hp → VK → Prop) (ta : TE) : TE := fun σ H Q => ta σ H fun x H1 => r x H1 Q
def rI (C : Int → Int → Prop) (g : Int → Int → V) : R2 := fun x y H Q => ∃ i j, x = .int i ∧ y = .int j ∧ C i j ∧ Q (g i j) H
def rI0 (g : Int → Int → V) : R2 := fun x y H Q => ∃ i j, x = .int i ∧ y = .int j ∧ Q (g i j) H
def rU (g : Int → V) : V → Hp → VK → Prop := fun x H Q => ∃ i, x = .int i ∧ Q (g i) H
section
variable {X : Cx} {a b c : Expr} {ta tb tc : TE} {pos : Pos}
theorem binT (ha : PE X a ta) (hb : PE X b tb) {pins : List (Addr × Obj)} {s : Shared} {σ : St} {H : Hp} {R : V → V → Hp → Prop} (I : Inv X pins σ H s)
    (h : ta σ H fun x H1 => tb σ H1 fun y H2 => R x y H2) {Q : Value → Shared → Prop} {f : Value → Value → Sem Value}
    (hf : ∀ v u s2 x y H2, Inv X pins σ H2 s2 → RelV x v → RelV y u → R x y H2 → wpAny (model X.prog X.w) X.A (f v u) Q X.xe s2) :
    wpAny (model X.prog X.w) X.A (eval a X.env) (fun v s₁ => wpAny (model X.prog X.w) X.A (eval b X.env) (fun u s₂ => wpAny (model X.prog X.w) X.A (f v u) Q X.xe s₂) X.xe s₁) X.xe s := by
  refine thn (ha pins s σ H _ I h) fun v s1 ⟨x, H1, I1, r1, q1⟩ => ?_
  refine thn (hb pins s1 σ H1 _ I1 q1) fun u s2 ⟨y, H2, I2, r2, q2⟩ => ?_
  exact hf v u s2 x y H2 I2 r1 r2 q2
theorem pe_op {op : Operator} {r : R2} (ho : OpR X (binaryOp op) r) (ha : PE X a ta) (hb : PE X b tb) : PE X (.BinOp a op b pos) (tOp r ta tb) := by
  constructor
  intro pins s σ H Q I h
  exact wpAny_BinOp (binT ha hb I h fun v u s2 x y H2 I2 rx ry q => ho pins s2 σ H2 x y v u Q I2 rx ry q)
theorem pe_un {op : UnaryOp} {r : V → Hp → VK → Prop} (ho : UnR X (unaryOp op) r) (ha : PE X a ta) : PE X (.UnaryOp op a pos) (tUn r ta) := by
  constructor
  intro pins s σ H Q I h
  exact UnaryOp_ (thn (ha pins s σ H _ I h) fun v s1 ⟨x, H1, I1, r1, q1⟩ => ho pins s1 σ H1 x v Q I1 r1 q1)
theorem opI {f : Value → Value → Sem Value} {C : Int → Int → Prop} {g : Int → Int → Int}
    (rule : ∀ (i j : Int) (t u : Tok) (s : Shared) (Q : Value → Shared → Prop) (E : Value → Shared → Prop), C i j → Q (.int (g i j) s.toks) { s with toks := s.toks + 1 } → wpAny (model X.prog X.w) X.A (f (.int i t) (.int j u)) Q E s) :
    OpR X f (rI C fun i j => .int (g i j)) := by
  intro pins s σ H x y v u Q I rx ry h
  obtain ⟨i, j, rfl, rfl, hc, q⟩ := h
  obtain ⟨t, rfl⟩ := rx
  obtain ⟨t', rfl⟩ := ry
  exact rule i j t t' s _ _ hc ⟨.int (g i j), H, I.tok _, ⟨_, rfl⟩, q⟩
theorem opI0 {f : Value → Value → Sem Value} {g : Int → Int → Int}
    (rule : ∀ (i j : Int) (t u : Tok) (s : Shared) (Q : Value → Shared → Prop) (E : Value → Shared → Prop), Q (.int (g i j) s.toks) { s with toks := s.toks + 1 } → wpAny (model X.prog X.w) X.A (f (.int i t) (.int j u)) Q E s) :
    OpR X f (rI0 fun i j => .int (g i j)) := by
  intro pins s σ H x y v u Q I rx ry h
  obtain ⟨i, j, rfl, rfl, q⟩ := h
  obtain ⟨t, rfl⟩ := rx
  obtain ⟨t', rfl⟩ := ry
  exact rule i j t t' s _ _ ⟨.int (g i j), H, I.tok _, ⟨_, rfl⟩, q⟩
theorem opB0 {f : Value → Value → Sem Value} {g : Int → Int → Bool}
    (rule : ∀ (i j : Int) (t u : Tok) (s : Shared) (Q : Value → Shared → Prop) (E : Value → Shared → Prop), Q (.bool (g i j)) s → wpAny (model X.prog X.w) X.A (f (.int i t) (.int j u)) Q E s) :
    OpR X f (rI0 fun i j => .bl (g i j)) := by
  intro pins s σ H x y v u Q I rx ry h
  obtain ⟨i, j, rfl, rfl, q⟩ := h
  obtain ⟨t, rfl⟩ := rx
  obtain ⟨t', rfl⟩ := ry
  exact rule i j t t' s _ _ ⟨.bl (g i j), H, I, rfl, q⟩
def CDiv (i j : Int) : Prop := 0 < j ∧ j < 1073741824
def CDivN (i j : Int) : Prop := j ≠ 0 ∧ j.natAbs < 1073741824
def CPow (i j : Int) : Prop := 0 ≤ j ∧ j ≤ 1000000 ∧ i.natAbs < 2 ^ 64
def CMul (i j : Int) : Prop := (-(2 ^ 64) < i ∧ i < 2 ^ 64) ∨ (-(2 ^ 64) < j ∧ j < 2 ^ 64)
theorem CMul.ok {i j : Int} (h : CMul i j) : IntMulOk i j := by
  rcases h with ⟨h1, h2⟩ | ⟨h1, h2⟩
  · exact .of_left (intBits_le_64 h1 h2)
  · exact .of_right (intBits_le_64 h1 h2)
theorem op_add : OpR X (binaryOp .Add) (rI0 fun i j => .int (i + j)) := opI0 fun _ _ _ _ _ _ _ q => add_int q
theorem op_sub : OpR X (binaryOp .Sub) (rI0 fun i j => .int (i - j)) := opI0 fun _ _ _ _ _ _ _ q => sub_int q
theorem op_mul : OpR X (binaryOp .Mult) (rI CMul fun i j => .int (i * j)) := opI fun _ _ _ _ _ _ _ hc q => mul_int q hc.ok
theorem op_fdiv : OpR X (binaryOp .FloorDiv) (rI CDiv fun i j => .int (i / j)) := opI fun i j _ _ _ _ _ hc q => by
  have h1 : (0 : Int) < j := hc.1
  have h2 : j < 1073741824 := hc.2
  exact floordiv_int (by omega) (by rw [Int.fdiv_eq_ediv_of_nonneg i (by omega)]; exact q) (.inl (PyProof.noPylong_small (by omega)))
theorem op_mod : OpR X (binaryOp .Mod) (rI (fun _ j => 0 < j) fun i j => .int (i % j)) := opI fun i j _ _ _ _ _ hc q => by
  have h1 : (0 : Int) < j := hc
  exact mod_int' (by omega) (by rw [Int.fmod_eq_emod_of_nonneg i (by omega)]; exact q)
theorem unI {f : Value → Sem Value} {g : Int → Int}
    (rule : ∀ (i : Int) (t : Tok) (s : Shared) (Q : Value → Shared → Prop) (E : Value → Shared → Prop), Q (.int (g i) s.toks) { s with toks := s.toks + 1 } → wpAny (model X.prog X.w) X.A (f (.int i t)) Q E s) :
    UnR X f (rU fun i => .int (g i)) := by
  intro pins s σ H x v Q I rx h
  obtain ⟨i, rfl, q⟩ := h
  obtain ⟨t, rfl⟩ := rx
  exact rule i t s _ _ ⟨.int (g i), H, I.tok _, ⟨_, rfl⟩, q⟩
theorem un_neg : UnR X (unaryOp .USub) (rU fun i => .int (-i)) := unI fun _ _ _ _ _ q => neg_int q
end
def scal : V → V → Bool
  | .non, .non => true | .non, .int _ => true | .int _, .non => true | .non, .bl _ => true | .bl _, .non => true | .non, .str _ => true | .str _, .non => true
  | .int _, .int _ => true | .bl _, .bl _ => true | .str _, .str _ => true | .byt _, .byt _ => true
  | .int _, .str _ => true | .str _, .int _ => true | .bl _, .str _ => true | .str _, .bl _ => true
  | _, _ => false
def rEq : R2 := fun x y H Q => scal x y = true ∧ Q (.bl (decide (x = y))) H
def rNe : R2 := fun x y H Q => scal x y = true ∧ Q (.bl (!decide (x = y))) H
theorem dec_int {i j : Int} : decide (V.int i = V.int j) = (i == j) := by
  rw [Bool.eq_iff_iff]
  simp
theorem dec_bl {i j : Bool} : decide (V.bl i = V.bl j) = (i == j) := by
  rw [Bool.eq_iff_iff]
  simp
theorem dec_str {i j : Str} : decide (V.str i = V.str j) = (i == j) := by
  rw [Bool.eq_iff_iff]
  simp
theorem dec_byt {i j : Array UInt8} : decide (V.byt i = V.byt j) = (i.toList == j.toList) := by
  rw [Bool.eq_iff_iff]
  cases i
  cases j
  simp
section
variable {X : Cx} {a b c : Expr} {ta tb tc : TE} {pos : Pos}
theorem fin_bl {pins : List (Addr × Obj)} {σ : St} {H : Hp} {s : Shared} {Q : VK} {k k' : Bool} (I : Inv X pins σ H s) (q : Q (.bl k) H) (e : k = k') : EP X pins σ Q (.bool k') s := by
  subst e
  exact ⟨.bl k, H, I, rfl, q⟩
theorem op_eq : OpR X (compareOp .Eq) rEq := by
  intro pins s σ H x y v u Q I rx ry h
  obtain ⟨hs, q⟩ := h
  cases x with
  | non =>
    cases rx
    cases y with
    | non => cases ry; exact PySem.EqNone.eq_none_none (fin_bl I q (by simp))
    | bl j => cases ry; exact PySem.EqNone.eq_none_bool (fin_bl I q (by simp))
    | int j => obtain ⟨t', rfl⟩ := ry; exact PySem.EqNone.eq_none_int (fin_bl I q (by simp))
    | str j => obtain ⟨t', rfl⟩ := ry; exact PySem.EqNone.eq_none_str (fin_bl I q (by simp))
    | _ => exact absurd (show false = true from hs) Bool.false_ne_true
  | bl i =>
    cases rx
    cases y with
    | non => cases ry; exact PySem.EqNone.eq_bool_none (fin_bl I q (by simp))
    | bl j => cases ry; exact eq_bool (fin_bl I q dec_bl)
    | str j => obtain ⟨t', rfl⟩ := ry; exact PySem.EqMixed.eq_bool_str (fin_bl I q (by simp))
    | _ => exact absurd (show false = true from hs) Bool.false_ne_true
  | int i =>
    obtain ⟨t, rfl⟩ := rx
    cases y with
    | non => cases ry; exact PySem.EqNone.eq_int_none (fin_bl I q (by simp))
    | int j => obtain ⟨t', rfl⟩ := ry; exact eq_int (fin_bl I q dec_int)
    | str j => obtain ⟨t', rfl⟩ := ry; exact PySem.EqMixed.eq_int_str (fin_bl I q (by simp))
    | _ => exact absurd (show false = true from hs) Bool.false_ne_true
  | str i =>
    obtain ⟨t, rfl⟩ := rx
    cases y with
    | non => cases ry; exact PySem.EqNone.eq_str_none (fin_bl I q (by simp))
    | bl j => cases ry; exact PySem.EqMixed.eq_str_bool (fin_bl I q (by simp))
    | int j => obtain ⟨t', rfl⟩ := ry; exact PySem.EqMixed.eq_str_int (fin_bl I q (by simp))
    | str j => obtain ⟨t', rfl⟩ := ry; exact eq_str (fin_bl I q dec_str)
    | _ => exact absurd (show false = true from hs) Bool.false_ne_true
  | byt i =>
    obtain ⟨t, rfl⟩ := rx
    cases y with
    | byt j => obtain ⟨t', rfl⟩ := ry; exact PySem.W.eq_bytes (fin_bl I q dec_byt)
    | _ => exact absurd (show false = true from hs) Bool.false_ne_true
  | _ => cases y <;> exact absurd (show false = true from hs) Bool.false_ne_true
theorem op_ne : OpR X (compareOp .NotEq) rNe := by
  intro pins s σ H x y v u Q I rx ry h
  obtain ⟨hs, q⟩ := h
  cases x with
  | non =>
    cases rx
    cases y with
    | non => cases ry; exact PySem.EqNone.ne_none_none (fin_bl I q (by simp))
    | bl j => cases ry; exact PySem.EqNone.ne_none_bool (fin_bl I q (by simp))
    | int j => obtain ⟨t', rfl⟩ := ry; exact PySem.EqNone.ne_none_int (fin_bl I q (by simp))
    | str j => obtain ⟨t', rfl⟩ := ry; exact PySem.EqNone.ne_none_str (fin_bl I q (by simp))
    | _ => exact absurd (show false = true from hs) Bool.false_ne_true
  | bl i =>
    cases rx
    cases y with
    | non => cases ry; exact PySem.EqNone.ne_bool_none (fin_bl I q (by simp))
    | bl j => cases ry; exact ne_bool (fin_bl I q (congrArg not dec_bl))
    | str j => obtain ⟨t', rfl⟩ := ry; exact PySem.EqMixed.ne_bool_str (fin_bl I q (by simp))
    | _ => exact absurd (show false = true from hs) Bool.false_ne_true
  | int i =>
    obtain ⟨t, rfl⟩ := rx
    cases y with
    | non => cases ry; exact PySem.EqNone.ne_int_none (fin_bl I q (by simp))
    | int j => obtain ⟨t', rfl⟩ := ry; exact ne_int (fin_bl I q (congrArg not dec_int))
    | str j => obtain ⟨t', rfl⟩ := ry; exact PySem.EqMixed.ne_int_str (fin_bl I q (by simp))
    | _ => exact absurd (show false = true from hs) Bool.false_ne_true
  | str i =>
    obtain ⟨t, rfl⟩ := rx
    cases y with
    | non => cases ry; exact PySem.EqNone.ne_str_none (fin_bl I q (by simp))
    | bl j => cases ry; exact PySem.EqMixed.ne_str_bool (fin_bl I q (by simp))
    | int j => obtain ⟨t', rfl⟩ := ry; exact PySem.EqMixed.ne_str_int (fin_bl I q (by simp))
    | str j => obtain ⟨t', rfl⟩ := ry; exact ne_str (fin_bl I q (congrArg not dec_str))
    | _ => exact absurd (show false = true from hs) Bool.false_ne_true
  | byt i =>
    obtain ⟨t, rfl⟩ := rx
    cases y with
    | byt j => obtain ⟨t', rfl⟩ := ry; exact PySem.W.ne_bytes (fin_bl I q (congrArg not dec_byt))
    | _ => exact absurd (show false = true from hs) Bool.false_ne_true
  | _ => cases y <;> exact absurd (show false = true from hs) Bool.false_ne_true
theorem op_lt : OpR X (compareOp .Lt) (rI0 fun i j => .bl (decide (i < j))) := opB0 fun _ _ _ _ _ _ _ q => lt_int q
theorem op_gt : OpR X (compareOp .Gt) (rI0 fun i j => .bl (decide (j < i))) := opB0 fun _ _ _ _ _ _ _ q => gt_int q
theorem op_notN : OpR X (compareOp .IsNot) (fun x y H Q => y = .non ∧ Q (.bl (!decide (x = .non))) H) := by
  intro pins s σ H x y v u Q I rx ry h
  obtain ⟨rfl, q⟩ := h
  cases ry
  refine isnot_none_gen (fin_bl I q ?_)
  cases x <;> first
    | (cases rx; rfl)
    | (obtain ⟨t, rfl⟩ := rx; rfl)
def isObj : HO → Bool
  | .lst _ => true
  | .ins _ _ _ => true
  | _ => false
theorem nomark (b : Expr) {op : CmpOp} (h : op ≠ .In := by decide) (h2 : op ≠ .NotIn := by decide) : behindInMarks op b = false := by
  have e1 : (op == CmpOp.In) = false := by cases op <;> first | rfl | exact absurd rfl h
  have e2 : (op == CmpOp.NotIn) = false := by cases op <;> first | rfl | exact absurd rfl h2
  cases b <;> simp [behindInMarks, e1, e2]
theorem pe_cmpR {op : CmpOp} {r : R2} (ho : OpR X (compareOp op) r) (ha : PE X a ta) (hb : PE X b tb) (hm : behindInMarks op b = false) : PE X (.Compare a [op] [b] pos) (tOp r ta tb) := by
  constructor
  intro pins s σ H Q I h
  exact wpAny_Compare1 (binT ha hb I h fun v u s2 x y H2 I2 rx ry q => ho pins s2 σ H2 x y v u Q I2 rx ry q) hm
def tTest (t : TE) : TT := fun σ H Q => t σ H fun x H' => ∃ k, x = .bl k ∧ Q k H'
theorem pt_cmpR {op : CmpOp} {r : R2} (ho : OpR X (compareOp op) r) (ha : PE X a ta) (hb : PE X b tb) (hm : behindInMarks op b = false) : PT X (.Compare a [op] [b] pos) (tTest (tOp r ta tb)) := by
  constructor
  intro pins s σ H Q I h
  refine wpAny_isTrue_Compare1 (thn (ha pins s σ H _ I h) fun v s1 ⟨x, H1, I1, r1, q1⟩ => thn (hb pins s1 σ H1 _ I1 q1) fun u s2 ⟨y, H2, I2, r2, q2⟩ =>
    thn (ho pins s2 σ H2 x y v u _ I2 r1 r2 q2) fun c s3 ⟨z, H3, I3, r3, k, e, q3⟩ => ?_) hm
  subst e
  cases r3
  exact wpAny_truthy_bool ⟨H3, I3, q3⟩
def tChain (r r' : R2) (ta tb tc : TE) : TE := fun σ H Q => ta σ H fun x H1 => tb σ H1 fun y H2 => r x y H2 fun z H3 => ∃ k, z = .bl k ∧
  (if k = true then tc σ H3 fun w' H4 => r' y w' H4 Q else Q (.bl false) H3)
def TruV (K : PySem.W.Frag) (x : V) (H : Hp) (k : Bool) : Prop :=
  match x with
  | .non => k = false
  | .bl b => k = b
  | .int i => k = (i != 0)
  | .str y => y.length ≤ sizeLine ∧ k = ((y.length : Int) != 0)
  | .byt y => y.size ≤ sizeLine ∧ k = ((y.size : Int) != 0)
  | .ref p => (∃ xs, SqL K H p xs ∧ k = !xs.isEmpty) ∨ (∃ xs, SqT K H p xs ∧ k = !xs.isEmpty) ∨ ∃ kvs, H p = some (.dK kvs) ∧ k = !kvs.isEmpty
  | _ => False
theorem isEmpty_kv {κ : Type} {kvs : List (κ × V)} {vs : List (κ × Value)} (r : KV kvs vs) : (!vs.isEmpty) = !kvs.isEmpty := by
  cases r <;> rfl
theorem isEmpty_of {xs : List V} {its : List Value} (r : Vals xs its) : (!its.toArray.isEmpty) = !xs.isEmpty := by
  cases r <;> simp
theorem line63 : (sizeLine : Nat) < 2 ^ 63 := by rw [sizeLine_eq]; decide
theorem tru_ok : TruR X (fun x H Q => ∃ k, TruV X.K x H k ∧ Q k H) := by
  intro pins s σ H x v Q I rx h
  obtain ⟨k, e, q⟩ := h
  have hl := line63
  have hs : sizeLine = 16777216 := sizeLine_eq
  cases x with
  | non =>
    cases rx
    have e' : k = false := e
    subst e'
    exact truthy_none ⟨H, I, q⟩
  | bl b =>
    cases rx
    have e' : k = b := e
    subst e'
    exact wpAny_truthy_bool ⟨H, I, q⟩
  | int i =>
    obtain ⟨t, rfl⟩ := rx
    have e' : k = (i != 0) := e
    subst e'
    exact PySem.P.truthy_int ⟨H, I, q⟩
  | str y =>
    obtain ⟨t, rfl⟩ := rx
    obtain ⟨hy, e'⟩ : y.length ≤ sizeLine ∧ k = ((y.length : Int) != 0) := e
    subst e'
    exact PySem.P.truthy_str (by omega) ⟨H, I.tok _, q⟩
  | byt y =>
    obtain ⟨t, rfl⟩ := rx
    obtain ⟨hy, e'⟩ : y.size ≤ sizeLine ∧ k = ((y.size : Int) != 0) := e
    subst e'
    exact PySem.W.truthy_bytes (by omega) ⟨H, I.tok _, q⟩
  | ref p =>
    cases rx
    have e' : (∃ xs, SqL X.K H p xs ∧ k = !xs.isEmpty) ∨ (∃ xs, SqT X.K H p xs ∧ k = !xs.isEmpty) ∨ ∃ kvs, H p = some (.dK kvs) ∧ k = !kvs.isEmpty := e
    rcases e' with ⟨xs, hx, e'⟩ | ⟨xs, hx, e'⟩ | ⟨kvs, hx, e'⟩
    · subst e'
      obtain ⟨its, r, pl, hz⟩ := I.list hx
      have hlen := r.length
      exact wpAny_truthy_list pl.isList (by simp only [List.size_toArray]; omega) ⟨H, I.tok _, by rw [isEmpty_of r]; exact q⟩
    · subst e'
      obtain ⟨its, r, pl, hz⟩ := I.tuple hx
      have hlen := r.length
      exact truthy_tuple pl (by simp only [List.size_toArray]; omega) ⟨H, I.tok _, by rw [isEmpty_of r]; exact q⟩
    · subst e'
      obtain ⟨hz, hS, vs, r, m⟩ : kvs.length ≤ sizeLine ∧ (p == sysModules) = false ∧ ∃ vs, KV kvs vs ∧ s.heap.DictOf (mixKind X.prog X.w) p vs := I.hok p _ hx
      have hlen : kvs.length = vs.length := Paired.length r
      exact wpAny_truthy_dict hS m (by omega) ⟨H, I.tok _, by rw [isEmpty_kv r]; exact q⟩
  | _ => exact (show False from e).elim
theorem pt_truth (ha : PE X a ta) (he : ∀ whole, isTrue a X.env whole = (do let v ← whole; standAt a.pos; holding [v] (truthy v))) :
    PT X a (fun σ H Q => ta σ H fun x H' => ∃ k, TruV X.K x H' k ∧ Q k H') := by
  constructor
  intro pins s σ H Q I h
  exact isTrue_plain (thn (ha pins s σ H _ I h) fun v s1 ⟨x, H1, I1, r1, q1⟩ => tru_ok pins s1 σ H1 x v Q I1 r1 q1) (he _)
theorem op_add_str : OpR X (binaryOp .Add) (fun x y H Q => ∃ i j, x = .str i ∧ y = .str j ∧ i.length + j.length ≤ sizeLine ∧ Q (.str (i ++ j)) H) := by
  intro pins s σ H x y v u Q I rx ry h
  obtain ⟨i, j, rfl, rfl, hz, q⟩ := h
  obtain ⟨t, rfl⟩ := rx
  obtain ⟨t', rfl⟩ := ry
  exact add_str (fun t' tk => ⟨.str (i ++ j), H, I.tok _, ⟨_, rfl⟩, q⟩) hz
def PlainIxT (b : Expr) : Prop := ∀ o i, subscripted b false o i = operate [o, i] (getItem o i)
theorem vals1 {x : V} {us : List Value} (r : Vals [x] us) : ∃ u, us = [u] ∧ RelV x u := by
  cases r with
  | cons r1 r2 => cases r2; exact ⟨_, rfl, r1⟩
theorem vals2 {x y : V} {us : List Value} (r : Vals [x, y] us) : ∃ u w', us = [u, w'] ∧ RelV x u ∧ RelV y w' := by
  cases r with
  | cons r1 r2 =>
    cases r2 with
    | cons r3 r4 => cases r4; exact ⟨_, _, rfl, r1, r3⟩
theorem call_int1 : CallR X (.type "int") (fun xs H Q => (∃ i, xs = [.int i] ∧ Q (.int i) H) ∨ ∃ k, xs = [.bl k] ∧ Q (.int (if k then 1 else 0)) H) := by
  intro pins s σ H xs us Q I r h
  rcases h with ⟨i, rfl, q⟩ | ⟨k, rfl, q⟩
  · obtain ⟨u, rfl, t, rfl⟩ := vals1 r
    exact call_int_int ⟨.int i, H, I, ⟨_, rfl⟩, q⟩
  · obtain ⟨u, rfl, r1⟩ := vals1 r
    cases r1
    exact call_int_bool ⟨.int (if k then 1 else 0), H, I.tok _, ⟨_, rfl⟩, q⟩
def LenV (K : PySem.W.Frag) (x : V) (H : Hp) (n : Nat) : Prop :=
  match x with
  | .str y => y.length ≤ sizeLine ∧ n = y.length
  | .byt y => y.size ≤ sizeLine ∧ n = y.size
  | .ref p => (∃ xs, SqL K H p xs ∧ n = xs.length) ∨ ∃ xs, SqT K H p xs ∧ n = xs.length
  | _ => False
end
end L2
namespace L2
open PySem PySem.Spec PyProof.Rows
structure ObjM (h : Heap) (x dx C : Addr) (mA : Str → Option Value) : Prop where
  obj : h.get? x = some (PySem.W.instObj C dx)
  ns : h.Ns1 dx mA
  ne : dx ≠ x
theorem lookIn_ns {h : Heap} {dx : Addr} {mA : Str → Option Value} (n : h.Ns1 dx mA) : ∃ od, h.get? dx = some od ∧ ∀ name, PySem.W.lookIn name od = some (mA name) := by
  obtain ⟨o, es, ep, ho, hd, hk, _, hm⟩ := n
  refine ⟨o, ho, fun name => ?_⟩
  have e := hm name
  unfold nsFind findBy at e
  rw [← Array.find?_toList] at e
  unfold PySem.W.lookIn
  rw [hd]
  dsimp only
  split
  · rename_i y q
    rw [q] at e
    exact congrArg some e
  · rename_i q
    rw [q] at e
    have a : es.toList.any (·.refKey) = false := by
      rw [List.any_eq_false]
      intro y hy
      obtain ⟨z, t, hkey⟩ := hk y (Array.mem_toList_iff.mp hy)
      simp [DictEntry.refKey, hkey]
    have a' : ¬ es.toList.any (·.refKey) = true := by rw [a]; exact Bool.false_ne_true
    rw [if_neg a']
    exact congrArg some e
theorem ObjM.look {h : Heap} {x dx C : Addr} {mA : Str → Option Value} (I : ObjM h x dx C mA) : ∃ od, PySem.W.InstAt h x (PySem.W.instObj C dx) C (some od) ∧ ∀ name, PySem.W.lookIn name od = some (mA name) :=
  let ⟨od, ho, hl⟩ := lookIn_ns I.ns
  ⟨od, ⟨I.obj, rfl, rfl, ho⟩, hl⟩
section
variable {prog : Program} {w : World} {A : Around} {E : Value → Shared → Prop} {s : Shared} {K : PySem.W.Frag} {x dx C f : Addr} {mA : Str → Option Value} {name : Str} {v : Value}
end
def putF (f : Str) (v : V) : List (Str × V) → List (Str × V)
  | [] => [(f, v)]
  | (g, x) :: r => if g = f then (g, v) :: r else (g, x) :: putF f v r
theorem RelO.some_of {v : V} {o : Option Value} (r : RelO (some v) o) : ∃ u, o = some u ∧ RelV v u := by
  cases o with
  | none => exact (show False from r).elim
  | some u => exact ⟨u, rfl, r⟩
section
variable {P : Program} {w : World} {H H' : Hp} {h h' : Heap} {a C dx : Addr} {fs fs' : List (Str × V)}
theorem ins_get (hok : HOk P w H h) (e : H a = some (.ins C dx fs)) : ∃ mA, ObjM h a dx C mA ∧ (∀ f, RelO (fs.lookup f) (mA f)) ∧ PySem.Within mA (fs.map (·.1)) ∧ fs.length ≤ 1000 ∧ H dx = some (.own a) := by
  obtain ⟨d, z, ne, ob, mA, n, r, q⟩ := (show ObjOk P w H h a (.ins C dx fs) from hok a _ e)
  exact ⟨mA, ⟨ob, n, ne⟩, r, q, z, d⟩
end
structure Cls (K : PySem.W.Frag) (C : Addr) : Prop where
  pg : PySem.W.plainGet K C Str.empty = true
  hd : PySem.W.hasDictIn K C = true
  po : PySem.W.plainOver K C = true
  sa : PySem.W.findIn K (.ref C) "__setattr__" = some (some (.builtin "object.__setattr__"))
theorem Cls.get {K : PySem.W.Frag} {C : Addr} (c : Cls K C) (f : Str) : PySem.W.plainGet K C f = true := c.pg
def NoAttr (K : PySem.W.Frag) (C : Addr) (f : Str) : Prop := PySem.W.findIn K (.ref C) f = some none
structure Con (K : PySem.W.Frag) (C : Addr) (f : Str) (v : V) (u : Value) : Prop where
  at_ : PySem.W.findIn K (.ref C) f = some (some u)
  rel : RelV v u
  get : PySem.W.specialIn K u "__get__" = some none
  cp : PySem.W.copiedNames.contains f = false
structure Meth (K : PySem.W.Frag) (C : Addr) (m : Str) (f : Addr) : Prop where
  at_ : PySem.W.findIn K (.ref C) m = some (some (.ref f))
  fn : PySem.W.isFn K (.ref f) = true
  kp : PySem.W.keepIn K (.ref f) = true
section
variable {X : Cx} {pins : List (Addr × Obj)} {σ : St} {H : Hp} {s : Shared} {a C dx : Addr} {fs : List (Str × V)} {f : Str} {v : V} {A : Around} {E : Value → Shared → Prop}
end
def tFld (K : PySem.W.Frag) (ta : TE) (f : Str) : TE := fun σ H Q => ta σ H fun x H1 => ∃ a C dx fs v, x = .ref a ∧ H1 a = some (.ins C dx fs) ∧ Cls K C ∧ NoAttr K C f ∧ fs.lookup f = some v ∧ Q v H1
def tCon (K : PySem.W.Frag) (ta : TE) (f : Str) : TE := fun σ H Q => ta σ H fun x H1 => ∃ a C dx fs v u, x = .ref a ∧ H1 a = some (.ins C dx fs) ∧ Cls K C ∧ Con K C f v u ∧ fs.lookup f = none ∧ Q v H1
def sFld (K : PySem.W.Frag) (ta tv : TE) (f : Str) : TS := fun D σ H => tv σ H fun y H1 => ta σ H1 fun x H2 => ∃ a C dx fs, x = .ref a ∧ H2 a = some (.ins C dx fs) ∧ Cls K C ∧ NoAttr K C f ∧ fs.length < 1000 ∧
  D.nx σ (upd H2 a (.ins C dx (putF f y fs)))
def InOp (X : Cx) (op : Operator) (rd : V → V → Hp → VK → Prop) : Prop :=
  ∀ (pins : List (Addr × Obj)) (s : Shared) (σ : St) (H : Hp) (x y : V) (u v : Value) (Q : VK), Inv X pins σ H s → RelV x u → RelV y v → rd x y H Q → wpAny (model X.prog X.w) X.A (inplaceOp op u v) (EP X pins σ Q) X.xe s
def sFldAug (K : PySem.W.Frag) (ta tv : TE) (rd : V → V → Hp → VK → Prop) (f : Str) : TS := fun D σ H => ta σ H fun x H1 => ∃ a C dx fs v, x = .ref a ∧ H1 a = some (.ins C dx fs) ∧ Cls K C ∧ NoAttr K C f ∧ fs.lookup f = some v ∧
  tv σ H1 fun y H2 => rd v y H2 fun z H3 => ∃ dx' fs', H3 a = some (.ins C dx' fs') ∧ fs'.length < 1000 ∧ D.nx σ (upd H3 a (.ins C dx' (putF f z fs')))
section
variable {X : Cx} {o e value : Expr} {f : Str} {pos pos' tpos : Pos} {ta tv : TE}
def rAdd : V → V → Hp → VK → Prop := fun x y H Q => ∃ i j, x = .int i ∧ y = .int j ∧ Q (.int (i + j)) H
def rSub : V → V → Hp → VK → Prop := fun x y H Q => ∃ i j, x = .int i ∧ y = .int j ∧ Q (.int (i - j)) H
end
section
variable {X : Cx} {pins : List (Addr × Obj)} {σ : St} {H : Hp} {s : Shared} {A : Around} {E : Value → Shared → Prop} {Q : Value → Shared → Prop} {c : Value} {b : Bool}
inductive TyOf (K : PySem.W.Frag) (H : Hp) : V → Value → Prop where
  | non : TyOf K H .non (.type "NoneType")
  | bl (x : Bool) : TyOf K H (.bl x) (.type "bool")
  | int (i : Int) : TyOf K H (.int i) (.type "int")
  | str (x : Str) : TyOf K H (.str x) (.type "str")
  | flt (x : UInt64) : TyOf K H (.flt x) (.type "float")
  | lst {a : Addr} {xs : List V} (e : H a = some (.lst xs)) : TyOf K H (.ref a) (.type "list")
  | frz {a : Addr} {o : Obj} {xs : List V} (e : H a = some (.frz o (.lst xs))) : TyOf K H (.ref a) (.type "list")
  | tup {a : Addr} {xs : List V} (e : H a = some (.tup xs)) : TyOf K H (.ref a) (.type "tuple")
  | dK {a : Addr} {kvs : List (Key × V)} (e : H a = some (.dK kvs)) : TyOf K H (.ref a) (.type "dict")
  | dT {a : Addr} {kvs : List (List Key × V)} (e : H a = some (.dT kvs)) : TyOf K H (.ref a) (.type "dict")
  | ins {a C dx : Addr} {fs : List (Str × V)} (e : H a = some (.ins C dx fs)) (cl : Cls K C) (ha : PySem.W.findIn K (.ref C) "__class__" = some (some (.builtin "object.__class__")))
      (hn : PySem.W.specialIn K (.builtin "object.__class__") "__get__" = some (some (.builtin "getset_descriptor.__get__"))) (htk : PySem.W.takesIn K (.builtin "object.__class__") = some true)
      (hm : PySem.W.mroIn K C (.type "object") = some true) : TyOf K H (.ref a) (.ref C)
theorem isinst_ok {x : V} {u t : Value} (I : Inv X pins σ H s) (rx : RelV x u) (ty : TyOf X.K H x t) (e : PySem.W.kitOne X.K t c = some b) (h : ∀ tk, Q (.bool b) { s with toks := tk }) :
    wpAny (model X.prog X.w) A (call (.builtin "isinstance") [u, c]) Q E s := by
  cases ty with
  | non => cases (show u = Value.none from rx); exact PySem.W.kia_one PySem.W.kitx_none I.kIn True.intro e (fun z => nomatch z) h
  | bl y => cases (show u = Value.bool y from rx); exact PySem.W.kia_one PySem.W.kitx_bool I.kIn True.intro e (fun z => nomatch z) h
  | int i => obtain ⟨t, q⟩ := (show ∃ t, u = Value.int i t from rx); cases q; exact PySem.W.kia_one PySem.W.kitx_int I.kIn True.intro e (fun z => nomatch z) h
  | str y => obtain ⟨t, q⟩ := (show ∃ t, u = Value.str y t from rx); cases q; exact PySem.W.kia_one PySem.W.kitx_str I.kIn True.intro e (fun z => nomatch z) h
  | flt y => obtain ⟨t, q⟩ := (show ∃ t, u = Value.float y t from rx); cases q; exact PySem.W.kia_one PySem.W.kitx_float I.kIn True.intro e (fun z => nomatch z) h
  | @lst a xs ea =>
    cases (show u = Value.ref a from rx)
    obtain ⟨_, _, n, _, h1⟩ := (show ObjOk X.prog X.w H s.heap a (.lst xs) from I.hok a _ ea)
    exact PySem.W.kia_one PySem.W.kitx_list I.kIn ⟨_, h1, rfl⟩ e (fun z => nomatch z) h
  | @frz a ob xs ea =>
    cases (show u = Value.ref a from rx)
    obtain ⟨_, _, _, n, _, h1⟩ := (show ObjOk X.prog X.w H s.heap a (.frz ob (.lst xs)) from I.hok a _ ea)
    exact PySem.W.kia_one PySem.W.kitx_list I.kIn ⟨_, h1, rfl⟩ e (fun z => nomatch z) h
  | @tup a xs ea =>
    cases (show u = Value.ref a from rx)
    obtain ⟨_, _, _, p⟩ := (show ObjOk X.prog X.w H s.heap a (.tup xs) from I.hok a _ ea)
    obtain ⟨o, h1, h2, _⟩ := p
    exact PySem.W.kia_one PySem.W.kitx_tuple I.kIn ⟨o, h1, h2⟩ e (fun z => nomatch z) h
  | @dK a kvs ea =>
    cases (show u = Value.ref a from rx)
    obtain ⟨_, _, vs, _, p⟩ := (show ObjOk X.prog X.w H s.heap a (.dK kvs) from I.hok a _ ea)
    obtain ⟨o, es, ep, h1, h2, _⟩ := p
    exact PySem.W.kia_one PySem.W.kitx_dict I.kIn ⟨o, h1, h2.1⟩ e (fun z => nomatch z) h
  | @dT a kvs ea =>
    cases (show u = Value.ref a from rx)
    obtain ⟨_, _, xs, _, o, es, ep, h1, h2, _⟩ := (show ObjOk X.prog X.w H s.heap a (.dT kvs) from I.hok a _ ea)
    exact PySem.W.kia_one PySem.W.kitx_dict I.kIn ⟨o, h1, h2.1⟩ e (fun z => nomatch z) h
  | @ins a C dx fs ea cl ha hn htk hm =>
    cases (show u = Value.ref a from rx)
    obtain ⟨mA, O, _⟩ := ins_get I.hok ea
    obtain ⟨od, J, _⟩ := O.look
    exact PySem.W.kia_one (PySem.W.kitx_own (cl.get _) cl.hd ha hn htk hm) I.kIn J e (fun z => nomatch z) h
end
end L2
namespace L2
open PySem PySem.Spec PyProof.Rows
structure Room (k : Nat) (A : Around) : Prop where
  hd : A.handled = none
  dp : A.depth + 3 * k + 5 < recursionLimit
  un : A.units + 16 * k + 200 < cLine
theorem Room.mono {j k : Nat} {A : Around} (r : Room k A) (h : j ≤ k) : Room j A := ⟨r.hd, by have := r.dp; omega, by have := r.un; omega⟩
theorem Room.deeper {k : Nat} {A : Around} (r : Room (k + 1) A) (env : Env) : Room k (A.deeper env) :=
  ⟨r.hd, by have := r.dp; show A.depth + 1 + 3 * k + 5 < _; omega, by have := r.un; show A.units + 3 + 16 * k + 200 < _; omega⟩
theorem Room.depth {k : Nat} {A : Around} (r : Room k A) : A.depth < recursionLimit := by have := r.dp; omega
def tNil : TA := fun _ H Q => Q [] H
def tCons (ta : TE) (tr : TA) : TA := fun σ H Q => ta σ H fun x H1 => tr σ H1 fun xs H2 => Q (x :: xs) H2
section
variable {X : Cx} {e : Expr} {es : List Expr} {te : TE} {t : TA} {pos : Pos}
theorem pa_nil : PA X [] tNil := ⟨fun _ _ _ _ H Q I h => Calls.spliced_nil ⟨[], H, I, .nil, h⟩⟩
theorem pa_cons (ha : PE X e te) (hr : PA X es t) (hs : starEach (e :: es) X.env = (false, eval e X.env) :: starEach es X.env := by rfl) : PA X (e :: es) (tCons te t) := by
  constructor
  intro pos pins s σ H Q I h
  rw [hs]
  show wpAny _ _ (spliced ((false, eval e X.env) :: backTo pos (starEach es X.env))) _ _ s
  refine Calls.spliced_cons (thn (ha pins s σ H _ I h) fun u s1 ⟨x, H1, I1, r1, q1⟩ => ?_)
  exact thn (hr pos pins s1 σ H1 _ I1 q1) fun us s2 ⟨xs, H2, I2, r2, q2⟩ => ⟨x :: xs, H2, I2, .cons r1 r2, q2⟩
def tTup (t : TA) : TE := fun σ H Q => t σ H fun xs H1 => xs.length ≤ sizeLine ∧ ∀ p, H1 p = none → Q (.ref p) (upd H1 p (.tup xs))
def tLst (t : TA) : TE := fun σ H Q => t σ H fun xs H1 => xs.length ≤ sizeLine ∧ ∀ p, H1 p = none → Q (.ref p) (upd H1 p (.lst xs))
theorem pe_tup {x1} (h : PA X es t) : PE X (.Tuple es x1 pos) (tTup t) := by
  constructor
  intro pins s σ H Q I hq
  refine wpAny_Tuple_spliced (thn (h pos pins s σ H _ I hq) fun us s1 ⟨xs, H1, I1, r, z, q⟩ => ⟨by rw [← r.length]; exact z, ?_⟩)
  have hf : H1 s1.heap.objs.size = none := I1.hok.fresh (Nat.le_refl _)
  refine ⟨.ref s1.heap.objs.size, upd H1 s1.heap.objs.size (.tup xs), I1.laid (t' := s1.toks) (fun b u e => Heap.get?_push_of_some _ e) (Nat.le_refl _) ?_, rfl, q _ hf⟩
  exact ⟨z, us, r, ⟨_, Heap.get?_push_size _ rfl, rfl, _, rfl⟩⟩
theorem pe_lst (h : PA X es t) : PE X (.List es pos) (tLst t) := by
  constructor
  intro pins s σ H Q I hq
  refine wpAny_List_spliced (thn (h pos pins s σ H _ I hq) fun us s1 ⟨xs, H1, I1, r, z, q⟩ => ⟨by rw [← r.length]; exact z, ?_⟩)
  have hf : H1 s1.heap.objs.size = none := I1.hok.fresh (Nat.le_refl _)
  refine ⟨.ref s1.heap.objs.size, upd H1 s1.heap.objs.size (.lst xs), I1.laid (t' := s1.toks) (fun b u e => Heap.get?_push_of_some _ e) (Nat.le_refl _) ?_, rfl, q _ hf⟩
  exact ⟨z, us, 0, r, Heap.get?_push_size _ rfl⟩
end
abbrev Sp := List V → Hp → VK → XK → Prop
abbrev CXT := List Env → Hp → Shared → XK → Value → Shared → Prop
structure Env0 (P : Program) (w : World) (K : PySem.W.Frag) (mg : Str → Option Value) (base : Heap) (A : Around) (outer : List Env) (s : Shared) (H : Hp) : Prop where
  frames : A.frames = some outer
  mod : Mod K mg base
  bs : ∀ b o, base.get? b = some o → s.heap.get? b = some o ∧ H b = none
  bsz : base.objs.size ≤ s.heap.objs.size
  funs : s.heap.FunFrames base outer
  frf : ∀ b ∈ frs outer, H b = none
  hok : HOk P w H s.heap
  bare : AllBare s.gens
def CE (outer : List Env) (P : Program) (w : World) (H : Hp) (s : Shared) (Q : VK) (u : Value) (s' : Shared) : Prop :=
  ∃ v H', s'.os = s.os ∧ AllBare s'.gens ∧ Un (frs outer) [] H H' s.heap s'.heap ∧ HOk P w H' s'.heap ∧ RelV v u ∧ Q v H'
def CR (CX : CXT) (outer : List Env) (P : Program) (w : World) (H : Hp) (s : Shared) (Q : VK) (E : XK) (r : Result) (s' : Shared) : Prop :=
  match r with
  | .ok (.ret u) => CE outer P w H s Q u s'
  | .ok _ => False
  | .error e => CX outer H s E e s'
structure FnOk (P : Program) (w : World) (K : PySem.W.Frag) (mg : Str → Option Value) (base : Heap) (CX : CXT) (k : Nat) (f : Addr) (fd : FuncData) (ps : List Str) (sp : Sp) : Prop where
  len : ∀ vs H Q E, sp vs H Q E → vs.length = ps.length
  run : ∀ (A : Around) (outer : List Env) (s : Shared) (H : Hp) (args : Args) (us : List Value) (vs : List V) (Q : VK) (E : XK), Room k A → Env0 P w K mg base A outer s H → BindsTo s fd args (ps.zip us) → Vals vs us → sp vs H Q E →
    codeAny (model P w) A (.call (.ref f) args) (CR CX outer P w H s Q E) s
section
variable {X : Cx} {pins : List (Addr × Obj)} {σ : St} {H : Hp} {s s' : Shared}
theorem Inv.env0 (I : Inv X pins σ H s) : Env0 X.prog X.w X.K X.mg X.base X.A X.stack s H :=
  ⟨I.ok.frames, I.ok.mod, I.bs, Nat.le_trans I.ok.bsz I.sz, I.stack, I.stkFree, I.hok, I.bare⟩
theorem Inv.after {Q : VK} {u : Value} (I : Inv X pins σ H s) (h : CE X.stack X.prog X.w H s Q u s') : EP X pins σ Q u s' := by
  obtain ⟨v, H', os, bare, un, hok, r, q⟩ := h
  obtain ⟨hh, g, d, t, os'⟩ := s'
  obtain rfl : os' = s.os := os
  exact ⟨v, H', I.call (h' := hh) (g' := g) (d' := d) (t' := t) (ch := []) un hok bare (fun b z => absurd z (by simp)), r, q⟩
end
def tCall (sp : Sp) (dvs : List V) (E : XK) (t : TA) : TE := fun σ H Q => t σ H fun vs H1 => sp (vs ++ dvs) H1 Q E
def tMeth (C : Addr) (m : Str) (sp : Sp) (dvs : List V) (E : XK) (ta : TE) (t : TA) : TE := fun σ H Q => ta σ H fun x H1 => ∃ a dx fs, x = .ref a ∧ H1 a = some (.ins C dx fs) ∧ fs.lookup m = none ∧
  t σ H1 fun vs H2 => sp (x :: (vs ++ dvs)) H2 Q E
def tMake (C : Addr) (sp : Sp) (dvs : List V) (E : XK) (t : TA) : TE := fun σ H Q => t σ H fun vs H1 => ∀ x dx, H1 x = none → H1 dx = none → dx ≠ x →
  sp (.ref x :: (vs ++ dvs)) (upd (upd H1 dx (.own x)) x (.ins C dx [])) (fun v H2 => v = .non ∧ Q (.ref x) H2) E
def Binds (K : PySem.W.Frag) (fd : FuncData) (ps : List Str) (ds : List Value) : Prop :=
  ∀ (s : Shared) (us : List Value), K.In s.heap → (us ++ ds).length = ps.length → BindsTo s fd ⟨us, []⟩ (ps.zip (us ++ ds))
theorem Binds.all {K : PySem.W.Frag} {fd : FuncData} {ps : List Str} (h : ∀ us : List Value, us.length = ps.length → bindArgs fd ⟨us, []⟩ = pure (ps.zip us)) : Binds K fd ps [] := fun s us _ hl => by
  rw [List.append_nil] at hl ⊢
  exact .of_eq (h us hl)
def Passes (CX : CXT) (X : Cx) (E : XK) : Prop := ∀ (pins : List (Addr × Obj)) (σ : St) (H : Hp) (s : Shared) (e : Value) (s' : Shared), Inv X pins σ H s → CX X.stack H s E e s' → X.xe e s'
section
variable {X : Cx} {CX : CXT} {k : Nat} {f C : Addr} {fd : FuncData} {ps : List Str} {sp : Sp} {dvs : List V} {ds : List Value} {E : XK} {x m : Str} {p pos apos : Pos} {e o : Expr} {es : List Expr} {ta : TE} {t : TA}
theorem run_fn {pins : List (Addr × Obj)} {σ : St} {H : Hp} {s : Shared} {Q : VK} {us : List Value} {vs : List V} (F : FnOk X.prog X.w X.K X.mg X.base CX k f fd ps sp) (hr : Room k X.A) (hb : Binds X.K fd ps ds) (hd : Vals dvs ds) (hx : Passes CX X E)
    (I : Inv X pins σ H s) (r : Vals vs us) (h : sp (vs ++ dvs) H Q E) : wpAny (model X.prog X.w) X.A (call (.ref f) us) (EP X pins σ Q) X.xe s := by
  have r2 : Vals (vs ++ dvs) (us ++ ds) := r.append hd
  have hl : (us ++ ds).length = ps.length := by rw [← r2.length]; exact F.len _ _ _ _ h
  refine wpAny_call (codeAny_mono (F.run X.A X.stack s H ⟨us, []⟩ (us ++ ds) (vs ++ dvs) Q E hr I.env0 (hb s us I.kIn hl) r2 h) fun r s' hq => ?_)
  cases r with
  | error e => exact hx pins σ H s e s' I hq
  | ok fl =>
    cases fl with
    | ret u => exact I.after hq
    | next => exact False.elim hq
    | brk => exact False.elim hq
    | cont => exact False.elim hq
theorem pe_call (F : FnOk X.prog X.w X.K X.mg X.base CX k f fd ps sp) (hr : Room k X.A) (hg : Gl X x) (hm : X.mg x = some (.ref f)) (hk : PySem.W.keepIn X.K (.ref f) = true) (hb : Binds X.K fd ps ds) (hd : Vals dvs ds) (hx : Passes CX X E)
    (ha : PA X (e :: es) t) (hdb : (x == ("__debug__" : Str)) = false := by decide) (he : starEach (e :: es) X.env = (false, eval e X.env) :: starEach es X.env := by rfl) (hpl : (backTo pos (starEach es X.env)).any (·.1) = false := by rfl) :
    PE X (.Call (.Name x p) (e :: es) [] pos) (tCall sp dvs E t) := by
  constructor
  intro pins s σ H Q I h
  refine wpAny_Call_Name_kw (ld_glob I hg hm ?_ hdb)
  refine PySem.W.callWith_K (h₀ := X.base) I.ok.mod.kin hk (thn (ha pos pins s σ H _ I h) fun us s1 ⟨vs, H1, I1, r, q⟩ => ⟨I1.kIn, ?_⟩) he hpl
  exact run_fn F hr hb hd hx I1 r q
structure Mk (K : PySem.W.Frag) (C f : Addr) : Prop where
  makes : PySem.W.makesIn K C = true
  init : PySem.W.findIn K (.ref C) "__init__" = some (some (.ref f))
  fn : PySem.W.isFn K (.ref f) = true
  kp : PySem.W.keepIn K (.ref C) = true
end
structure PK (X : Cx) (kws : List Keyword) (t : TA) : Prop where
  go : ∀ (pos : Pos) (pins : List (Addr × Obj)) (s : Shared) (σ : St) (H : Hp) (Q : List V → Hp → Prop), Inv X pins σ H s → t σ H Q → wpAny (model X.prog X.w) X.A (evalAll ((backToKw pos (keywordEach kws X.env)).map (·.2))) (AP X pins σ Q) X.xe s
instance {X : Cx} {kws : List Keyword} {t : TA} : CoeFun (PK X kws t) (fun _ => ∀ (pos : Pos) (pins : List (Addr × Obj)) (s : Shared) (σ : St) (H : Hp) (Q : List V → Hp → Prop), Inv X pins σ H s → t σ H Q → wpAny (model X.prog X.w) X.A (evalAll ((backToKw pos (keywordEach kws X.env)).map (·.2))) (AP X pins σ Q) X.xe s) := ⟨fun h => h.go⟩
section
variable {X : Cx} {CX : CXT} {k : Nat} {f C : Addr} {fd : FuncData} {ps ks : List Str} {sp : Sp} {E : XK} {x m : Str} {p pos apos kpos : Pos} {e o : Expr} {es : List Expr} {kws : List Keyword} {te ta : TE} {t tk : TA} {nm : Option Str}
structure KBinds (K : PySem.W.Frag) (fd : FuncData) (ps ks : List Str) (g : List Value → List Value → List Value) (gV : List V → List V → List V) : Prop where
  to : ∀ (s : Shared) (us ws : List Value), K.In s.heap → (g us ws).length = ps.length → BindsTo s fd ⟨us, ks.zip ws⟩ (ps.zip (g us ws))
  rel : ∀ {vs : List V} {us : List Value} {zs : List V} {ws : List Value}, Vals vs us → Vals zs ws → Vals (gV vs zs) (g us ws)
def tCallK (sp : Sp) (gV : List V → List V → List V) (E : XK) (t tk : TA) : TE := fun σ H Q => t σ H fun vs H1 => tk σ H1 fun zs H2 => sp (gV vs zs) H2 Q E
variable {g : List Value → List Value → List Value} {gV : List V → List V → List V}
end
structure FnScope (N P : List Str) (sc : Scope) : Prop where
  kind : sc.kind = .function
  co : sc.isCoroutine = false
  gen : sc.isGenerator = false
  nd : N.Nodup
  pre : N.take P.length = P
  par : ∀ x ∈ P, sc.names.lookup x = some .local ∨ sc.names.lookup x = some .cell
  nofree : ∀ y ∈ sc.names, y.2 ≠ .free
theorem bindL_out {kindOf : Str → Option NameKind} {x : Str} : ∀ {binds : List (Str × Value)} {m : Str → Option Value}, (∀ v, (x, v) ∉ binds) → bindL kindOf binds m x = m x
  | [], _, _ => rfl
  | (n, v) :: r, m, h => by
    unfold bindL
    rw [bindL_out fun w hw => h w (List.mem_cons_of_mem _ hw)]
    split
    · have : x ≠ n := by rintro rfl; exact h v List.mem_cons_self
      simp [this]
    · rfl
theorem bindC_out {kindOf : Str → Option NameKind} {x : Str} : ∀ {binds : List (Str × Value)} {m : Str → Option Value}, (∀ v, (x, v) ∉ binds) → bindC kindOf binds m x = m x
  | [], _, _ => rfl
  | (n, v) :: r, m, h => by
    unfold bindC
    rw [bindC_out fun w hw => h w (List.mem_cons_of_mem _ hw)]
    split
    · rfl
    · have : x ≠ n := by rintro rfl; exact h v List.mem_cons_self
      simp [this]
theorem bindL_get {kindOf : Str → Option NameKind} {x : Str} {v : Value} : ∀ {P : List Str} {vs : List Value} {i : Nat} {m : Str → Option Value}, P.Nodup → P[i]? = some x → vs[i]? = some v → kindOf x = some .local →
    bindL kindOf (P.zip vs) m x = some v
  | [], _, _, _, _, h, _, _ => by simp at h
  | _ :: _, [], _, _, _, _, h, _ => by simp at h
  | p :: P, w :: vs, 0, m, nd, h1, h2, hk => by
    simp at h1 h2; subst h1; subst h2
    show bindL kindOf ((p, w) :: P.zip vs) m p = _
    unfold bindL
    rw [bindL_out fun v hv => (List.nodup_cons.mp nd).1 (List.of_mem_zip hv).1, if_pos hk]
    simp
  | p :: P, w :: vs, i + 1, m, nd, h1, h2, hk => by
    show bindL kindOf ((p, w) :: P.zip vs) m x = _
    unfold bindL
    exact bindL_get (i := i) (List.nodup_cons.mp nd).2 (by simpa using h1) (by simpa using h2) hk
theorem bindC_get {kindOf : Str → Option NameKind} {x : Str} {v : Value} : ∀ {P : List Str} {vs : List Value} {i : Nat} {m : Str → Option Value}, P.Nodup → P[i]? = some x → vs[i]? = some v → kindOf x ≠ some .local →
    bindC kindOf (P.zip vs) m x = some v
  | [], _, _, _, _, h, _, _ => by simp at h
  | _ :: _, [], _, _, _, _, h, _ => by simp at h
  | p :: P, w :: vs, 0, m, nd, h1, h2, hk => by
    simp at h1 h2; subst h1; subst h2
    show bindC kindOf ((p, w) :: P.zip vs) m p = _
    unfold bindC
    rw [bindC_out fun v hv => (List.nodup_cons.mp nd).1 (List.of_mem_zip hv).1, if_neg hk]
    simp
  | p :: P, w :: vs, i + 1, m, nd, h1, h2, hk => by
    show bindC kindOf ((p, w) :: P.zip vs) m x = _
    unfold bindC
    exact bindC_get (i := i) (List.nodup_cons.mp nd).2 (by simpa using h1) (by simpa using h2) hk
def start (N : List Str) (vs : List V) : St := vs.map some ++ List.replicate (N.length - vs.length) none
def cxOf (CX : CXT) (P : Program) (w : World) (K : PySem.W.Frag) (mg : Str → Option Value) (base : Heap) (N : List Str) (qual : Str) (scope : Scope) (f : Addr) (cd : Value) (A : Around) (outer : List Env) (s : Shared) (H : Hp) (E : XK) : Cx where
  prog := P
  w := w
  K := K
  mg := mg
  base := base
  A := A.deeper (envOfC qual scope s.heap.objs.size f cd)
  N := N
  s₀ := s
  H₀ := H
  env := envOfC qual scope s.heap.objs.size f cd
  outer := outer
  stack := envOfC qual scope s.heap.objs.size f cd :: outer
  ex := []
  calm := true
  fn := fun _ => true
  pn := []
  xe := fun e s' => wpAny (model P w) (A.deeper (envOfC qual scope s.heap.objs.size f cd)) (leaving (envOfC qual scope s.heap.objs.size f cd) e) (fun _ s'' => CX outer H s E e s'') (fun e' s'' => CX outer H s E e' s'') s'
theorem cell_has {sc : Scope} {n : Nat} {x : Str} (h : sc.names.lookup x = some .cell) : ∃ c, (cellsFrom n sc.names []).lookup x = some c := by
  have q := PySem.W.cellsFrom_some sc.names n [] (.inl h)
  exact Option.isSome_iff_exists.mp q
theorem inv_start {CX : CXT} {P : Program} {w : World} {K : PySem.W.Frag} {mg : Str → Option Value} {base : Heap} {N ps : List Str} {qual : Str} {scope : Scope} {f : Addr} {cd : Value} {A : Around} {outer : List Env} {s s1 : Shared} {H : Hp} {E : XK} {us : List Value} {vs : List V}
    (S : FnScope N ps scope) (hd : A.handled = none) (e0 : Env0 P w K mg base A outer s H) (hl : vs.length = ps.length) (r : Vals vs us)
    (x : InCallC s s.heap.objs.size (bindL (envOfC qual scope s.heap.objs.size f cd).kindOf (ps.zip us) fun _ => none) (cellsFrom (s.heap.objs.size + 1) scope.names []) (bindC (envOfC qual scope s.heap.objs.size f cd).kindOf (ps.zip us) fun _ => none) s1) :
    Inv (cxOf CX P w K mg base N qual scope f cd A outer s H E) [] (start N vs) H s1 := by
  have hpl : ps.length ≤ N.length := by have := congrArg List.length S.pre; rw [List.length_take] at this; omega
  obtain ⟨h1, tk, rfl, hk⟩ := x.done
  have noA : ∀ b : Addr, b ∉ (cxOf CX P w K mg base N qual scope f cd A outer s H E).ex := fun b z => absurd (show b ∈ ([] : List Addr) from z) (by simp)
  refine ⟨⟨e0.mod, S.kind, rfl, rfl, Nat.le_refl _, fun y z c h1 h2 => ?_, fun y hy => ?_, fun y c _ h => ?_, fun _ => hd, Around.frames_deeper e0.frames, .inr ⟨rfl, rfl⟩, fun b z => absurd z (noA b), e0.bs, e0.bsz, fun b _ _ => noA b, fun b z => absurd z (noA b), e0.funs, e0.frf⟩,
    rfl, e0.bare, Un.kept hk, ⟨_, x.toInCall.ns, fun i y v h1 h2 h3 => ?_⟩, fun y c h => ⟨_, x.cell y c h⟩, e0.hok.fresh (Nat.le_refl _), fun y c h => ?_, fun p hp => absurd (show p ∈ ([] : List (Addr × Obj)) from hp) (by simp), e0.hok.kept hk, ?_⟩
  · exact name_of_addr x.apart (PySem.mem_of_lookup h1) (PySem.mem_of_lookup h2)
  · have hy : scope.names.lookup y = some .cell ∨ scope.names.lookup y = some .free := hy
    rcases hy with hy | hy
    · exact cell_has hy
    · exact absurd rfl (S.nofree _ (PySem.mem_of_lookup hy))
  · exact Nat.le_of_lt (x.above y c (PySem.mem_of_lookup h))
  · have hi : i < vs.length := by
      unfold start at h2
      by_cases hi : i < vs.length
      · exact hi
      · rw [List.getElem?_append_right (by simpa using hi)] at h2
        rw [List.getElem?_replicate] at h2
        split at h2 <;> cases h2
    have ha : vs[i]? = some v := by
      unfold start at h2
      rw [List.getElem?_append_left (by simpa using hi), List.getElem?_map] at h2
      cases e : vs[i]? with
      | none => rw [e] at h2; cases h2
      | some a => rw [e] at h2; cases h2; rfl
    obtain ⟨u, hu, rv⟩ := r.get ha
    have hp : ps[i]? = some y := by
      rw [← S.pre, List.getElem?_take_of_lt (by omega)]; exact h1
    have ndP : ps.Nodup := by rw [← S.pre]; exact S.nd.sublist (List.take_sublist _ _)
    refine ⟨u, rv, ?_⟩
    rcases S.par y (List.mem_of_getElem? hp) with k | k
    · exact .inl ⟨k, bindL_get ndP hp hu k⟩
    · obtain ⟨c, e⟩ := cell_has (n := s.heap.objs.size + 1) k
      refine .inr ⟨.inl k, c, e, ?_⟩
      have q := x.cell y c e
      rw [bindC_get ndP hp hu (by show scope.names.lookup y ≠ _; rw [k]; decide)] at q
      exact q
  · exact e0.hok.fresh (Nat.le_of_lt (x.above y c (PySem.mem_of_lookup h)))
  · unfold start
    show _ = N.length
    rw [List.length_append, List.length_map, List.length_replicate]
    omega
theorem fn_of {CX : CXT} {P : Program} {w : World} {K : PySem.W.Frag} {mg : Str → Option Value} {base : Heap} {k : Nat} {f : Addr} {name qual : Str} {params : Arguments} {body : List Stmt} {scope : Scope} {dV kV doc pm cdv ct oc : Value} {an od : Option Addr}
    {osl : Array (Option Value)} {N ps : List Str} {sp : Sp} (lk : K.lookup f = some ⟨oc, od, .func (PySem.W.fnOf name qual params body scope dV kV doc pm an cdv ct), osl⟩) (hcd : PySem.W.codeIn K cdv qual = true) (S : FnScope N ps scope)
    (len : ∀ vs H Q E, sp vs H Q E → vs.length = ps.length)
    (hbody : ∀ (A : Around) (outer : List Env) (s : Shared) (H : Hp) (vs : List V) (Q : VK) (E : XK), Room k (A.deeper (envOfC qual scope s.heap.objs.size f cdv)) → sp vs H Q E →
      ∃ t, PSs (cxOf CX P w K mg base N qual scope f cdv A outer s H E) body t ∧ t { nx := fun _ H' => Q .non H', rt := Q } (start N vs) H) :
    FnOk P w K mg base CX (k + 1) f (PySem.W.fnOf name qual params body scope dV kV doc pm an cdv ct) ps sp := by
  refine ⟨len, fun A outer s H args us vs Q E hr e0 hb r hsp => ?_⟩
  have hl := len _ _ _ _ hsp
  have KX : K.In s.heap := e0.mod.kin.keeps fun b o e => (e0.bs b o e).1
  have lim : s.heap.NoLimit := e0.mod.nolimit.keeps fun b o e => (e0.bs b o e).1
  have hkind : ∀ y ∈ ps.zip us, scope.names.lookup y.1 = some .local ∨ (scope.names.lookup y.1 = some .cell ∧ ((cellsFrom (s.heap.objs.size + 1) scope.names []).lookup y.1).isSome = true) := fun ⟨n, v⟩ hy => by
    rcases S.par n (List.of_mem_zip hy).1 with q | q
    · exact .inl q
    · exact .inr ⟨q, PySem.W.cellsFrom_some _ _ _ (.inl q)⟩
  refine codeAny_call_function hr.depth (KX _ _ lk) rfl S.co S.gen rfl (PySem.W.codeRec_of KX hcd) (hb _ _ _ _ ?_)
  refine wpAny_newFunctionEnv_cells S.kind hkind fun env he s1 x => ?_
  subst he
  refine ⟨lim.keeps x.toInCall.keep, codeAny_func ?_⟩
  obtain ⟨t, ht, hq⟩ := hbody A outer s H vs Q E (hr.deeper _) hsp
  have I : Inv (cxOf CX P w K mg base N qual scope f cdv A outer s H E) [] (start N vs) H s1 := inv_start S hr.hd e0 hl r x
  refine wpAny_mono (ht [] s1 (start N vs) H _ I hq) (fun fl s' hs => ?_) fun e s' hs => hs
  have fin : ∀ {σ' : St} {H' : Hp} {v : V} {u : Value}, Inv (cxOf CX P w K mg base N qual scope f cdv A outer s H E) [] σ' H' s' → RelV v u → Q v H' → CE outer P w H s Q u s' :=
    fun {σ' H' v u} J rv q => ⟨v, H', J.os, J.bare, J.base, J.hok, rv, q⟩
  cases fl with
  | ret u =>
    obtain ⟨v, σ', H', J, rv, q⟩ := hs
    exact fin J rv q
  | next =>
    obtain ⟨σ', H', J, q⟩ := hs
    exact fin (v := V.non) (u := Value.none) J rfl q
  | brk =>
    obtain ⟨_, _, _, q⟩ := hs
    exact False.elim q
  | cont =>
    obtain ⟨_, _, _, q⟩ := hs
    exact False.elim q
end L2
namespace L2
open PySem PySem.Spec PyProof.Rows
section
variable {X : Cx} {x : Str} {p pos : Pos} {e : Expr} {es : List Expr} {t : TA} {id T : String} {r : List V → Hp → VK → Prop}
def tCB (r : List V → Hp → VK → Prop) (t : TA) : TE := fun σ H Q => t σ H fun vs H1 => r vs H1 Q
theorem pe_callB (hc : CallR X (.builtin id) r) (hg : Gl X x) (hm : X.mg x = none) (hv : bootBuiltins x = some (.builtin id)) (ha : PA X (e :: es) t) (hn : x ≠ "__name__" := by decide) (hdb : (x == ("__debug__" : Str)) = false := by decide)
    (he : starEach (e :: es) X.env = (false, eval e X.env) :: starEach es X.env := by rfl) (hpl : (backTo pos (starEach es X.env)).any (·.1) = false := by rfl) : PE X (.Call (.Name x p) (e :: es) [] pos) (tCB r t) := by
  constructor
  intro pins s σ H Q I h
  refine wpAny_Call_Name_kw (ld_blt I hg hm hv ?_ hn hdb)
  exact PyProof.Rows.callWith_builtin1 (thn (ha pos pins s σ H _ I h) fun us s1 ⟨vs, H1, I1, r1, q1⟩ => hc pins s1 σ H1 vs us Q I1 r1 q1) he hpl
theorem pe_callTy (hc : CallR X (.type T) r) (hg : Gl X x) (hm : X.mg x = none) (hv : bootBuiltins x = some (.type T)) (ha : PA X (e :: es) t) (hn : x ≠ "__name__" := by decide) (hdb : (x == ("__debug__" : Str)) = false := by decide)
    (he : starEach (e :: es) X.env = (false, eval e X.env) :: starEach es X.env := by rfl) (hpl : (backTo pos (starEach es X.env)).any (·.1) = false := by rfl) : PE X (.Call (.Name x p) (e :: es) [] pos) (tCB r t) := by
  constructor
  intro pins s σ H Q I h
  refine wpAny_Call_Name_kw (ld_blt I hg hm hv ?_ hn hdb)
  exact PyProof.Rows.callWith_type1 (thn (ha pos pins s σ H _ I h) fun us s1 ⟨vs, H1, I1, r1, q1⟩ => hc pins s1 σ H1 vs us Q I1 r1 q1) he hpl
end
end L2
namespace HT
open PySem PyProof.Rows
def lexLt : List Int → List Int → Bool
  | [], [] => false
  | [], _ :: _ => true
  | _ :: _, [] => false
  | x :: xs, y :: ys => if x = y then lexLt xs ys else decide (x < y)
theorem eqAt_int (A : Around) (s : Shared) (a : Int) (t : Tok) (c : Int) (u : Tok) : ∃ e, SeqAt.EqAt A s (.int a t) (.int c u) e ∧ (e = true ↔ a = c) :=
  ⟨(a == c), SeqAt.EqAt.int_int a t c u, by simp⟩
theorem rcLt_int (A : Around) (s : Shared) (a : Int) (t : Tok) (c : Int) (u : Tok) (prog : Program) (w : World) (E : Value → Shared → Prop) (Q : Value → Shared → Prop) (h : Q (.bool (decide (a < c))) s) :
    wpAny (model prog w) A (richCompare .Lt (.int a t) (.int c u)) Q E s :=
  (PyProof.Rows.lt_int h : wpAny (model prog w) A (compareOp .Lt (.int a t) (.int c u)) Q E s)
section
open PySem.SeqAt
open PySem.AutoSeq1 (wpAny_loadPart')
open PySem.MeetsSeq PySem.MeetsSeq2 PySem.MeetsSeq3
end
section
variable {prog : Program} {w : World} {A : Around} {E : Value → Shared → Prop} {s : Shared}
theorem cat_tup {t b : Addr} {vs ws : List Value} {Q : Value → Shared → Prop} (ht : IsTup s.heap t vs.toArray) (hb : IsTup s.heap b ws.toArray) (hv : vs ≠ [])
    (h1 : ws = [] → Q (.ref t) s) (h2 : ws ≠ [] → Q (.ref s.heap.objs.size) { s with heap := s.heap.push { cls := .type "tuple", data := .seq (vs ++ ws).toArray } })
    (hsz : vs.length + ws.length ≤ sizeLine) : wpAny (model prog w) A (binaryOp .Add (.ref t) (.ref b)) Q E s := by
  obtain ⟨⟨cls, dd, data, sl⟩, ho, hc, n, hd⟩ := id ht
  obtain ⟨⟨cls2, dd2, data2, sl2⟩, ho2, hc2, n2, hd2⟩ := id hb
  simp only at hc hd hc2 hd2
  subst hc hd hc2 hd2
  have e : vs.toArray ++ ws.toArray = (vs ++ ws).toArray := by simp
  by_cases hw : ws = []
  · exact concat_meets ⟨_, ho, rfl⟩ ⟨_, ho2, rfl⟩ noFill_tuple_add seq_tuple_add PySem.F.slot_tuple_add PySem.F.entry_tuple_add (PySem.F.args_tuple_add_2 _ _)
      (tuple_addW1 t b vs.toArray ws.toArray n n2 dd dd2 sl sl2 (by simpa using hv) (by simp [hw])) ⟨ho, ho2, h1 hw⟩
  · refine concat_meets ⟨_, ho, rfl⟩ ⟨_, ho2, rfl⟩ noFill_tuple_add seq_tuple_add PySem.F.slot_tuple_add PySem.F.entry_tuple_add (PySem.F.args_tuple_add_2 _ _)
      (tuple_addW2 t b vs.toArray ws.toArray n n2 dd dd2 sl sl2 (by simpa using hv) (by simpa using hw) (by rw [List.size_toArray, List.size_toArray]; exact hsz)) ⟨ho, ho2, ?_⟩
    rw [e]
    exact h2 hw
def sIx (n d : Nat) : Option Int → Nat
  | none => d
  | some v => if v < 0 then (v + (n : Int)).toNat else min v.toNat n
theorem sIx_none (n d : Nat) : sIx n d none = d := rfl
theorem sIx_nat (n d k : Nat) : sIx n d (some (k : Int)) = min k n := by
  show (if (k : Int) < 0 then ((k : Int) + (n : Int)).toNat else min (k : Int).toNat n) = min k n
  rw [if_neg (by omega), Int.toNat_natCast]
theorem sIx_le (n d : Nat) (hd : d ≤ n) (o : Option Int) : sIx n d o ≤ n := by
  cases o with
  | none => exact hd
  | some v =>
    show (if v < 0 then (v + (n : Int)).toNat else min v.toNat n) ≤ n
    by_cases hv : v < 0
    · rw [if_pos hv]; omega
    · rw [if_neg hv]; exact Nat.min_le_right _ _
theorem clip_eq (v : Int) (n d : Nat) : (if v < 0 then max (v + (n : Int)) 0 else min v (n : Int)) = ((sIx n d (some v) : Nat) : Int) := by
  show (if v < 0 then max (v + (n : Int)) 0 else min v (n : Int)) = (((if v < 0 then (v + (n : Int)).toNat else min v.toNat n) : Nat) : Int)
  by_cases hv : v < 0
  · simp only [if_pos hv]; omega
  · simp only [if_neg hv]; omega
theorem adjust_gen (lo hi : Option Int) (n : Nat) : Builtin.Slice.sliceAdjust lo hi 1 (n : Int) = (((sIx n 0 lo : Nat) : Int), ((sIx n n hi : Nat) : Int)) := by
  have h1 : ¬ ((1 : Int) < 0) := by omega
  unfold Builtin.Slice.sliceAdjust
  simp only [h1, if_false]
  refine Prod.ext ?_ ?_
  · cases lo with
    | none => rfl
    | some v => exact clip_eq v n 0
  · cases hi with
    | none => rfl
    | some v => exact clip_eq v n n
theorem places_gen (i j : Nat) : Builtin.Slice.slicePlaces (i : Int) (j : Int) 1 = j - i := by
  unfold Builtin.Slice.slicePlaces
  have h1 : (1 : Int) > 0 := by omega
  simp only [h1, if_true, Int.ediv_one]
  split <;> omega
theorem slicePart_ {v : Value} {o : Option Int} {Q : Option Int → Shared → Prop} (p : IsPart v o) (h : Q o s) : wpAny (model prog w) A (Builtin.Slice.slicePartIndex v) Q E s := by
  cases p with
  | none => exact slicePart_none h
  | int i t => exact slicePart_int h
theorem sliceApplied_gen {sl : Addr} {vl vu : Value} {lo hi : Option Int} {n : Nat} {Q : Int × Int × Nat → Shared → Prop} (hs : s.heap.IsSliceOf sl vl vu .none) (pl : IsPart vl lo) (pu : IsPart vu hi)
    (h : Q (((sIx n 0 lo : Nat) : Int), 1, sIx n n hi - sIx n 0 lo) s) : wpAny (model prog w) A (Builtin.Slice.sliceApplied (.ref sl) (pure (n : Int))) Q E s := by
  obtain ⟨os, hos, hcs, hds⟩ := id hs
  unfold Builtin.Slice.sliceApplied Builtin.Slice.sliceFields
  refine wpAny_bind (wpAny_bind (wpAny_field hos hds (x := vl) rfl (wpAny_bind (wpAny_field hos hds (x := vu) rfl (wpAny_bind (wpAny_field hos hds (x := .none) rfl (wpAny_pure ?_)))))))
  refine wpAny_bind (slicePart_none ?_)
  show wpAny _ _ (if ((1 : Int) == 0) = true then _ else _) _ _ s
  rw [if_neg (by decide)]
  refine wpAny_bind (slicePart_ pl (wpAny_bind (slicePart_ pu (wpAny_bind (wpAny_pure ?_)))))
  show wpAny _ _ (match Builtin.Slice.sliceAdjust lo hi 1 (n : Int) with | (lo, hi) => pure (lo, (1 : Int), Builtin.Slice.slicePlaces lo hi 1)) _ _ s
  rw [adjust_gen lo hi n]
  show wpAny _ _ (pure (((sIx n 0 lo : Nat) : Int), (1 : Int), Builtin.Slice.slicePlaces ((sIx n 0 lo : Nat) : Int) ((sIx n n hi : Nat) : Int) 1)) _ _ s
  rw [places_gen]
  exact wpAny_pure h
theorem pick_gen (xs : Array Value) (i k : Nat) : ((List.range k).filterMap fun (m : Nat) => xs[((i : Int) + (m : Int) * 1).toNat]?).toArray = ((xs.toList.drop i).take k).toArray := by
  have e : (fun (m : Nat) => xs[((i : Int) + (m : Int) * 1).toNat]?) = fun m => xs[i + m]? := by
    funext m
    have : ((i : Int) + (m : Int) * 1).toNat = i + m := by omega
    rw [this]
  rw [e]
  have := pick_run xs i k
  rw [List.filterMap_map] at this
  have e2 : ((fun x => xs[x]?) ∘ fun x => i + x) = fun m => xs[i + m]? := rfl
  rw [e2] at this
  rw [this]
theorem getItem_tuple_cut {t sl : Addr} {items : Array Value} {vl vu : Value} {lo hi : Option Int} {Q : Value → Shared → Prop} (ht : IsTup s.heap t items) (hs : s.heap.IsSliceOf sl vl vu .none) (pl : IsPart vl lo) (pu : IsPart vu hi)
    (hw : ¬ (sIx items.size 0 lo = 0 ∧ sIx items.size items.size hi = items.size))
    (h : Q (.ref s.heap.objs.size) { s with heap := s.heap.push { cls := .type "tuple", data := .seq ((items.toList.drop (sIx items.size 0 lo)).take (sIx items.size items.size hi - sIx items.size 0 lo)).toArray } })
    (hsz : items.size ≤ sizeLine) : wpAny (model prog w) A (getItem (.ref t) (.ref sl)) Q E s := by
  have htake : sizeOk (.seq ((items.toList.drop (sIx items.size 0 lo)).take (sIx items.size items.size hi - sIx items.size 0 lo)).toArray) := by
    show ((items.toList.drop (sIx items.size 0 lo)).take (sIx items.size items.size hi - sIx items.size 0 lo)).toArray.size ≤ sizeLine
    rw [List.size_toArray, List.length_take, List.length_drop, Array.length_toList]
    omega
  have hj : sIx items.size items.size hi ≤ items.size := sIx_le _ _ (Nat.le_refl _) hi
  obtain ⟨os, hos, hcs, hds⟩ := id hs
  have hTs : s.TypeIs (.ref sl) "slice" := ⟨os, hos, hcs⟩
  unfold getItem
  try with_reducible refine wpAny_holding ?_
  first | refine wpAny_bind (wpAny_pure ?_) | skip
  refine wpAny_bind (wpAny_sequenceKey ht.typeIs (by decide) ?_)
  refine wpAny_bind (wpAny_callSpecial?_slot (name := Str.ofString "__getitem__") ht.typeIs PyProof.Rows.slot_tuple_getitem
    (wpAny_call_entry PyProof.Rows.slot_tuple_getitem ht.typeIs entry_tuple_getitem ?_ (args_tuple_getitem _ _)))
  show wpAny _ _ (Builtin.Tuple.tupleItemsOf (.ref t) >>= _) _ _ s
  refine wpAny_bind (tupleItemsOf_ ht ?_)
  refine wpAny_bind (wpAny_typeOf hTs ?_)
  rw [if_pos (by decide)]
  refine wpAny_bind (sliceApplied_gen hs pl pu ?_)
  have hno : ¬ ((((sIx items.size 0 lo : Nat) : Int) == 0 && (1 : Int) == 1 && (sIx items.size items.size hi - sIx items.size 0 lo) == items.size) = true) := by
    intro q
    rw [Bool.and_eq_true, Bool.and_eq_true] at q
    have q1 : ((sIx items.size 0 lo : Nat) : Int) = 0 := eq_of_beq q.1.1
    have q2 : sIx items.size items.size hi - sIx items.size 0 lo = items.size := eq_of_beq q.2
    exact hw ⟨by omega, by omega⟩
  show wpAny _ _ (if (((sIx items.size 0 lo : Nat) : Int) == 0 && (1 : Int) == 1 && (sIx items.size items.size hi - sIx items.size 0 lo) == items.size) = true then _ else _) _ _ s
  rw [if_neg hno, pick_gen]
  first
    | exact wpAny_bind (m := Builtin.Tuple.tupleExact _) (wpAny_newObj_type (wpAny_pure ⟨_, rfl, wpAny_pure h⟩) htake)
    | exact wpAny_bind (m := Builtin.Tuple.tupleExact _) (wpAny_newObj_type (wpAny_bind (wpAny_pure (wpAny_pure ⟨_, rfl, wpAny_pure h⟩))) htake)
    | exact wpAny_bind (wpAny_bind (m := Builtin.Tuple.tupleExact _) (wpAny_newObj_type (wpAny_pure (wpAny_pure ⟨_, rfl, wpAny_pure h⟩)) htake))
    | exact wpAny_bind (wpAny_bind (m := Builtin.Tuple.tupleExact _) (wpAny_newObj_type (wpAny_pure ⟨_, rfl, wpAny_pure h⟩) htake))
end
end HT
namespace L2
open PySem PySem.Spec PyProof.Rows
abbrev TO := St → Hp → (Option Int → Hp → Prop) → Prop
structure PO (X : Cx) (e : Option Expr) (t : TO) : Prop where
  go : ∀ (pins : List (Addr × Obj)) (s : Shared) (σ : St) (H : Hp) (Q : Option Int → Hp → Prop), Inv X pins σ H s → t σ H Q →
    wpAny (model X.prog X.w) X.A (evalPart e X.env) (fun u s' => ∃ o H', Inv X pins σ H' s' ∧ IsPart u o ∧ Q o H') X.xe s
instance {X : Cx} {e : Option Expr} {t : TO} : CoeFun (PO X e t) (fun _ => ∀ (pins : List (Addr × Obj)) (s : Shared) (σ : St) (H : Hp) (Q : Option Int → Hp → Prop), Inv X pins σ H s → t σ H Q →
    wpAny (model X.prog X.w) X.A (evalPart e X.env) (fun u s' => ∃ o H', Inv X pins σ H' s' ∧ IsPart u o ∧ Q o H') X.xe s) := ⟨fun h => h.go⟩
def tNoPart : TO := fun _ H Q => Q none H
def tPart (t : TE) : TO := fun σ H Q => t σ H fun x H1 => ∃ i, x = .int i ∧ Q (some i) H1
theorem intsAre_of {ns : List Int} : ∀ {us : List Value}, Vals (ns.map V.int) us → IntsAre us ns := by
  induction ns with
  | nil => intro us r; rw [List.map_nil] at r; cases r; exact .nil
  | cons n ns ih =>
    intro us r
    rw [List.map_cons] at r
    cases r with
    | cons r1 r2 =>
      obtain ⟨t, e⟩ := r1
      subst e
      exact .cons n t (ih r2)
section
variable {X : Cx} {e : Expr} {te : TE} {lo hi : Option Expr} {tl th : TO} {pos p2 : Pos}
theorem po_none : PO X none tNoPart := by
  constructor
  intro pins s σ H Q I h
  rw [evalPart_none]
  exact wpAny_pure ⟨none, H, I, .none, h⟩
theorem po_some (h : PE X e te) : PO X (some e) (tPart te) := by
  constructor
  intro pins s σ H Q I hw
  rw [evalPart_some]
  refine thn (h pins s σ H _ I hw) fun u s1 ⟨x, H1, I1, r1, q1⟩ => ?_
  obtain ⟨i, rfl, q⟩ := q1
  obtain ⟨t, rfl⟩ := r1
  exact ⟨some i, H1, I1, .int i t, q⟩
def SlR (X : Cx) (r : V → Option Int → Option Int → Hp → VK → Prop) : Prop :=
  ∀ (pins : List (Addr × Obj)) (s : Shared) (σ : St) (H : Hp) (x : V) (v vl vu : Value) (lo hi : Option Int) (sl : Addr) (Q : VK), Inv X pins σ H s → RelV x v → s.heap.IsSliceOf sl vl vu .none → IsPart vl lo → IsPart vu hi → r x lo hi H Q →
    ∃ T id, typeLookup (.type T) "__getitem__" = pure (some (.builtin id)) ∧ s.TypeIs v T ∧ wpAny (model X.prog X.w) X.A (getItem v (.ref sl)) (EP X pins σ Q) X.xe s
def tSl (r : V → Option Int → Option Int → Hp → VK → Prop) (te : TE) (tl th : TO) : TE := fun σ H Q => te σ H fun x H1 => tl σ H1 fun l H2 => th σ H2 fun u H3 => r x l u H3 Q
theorem pe_slice {r : V → Option Int → Option Int → Hp → VK → Prop} (hr : SlR X r) (he : PE X e te) (hl : PO X lo tl) (hu : PO X hi th) : PE X (.Subscript e (.Slice lo hi none p2) pos) (tSl r te tl th) := by
  constructor
  intro pins s σ H Q I h
  refine Subscript_ (thn (he pins s σ H _ I h) fun v s1 ⟨x, H1, I1, r1, q1⟩ => ?_)
  refine wpAny_Slice (thn (hl pins s1 σ H1 _ I1 q1) fun vl s2 ⟨l, H2, I2, pl, q2⟩ => thn (hu pins s2 σ H2 _ I2 q2) fun vu s3 ⟨u, H3, I3, pu, q3⟩ => ?_)
  rw [evalPart_none]
  refine wpAny_pure ?_
  have I4 : Inv X pins σ H3 { s3 with heap := s3.heap.push { cls := .type "slice", data := .fields #[vl, vu, .none] } } := I3.kept (t' := s3.toks) fun b ob q => Heap.get?_push_of_some _ q
  obtain ⟨T, id, hT, ht, hg⟩ := hr pins { s3 with heap := s3.heap.push { cls := .type "slice", data := .fields #[vl, vu, .none] } } σ H3 x v vl vu l u s3.heap.objs.size Q I4 r1 (Heap.IsSliceOf.new ..) pl pu q3
  show wpAny (model X.prog X.w) X.A (subscriptTail e (.Slice lo hi none p2) v (.ref s3.heap.objs.size)) (EP X pins σ Q) X.xe { s3 with heap := s3.heap.push { cls := .type "slice", data := .fields #[vl, vu, .none] } }
  exact tail_any (ops := [.ref s3.heap.objs.size, v]) ht hT hg (by with_unfolding_all rfl)
def cutV (xs : List V) (lo hi : Option Int) : List V := (xs.drop (HT.sIx xs.length 0 lo)).take (HT.sIx xs.length xs.length hi - HT.sIx xs.length 0 lo)
theorem cutV_length (xs : List V) (lo hi : Option Int) : (cutV xs lo hi).length ≤ xs.length := by
  unfold cutV
  rw [List.length_take, List.length_drop]
  omega
def rSlT (K : PySem.W.Frag) : V → Option Int → Option Int → Hp → VK → Prop := fun x lo hi H Q => ∃ a xs, x = .ref a ∧ SqT K H a xs ∧
  ¬ (HT.sIx xs.length 0 lo = 0 ∧ HT.sIx xs.length xs.length hi = xs.length) ∧ ∀ p, H p = none → Q (.ref p) (upd H p (.tup (cutV xs lo hi)))
theorem sl_tup : SlR X (rSlT X.K) := by
  intro pins s σ H x v vl vu lo hi sl Q I rx hs pl pu h
  obtain ⟨a, xs, rfl, hx, hw, q⟩ := h
  cases rx
  obtain ⟨its, r, ht, hz⟩ := I.tuple hx
  have hlen : its.toArray.size = xs.length := by rw [List.size_toArray]; exact r.length.symm
  refine ⟨"tuple", _, PyProof.Rows.slot_tuple_getitem.lookup, ht.typeIs, ?_⟩
  refine HT.getItem_tuple_cut ht hs pl pu (by rw [hlen]; exact hw) ?_ (by rw [hlen]; exact hz)
  rw [hlen]
  refine ⟨.ref s.heap.objs.size, _, I.laid (t' := s.toks) (o := .tup (cutV xs lo hi)) (fun b ob q => Heap.get?_push_of_some _ q) (Nat.le_refl _) ?_, rfl, q _ (I.hok.fresh (Nat.le_refl _))⟩
  exact ⟨Nat.le_trans (cutV_length xs lo hi) hz, _, (r.drop (HT.sIx xs.length 0 lo)).take (HT.sIx xs.length xs.length hi - HT.sIx xs.length 0 lo), IsTup.new _ _⟩
def rLtT (K : PySem.W.Frag) : R2 := fun x y H Q => ∃ a b ns ms, x = .ref a ∧ y = .ref b ∧ SqT K H a (ns.map V.int) ∧ SqT K H b (ms.map V.int) ∧ Q (.bl (HT.lexLt ns ms)) H
def rCatT (K : PySem.W.Frag) : R2 := fun x y H Q => ∃ a b xs ys, x = .ref a ∧ y = .ref b ∧ SqT K H a xs ∧ SqT K H b ys ∧ xs ≠ [] ∧ xs.length + ys.length ≤ sizeLine ∧
  (ys = [] → Q (.ref a) H) ∧ (ys ≠ [] → ∀ p, H p = none → Q (.ref p) (upd H p (.tup (xs ++ ys))))
theorem Vals.nil_iff {xs : List V} {us : List Value} (r : Vals xs us) : us = [] ↔ xs = [] := by
  cases r with
  | nil => simp
  | cons _ _ => simp
theorem op_catT : OpR X (binaryOp .Add) (rCatT X.K) := by
  intro pins s σ H x y v u Q I rx ry h
  obtain ⟨a, b, xs, ys, rfl, rfl, ha, hb, hx, hz, q1, q2⟩ := h
  cases rx
  cases ry
  obtain ⟨its, r1, p1, _⟩ := I.tuple ha
  obtain ⟨its2, r2, p2, _⟩ := I.tuple hb
  refine HT.cat_tup p1 p2 (fun z => hx (r1.nil_iff.mp z)) (fun z => ⟨.ref a, H, I, rfl, q1 (r2.nil_iff.mp z)⟩) (fun z => ?_) (by rw [← r1.length, ← r2.length]; exact hz)
  refine ⟨.ref s.heap.objs.size, _, I.laid (t' := s.toks) (o := .tup (xs ++ ys)) (fun b ob q => Heap.get?_push_of_some _ q) (Nat.le_refl _) ?_, rfl, q2 (fun w => z (r2.nil_iff.mpr w)) _ (I.hok.fresh (Nat.le_refl _))⟩
  exact ⟨by rw [List.length_append]; exact hz, _, r1.append r2, IsTup.new _ _⟩
end
end L2
namespace L2
open PySem PySem.Spec PyProof.Rows
def ixN (n : Nat) (i : Int) : Option Nat := if 0 ≤ i then (if i < n then some i.toNat else none) else if -(n : Int) ≤ i then some (i + n).toNat else none
def atI {α : Type} (xs : List α) (i : Int) : Option α := (ixN xs.length i).bind fun j => xs[j]?
theorem ixN_seq {n : Nat} {i : Int} {j : Nat} (h : ixN n i = some j) : seqIndex? i n = some j ∧ j < n ∧ -(n : Int) ≤ i ∧ i < n := by
  unfold ixN at h
  by_cases h0 : 0 ≤ i
  · rw [if_pos h0] at h
    by_cases h1 : i < n
    · rw [if_pos h1] at h
      have e : i.toNat = j := Option.some.inj h
      exact ⟨by rw [seqIndex_of h0 h1, e], by omega, by omega, h1⟩
    · rw [if_neg h1] at h; cases h
  · rw [if_neg h0] at h
    by_cases h1 : -(n : Int) ≤ i
    · rw [if_pos h1] at h
      have e : (i + n).toNat = j := Option.some.inj h
      exact ⟨by rw [seqIndex_neg (by omega) h1, e], by omega, h1, by omega⟩
    · rw [if_neg h1] at h; cases h
theorem atI_get {α : Type} {xs : List α} {i : Int} {v : α} (h : atI xs i = some v) : ∃ j, seqIndex? i xs.length = some j ∧ xs[j]? = some v ∧ j < xs.length ∧ -(xs.length : Int) ≤ i ∧ i < xs.length := by
  unfold atI at h
  cases e : ixN xs.length i with
  | none => rw [e] at h; cases h
  | some j =>
    rw [e] at h
    obtain ⟨h1, h2, h3, h4⟩ := ixN_seq e
    exact ⟨j, h1, h, h2, h3, h4⟩
theorem atI_nat {α : Type} {xs : List α} {j : Nat} {v : α} (h : xs[j]? = some v) : atI xs (j : Int) = some v := by
  have hj : j < xs.length := (List.getElem?_eq_some_iff.mp h).1
  have e : ixN xs.length (j : Int) = some j := by
    unfold ixN
    rw [if_pos (by omega), if_pos (by omega)]; simp
  unfold atI; rw [e]; exact h
theorem atI_last {α : Type} (xs : List α) (v : α) : atI (xs ++ [v]) (-1) = some v := by
  have hl : (xs ++ [v]).length = xs.length + 1 := by simp
  have e : ixN (xs ++ [v]).length (-1) = some xs.length := by
    unfold ixN
    rw [hl, if_neg (by decide), if_pos (by omega)]
    congr 1
    omega
  unfold atI
  rw [e]
  show (xs ++ [v])[xs.length]? = some v
  simp
def PlainIx (b : Expr) : Prop := ∀ o i, subscripted b false o i = operate [o, i] (getItem o i)
def IxR (X : Cx) (r : R2) : Prop :=
  ∀ (value slice : Expr) (pins : List (Addr × Obj)) (s : Shared) (σ : St) (H : Hp) (x y : V) (v u : Value) (Q : VK), Inv X pins σ H s → RelV x v → RelV y u → r x y H Q →
    subscripted slice false v u = operate [v, u] (getItem v u) → wpAny (model X.prog X.w) X.A (subscriptTail value slice v u) (EP X pins σ Q) X.xe s
def MtR (X : Cx) (id : String) (r : V → List V → Hp → VK → Prop) : Prop :=
  ∀ (pins : List (Addr × Obj)) (s : Shared) (σ : St) (H : Hp) (x : V) (xs : List V) (v : Value) (us : List Value) (Q : VK), Inv X pins σ H s → RelV x v → Vals xs us → r x xs H Q →
    wpAny (model X.prog X.w) X.A (call (.builtin id) (v :: us)) (EP X pins σ Q) X.xe s
section
variable {X : Cx} {a b : Expr} {ta tb : TE} {pos : Pos}
theorem pe_ix {r : R2} (hr : IxR X r) (ha : PE X a ta) (hb : PE X b tb) (hs : PlainIx b) : PE X (.Subscript a b pos) (tOp r ta tb) := by
  constructor
  intro pins s σ H Q I h
  exact Subscript_ (binT ha hb I h fun v u s2 x y H2 I2 rx ry q => hr a b pins s2 σ H2 x y v u Q I2 rx ry q (hs _ _))
def rIxL (K : PySem.W.Frag) : R2 := fun x y H Q => ∃ p xs i v, x = .ref p ∧ y = .int i ∧ SqL K H p xs ∧ atI xs i = some v ∧ Q v H
def rIxT (K : PySem.W.Frag) : R2 := fun x y H Q => ∃ p xs i v, x = .ref p ∧ y = .int i ∧ SqT K H p xs ∧ atI xs i = some v ∧ Q v H
def rIxS : R2 := fun x y H Q => ∃ z i c, x = .str z ∧ y = .int i ∧ z.length ≤ sizeLine ∧ atI z.cps.toList i = some c ∧ Q (.str ⟨#[c]⟩) H
theorem ix_list : IxR X (rIxL X.K) := by
  intro value slice pins s σ H x y v u Q I rx ry h hs
  obtain ⟨p, xs, i, z, rfl, rfl, hq, he, q⟩ := h
  cases rx
  obtain ⟨t, rfl⟩ := ry
  obtain ⟨its, r, pl, hz⟩ := I.list hq
  obtain ⟨j, h1, h2, h3, h4, h5⟩ := atI_get he
  obtain ⟨w, ew, rw'⟩ := r.get h2
  have hl := r.length
  have hn := line63
  have fin : EP X pins σ Q w s := ⟨z, H, I, rw', q⟩
  by_cases h0 : 0 ≤ i
  · have hj : i.toNat = j := by
      rw [seqIndex_of h0 h5] at h1
      exact Option.some.inj h1
    exact item_listR pl.isList h0 (by omega) (by rw [hj]; simpa using ew) fin hs
  · have hj : (i + (its.toArray.size : Int)).toNat = j := by
      rw [seqIndex_neg (by omega) h4] at h1
      rw [List.size_toArray, ← hl]
      exact Option.some.inj h1
    exact subscriptTail_builtinR (x := w) pl.isList.typeIs slot_list_getitem.lookup
      (wpAny_getItem_list_neg (Q := fun r s' => r = w ∧ EP X pins σ Q r s') pl.isList (by omega) (by rw [List.size_toArray] <;> omega) (by omega) (by rw [hj]; simpa using ew) ⟨rfl, fin⟩) hs
theorem ix_tup : IxR X (rIxT X.K) := by
  intro value slice pins s σ H x y v u Q I rx ry h hs
  obtain ⟨p, xs, i, z, rfl, rfl, hq, he, q⟩ := h
  cases rx
  obtain ⟨t, rfl⟩ := ry
  obtain ⟨its, r, pl, hz⟩ := I.tuple hq
  obtain ⟨j, h1, h2, h3, h4, h5⟩ := atI_get he
  obtain ⟨w, ew, rw'⟩ := r.get h2
  have hl := r.length
  have hn := line63
  have fin : EP X pins σ Q w s := ⟨z, H, I, rw', q⟩
  exact subscriptTail_builtinR (x := w) pl.typeIs slot_tuple_getitem.lookup
    (getItem_tuple (j := j) (Q := fun r s' => r = w ∧ EP X pins σ Q r s') pl (by omega) (by omega) (by rw [List.size_toArray, ← hl]; exact h1) (by simpa using ew) ⟨rfl, fin⟩) hs
theorem ix_str : IxR X rIxS := by
  intro value slice pins s σ H x y v u Q I rx ry h hs
  obtain ⟨z, i, c, rfl, rfl, hz, he, q⟩ := h
  obtain ⟨t, rfl⟩ := rx
  obtain ⟨t', rfl⟩ := ry
  obtain ⟨j, h1, h2, h3, h4, h5⟩ := atI_get he
  have hl : z.cps.toList.length = z.length := by simp [Str.length]
  rw [hl] at h1 h4 h5
  have hn := line63
  exact tail_any (typeIs_str s z t) slot_str_getitem.lookup (getItem_str (c := c) (by
    have e1 : decide (i < -(2 ^ 63 : Int)) = false := decide_eq_false (by omega)
    have e2 : decide (i ≥ 2 ^ 63) = false := decide_eq_false (by omega)
    rw [e1, e2, Bool.or_false]) (by rw [h1]; simpa using h2) ⟨.str ⟨#[c]⟩, H, I.tok _, ⟨_, rfl⟩, q⟩) hs
def rIx (K : PySem.W.Frag) : R2 := fun x y H Q => rIxL K x y H Q ∨ rIxT K x y H Q ∨ rIxS x y H Q
theorem mapSeq_set (its : List Value) (n j : Nat) (u : Value) : Obj.mapSeq (·.setIfInBounds j u) { cls := .type "list", data := .seq its.toArray n } = { cls := .type "list", data := .seq (its.set j u).toArray n } := by
  simp [Obj.mapSeq]
theorem Inv.lst {pins : List (Addr × Obj)} {σ : St} {H : Hp} {s : Shared} {p : Addr} {xs : List V} (I : Inv X pins σ H s) (h : H p = some (.lst xs)) :
    ∃ (its : List Value) (n : Nat), Vals xs its ∧ s.heap.get? p = some { cls := .type "list", data := .seq its.toArray n } ∧ xs.length ≤ sizeLine := by
  obtain ⟨z, its, n, r, e⟩ := I.hok p _ h
  exact ⟨its, n, r, e, z⟩
theorem Inv.lstUpd {pins : List (Addr × Obj)} {σ : St} {H : Hp} {s : Shared} {p : Addr} {xs ys : List V} {its its' : List Value} {n n' : Nat} {f : Obj → Obj} (I : Inv X pins σ H s) (h : H p = some (.lst xs))
    (ho : s.heap.get? p = some { cls := .type "list", data := .seq its.toArray n }) (hf : f { cls := .type "list", data := .seq its.toArray n } = { cls := .type "list", data := .seq its'.toArray n' }) (r : Vals ys its') (hz : ys.length ≤ sizeLine) (t : Nat) :
    Inv X pins σ (upd H p (.lst ys)) { s with heap := s.heap.update p f, toks := t } := by
  have e : (s.heap.update p f).get? p = some { cls := .type "list", data := .seq its'.toArray n' } := by
    rw [Heap.get?_update_self f ho (by rw [hf] <;> rfl), hf]
  refine I.write (x := p) (e := p) (by rw [h]; trivial) (.inl rfl) (fun b u hb q => (Heap.get?_update_other _ _ (Ne.symm hb)).trans q) ⟨_, e⟩ ?_
  exact ⟨hz, its', n', r, e⟩
def rSetL : V → V → V → Hp → (Hp → Prop) → Prop := fun o i v H Q => ∃ p xs k j, o = .ref p ∧ i = .int k ∧ H p = some (.lst xs) ∧ ixN xs.length k = some j ∧ Q (upd H p (.lst (xs.set j v)))
theorem set_list : PSet X rSetL := by
  intro pins s σ H o i v ov iv u Q I ro ri rv h
  obtain ⟨p, xs, k, j, rfl, rfl, hp, hj, q⟩ := h
  cases ro
  obtain ⟨t, rfl⟩ := ri
  obtain ⟨its, n, r, ho, hz⟩ := I.lst hp
  obtain ⟨h1, h2, h3, h4⟩ := ixN_seq hj
  have hl := r.length
  have hn := line63
  have I' : Inv X pins σ (upd H p (.lst (xs.set j v))) { s with heap := s.heap.update p (Obj.mapSeq (·.setIfInBounds j u)) } :=
    I.lstUpd hp ho (mapSeq_set its n j u) (r.set rv j) (by rw [List.length_set]; exact hz) s.toks
  by_cases h0 : 0 ≤ k
  · have hk : k.toNat = j := by
      rw [seqIndex_of h0 h4] at h1
      exact Option.some.inj h1
    exact PySem.W.ki_setAt ho h0 (by omega) (by rw [List.size_toArray, ← hl]; exact h4) (by rw [hk]; exact ⟨_, I', q⟩)
  · have hk : (k + (its.toArray.size : Int)).toNat = j := by
      rw [seqIndex_neg (by omega) h3] at h1
      rw [List.size_toArray, ← hl]
      exact Option.some.inj h1
    exact PySem.W.ki_setBack ho (by omega) (by rw [List.size_toArray, ← hl]; exact h3) (by omega) (by rw [hk]; exact ⟨_, I', q⟩)
theorem slice_bounds (lo hi : Option Int) (n : Nat) : (sliceBounds lo hi none n).1 = ((HT.sIx n 0 lo : Nat) : Int) ∧ (sliceBounds lo hi none n).2.1 = ((HT.sIx n n hi : Nat) : Int) ∧ (sliceBounds lo hi none n).2.2 = 1 := by
  refine ⟨?_, ?_, rfl⟩
  · cases lo with
    | none => simp [sliceBounds, HT.sIx]
    | some i =>
      simp only [sliceBounds, HT.sIx, Option.getD_none, show (1 : Int) > 0 by decide, if_true]
      by_cases h : i < 0
      · simp only [h, if_true] <;> omega
      · simp only [h, if_false] <;> omega
  · cases hi with
    | none => simp [sliceBounds, HT.sIx]
    | some i =>
      simp only [sliceBounds, HT.sIx, Option.getD_none, show (1 : Int) > 0 by decide, if_true]
      by_cases h : i < 0
      · simp only [h, if_true] <;> omega
      · simp only [h, if_false] <;> omega
theorem slicePick_cut (its : List Value) (lo hi : Option Int) : slicePick its.toArray lo hi none = ((its.drop (HT.sIx its.length 0 lo)).take (HT.sIx its.length its.length hi - HT.sIx its.length 0 lo)).toArray := by
  obtain ⟨h1, h2, h3⟩ := slice_bounds lo hi its.toArray.size
  unfold slicePick
  rw [h1, h2, h3]
  simp only [sliceRange_one, pick_run, List.size_toArray] <;> rfl
def rSlL (K : PySem.W.Frag) : V → Option Int → Option Int → Hp → VK → Prop := fun x lo hi H Q => ∃ a xs, x = .ref a ∧ SqL K H a xs ∧ ∀ p, H p = none → Q (.ref p) (upd H p (.lst (cutV xs lo hi)))
theorem sl_list : SlR X (rSlL X.K) := by
  intro pins s σ H x v vl vu lo hi sl Q I rx hs pl pu h
  obtain ⟨a, xs, rfl, hx, q⟩ := h
  cases rx
  obtain ⟨its, r, ht, hz⟩ := I.list hx
  have hlen := r.length
  refine ⟨"list", _, slot_list_getitem.lookup, ht.isList.typeIs, ?_⟩
  refine wpAny_getItem_list_slice ht.isList hs pl pu .none (by simp) ?_ (by rw [List.size_toArray] <;> omega)
  rw [slicePick_cut, ← hlen]
  refine ⟨.ref s.heap.objs.size, _, I.laid (t' := s.toks) (o := .lst (cutV xs lo hi)) (fun b ob q => Heap.get?_push_of_some _ q) (Nat.le_refl _) ?_, rfl, q _ (I.hok.fresh (Nat.le_refl _))⟩
  exact ⟨Nat.le_trans (cutV_length xs lo hi) hz, _, 0, (r.drop (HT.sIx xs.length 0 lo)).take (HT.sIx xs.length xs.length hi - HT.sIx xs.length 0 lo), Heap.get?_push_size _ rfl⟩
def flatV : V → Bool
  | .non => true
  | .bl _ => true
  | .int _ => true
  | .str _ => true
  | _ => false
def eqV : V → V → Bool
  | .non, .non => true
  | .bl a, .bl b => a == b
  | .bl a, .int b => (if a then 1 else 0) == b
  | .int a, .bl b => a == (if b then 1 else 0)
  | .int a, .int b => a == b
  | .str a, .str b => a == b
  | _, _ => false
def eqU (x : V) (u : Value) : Bool := match u with
  | .none => eqV .non x
  | .bool b => eqV (.bl b) x
  | .int i _ => eqV (.int i) x
  | .str z _ => eqV (.str z) x
  | _ => false
def inV (x : V) (xs : List V) : Bool := xs.any fun y => eqV y x
def rIn (K : PySem.W.Frag) (neg : Bool) : R2 := fun x y H Q => ∃ p xs, y = .ref p ∧ (SqL K H p xs ∨ SqT K H p xs) ∧ flatV x = true ∧ xs.all flatV = true ∧ Q (.bl (if neg then !inV x xs else inV x xs)) H
theorem call_len_seq : CallR X (.builtin "len") (fun xs H Q => ∃ p ys, xs = [.ref p] ∧ (SqL X.K H p ys ∨ SqT X.K H p ys) ∧ Q (.int ys.length) H) := by
  intro pins s σ H xs us Q I r h
  obtain ⟨p, ys, rfl, hq, q⟩ := h
  obtain ⟨u, rfl, rx⟩ := vals1 r
  cases rx
  have hn := line63
  rcases hq with hq | hq
  · obtain ⟨its, r', pl, hz⟩ := I.list hq
    have hlen := r'.length
    exact Calls.call_len_list pl.isList (by simp only [List.size_toArray] <;> omega) ⟨.int ys.length, H, I.tok _, ⟨s.toks + 1, by rw [List.size_toArray, hlen]⟩, q⟩
  · obtain ⟨its, r', pl, hz⟩ := I.tuple hq
    have hlen := r'.length
    exact len_tuple pl (by simp only [List.size_toArray] <;> omega) ⟨.int ys.length, H, I.tok _, ⟨s.toks + 1, by rw [List.size_toArray, hlen]⟩, q⟩
theorem call_len_str : CallR X (.builtin "len") (fun xs H Q => ∃ z, xs = [.str z] ∧ z.length ≤ sizeLine ∧ Q (.int z.length) H) := by
  intro pins s σ H xs us Q I r h
  obtain ⟨z, rfl, hz, q⟩ := h
  obtain ⟨u, rfl, t, rfl⟩ := vals1 r
  have hn := line63
  exact len_str (by omega) ⟨.int z.length, H, I.tok _, ⟨_, rfl⟩, q⟩
theorem call_list_of : CallR X (.type "list") (fun xs H Q => ∃ p ys, xs = [.ref p] ∧ (SqL X.K H p ys ∨ SqT X.K H p ys) ∧ ∀ l, H l = none → Q (.ref l) (upd H l (.lst ys))) := by
  intro pins s σ H xs us Q I r h
  obtain ⟨p, ys, rfl, hq, q⟩ := h
  obtain ⟨u, rfl, rx⟩ := vals1 r
  cases rx
  have fin : ∀ (its : List Value), Vals ys its → ys.length ≤ sizeLine → ∀ (h' : Heap) (c' : Nat), (∀ b o', s.heap.get? b = some o' → h'.get? b = some o') →
      h'.get? s.heap.objs.size = some { cls := .type "list", dict := none, data := .seq its.toArray c', slots := #[] } → EP X pins σ Q (.ref s.heap.objs.size) { s with heap := h' } := fun its r' hz h' c' kp e =>
    ⟨.ref s.heap.objs.size, _, I.laid (t' := s.toks) kp (Nat.le_refl _) (show ObjOk X.prog X.w _ h' _ (.lst ys) from ⟨hz, its, c', r', e⟩), rfl, q _ (I.hok.fresh (Nat.le_refl _))⟩
  rcases hq with hq | hq
  · obtain ⟨its, r', pl, hz⟩ := I.list hq
    have hlen := r'.length
    obtain ⟨o, ho, hc, n, hd⟩ := pl.isList
    exact call_list_seq p (.inl rfl) ho hc hd (fun h' c' kp e => fin its r' hz h' c' kp e) (by simp only [List.size_toArray] <;> omega)
  · obtain ⟨its, r', pl, hz⟩ := I.tuple hq
    have hlen := r'.length
    obtain ⟨o, ho, hc, n, hd⟩ := pl
    exact call_list_seq p (.inr rfl) ho hc hd (fun h' c' kp e => fin its r' hz h' c' kp e) (by simp only [List.size_toArray] <;> omega)
theorem call_tuple_of : CallR X (.type "tuple") (fun xs H Q => ∃ p ys, xs = [.ref p] ∧ ((SqL X.K H p ys ∧ ∀ l, H l = none → Q (.ref l) (upd H l (.tup ys))) ∨ (SqT X.K H p ys ∧ Q (.ref p) H))) := by
  intro pins s σ H xs us Q I r h
  obtain ⟨p, ys, rfl, h⟩ := h
  obtain ⟨u, rfl, rx⟩ := vals1 r
  cases rx
  rcases h with ⟨hq, q⟩ | ⟨hq, q⟩
  · obtain ⟨its, r', pl, hz⟩ := I.list hq
    have hlen := r'.length
    refine call_tuple_list pl.isList (fun h' kp => ?_) (by simp only [List.size_toArray] <;> omega)
    have I1 : Inv X pins σ H { s with heap := h' } := I.kept (t' := s.toks) kp
    have I2 : Inv X pins σ (upd H h'.objs.size (.tup ys)) { s with heap := h'.push { cls := .type "tuple", data := .seq its.toArray } } :=
      I1.laid (t' := s.toks) (fun b o e => Heap.get?_push_of_some _ e) (Nat.le_refl _) (show ObjOk X.prog X.w _ _ _ (.tup ys) from ⟨hz, its, r', IsTup.new _ _⟩)
    exact ⟨.ref h'.objs.size, _, I2, rfl, q _ (I1.hok.fresh (Nat.le_refl _))⟩
  · obtain ⟨its, r', pl, hz⟩ := I.tuple hq
    exact call_tuple_same pl ⟨.ref p, H, I, rfl, q⟩
def tyV (K : PySem.W.Frag) (T : String) (x : V) (H : Hp) : Prop := match x with
  | .str _ => T = "str"
  | .int _ => T = "int"
  | .ref p => (T = "list" ∧ ∃ xs, SqL K H p xs) ∨ (T = "tuple" ∧ ∃ o, K.lookup p = some o ∧ o.cls = .type "tuple" ∧ o.dict = none) ∨
      (T = "dict" ∧ ((∃ kvs, H p = some (.dK kvs)) ∨ ∃ kvs, H p = some (.dT kvs))) ∨ (T = "set" ∧ ∃ S n, H p = some (.set S n))
  | _ => False
theorem tyV_is {pins : List (Addr × Obj)} {σ : St} {H : Hp} {s : Shared} {T : String} {x : V} {v : Value} (I : Inv X pins σ H s) (r : RelV x v) (ty : tyV X.K T x H) :
    s.TypeIs v T ∧ ∀ a, v = .ref a → ∃ ob, s.heap.get? a = some ob ∧ ob.dict = none := by
  cases x with
  | str z =>
    obtain ⟨t, rfl⟩ := r
    cases (show T = "str" from ty)
    exact ⟨typeIs_str s z t, fun _ e => nomatch e⟩
  | int i =>
    obtain ⟨t, rfl⟩ := r
    cases (show T = "int" from ty)
    exact ⟨typeIs_int s i t, fun _ e => nomatch e⟩
  | ref p =>
    cases r
    rcases ty with ⟨rfl, xs, hq⟩ | ⟨rfl, o, hk, hc, hd⟩ | ⟨rfl, hk⟩ | ⟨rfl, S, n, hk⟩
    · obtain ⟨its, _, pl, _⟩ := I.list hq
      refine ⟨pl.isList.typeIs, fun a e => ?_⟩
      cases e
      obtain ⟨o, n, e, c, hd, _⟩ := pl
      exact ⟨o, e, hd⟩
    · refine ⟨⟨o, I.kIn p o hk, hc⟩, fun a e => ?_⟩
      cases e
      exact ⟨o, I.kIn _ o hk, hd⟩
    · have z : ∃ o, s.heap.get? p = some o ∧ o.ExactDict := by
        rcases hk with ⟨kvs, hk⟩ | ⟨kvs, hk⟩
        · obtain ⟨_, _, _, _, o, _, _, e, ex, _⟩ := I.hok p _ hk
          exact ⟨o, e, ex⟩
        · obtain ⟨_, _, _, _, o, _, _, e, ex, _⟩ := I.hok p _ hk
          exact ⟨o, e, ex⟩
      obtain ⟨o, e, ex⟩ := z
      refine ⟨⟨o, e, ex.1⟩, fun a e2 => ?_⟩
      cases e2
      exact ⟨o, e, ex.2.1⟩
    · obtain ⟨o, _, _, _, e, ex, _⟩ := I.hok p _ hk
      refine ⟨⟨o, e, ex.1⟩, fun a e2 => ?_⟩
      cases e2
      exact ⟨o, e, ex.2.1⟩
  | _ => exact False.elim ty
def tBM0 (K : PySem.W.Frag) (T : String) (r : V → List V → Hp → VK → Prop) (to : TE) : TE := fun σ H Q => to σ H fun x H1 => tyV K T x H1 ∧ r x [] H1 Q
def tBM (K : PySem.W.Frag) (T : String) (r : V → List V → Hp → VK → Prop) (to : TE) (t : TA) : TE := fun σ H Q => to σ H fun x H1 => tyV K T x H1 ∧ t σ H1 fun xs H2 => r x xs H2 Q
variable {o e : Expr} {es : List Expr} {to : TE} {t : TA} {name : Str} {apos cpos : Pos} {T id : String} {r : V → List V → Hp → VK → Prop}
theorem pe_bm0 (pa : PlainAttrs T) (slot : Slot T name id) (hty : typeOf (.builtin id) = pure (.type "method_descriptor")) (hm : MtR X id r) (ho : PE X o to)
    (hbase : attributeBase o name X.env (eval o X.env) = eval o X.env := by rfl) (hline : (apos.endLine == cpos.line) = true := by rfl) : PE X (.Call (.Attribute o name apos) [] [] cpos) (tBM0 X.K T r to) := by
  constructor
  intro pins s σ H Q I h
  refine wpAny_Call_method0_late hbase hline (thn (ho pins s σ H _ I h) fun v s1 ⟨x, H1, I1, r1, ty, q1⟩ => ?_)
  obtain ⟨h1, h2⟩ := tyV_is I1 r1 ty
  exact ⟨T, id, pa, slot, hty, h1, h2, Calls.callWith_builtin rfl (PySem.evalArgs_none (hm pins s1 σ H1 x [] v [] Q I1 r1 .nil q1))⟩
theorem pe_bm (pa : PlainAttrs T) (slot : Slot T name id) (hty : typeOf (.builtin id) = pure (.type "method_descriptor")) (hm : MtR X id r) (ho : PE X o to) (ha : PA X (e :: es) t)
    (hbase : attributeBase o name X.env (eval o X.env) = eval o X.env := by rfl)
    (hfew : ((backTo cpos (starEach (e :: es) X.env)).all (fun x => !x.1) && (backToKw cpos (keywordEach [] X.env)).all (fun x => x.1.isSome)
      && decide ((e :: es).length + ([] : List Keyword).length + (if ([] : List Keyword).isEmpty then 0 else 1) < 30)) = true := by rfl)
    (hline : (apos.endLine == cpos.line) = true := by rfl) (hs : starEach (e :: es) X.env = (false, eval e X.env) :: starEach es X.env := by rfl) (hplain : (backTo cpos (starEach es X.env)).any (·.1) = false := by rfl) :
    PE X (.Call (.Attribute o name apos) (e :: es) [] cpos) (tBM X.K T r to t) := by
  constructor
  intro pins s σ H Q I h
  refine wpAny_Call_method_late hbase hfew hline rfl (thn (ho pins s σ H _ I h) fun v s1 ⟨x, H1, I1, r1, ty, q1⟩ => ?_)
  obtain ⟨h1, h2⟩ := tyV_is I1 r1 ty
  refine ⟨T, id, pa, slot, hty, h1, h2, ?_⟩
  have hA := ha cpos pins s1 σ H1 _ I1 q1
  rw [hs] at hA ⊢
  refine Calls.callWith_builtin (by show (false || (backTo cpos (starEach es X.env)).any (·.1)) = false; rw [hplain] <;> rfl) (Calls.evalArgs_plain ?_)
  exact thn hA fun us s2 ⟨vs, H2, I2, r2, q2⟩ => hm pins s2 σ H2 x vs v us Q I2 r1 r2 q2
end
end L2
namespace L2
open PySem PySem.Spec PyProof.Rows
def MtM (X : Cx) (id : String) (r : V → List V → Hp → VK → Prop) : Prop :=
  ∀ (pins : List (Addr × Obj)) (s : Shared) (σ : St) (H : Hp) (x : V) (xs : List V) (v : Value) (us : List Value) (Q : VK), Inv X pins σ H s → RelV x v → Vals xs us → r x xs H Q →
    wpAny (model X.prog X.w) X.A (call (.builtin id) (v :: us)) (EP X pins σ Q) X.xe s
theorem Vals.one : ∀ {x : V} {us : List Value}, Vals [x] us → ∃ u, us = [u] ∧ RelV x u
  | _, _, .cons r .nil => ⟨_, rfl, r⟩
theorem Vals.zero : ∀ {us : List Value}, Vals [] us → us = []
  | _, .nil => rfl
theorem Vals.dropLast {xs : List V} {us : List Value} (h : Vals xs us) : Vals xs.dropLast us.dropLast := by
  induction h with
  | nil => exact .nil
  | cons r t ih =>
    cases t with
    | nil => exact .nil
    | cons q t' => exact .cons r ih
theorem erase_last {α : Type} (l : List α) : l.eraseIdx (l.length - 1) = l.dropLast := by
  induction l with
  | nil => rfl
  | cons a r ih =>
    cases r with
    | nil => rfl
    | cons b r =>
      have e : (a :: b :: r).length - 1 = ((b :: r).length - 1) + 1 := by
        have h1 : (a :: b :: r).length = r.length + 2 := rfl
        have h2 : (b :: r).length = r.length + 1 := rfl
        omega
      rw [e, List.eraseIdx_cons_succ, ih]
      all_goals rfl
section
variable {X : Cx} {pins : List (Addr × Obj)} {σ : St} {H : Hp} {s : Shared} {l b : Addr} {xs ys zs : List V}
theorem Inv.lset {its its' : List Value} {n : Nat} {f : Array Value → Array Value} {t' : Nat} (I : Inv X pins σ H s) (hH : H l = some (.lst xs))
    (e : s.heap.get? l = some { cls := .type "list", data := .seq its.toArray n }) (hf : f its.toArray = its'.toArray) (hv : Vals ys its') (hz : ys.length ≤ sizeLine) :
    Inv X pins σ (upd H l (.lst ys)) { s with heap := s.heap.update l (Obj.mapSeq f), toks := t' } := by
  have q := PySem.IsL.update e f
  rw [hf] at q
  refine I.write (x := l) (e := l) (by rw [hH]; exact trivial) (.inl rfl) (fun b' u hb hu => (Heap.get?_update_other s.heap (Obj.mapSeq f) (Ne.symm hb)).trans hu) ⟨_, q⟩ ?_
  exact ⟨hz, its', _, hv, q⟩
theorem Inv.lstM (I : Inv X pins σ H s) (hH : H l = some (.lst xs)) : xs.length ≤ sizeLine ∧ ∃ (its : List Value) (n : Nat), Vals xs its ∧ xs.length = its.length ∧ s.heap.get? l = some { cls := .type "list", data := .seq its.toArray n } := by
  obtain ⟨z, its, n, r, e⟩ := I.hok l _ hH
  exact ⟨z, its, n, r, r.length, e⟩
theorem notLongL {n : Nat} (h : n ≤ sizeLine) : Builtin.List.listTooLong n = false := by
  unfold Builtin.List.listTooLong
  exact decide_eq_false (by omega)
end
section
variable {X : Cx}
def rAppend : V → List V → Hp → VK → Prop := fun x vs H Q => ∃ l xs y, x = .ref l ∧ vs = [y] ∧ H l = some (.lst xs) ∧ xs.length < sizeLine ∧ Q .non (upd H l (.lst (xs ++ [y])))
theorem mt_append : MtM X "list.append" rAppend := by
  intro pins s σ H x vs v us Q I rx rv h
  obtain ⟨l, xs, y, rfl, rfl, hH, hz, q⟩ := h
  cases rx
  obtain ⟨u, rfl, ru⟩ := rv.one
  obtain ⟨z, its, n, r, hl, e⟩ := I.lstM hH
  refine call_meets F.slot_list_append ⟨_, e, rfl⟩ F.entry_list_append (F.args_list_append_2 _ _) (PySem.list_append l its.toArray n u (by rw [List.size_toArray]; omega)) ⟨e, ?_⟩
  refine ⟨.non, _, I.lset (its' := its ++ [u]) hH e (by simp) (r.append (.cons ru .nil)) ?_, rfl, q⟩
  rw [List.length_append, List.length_singleton]
  omega
def rExtend : V → List V → Hp → VK → Prop := fun x vs H Q => ∃ l b xs zs, x = .ref l ∧ vs = [.ref b] ∧ H l = some (.lst xs) ∧ H b = some (.lst zs) ∧ xs.length + zs.length ≤ sizeLine ∧ Q .non (upd H l (.lst (xs ++ zs)))
theorem mt_extend : MtM X "list.extend" rExtend := by
  intro pins s σ H x vs v us Q I rx rv h
  obtain ⟨l, b, xs, zs, rfl, rfl, hH, hB, hz, q⟩ := h
  cases rx
  obtain ⟨u, rfl, ru⟩ := rv.one
  cases ru
  obtain ⟨z, its, n, r, hl, e⟩ := I.lstM hH
  obtain ⟨z2, its2, n2, r2, hl2, e2⟩ := I.lstM hB
  have hsz : its.toArray.size + its2.toArray.size ≤ sizeLine := by rw [List.size_toArray, List.size_toArray]; omega
  have hlong : ¬ (!its.toArray.isEmpty && Builtin.List.listTooLong (its.toArray.size + its2.toArray.size)) = true := by
    rw [notLongL hsz, Bool.and_false]
    exact Bool.false_ne_true
  refine call_meets F.slot_list_extend ⟨_, e, rfl⟩ F.entry_list_extend (F.args_list_extend_2 _ _)
    (AutoSeq1.list_extend_list_list_0 l its.toArray n b its2.toArray n2 hlong (by rw [List.size_toArray]; omega) (by omega)) ⟨e, e2, ?_⟩
  refine ⟨.non, _, I.lset (its' := its ++ its2) hH e (by simp) (r.append r2) ?_, rfl, q⟩
  rw [List.length_append]
  omega
def rPop : V → List V → Hp → VK → Prop := fun x vs H Q => ∃ l xs y, x = .ref l ∧ vs = [] ∧ H l = some (.lst xs) ∧ xs[xs.length - 1]? = some y ∧ Q y (upd H l (.lst xs.dropLast))
theorem mt_pop : MtM X "list.pop" rPop := by
  intro pins s σ H x vs v us Q I rx rv h
  obtain ⟨l, xs, y, rfl, rfl, hH, hy, q⟩ := h
  cases rx
  have hus := rv.zero
  subst hus
  obtain ⟨z, its, n, r, hl, e⟩ := I.lstM hH
  obtain ⟨u, hu, ru⟩ := r.get hy
  have hy' : its.toArray[its.toArray.size - 1]? = some u := by
    show its.toArray[its.length - 1]? = some u
    rw [← Array.getElem?_toList, ← hl]
    exact hu
  refine call_meets F.slot_list_pop ⟨_, e, rfl⟩ F.entry_list_pop (F.args_list_pop_1 _) (MeetsSeq.list_pop_last l its.toArray n u hy' (by rw [List.size_toArray]; omega)) ⟨e, ?_⟩
  refine ⟨y, _, I.lset (its' := its.dropLast) hH e ?_ r.dropLast ?_, ru, q⟩
  · show its.toArray.eraseIdxIfInBounds (its.toArray.size - 1) = its.dropLast.toArray
    rw [List.size_toArray, List.eraseIdxIfInBounds_toArray, erase_last]
  · rw [List.length_dropLast]
    omega
def rPopAt : V → List V → Hp → VK → Prop := fun x vs H Q => ∃ l xs i k y, x = .ref l ∧ vs = [.int i] ∧ H l = some (.lst xs) ∧ -(2 ^ 63) ≤ i ∧ i < 2 ^ 63 ∧ seqIndex? i xs.length = some k ∧ xs[k]? = some y ∧ Q y (upd H l (.lst (xs.eraseIdx k)))
def rReverse : V → List V → Hp → VK → Prop := fun x vs H Q => ∃ l xs, x = .ref l ∧ vs = [] ∧ H l = some (.lst xs) ∧ Q .non (upd H l (.lst xs.reverse))
def rClear : V → List V → Hp → VK → Prop := fun x vs H Q => ∃ l xs, x = .ref l ∧ vs = [] ∧ H l = some (.lst xs) ∧ Q .non (upd H l (.lst []))
def rCat : R2 := fun x y H Q => ∃ l b xs zs, x = .ref l ∧ y = .ref b ∧ H l = some (.lst xs) ∧ H b = some (.lst zs) ∧ xs.length + zs.length ≤ sizeLine ∧ ∀ p, H p = none → Q (.ref p) (upd H p (.lst (xs ++ zs)))
def rRep : R2 := fun x y H Q => ∃ l k xs, x = .ref l ∧ y = .int k ∧ H l = some (.lst xs) ∧ -(2 ^ 63) ≤ k ∧ k < 2 ^ 63 ∧ xs.length * k.toNat ≤ sizeLine ∧
  ∀ p, H p = none → Q (.ref p) (upd H p (.lst (List.replicate k.toNat xs).flatten))
end
section
variable {prog : Program} {w : World} {A : Around} {E : Value → Shared → Prop} {s : Shared}
end
section
variable {X : Cx}
end
end L2
namespace Att
open PySem PySem.W PySem.Calls PyProof.Rows
theorem ints_of_wellAll {P : Params} {h : Heap} : ∀ (ns : List Int) (vs : List Value), WellAll P h vs (ns.map WData.int) → IntsAre vs ns := by
  intro ns
  induction ns with
  | nil =>
    intro vs w
    rw [List.map_nil] at w
    cases w
    exact .nil
  | cons n ns ih =>
    intro vs w
    rw [List.map_cons] at w
    cases w with
    | cons a b =>
      cases a
      exact .cons _ _ (ih _ b)
theorem script_of {l : OpenLaw} {n : Nat} (hn : l.most = some n) {P : Params} {h : Heap} {args : List WData} {vals : List Value}
    (hpre : l.row.toRowW.claim.pre args = true) (hwl : WellAll P h vals args) :
    ∃ a vs ns, vals = [Value.ref a] ∧ args = [WData.list (ns.map WData.int)] ∧ h.get? a = some { cls := .type "list", data := .seq vs.toArray } ∧ IntsAre vs ns ∧ ns.length ≤ n := by
  have hsh : WShape.hasAll [] args [.list .int] = true := (pre_splitW hpre).1
  have hc : l.pre.holds [] { args := args } = true := (pre_splitW hpre).2
  obtain ⟨d, r, rfl, h1, h2⟩ := hasAllW_cons hsh
  obtain rfl := hasAllW_nil h2
  obtain ⟨xs, rfl, h3⟩ := hasW_list h1
  obtain ⟨ns, rfl⟩ := items_int h3
  have hlen : ns.length ≤ n := by
    unfold OpenLaw.pre at hc
    have h4 : (WTm.not (.lt (.lit (.int (n : Int))) (.len (.arg 0)))).holds [] { args := [.list (ns.map .int)] } = true := by
      have h4 := (holds_andW hc).1
      rw [hn] at h4
      exact h4
    have h5 := condW_of h4 (w_not (w_lt w_lit (w_len_list (w_arg rfl))))
    rw [List.length_map] at h5
    refine Nat.le_of_not_lt fun q => ?_
    have q' : (n : Int) < ((ns.length : Nat) : Int) := by omega
    first
      | (rw [decide_eq_true q'] at h5; exact absurd h5 (by decide))
      | (simp at h5; omega)
  cases hwl with
  | cons w1 w2 =>
    cases w2
    cases w1 with
    | list ho hall => exact ⟨_, _, ns, rfl, rfl, ho, ints_of_wellAll ns _ hall, hlen⟩
theorem post_true (l : OpenLaw) (args : List WData) : l.row.toRowW.claim.post args (.bool true) args = true :=
  postW_of (r := l.row.toRowW) (X := (true == true))
    (show WShape.has [] (.bool true) .bool = true by first | rfl | decide | simp [WShape.has, WShape.arms, WShape.armsAll])
    (show (WTm.eq .res (.lit (.bool true))).value [] { args := args, res := some (.bool true), after := args } = some (.bool (true == true)) from w_eq_bool (w_res rfl) w_lit) rfl
section
variable {prog : Program} {w : World} {A : Around} {E : Value → Shared → Prop} {s : Shared} {K : Frag}
def noObjs (h : Heap) : Heap := { h with objs := #[] }
def ledger (h : Heap) (L d : Addr) : List (Addr × Obj) := (List.range h.objs.size).filterMap fun a => if a = L ∨ a = d then none else (h.get? a).map fun o => (a, o)
end
end Att
namespace L2
open PySem PySem.Spec PyProof.Rows
theorem vals_ints : ∀ {vs : List Value} {ns : List Int}, IntsAre vs ns → Vals (ns.map V.int) vs
  | _, _, .nil => .nil
  | _, _, .cons n t h => .cons ⟨t, rfl⟩ (vals_ints h)
def Only (H : Hp) : Prop := ∀ b, H b = none ∨ ∃ o xs, H b = some (.frz o (.lst xs))
theorem law_call {P : Program} {w : World} {K : PySem.W.Frag} {mg mb : Str → Option Value} {CX : CXT} {k : Nat} {fa a : Addr} {fd : FuncData} {x : Str} {sp : Sp} {s₁ : Shared} {vs : List Value} {ns : List Int}
    (KX : K.In s₁.heap) (hns : s₁.heap.Ns mainGlobals mg) (hb : s₁.heap.Ns builtinsNs mb) (hbb : ∀ x : Str, x ≠ "__name__" → mb x = bootBuiltins x) (hlim : s₁.heap.NoLimit) (hg : s₁.gens = #[])
    (ha : s₁.heap.get? a = some { cls := .type "list", data := .seq vs.toArray }) (hi : IntsAre vs ns) (hl : ns.length ≤ sizeLine) (hr : Room k callerA)
    (F : ∀ base : Heap, K.In base → base.Ns mainGlobals mg → FnOk P w K mg base CX k fa fd [x] sp) (hbind : ∀ (s : Shared) (u : Value), BindsTo s fd ⟨[u], []⟩ [(x, u)])
    (hsp : ∀ H : Hp, Only H → SqL K H a (ns.map V.int) → sp [.ref a] H (fun v _ => v = .bl true) fun _ _ _ => False)
    (hCX : ∀ H e s', CX [] H s₁ (fun _ _ _ => False) e s' → False) :
    codeAny (model P w) callerA (.call (.ref fa) ⟨[.ref a], []⟩) (fun r s' => r = .ok (.ret (.bool true)) ∧ OldK s₁.heap s'.heap ∧ s'.os = s₁.os ∧ AllBare s'.gens) s₁ := by
  have rv := vals_ints hi
  have lenV := hi.length
  have core : ∀ H : Hp, Only H → SqL K H a (ns.map V.int) → HOk P w H s₁.heap → (∀ b, H b ≠ none → b = a) → (H a ≠ none → K.lookup a = none) →
      codeAny (model P w) callerA (.call (.ref fa) ⟨[.ref a], []⟩) (fun r s' => r = .ok (.ret (.bool true)) ∧ OldK s₁.heap s'.heap ∧ s'.os = s₁.os ∧ AllBare s'.gens) s₁ := by
    intro H hO hS hok hA hK
    have base_of : ∀ {b : Addr} {o : Obj}, s₁.heap.get? b = some o → H b = none → (hidT s₁.heap H).get? b = some o := fun e n => hidT_get e n
    have noA : ∀ {b : Addr} {o : Obj} {es : Array DictEntry} {ep : Nat}, s₁.heap.get? b = some o → o.data = .dict es ep → H b = none := fun {b o es ep} e d => by
      cases q : H b with
      | none => rfl
      | some u =>
        have e' : b = a := hA b (by rw [q]; simp)
        subst e'
        rw [ha] at e; cases e
        have d' : Data.seq vs.toArray _ = Data.dict es ep := d
        cases d'
    have nsK : ∀ {b : Addr} {m : Str → Option Value}, s₁.heap.Ns b m → (hidT s₁.heap H).Ns b m := fun {b m} ⟨o, es, ep, e, d, r⟩ => ⟨o, es, ep, base_of e (noA e d), d, r⟩
    have hKb : K.In (hidT s₁.heap H) := fun b o e => base_of (KX b o e) (by
      cases q : H b with
      | none => rfl
      | some u =>
        have e' : b = a := hA b (by rw [q]; simp)
        subst e'
        rw [hK (by rw [q]; simp)] at e; cases e)
    have hM : Mod K mg (hidT s₁.heap H) := ⟨hKb, nsK hns, ⟨mb, nsK hb, hbb⟩, let ⟨mc, h1, h2⟩ := hlim; ⟨mc, nsK h1, h2⟩⟩
    have e0 : Env0 P w K mg (hidT s₁.heap H) callerA [] s₁ H := ⟨rfl, hM, fun b o e => of_hidT e, Nat.le_of_eq (hidT_size _ _), trivial, fun b hb => absurd (show b ∈ ([] : List Addr) from hb) (by simp), hok, .of_eq hg⟩
    refine codeAny_mono ((F _ hKb (nsK hns)).run callerA [] s₁ H ⟨[.ref a], []⟩ [.ref a] [.ref a] _ _ hr e0 (hbind s₁ (.ref a)) (.cons rfl .nil) (hsp H hO hS)) fun r s' h => ?_
    cases r with
    | error e => exact (hCX H e s' h).elim
    | ok fl =>
      cases fl with
      | next => exact False.elim h
      | brk => exact False.elim h
      | cont => exact False.elim h
      | ret u =>
        obtain ⟨v, H', os, bare, un, hok', r', q⟩ := h
        have q' : v = .bl true := q
        subst q'
        obtain rfl : u = Value.bool true := r'
        refine ⟨rfl, OldK.of_keep fun b o e => ?_, os, bare⟩
        cases q : H b with
        | none => exact un.keep b o e q (by intro z; exact absurd (show b ∈ ([] : List Addr) from z) (by simp)) (by simp)
        | some u =>
          rcases hO b with z | ⟨ob, xs, z⟩
          · rw [q] at z; cases z
          · have z2 := un.frzs b ob _ z
            obtain ⟨e1, _⟩ := hok b _ z
            obtain ⟨e2, _⟩ := hok' b _ z2
            rw [e] at e1; cases e1
            exact e2
  cases hk : K.lookup a with
  | some o =>
    have e := KX a o hk
    rw [ha] at e
    cases e
    refine core (fun _ => none) (fun _ => .inl rfl) (.inr ⟨_, vs.toArray, _, hk, rfl, rfl, rfl, by rw [List.size_toArray, lenV]; exact hl, by simpa using rv⟩) (fun b u z => by have z' : (none : Option HO) = some u := z; cases z') (fun b z => absurd rfl z) fun z => absurd rfl z
  | none =>
    refine core (fun b => if b = a then some (.frz { cls := .type "list", data := .seq vs.toArray } (.lst (ns.map V.int))) else none) (fun b => ?_) (.inl (.inr ⟨{ cls := .type "list", data := .seq vs.toArray }, if_pos rfl⟩)) (fun b u z => ?_) (fun b z => ?_) fun _ => hk
    · by_cases hb : b = a
      · exact .inr ⟨_, _, if_pos hb⟩
      · exact .inl (if_neg hb)
    · by_cases hb : b = a
      · have z' := (if_pos hb).symm.trans z
        cases z'
        subst hb
        exact ⟨ha, by rw [List.length_map]; exact hl, vs, _, rv, ha⟩
      · have z' := (if_neg hb).symm.trans z
        cases z'
    · by_cases hb : b = a
      · exact hb
      · exact absurd (if_neg hb) z
end L2
namespace L2
open PySem PySem.Spec PyProof.Rows
abbrev KOf {K : PySem.W.Frag} {h : Heap} (_ : K.In h) : PySem.W.Frag := K
end L2
namespace L2
open PySem PySem.Spec PyProof.Rows
def inClass (s : Stmt) (j : Nat) : Stmt := match s with
  | .ClassDef _ _ _ body _ _ _ _ _ _ _ => body.getD j (.Pass ⟨0, 0, 0, 0⟩)
  | _ => .Pass ⟨0, 0, 0, 0⟩
def defArgs (s : Stmt) : Arguments := match s with
  | .FunctionDef _ a _ _ _ _ _ _ _ _ => a
  | _ => { posonlyargs := [], args := [], vararg := none, kwonlyargs := [], kw_defaults := [], kwarg := none, defaults := [] }
def defBody (s : Stmt) : List Stmt := match s with
  | .FunctionDef _ _ b _ _ _ _ _ _ _ => b
  | _ => []
def defScope (s : Stmt) : Scope := match s with
  | .FunctionDef _ _ _ _ _ _ sc _ _ _ => sc
  | _ => { kind := .function, names := [], isGenerator := false, isCoroutine := false }
abbrev CX0 : CXT := fun _ _ _ _ _ _ => False
abbrev E0 : XK := fun _ _ _ => False
structure Fun (K : PySem.W.Frag) (x qual : Str) (st : Stmt) (f : Addr) (fd : FuncData) : Prop where
  ex : ∃ (oc : Value) (od : Option Addr) (kV doc pm : Value) (an : Option Addr) (cdv ct : Value) (osl : Array (Option Value)),
    fd = PySem.W.fnOf x qual (defArgs st) (defBody st) (defScope st) .none kV doc pm an cdv ct ∧ K.lookup f = some ⟨oc, od, .func fd, osl⟩ ∧ PySem.W.codeIn K cdv qual = true
  kp : PySem.W.keepIn K (.ref f) = true
section
variable {P : Program} {w : World} {K : PySem.W.Frag} {mg : Str → Option Value} {base : Heap}
theorem Fun.binds {x qual : Str} {st : Stmt} {f : Addr} {fd : FuncData} {ps : List Str} (F : Fun K x qual st f fd)
    (h : ∀ (kV doc pm : Value) (an : Option Addr) (cdv ct : Value) (us : List Value), us.length = ps.length → bindArgs (PySem.W.fnOf x qual (defArgs st) (defBody st) (defScope st) .none kV doc pm an cdv ct) ⟨us, []⟩ = pure (ps.zip us)) : Binds K fd ps [] := by
  obtain ⟨oc, od, kV, doc, pm, an, cdv, ct, osl, rfl, lk, hcd⟩ := F.ex
  exact .all (h kV doc pm an cdv ct)
theorem fun_mk {x qual : Str} {st : Stmt} {f : Addr} {oc : Value} {od an : Option Addr} {osl : Array (Option Value)} {kV doc pm cdv ct : Value} (l : K.lookup f = some ⟨oc, od, .func (PySem.W.fnOf x qual (defArgs st) (defBody st) (defScope st) .none kV doc pm an cdv ct), osl⟩)
    (c : PySem.W.codeIn K cdv qual = true) (k : PySem.W.keepIn K (.ref f) = true) : Fun K x qual st f (PySem.W.fnOf x qual (defArgs st) (defBody st) (defScope st) .none kV doc pm an cdv ct) := ⟨⟨oc, od, kV, doc, pm, an, cdv, ct, osl, rfl, l, c⟩, k⟩
end
theorem small1000 {n : Nat} (h : n ≤ 1000) : n < sizeLine := Nat.lt_of_le_of_lt h (by decide)
section
variable {X : Cx}
theorem pv (i : Nat) {x : Str} {pos : Pos} (hN : X.N[i]? = some x := by rfl) (hv : Vis X.env.scope x := by first | exact Or.inl rfl | exact Or.inr (Or.inl rfl) | exact Or.inr (Or.inr rfl)) (hd : (x == ("__debug__" : Str)) = false := by decide)
    (hcd : (x == ("__classdict__" : Str)) = false := by decide) : PE X (.Name x pos) (tVar i) := pe_var hN hv hd hcd
end
theorem iteF {A B : Prop} (h : B) : if false = true then A else B := by
  rw [if_neg Bool.false_ne_true]
  exact h
theorem iteT {A B : Prop} (h : A) : if true = true then A else B := by
  rw [if_pos rfl]
  exact h
theorem ite2 {c A B : Prop} [Decidable c] (h1 : c → A) (h2 : ¬ c → B) : if c then A else B := by
  by_cases h : c
  · rw [if_pos h]
    exact h1 h
  · rw [if_neg h]
    exact h2 h
def Same (H H' : Hp) : Prop := ∀ b o, H b = some o → H' b = some o
theorem Same.refl (H : Hp) : Same H H := fun _ _ h => h
theorem Same.trans {H H1 H2 : Hp} (a : Same H H1) (b : Same H1 H2) : Same H H2 := fun c o h => b c o (a c o h)
end L2
namespace L2
open PySem PySem.Spec PyProof.Rows
section
variable {κ : Type} [DecidableEq κ]
def valV (kvs : List (κ × V)) (k : κ) : Option V := (kvs.find? fun kv => decide (kv.1 = k)).map (·.2)
def putK (kvs : List (κ × V)) (k : κ) (v : V) : List (κ × V) :=
  if (kvs.any fun kv => decide (kv.1 = k)) = true then kvs.map (fun kv => if kv.1 = k then (kv.1, v) else kv) else kvs ++ [(k, v)]
def dropK (kvs : List (κ × V)) (k : κ) : List (κ × V) := kvs.filter fun kv => decide (kv.1 ≠ k)
theorem valV_pos {p : κ × V} {r : List (κ × V)} {k : κ} (e : p.1 = k) : valV (p :: r) k = some p.2 := by simp [valV, List.find?_cons, e]
theorem valV_neg {p : κ × V} {r : List (κ × V)} {k : κ} (e : ¬ p.1 = k) : valV (p :: r) k = valV r k := by simp [valV, List.find?_cons, e]
theorem valV_any (k : κ) : ∀ kvs : List (κ × V), (kvs.any fun kv => decide (kv.1 = k)) = (valV kvs k).isSome
  | [] => rfl
  | p :: r => by
    rw [List.any_cons]
    by_cases e : p.1 = k
    · simp only [valV_pos e, decide_eq_true e, Bool.true_or, Option.isSome_some]
    · rw [valV_neg e, decide_eq_false e, Bool.false_or]; exact valV_any k r
theorem valV_map (k j : κ) (y : V) : ∀ kvs : List (κ × V), valV (kvs.map fun kv => if kv.1 = k then (kv.1, y) else kv) j = (valV kvs j).map fun x => if j = k then y else x
  | [] => rfl
  | p :: r => by
    have ih := valV_map k j y r
    rw [List.map_cons]
    by_cases h : p.1 = k
    · rw [if_pos h]
      by_cases e : p.1 = j
      · rw [valV_pos (p := (p.1, y)) e, valV_pos e, Option.map_some, if_pos (e.symm.trans h)]
      · rw [valV_neg (p := (p.1, y)) e, valV_neg e, ih]
    · rw [if_neg h]
      by_cases e : p.1 = j
      · rw [valV_pos (p := p) e, valV_pos e, Option.map_some, if_neg (fun z => h (e.trans z))]
      · rw [valV_neg (p := p) e, valV_neg e, ih]
theorem valV_snoc (k j : κ) (y : V) : ∀ kvs : List (κ × V), valV kvs k = none → valV (kvs ++ [(k, y)]) j = if j = k then some y else valV kvs j
  | [], _ => by
    by_cases e : k = j
    · rw [if_pos e.symm]; exact valV_pos (p := (k, y)) e
    · rw [if_neg (fun z => e z.symm)]; exact valV_neg (p := (k, y)) e
  | p :: r, hn => by
    rw [List.cons_append]
    have hk : ¬ p.1 = k := fun z => by rw [valV_pos z] at hn; cases hn
    rw [valV_neg hk] at hn
    have ih := valV_snoc k j y r hn
    by_cases e : p.1 = j
    · rw [valV_pos e, valV_pos e, if_neg (fun z => hk (e.trans z))]
    · rw [valV_neg e, valV_neg e, ih]
theorem valV_put (kvs : List (κ × V)) (k j : κ) (y : V) : valV (putK kvs k y) j = if j = k then some y else valV kvs j := by
  unfold putK
  by_cases a : (kvs.any fun kv => decide (kv.1 = k)) = true
  · rw [if_pos a, valV_map]
    rw [valV_any] at a
    by_cases e : j = k
    · obtain ⟨x, hx⟩ := Option.isSome_iff_exists.mp a
      rw [if_pos e, e, hx, Option.map_some, if_pos rfl]
    · rw [if_neg e]
      cases valV kvs j with
      | none => rfl
      | some x => rw [Option.map_some, if_neg e]
  · rw [if_neg a]
    refine valV_snoc k j y kvs ?_
    rw [valV_any] at a
    cases q : valV kvs k with
    | none => rfl
    | some x => rw [q] at a; exact (a rfl).elim
theorem length_putK (kvs : List (κ × V)) (k : κ) (v : V) : (putK kvs k v).length ≤ kvs.length + 1 := by
  unfold putK
  split
  · rw [List.length_map]; omega
  · rw [List.length_append, List.length_cons, List.length_nil]; omega
theorem RelO.isSome_eq {o : Option V} {u : Option Value} (r : RelO o u) : o.isSome = u.isSome := by
  cases o with
  | none => cases u with
    | none => rfl
    | some _ => exact (show False from r).elim
  | some _ => cases u with
    | none => exact (show False from r).elim
    | some _ => rfl
theorem RelO.getD {o : Option V} {u : Option Value} {d : V} {d' : Value} (r : RelO o u) (rd : RelV d d') : RelV (o.getD d) (u.getD d') := by
  cases o with
  | none => cases u with
    | none => exact rd
    | some _ => exact (show False from r).elim
  | some _ => cases u with
    | none => exact (show False from r).elim
    | some _ => exact r
theorem KV.val {kvs : List (κ × V)} {vs : List (κ × Value)} (r : KV kvs vs) (k : κ) : RelO (valV kvs k) (valueAt vs k) := by
  unfold KV at r
  induction r with
  | nil => exact True.intro
  | @cons p q ps qs h t ih =>
    obtain ⟨h1, h2⟩ := h
    by_cases e : p.1 = k
    · have e' : q.1 = k := h1.symm.trans e
      have b : valueAt (q :: qs) k = some q.2 := by simp [valueAt, List.find?_cons, e']
      rw [valV_pos e, b]; exact h2
    · have e' : ¬ q.1 = k := fun z => e (h1.trans z)
      have b : valueAt (q :: qs) k = valueAt qs k := by simp [valueAt, List.find?_cons, e']
      rw [valV_neg e, b]; exact ih
theorem KV.any {kvs : List (κ × V)} {vs : List (κ × Value)} (r : KV kvs vs) (k : κ) : (kvs.any fun kv => decide (kv.1 = k)) = vs.any fun kv => decide (kv.1 = k) := by
  unfold KV at r
  induction r with
  | nil => rfl
  | cons h t ih => rw [List.any_cons, List.any_cons, ih, h.1]
theorem KV.repl {kvs : List (κ × V)} {vs : List (κ × Value)} (r : KV kvs vs) (k : κ) {y : V} {u : Value} (ry : RelV y u) :
    KV (kvs.map fun kv => if kv.1 = k then (kv.1, y) else kv) (vs.map fun kv => if kv.1 = k then (kv.1, u) else kv) := by
  unfold KV at r ⊢
  induction r with
  | nil => exact .nil
  | @cons p q ps qs h t ih =>
    rw [List.map_cons, List.map_cons]
    refine .cons ?_ ih
    obtain ⟨h1, h2⟩ := h
    by_cases e : p.1 = k
    · rw [if_pos e, if_pos (h1.symm.trans e)]; exact ⟨h1, ry⟩
    · rw [if_neg e, if_neg (fun z => e (h1.trans z))]; exact ⟨h1, h2⟩
theorem KV.put {kvs : List (κ × V)} {vs : List (κ × Value)} (r : KV kvs vs) (k : κ) {y : V} {u : Value} (ry : RelV y u) : KV (putK kvs k y) (stored vs k u) := by
  unfold putK stored
  rw [r.any k]
  by_cases e : (vs.any fun kv => decide (kv.1 = k)) = true
  · rw [if_pos e, if_pos e]; exact r.repl k ry
  · rw [if_neg e, if_neg e]; exact Paired.snoc r ⟨rfl, ry⟩
theorem KV.length {kvs : List (κ × V)} {vs : List (κ × Value)} (r : KV kvs vs) : kvs.length = vs.length := Paired.length r
end
theorem kV_is {P : Program} {w : World} {k : Key} {u : Value} (r : RelV (kV k) u) : (mixKind P w).is k u = true := by
  cases k with
  | inl i => obtain ⟨t, e⟩ := (show ∃ t, u = Value.int i t from r); subst e; exact mixKind_int P w i t
  | inr x => obtain ⟨t, e⟩ := (show ∃ t, u = Value.str x t from r); subst e; exact mixKind_str P w x t
theorem items_are {P : Program} {w : World} : ∀ {ks : List Key} {us : List Value}, Vals (ks.map kV) us → ItemsAre (mixKind P w) ks us
  | [], _, r => by rw [List.map_nil] at r; cases r; exact .nil
  | k :: ks, _, r => by
    rw [List.map_cons] at r
    cases r with
    | cons h t => exact .cons (kV_is h) (items_are t)
abbrev KT (H : Hp) : List (List Key × V) → List (List Key × Addr × Value) → Prop := Paired fun p q => p.1 = q.1 ∧ H q.2.1 = some (.tup (p.1.map kV)) ∧ RelV p.2 q.2.2
theorem KT.val {H : Hp} {kvs : List (List Key × V)} {xs : List (List Key × Addr × Value)} (r : KT H kvs xs) (k : List Key) : RelO (valV kvs k) ((atKey xs k).map (·.2)) := by
  induction r with
  | nil => exact True.intro
  | @cons p q ps qs h t ih =>
    obtain ⟨h1, _, h2⟩ := h
    by_cases e : p.1 = k
    · have e' : q.1 = k := h1.symm.trans e
      have b : atKey (q :: qs) k = some q.2 := by simp [atKey, List.find?_cons, e']
      rw [valV_pos e, b]; exact h2
    · have e' : ¬ q.1 = k := fun z => e (h1.trans z)
      have b : atKey (q :: qs) k = atKey qs k := by simp [atKey, List.find?_cons, e']
      rw [valV_neg e, b]; exact ih
theorem KT.repl {H : Hp} {kvs : List (List Key × V)} {xs : List (List Key × Addr × Value)} (r : KT H kvs xs) (k : List Key) {y : V} {u : Value} (ry : RelV y u) :
    KT H (kvs.map fun kv => if kv.1 = k then (kv.1, y) else kv) (xs.map (putAt k u)) := by
  induction r with
  | nil => exact .nil
  | @cons p q ps qs h t ih =>
    rw [List.map_cons, List.map_cons]
    refine .cons ?_ ih
    obtain ⟨h1, h2, h3⟩ := h
    unfold putAt
    by_cases e : p.1 = k
    · rw [if_pos e, if_pos (h1.symm.trans e)]; exact ⟨h1, h2, ry⟩
    · rw [if_neg e, if_neg (fun z => e (h1.trans z))]; exact ⟨h1, h2, h3⟩
theorem KT.put {H : Hp} {kvs : List (List Key × V)} {xs : List (List Key × Addr × Value)} (r : KT H kvs xs) (k : List Key) {b : Addr} {y : V} {u : Value} (hb : H b = some (.tup (k.map kV))) (ry : RelV y u) :
    KT H (putK kvs k y) (storedH xs k b u) := by
  have e : (kvs.any fun kv => decide (kv.1 = k)) = (atKey xs k).isSome := by
    rw [valV_any, (r.val k).isSome_eq, Option.isSome_map]
  unfold putK storedH
  rw [e]
  by_cases q : (atKey xs k).isSome = true
  · rw [if_pos q, if_pos q]; exact r.repl k ry
  · rw [if_neg q, if_neg q]; exact Paired.snoc r ⟨rfl, hb, ry⟩
theorem KT.keeps {H H' : Hp} {kvs : List (List Key × V)} {xs : List (List Key × Addr × Value)} (r : KT H kvs xs) (ht : ∀ b ys, H b = some (.tup ys) → H' b = some (.tup ys)) : KT H' kvs xs :=
  Paired.mapP r fun _ _ z => ⟨z.1, ht _ _ z.2.1, z.2.2⟩
section
variable {P : Program} {w : World} {H : Hp} {h : Heap} {a : Addr}
theorem rd_of {u : HO} (ok : HOk P w H h) (e : Rd H a u) : ObjOk P w H h a u := e.ok ok
theorem dk_rd {kvs : List (Key × V)} (ok : HOk P w H h) (e : Rd H a (.dK kvs)) : kvs.length ≤ sizeLine ∧ (a == sysModules) = false ∧ ∃ vs, KV kvs vs ∧ h.DictOf (mixKind P w) a vs :=
  show ObjOk P w H h a (.dK kvs) from rd_of ok e
theorem dk_of {kvs : List (Key × V)} (ok : HOk P w H h) (e : H a = some (.dK kvs)) : kvs.length ≤ sizeLine ∧ (a == sysModules) = false ∧ ∃ vs, KV kvs vs ∧ h.DictOf (mixKind P w) a vs := dk_rd ok (.inl e)
theorem key_of {ks : List Key} (ok : HOk P w H h) (e : H a = some (.tup (ks.map kV))) : (tupleKind (mixKind P w)).is h ks a := by
  obtain ⟨_, its, r, o, h1, h2, n, h3⟩ := (show ObjOk P w H h a (.tup (ks.map kV)) from ok a _ e)
  exact ⟨o, its.toArray, n, h1, h2, h3, by simpa using items_are r⟩
theorem dt_rd {kvs : List (List Key × V)} (ok : HOk P w H h) (e : Rd H a (.dT kvs)) : kvs.length ≤ sizeLine ∧ (a == sysModules) = false ∧
    ∃ xs, KT H kvs xs ∧ h.DictOfH (tupleKind (mixKind P w)) a xs := by
  obtain ⟨z, y, xs, r, o, es, ep, h1, h2, h3, h4, h5⟩ := (show ObjOk P w H h a (.dT kvs) from rd_of ok e)
  refine ⟨z, y, xs, r, o, es, ep, h1, h2, h3, h4, fun x hx => ?_, h5⟩
  have all : ∀ {l : List (List Key × V)} {m : List (List Key × Addr × Value)}, KT H l m → ∀ x ∈ m, (tupleKind (mixKind P w)).is h x.1 x.2.1 := by
    intro l m q
    induction q with
    | nil => intro x hx; exact nomatch hx
    | @cons p q ps qs hq t ih =>
      intro x hx
      rcases List.mem_cons.mp hx with e | hx
      · subst e
        exact key_of ok (by rw [← hq.1]; exact hq.2.1)
      · exact ih x hx
  exact all r x hx
theorem dt_of {kvs : List (List Key × V)} (ok : HOk P w H h) (e : H a = some (.dT kvs)) : kvs.length ≤ sizeLine ∧ (a == sysModules) = false ∧
    ∃ xs, KT H kvs xs ∧ h.DictOfH (tupleKind (mixKind P w)) a xs := dt_rd ok (.inl e)
end
def DGet (H : Hp) (a : Addr) (y : V) (r : Option V) : Prop :=
  (∃ kvs k, Rd H a (.dK kvs) ∧ y = kV k ∧ r = valV kvs k) ∨ ∃ kvs k b, Rd H a (.dT kvs) ∧ y = .ref b ∧ H b = some (.tup (k.map kV)) ∧ r = valV kvs k
def DPut (H : Hp) (a : Addr) (y v : V) (H' : Hp) : Prop :=
  (∃ kvs k, H a = some (.dK kvs) ∧ y = kV k ∧ kvs.length < sizeLine ∧ H' = upd H a (.dK (putK kvs k v))) ∨
  ∃ kvs k b, H a = some (.dT kvs) ∧ y = .ref b ∧ H b = some (.tup (k.map kV)) ∧ kvs.length < sizeLine ∧ H' = upd H a (.dT (putK kvs k v))
theorem DGet.k {H : Hp} {a : Addr} {kvs : List (Key × V)} {k : Key} (e : H a = some (.dK kvs)) : DGet H a (kV k) (valV kvs k) := .inl ⟨kvs, k, .inl e, rfl, rfl⟩
theorem DPut.k {H : Hp} {a : Addr} {kvs : List (Key × V)} {k : Key} {v : V} (e : H a = some (.dK kvs)) (hl : kvs.length < sizeLine) : DPut H a (kV k) v (upd H a (.dK (putK kvs k v))) := .inl ⟨kvs, k, e, rfl, hl, rfl⟩
section
variable {X : Cx} {pins : List (Addr × Obj)} {σ : St} {H : Hp} {s : Shared} {a : Addr} {y v : V} {u r : Value} {o : Option V} {A : Around} {E : Value → Shared → Prop}
theorem Inv.big (I : Inv X pins σ H s) : sysModules < s.heap.objs.size := by
  have h : mainGlobals < s.heap.objs.size := (I.mod.glob.keeps I.bk).lt
  exact Nat.lt_trans (by decide) h
theorem d_getItem {Q : Value → Shared → Prop} (hu : A.units + 1 < cLine) (I : Inv X pins σ H s) (g : DGet H a y (some v)) (ry : RelV y u) (h : ∀ w' s', Inv X pins σ H s' → RelV v w' → Q w' s') :
    wpAny (model X.prog X.w) A (getItem (.ref a) u) Q E s := by
  rcases g with ⟨kvs, k, e, ey, l⟩ | ⟨kvs, k, b, e, ey, eb, l⟩
  · subst ey
    obtain ⟨z, hd, vs, rel, dd⟩ := dk_rd I.hok e
    obtain ⟨w', hw, rw'⟩ := RelO.some_of (v := v) (o := valueAt vs k) (by rw [l]; exact rel.val k)
    exact wpAny_getItem_of (kV_is ry) dd.mapOf hw (h w' _ (I.tok _) rw')
  · subst ey
    cases (show u = Value.ref b from ry)
    obtain ⟨z, hd, xs, rel, dd⟩ := dt_rd I.hok e
    obtain ⟨w', hw, rw'⟩ := RelO.some_of (v := v) (o := (atKey xs k).map (·.2)) (by rw [l]; exact rel.val k)
    obtain ⟨p, hp, hp2⟩ := Option.map_eq_some_iff.mp hw
    refine wpAny_getItem_heap (tupleKind_room_in1 hu) (key_of I.hok eb) dd hp ?_
    rw [hp2]
    exact h w' _ (I.tok _) rw'
theorem d_write {h' : Heap} {t' : Nat} {ob : HO} (I : Inv X pins σ H s) (mu : Mut (H a)) (hs : Heap.SameBut a s.heap h') (he : ∃ q, h'.get? a = some q) (new : ObjOk X.prog X.w (upd H a ob) h' a ob) :
    Inv X pins σ (upd H a ob) { s with heap := h', toks := t' } :=
  I.write (x := a) (e := a) mu (.inl rfl) (fun b q hb z => (hs.2 b hb).trans z) he new
theorem dk_new {P : Program} {w : World} {H' : Hp} {h' : Heap} {kvs : List (Key × V)} {vs : List (Key × Value)} (z : kvs.length ≤ sizeLine) (hd : (a == sysModules) = false) (rel : KV kvs vs) (dd : h'.DictOf (mixKind P w) a vs) :
    ObjOk P w H' h' a (.dK kvs) := ⟨z, hd, vs, rel, dd⟩
theorem d_setItem {H' : Hp} {Q : Unit → Shared → Prop} (hu : A.units + 1 < cLine) (I : Inv X pins σ H s) (g : DPut H a y v H') (ry : RelV y u) (rv : RelV v r) (h : ∀ s', Inv X pins σ H' s' → Q () s') :
    wpAny (model X.prog X.w) A (setItem (.ref a) u r) Q E s := by
  rcases g with ⟨kvs, k, e, ey, l, eH⟩ | ⟨kvs, k, b, e, ey, eb, l, eH⟩
  · subst ey eH
    obtain ⟨z, hd, vs, rel, dd⟩ := dk_of I.hok e
    have hz : vs.length ≤ sizeLine := by rw [← rel.length]; exact z
    have hl : (putK kvs k v).length ≤ sizeLine := by have := length_putK kvs k v; omega
    refine wpAny_setItem_pairs (hsz := hz) (kV_is ry) dd fun h' dd' hs => h _ ?_
    have he : ∃ q, h'.get? a = some q := let ⟨q, _, _, hq, _⟩ := dd'; ⟨q, hq⟩
    exact d_write I (by rw [e]; exact True.intro) hs he (dk_new hl hd (rel.put k rv) dd')
  · subst ey eH
    cases (show u = Value.ref b from ry)
    obtain ⟨z, hd, xs, rel, dd⟩ := dt_of I.hok e
    have hz : xs.length ≤ sizeLine := by rw [← Paired.length rel]; exact z
    have hl : (putK kvs k v).length ≤ sizeLine := by have := length_putK kvs k v; omega
    refine wpAny_setItem_heap (hsz := hz) (tupleKind_room_in1 hu) (key_of I.hok eb) dd fun h' dd' hs => h _ ?_
    obtain ⟨q, es, ep, hq, h2, h3, h4, _, h5⟩ := dd'
    refine d_write I (by rw [e]; exact True.intro) hs ⟨q, hq⟩ ⟨hl, hd, _, (rel.put k eb rv).keeps fun c ys ec => ?_, q, es, ep, hq, h2, h3, h4, h5⟩
    rw [upd_ne (ne_of ec e (fun z => nomatch z))]
    exact ec
end
section
variable {X : Cx} {pins : List (Addr × Obj)} {σ : St} {H : Hp} {s : Shared} {a : Addr} {kvs : List (Key × V)} {k : Key} {u : Value} {A : Around} {E : Value → Shared → Prop}
end
def NoSl (i : Expr) : Prop := ∀ ov iv, subscripted i false ov iv = operate [ov, iv] (getItem ov iv)
theorem subD_of {prog : Program} {w : World} {A : Around} {E : Value → Shared → Prop} {s : Shared} {env : Env} {value slice : Expr} {pos : Pos} {T id : String} {Q : Value → Shared → Prop}
    (hl : typeLookup (.type T) "__getitem__" = pure (some (.builtin id))) (hs : NoSl slice)
    (h : wpAny (model prog w) A (eval value env) (fun o s₁ => wpAny (model prog w) A (eval slice env) (fun i s₂ => s₂.TypeIs o T ∧ wpAny (model prog w) A (getItem o i) Q E s₂) E s₁) E s) :
    wpAny (model prog w) A (eval (.Subscript value slice pos) env) Q E s := by
  refine Subscript_ (wpAny_mono h (fun o s₁ h₁ => wpAny_mono h₁ (fun i s₂ h₂ => ?_) fun _ _ x => x) fun _ _ x => x)
  obtain ⟨hT, h₂⟩ := h₂
  unfold subscriptTail
  refine wpAny_bind ?_
  rw [getitemInPython_of_ne hT.not_modules]
  refine wpAny_bind (wpAny_specialOf hT hl ?_)
  have fin : wpAny (model prog w) A (subscripted slice false o i) (fun r s₃ => wpAny (model prog w) A (letTemporaryGo value o r >>= fun _ => pure r) Q E s₃) E s₂ := by
    rw [hs o i]
    exact wpAny_operating (wpAny_mono h₂ (fun r s₃ h₃ => wpAny_bind (wpAny_letTemporaryGo (wpAny_pure h₃))) fun _ _ x => x)
  first
    | exact wpAny_pure (wpAny_bind fin)
    | exact wpAny_bind (wpAny_pure (wpAny_bind fin))
    | exact wpAny_bind fin
theorem dict_typeIs {X : Cx} {pins : List (Addr × Obj)} {σ : St} {H : Hp} {s : Shared} {a : Addr} {y : V} {o : Option V} (I : Inv X pins σ H s) (g : DGet H a y o) : s.TypeIs (.ref a) "dict" := by
  rcases g with ⟨kvs, k, e, _, _⟩ | ⟨kvs, k, b, e, _, _, _⟩
  · obtain ⟨_, _, vs, _, dd⟩ := dk_rd I.hok e
    exact dd.typeIs
  · obtain ⟨_, _, xs, _, dd⟩ := dt_rd I.hok e
    exact dd.typeIs
def tDGet (td ty : TE) : TE := fun σ H Q => td σ H fun x H1 => ty σ H1 fun y H2 => ∃ a v, x = .ref a ∧ DGet H2 a y (some v) ∧ Q v H2
def tDIn (ty td : TE) : TE := fun σ H Q => ty σ H fun y H1 => td σ H1 fun x H2 => ∃ a o, x = .ref a ∧ DGet H2 a y o ∧ Q (.bl o.isSome) H2
def tDNotIn (ty td : TE) : TE := fun σ H Q => ty σ H fun y H1 => td σ H1 fun x H2 => ∃ a o, x = .ref a ∧ DGet H2 a y o ∧ Q (.bl (!o.isSome)) H2
def sDPut (td ty tv : TE) : TS := fun D σ H => tv σ H fun v H1 => td σ H1 fun x H2 => ty σ H2 fun y H3 => ∃ a H4, x = .ref a ∧ DPut H3 a y v H4 ∧ D.nx σ H4
def sDAug (td ty tv : TE) (rd : V → V → Hp → VK → Prop) : TS := fun D σ H => td σ H fun x H1 => ty σ H1 fun y H2 => ∃ a v, x = .ref a ∧ DGet H2 a y (some v) ∧
  tv σ H2 fun y2 H3 => rd v y2 H3 fun z H4 => ∃ H5, DPut H4 a y z H5 ∧ D.nx σ H5
def sDDel (td ty : TE) : TS := fun D σ H => td σ H fun x H1 => ty σ H1 fun y H2 => ∃ a kvs k, x = .ref a ∧ H2 a = some (.dK kvs) ∧ y = kV k ∧ (valV kvs k).isSome = true ∧ D.nx σ (upd H2 a (.dK (dropK kvs k)))
section
variable {X : Cx} {o i e value : Expr} {pos pos' tpos : Pos} {td ty tv : TE}
theorem pe_dget (hu : X.A.units + 1 < cLine) (ho : PE X o td) (hi : PE X i ty) (hs : NoSl i) : PE X (.Subscript o i pos) (tDGet td ty) := by
  constructor
  intro pins s σ H Q I h
  refine subD_of PySem.F.slot_dict_getitem.lookup hs (thn (ho pins s σ H _ I h) fun u s1 ⟨x, H1, I1, rx, q1⟩ => thn (hi pins s1 σ H1 _ I1 q1) fun iv s2 ⟨y, H2, I2, ry, a, v, ex, g, q2⟩ => ?_)
  subst ex
  obtain rfl : u = Value.ref a := rx
  exact ⟨dict_typeIs I2 g, d_getItem hu I2 g ry fun w' s3 I3 rw' => ⟨v, H2, I3, rw', q2⟩⟩
theorem ps_dput (hu : X.A.units + 1 < cLine) (ho : PE X o td) (hi : PE X i ty) (hv : PE X value tv) (hs : swapsWith value (some (.Subscript o i pos')) pos.line X.env = pure false) :
    PS X (.Assign [.Subscript o i pos'] value pos) (sDPut td ty tv) := by
  constructor
  intro pins s σ H D I h
  refine wpAny_Assign_Subscript (thn (hv pins s σ H _ I h) fun r s1 ⟨v, H1, I1, rv, q1⟩ => thn (ho pins s1 σ H1 _ I1 q1) fun u s2 ⟨x, H2, I2, rx, q2⟩ => thn (hi pins s2 σ H2 _ I2 q2) fun iv s3 ⟨y, H3, I3, ry, a, H4, ex, g, q3⟩ => ?_) hs
  subst ex
  obtain rfl : u = Value.ref a := rx
  exact d_setItem hu I3 g ry rv fun s4 I4 => ⟨σ, H4, I4, q3⟩
end
theorem dk_empty {P : Program} {w : World} {H : Hp} (h : Heap) (hb : sysModules < h.objs.size) : ObjOk P w H (h.push { cls := .type "dict", data := .dict #[] }) h.objs.size (.dK []) :=
  ⟨Nat.zero_le _, beq_eq_false_iff_ne.mpr (Ne.symm (Nat.ne_of_lt hb)), [], .nil, Heap.DictOf.new h⟩
def tDNewK : TE := fun _ H Q => ∀ p, H p = none → Q (.ref p) (upd H p (.dK []))
def tDNewT : TE := fun _ H Q => ∀ p, H p = none → Q (.ref p) (upd H p (.dT []))
section
variable {X : Cx} {pos : Pos}
theorem pe_dnewK : PE X (.Dict [] [] pos) tDNewK := ⟨fun pins s σ H Q I h =>
  wpAny_Dict_empty ⟨.ref s.heap.objs.size, _, I.laid (a := s.heap.objs.size) (o := .dK []) (t' := s.toks) (fun _ _ q => Heap.get?_push_of_some _ q) (Nat.le_refl _) (dk_empty s.heap I.big), rfl, h _ (I.hok.fresh (Nat.le_refl _))⟩⟩
end
def tPairs : List (TE × TE) → St → Hp → (List (V × V) → Hp → Prop) → Prop
  | [], _, H, Q => Q [] H
  | (tk, tv) :: r, σ, H, Q => tk σ H fun x H1 => tv σ H1 fun y H2 => tPairs r σ H2 fun ps H3 => Q ((x, y) :: ps) H3
abbrev VV : List (V × V) → List (Value × Value) → Prop := Paired fun p q => RelV p.1 q.1 ∧ RelV p.2 q.2
structure PPs (X : Cx) (pos : Pos) (keys : List (Option Expr)) (values : List Expr) (trs : List (TE × TE)) : Prop where
  go : ∀ (pins : List (Addr × Obj)) (s : Shared) (σ : St) (H : Hp) (Q : List (V × V) → Hp → Prop), Inv X pins σ H s → tPairs trs σ H Q →
    wpAny (model X.prog X.w) X.A (evalPairs (pairTrees keys values X.env pos)) (fun vs s' => ∃ ps H', Inv X pins σ H' s' ∧ VV ps vs ∧ Q ps H') X.xe s
instance {X : Cx} {pos : Pos} {keys : List (Option Expr)} {values : List Expr} {trs : List (TE × TE)} : CoeFun (PPs X pos keys values trs) (fun _ => ∀ (pins : List (Addr × Obj)) (s : Shared) (σ : St) (H : Hp) (Q : List (V × V) → Hp → Prop), Inv X pins σ H s → tPairs trs σ H Q →
    wpAny (model X.prog X.w) X.A (evalPairs (pairTrees keys values X.env pos)) (fun vs s' => ∃ ps H', Inv X pins σ H' s' ∧ VV ps vs ∧ Q ps H') X.xe s) := ⟨fun h => h.go⟩
def mergeK (kvs more : List (Key × V)) : List (Key × V) := more.foldl (fun acc kv => putK acc kv.1 kv.2) kvs
def tDisp (trs : List (TE × TE)) : TE := fun σ H Q => ∀ p, H p = none → tPairs trs σ (upd H p (.dK [])) fun ps H2 => H2 p = some (.dK []) ∧ ∃ kvs : List (Key × V), ps = kvs.map (fun kv => (kV kv.1, kv.2)) ∧ kvs.length ≤ 15 ∧ Q (.ref p) (upd H2 p (.dK (mergeK [] kvs)))
structure M1 (X : Cx) (o : Expr) (m : Str) (apos : Pos) (e : Expr) (cpos : Pos) : Prop where
  base : attributeBase o m X.env (eval o X.env) = eval o X.env
  few : ((backTo cpos (starEach [e] X.env)).all (fun x => !x.1) && (backToKw cpos (keywordEach [] X.env)).all (fun x => x.1.isSome)
    && decide (([e] : List Expr).length + ([] : List Keyword).length + (if ([] : List Keyword).isEmpty then 0 else 1) < 30)) = true
  line : (apos.endLine == cpos.line) = true
  trees : backTo cpos (starEach [e] X.env) = [(false, eval e X.env)]
structure M2 (X : Cx) (o : Expr) (m : Str) (apos : Pos) (e f : Expr) (cpos : Pos) : Prop where
  base : attributeBase o m X.env (eval o X.env) = eval o X.env
  few : ((backTo cpos (starEach [e, f] X.env)).all (fun x => !x.1) && (backToKw cpos (keywordEach [] X.env)).all (fun x => x.1.isSome)
    && decide (([e, f] : List Expr).length + ([] : List Keyword).length + (if ([] : List Keyword).isEmpty then 0 else 1) < 30)) = true
  line : (apos.endLine == cpos.line) = true
  trees : backTo cpos (starEach [e, f] X.env) = [(false, eval e X.env), (false, eval f X.env)]
def IsD (H : Hp) (a : Addr) : Prop := (∃ kvs, Rd H a (.dK kvs)) ∨ ∃ kvs, Rd H a (.dT kvs)
theorem isD_at {X : Cx} {pins : List (Addr × Obj)} {σ : St} {H : Hp} {s : Shared} {a : Addr} (I : Inv X pins σ H s) (d : IsD H a) :
    s.TypeIs (.ref a) "dict" ∧ (∀ b, Value.ref a = .ref b → ∃ ob, s.heap.get? b = some ob ∧ ob.dict = none) ∧ (a == sysModules) = false := by
  rcases d with ⟨kvs, e⟩ | ⟨kvs, e⟩
  · obtain ⟨_, hd, vs, _, dd⟩ := dk_rd I.hok e
    refine ⟨dd.typeIs, fun b q => ?_, hd⟩
    cases q
    obtain ⟨ob, _, _, h1, h2, _⟩ := dd
    exact ⟨ob, h1, h2.2.1⟩
  · obtain ⟨_, hd, xs, _, dd⟩ := dt_rd I.hok e
    refine ⟨dd.typeIs, fun b q => ?_, hd⟩
    cases q
    obtain ⟨ob, _, _, h1, h2, _⟩ := dd
    exact ⟨ob, h1, h2.2.1⟩
section
variable {X : Cx} {pins : List (Addr × Obj)} {σ : St} {H : Hp} {s : Shared} {a : Addr} {y d : V} {u r : Value} {o : Option V} {A : Around} {E : Value → Shared → Prop}
theorem d_get2 {Q : Value → Shared → Prop} (hu : A.units + 1 < cLine) (I : Inv X pins σ H s) (g : DGet H a y o) (ry : RelV y u) (rd : RelV d r) (h : ∀ w' s', Inv X pins σ H s' → RelV (o.getD d) w' → Q w' s') :
    wpAny (model X.prog X.w) A (call (.builtin "dict.get") [.ref a, u, r]) Q E s := by
  rcases g with ⟨kvs, k, e, ey, l⟩ | ⟨kvs, k, b, e, ey, eb, l⟩
  · subst ey
    obtain ⟨z, hd, vs, rel, dd⟩ := dk_rd I.hok e
    refine call_meetsIn PySem.F.slot_dict_get dd.typeIs PySem.F.entry_dict_get (PySem.F.args_dict_get_3 _ _ _) (meets_dict_get_default (mixKind X.prog X.w) a (kV_is ry) hd r) ⟨_, dd.mapOf, h _ _ (I.tok _) ?_⟩
    rw [l]
    exact (rel.val k).getD rd
  · subst ey
    cases (show u = Value.ref b from ry)
    obtain ⟨z, hd, xs, rel, dd⟩ := dt_rd I.hok e
    refine call_meetsIn PySem.F.slot_dict_get dd.typeIs PySem.F.entry_dict_get (PySem.F.args_dict_get_3 _ _ _) (meetsH_dict_get_default (tupleKind (mixKind X.prog X.w)) a b hd r) ⟨tupleKind_room_in1 hu, k, xs, key_of I.hok eb, dd, h _ _ (I.tok _) ?_⟩
    rw [l]
    exact (rel.val k).getD rd
end
def tDGet1 (td ty : TE) : TE := fun σ H Q => td σ H fun x H1 => ∃ a, x = .ref a ∧ IsD H1 a ∧ ty σ H1 fun y H2 => ∃ o, DGet H2 a y o ∧ Q (o.getD .non) H2
def tDGet2 (td ty tx : TE) : TE := fun σ H Q => td σ H fun x H1 => ∃ a, x = .ref a ∧ IsD H1 a ∧ ty σ H1 fun y H2 => tx σ H2 fun z H3 => ∃ o, DGet H3 a y o ∧ Q (o.getD z) H3
def tDPop1 (td ty : TE) : TE := fun σ H Q => td σ H fun x H1 => ∃ a, x = .ref a ∧ IsD H1 a ∧ ty σ H1 fun y H2 => ∃ kvs k v, H2 a = some (.dK kvs) ∧ y = kV k ∧ valV kvs k = some v ∧ Q v (upd H2 a (.dK (dropK kvs k)))
def tDPop2 (td ty tx : TE) : TE := fun σ H Q => td σ H fun x H1 => ∃ a, x = .ref a ∧ IsD H1 a ∧ ty σ H1 fun y H2 => tx σ H2 fun z H3 => ∃ kvs k, H3 a = some (.dK kvs) ∧ y = kV k ∧
  (∀ v, valV kvs k = some v → Q v (upd H3 a (.dK (dropK kvs k)))) ∧ (valV kvs k = none → Q z H3)
section
variable {X : Cx} {o e f : Expr} {apos cpos : Pos} {td ty tx : TE}
theorem pe_dget2 (hu : X.A.units + 1 < cLine) (ho : PE X o td) (he : PE X e ty) (hf : PE X f tx) (m : M2 X o "get" apos e f cpos) : PE X (.Call (.Attribute o "get" apos) [e, f] [] cpos) (tDGet2 td ty tx) := by
  constructor
  intro pins s σ H Q I h
  refine wpAny_Call_method m.base m.few m.line PySem.F.plainAttrs_dict PySem.F.slot_dict_get PySem.F.type_dict_get (thn (ho pins s σ H _ I h) fun u s1 ⟨x, H1, I1, rx, a, ex, d, q1⟩ => ?_)
  subst ex
  obtain rfl : u = Value.ref a := rx
  obtain ⟨t1, t2, _⟩ := isD_at I1 d
  refine ⟨t1, t2, ?_⟩
  rw [m.trees]
  refine Calls.callWith_builtin rfl (Calls.evalArgs_plain (Calls.spliced_cons (thn (he pins s1 σ H1 _ I1 q1) fun iv s2 ⟨y, H2, I2, ry, q2⟩ =>
    Calls.spliced_cons (thn (hf pins s2 σ H2 _ I2 q2) fun fv s3 ⟨z, H3, I3, rz, ov, g, q3⟩ => Calls.spliced_nil ?_))))
  exact d_get2 hu I3 g ry rz fun w' s4 I4 rw' => ⟨_, H3, I4, rw', q3⟩
end
section
variable {X : Cx} {pins : List (Addr × Obj)} {σ : St} {H : Hp} {s : Shared} {a : Addr} {kvs : List (Key × V)} {A : Around} {E : Value → Shared → Prop}
end
section
variable {X : Cx} {pins : List (Addr × Obj)} {σ : St} {H : Hp} {s : Shared} {a : Addr} {y : V} {u : Value} {A : Around} {E : Value → Shared → Prop}
end
end L2
namespace Br
def rise (c : Nat) : Int := if c = 40 then 1 else -1
def lev : List Nat → Int
  | [] => 0
  | c :: r => rise c + lev r
theorem lev_append (a b : List Nat) : lev (a ++ b) = lev a + lev b := by
  induction a with
  | nil => simp [lev]
  | cons c r ih => simp only [List.cons_append, lev, ih]; omega
theorem lev_snoc (a : List Nat) (c : Nat) : lev (a ++ [c]) = lev a + rise c := by
  rw [lev_append]; simp [lev]
theorem rise_cases (c : Nat) : rise c = 1 ∨ rise c = -1 := by unfold rise; split <;> simp
theorem rise_bounds (c : Nat) : -1 ≤ rise c ∧ rise c ≤ 1 := by rcases rise_cases c with h | h <;> omega
theorem take_succ_snoc {r : List Nat} {k : Nat} (h : k < r.length) : r.take (k + 1) = r.take k ++ [r[k]] := by
  rw [List.take_succ_eq_append_getElem h]
theorem lev_take_succ {r : List Nat} {k : Nat} (h : k < r.length) : lev (r.take (k + 1)) = lev (r.take k) + rise r[k] := by
  rw [take_succ_snoc h, lev_snoc]
def IsBr (r : List Nat) : Prop := ∀ c ∈ r, c = 40 ∨ c = 41
theorem IsBr.append {a b : List Nat} (ha : IsBr a) (hb : IsBr b) : IsBr (a ++ b) := fun c hc =>
  (List.mem_append.mp hc).elim (ha c) (hb c)
def Whole (r : List Nat) : Prop := IsBr r ∧ (∀ k, k ≤ r.length → 0 ≤ lev (r.take k)) ∧ lev r = 0
def gain (c : Nat) : Int := if c = 40 then 1 else if c = 41 then -1 else -999
def lw : Int → List Nat → Bool
  | h, [] => h == 0
  | h, c :: r => if h + gain c < 0 then false else lw (h + gain c) r
theorem lw_iff : ∀ (r : List Nat) (h : Int), 0 ≤ h → h + r.length ≤ 998 →
    (lw h r = true ↔ IsBr r ∧ (∀ k, k ≤ r.length → 0 ≤ h + lev (r.take k)) ∧ h + lev r = 0)
  | [], h, h0, _ => by
    simp [lw, lev, IsBr]
    intro e; omega
  | c :: r, h, h0, hl => by
    have hl' : h + ((r.length : Int) + 1) ≤ 998 := by simpa using hl
    unfold lw
    by_cases hc : c = 40
    · have g : gain c = 1 := by simp [gain, hc]
      have g' : rise c = 1 := by simp [rise, hc]
      rw [if_neg (by omega), g]
      rw [lw_iff r (h + 1) (by omega) (by omega)]
      constructor
      · rintro ⟨b, k, e⟩
        refine ⟨fun d hd => ?_, fun j hj => ?_, ?_⟩
        · rcases List.mem_cons.mp hd with rfl | hd
          · exact .inl hc
          · exact b d hd
        · cases j with
          | zero => simp [lev]; exact h0
          | succ j =>
            have := k j (by simpa using hj)
            simp only [List.take_succ_cons, lev, g']; omega
        · simp only [lev, g']; omega
      · rintro ⟨b, k, e⟩
        refine ⟨fun d hd => b d (List.mem_cons_of_mem _ hd), fun j hj => ?_, ?_⟩
        · have := k (j + 1) (by simpa using hj)
          simp only [List.take_succ_cons, lev, g'] at this; omega
        · simp only [lev, g'] at e; omega
    · by_cases hc' : c = 41
      · have g : gain c = -1 := by simp [gain, hc']
        have g' : rise c = -1 := by simp [rise, hc']
        by_cases hz : h + gain c < 0
        · rw [if_pos hz]
          constructor
          · intro q; cases q
          · rintro ⟨b, k, e⟩
            have := k 1 (by simp)
            simp [lev, g'] at this; omega
        · rw [if_neg hz, g]
          rw [lw_iff r (h + -1) (by omega) (by omega)]
          constructor
          · rintro ⟨b, k, e⟩
            refine ⟨fun d hd => ?_, fun j hj => ?_, ?_⟩
            · rcases List.mem_cons.mp hd with rfl | hd
              · exact .inr hc'
              · exact b d hd
            · cases j with
              | zero => simp [lev]; exact h0
              | succ j =>
                have := k j (by simpa using hj)
                simp only [List.take_succ_cons, lev, g']; omega
            · simp only [lev, g']; omega
          · rintro ⟨b, k, e⟩
            refine ⟨fun d hd => b d (List.mem_cons_of_mem _ hd), fun j hj => ?_, ?_⟩
            · have := k (j + 1) (by simpa using hj)
              simp only [List.take_succ_cons, lev, g'] at this; omega
            · simp only [lev, g'] at e; omega
      · have g : gain c = -999 := by simp [gain, hc, hc']
        rw [if_pos (by omega)]
        constructor
        · intro q; cases q
        · rintro ⟨b, _, _⟩
          rcases b c List.mem_cons_self with q | q
          · exact absurd q hc
          · exact absurd q hc'
theorem lw_whole {r : List Nat} (h : r.length ≤ 998) : lw 0 r = true ↔ Whole r := by
  rw [lw_iff r 0 (by omega) (by omega)]; unfold Whole; simp
def heads (r : List Nat) : List Int := (List.range (r.length + 1)).map fun k => lev (r.take k)
theorem heads_length (r : List Nat) : (heads r).length = r.length + 1 := by simp [heads]
structure Last (r : List Nat) (k : Nat) : Prop where
  le : k ≤ r.length
  low : ∀ j, j ≤ r.length → lev (r.take k) ≤ lev (r.take j)
  last : ∀ j, k < j → j ≤ r.length → lev (r.take k) < lev (r.take j)
structure Grow (r : List Nat) (n h : Int) : Prop where
  br : IsBr r
  low : ∀ k, k ≤ r.length → 0 ≤ lev (r.take k)
  lv : lev r = h
  top : h + r.length ≤ 2 * n
  par : (h + r.length) % 2 = 0
theorem Grow.nil {n : Int} (h : 0 ≤ n) : Grow [] n 0 := ⟨(fun _ z => nomatch z), (fun k _ => by rw [List.take_nil]; exact Int.le_refl 0), rfl, (by show (0 : Int) + ((0 : Nat) : Int) ≤ 2 * n; omega), rfl⟩
theorem Grow.pos {r : List Nat} {n h : Int} (g : Grow r n h) : 0 ≤ h := by
  have := g.low r.length (Nat.le_refl _)
  rw [List.take_length, g.lv] at this; exact this
theorem low_snoc {r : List Nat} {c : Nat} (g : ∀ k, k ≤ r.length → 0 ≤ lev (r.take k)) (h : 0 ≤ lev r + rise c) : ∀ k, k ≤ (r ++ [c]).length → 0 ≤ lev ((r ++ [c]).take k) := fun k hk => by
  rw [List.length_append, List.length_singleton] at hk
  rcases Nat.lt_or_ge r.length k with q | q
  · rw [List.take_of_length_le (by simp; omega), lev_snoc]; exact h
  · rw [List.take_append_of_le_length q]; exact g k q
theorem IsBr.snoc {r : List Nat} {c : Nat} (h : IsBr r) (hc : c = 40 ∨ c = 41) : IsBr (r ++ [c]) := h.append fun d hd => by
  have : d = c := by simpa using hd
  rw [this]; exact hc
theorem Grow.up {r : List Nat} {n h : Int} (g : Grow r n h) (ht : h + r.length + 2 ≤ 2 * n) : Grow (r ++ [40]) n (h + 1) := by
  have p := g.pos
  have l := g.lv
  have q := g.par
  have e : rise 40 = 1 := rfl
  refine ⟨g.br.snoc (.inl rfl), low_snoc g.low (by omega), by rw [lev_snoc]; omega, ?_, ?_⟩
  · rw [List.length_append, List.length_singleton]; omega
  · rw [List.length_append, List.length_singleton]; omega
theorem Grow.down {r : List Nat} {n h : Int} (g : Grow r n h) (hh : 1 ≤ h) : Grow (r ++ [41]) n (h - 1) := by
  have l := g.lv
  have q := g.par
  have t := g.top
  have e : rise 41 = -1 := rfl
  refine ⟨g.br.snoc (.inr rfl), low_snoc g.low (by omega), by rw [lev_snoc]; omega, ?_, ?_⟩
  · rw [List.length_append, List.length_singleton]; omega
  · rw [List.length_append, List.length_singleton]; omega
theorem Grow.whole {r : List Nat} {n h : Int} (g : Grow r n h) (hl : (r.length : Int) = 2 * n) : Whole r := by
  have p := g.pos
  have t := g.top
  exact ⟨g.br, g.low, by rw [g.lv]; omega⟩
def lows (r : List Nat) (M : Int) (n : Nat) : List Int := ((List.range n).filter fun k => decide (lev (r.take k) = M)).map fun (k : Nat) => (k : Int)
theorem mem_heads {r : List Nat} {a : Int} : a ∈ heads r ↔ ∃ k, k ≤ r.length ∧ lev (r.take k) = a := by
  unfold heads
  constructor
  · intro h
    obtain ⟨k, hk, e⟩ := List.mem_map.mp h
    exact ⟨k, Nat.le_of_lt_succ (List.mem_range.mp hk), e⟩
  · rintro ⟨k, hk, e⟩
    exact List.mem_map.mpr ⟨k, List.mem_range.mpr (Nat.lt_succ_of_le hk), e⟩
def due (r : List Nat) (n : Nat) : List Int := ((List.range n).filter fun k => decide (r[k]? = some 40) && lw 0 (r.drop (k + 1) ++ r.take k)).map fun (k : Nat) => (k : Int)
end Br
namespace L2
open PySem PySem.Spec PyProof.Rows
theorem forIn_cl {env : Env} : ∀ (names : List (Str × NameKind)) (acc : List (Str × Addr)), (∀ y ∈ names, y.2 = .free → ∃ c, env.cells.lookup y.1 = some c) → (∀ x c, acc.lookup x = some c → env.cells.lookup x = some c) →
    ∃ cl, (forIn names acc fun x r => if (x.2 == NameKind.free) = true then do let a ← cellOf env x.1; pure (ForInStep.yield ((x.1, a) :: r)) else pure (ForInStep.yield r) : Sem (List (Str × Addr))) = pure cl ∧
      (∀ x c, cl.lookup x = some c → env.cells.lookup x = some c) ∧ (∀ x, (acc.lookup x).isSome = true → (cl.lookup x).isSome = true) ∧ (∀ y ∈ names, y.2 = .free → (cl.lookup y.1).isSome = true)
  | [], acc, _, h => ⟨acc, rfl, h, fun _ e => e, fun y hy => nomatch hy⟩
  | y :: r, acc, hf, h => by
    by_cases hk : (y.2 == NameKind.free) = true
    · obtain ⟨c, hc⟩ := hf y List.mem_cons_self (eq_of_beq hk)
      obtain ⟨cl, e1, e2, e3, e4⟩ := forIn_cl r ((y.1, c) :: acc) (fun z hz => hf z (List.mem_cons_of_mem _ hz)) (fun x d e => by
        rw [List.lookup_cons] at e
        cases hx : x == y.1 with
        | true => rw [hx] at e; rw [eq_of_beq hx, hc]; exact e
        | false => rw [hx] at e; exact h x d e)
      have self : (((y.1, c) :: acc).lookup y.1).isSome = true := by rw [List.lookup_cons, beq_self_eq_true]; rfl
      refine ⟨cl, ?_, e2, fun x e => e3 x ?_, fun z hz hzf => ?_⟩
      · rw [List.forIn_cons, if_pos hk]
        have : cellOf env y.1 = pure c := by unfold cellOf; rw [hc]
        rw [this]
        exact e1
      · rw [List.lookup_cons]
        cases hx : x == y.1 with
        | true => rfl
        | false => exact e
      · rcases List.mem_cons.mp hz with rfl | hz
        · exact e3 _ self
        · exact e4 z hz hzf
    · obtain ⟨cl, e1, e2, e3, e4⟩ := forIn_cl r acc (fun z hz => hf z (List.mem_cons_of_mem _ hz)) h
      refine ⟨cl, ?_, e2, e3, fun z hz hzf => ?_⟩
      · rw [List.forIn_cons, if_neg hk]
        exact e1
      · rcases List.mem_cons.mp hz with rfl | hz
        · exact absurd (by rw [hzf]; rfl) hk
        · exact e4 z hz hzf
theorem closure_of {scope : Scope} {env : Env} (h : ∀ y ∈ scope.names, y.2 = .free → ∃ c, env.cells.lookup y.1 = some c) :
    ∃ cl, closureFor scope env = pure cl ∧ (∀ x c, cl.lookup x = some c → env.cells.lookup x = some c) ∧ ∀ y ∈ scope.names, y.2 = .free → ∃ c, cl.lookup y.1 = some c := by
  obtain ⟨cl, e1, e2, _, e4⟩ := forIn_cl (env := env) scope.names [] h (fun x c e => by cases e)
  refine ⟨cl, ?_, e2, fun y hy hf => Option.isSome_iff_exists.mp (e4 y hy hf)⟩
  simp only [closureFor]
  rw [e1]
  rfl
theorem lookup_relabel {scope : Scope} {env : Env} {x : Str} {k : NameKind} (h : (relabel scope env).names.lookup x = some k) : scope.names.lookup x = some k ∨ (k = .cell ∧ scope.names.lookup x = some .free) := by
  have all : ∀ names : List (Str × NameKind), (names.map fun (n, k) => if (k == NameKind.free && env.scope.kind == .function && env.kindOf n == some .cell) then (n, NameKind.cell) else (n, k)).lookup x = some k →
      names.lookup x = some k ∨ (k = .cell ∧ names.lookup x = some .free) := by
    intro names
    induction names with
    | nil => intro h; cases h
    | cons y r ih =>
      obtain ⟨n, k'⟩ := y
      intro h
      have h' : List.lookup x ((if (k' == NameKind.free && env.scope.kind == .function && env.kindOf n == some .cell) = true then (n, NameKind.cell) else (n, k')) :: (r.map fun (n, k) => if (k == NameKind.free && env.scope.kind == .function && env.kindOf n == some .cell) then (n, NameKind.cell) else (n, k))) = some k := h
      rw [List.lookup_cons]
      by_cases hc : (k' == NameKind.free && env.scope.kind == .function && env.kindOf n == some .cell) = true
      · rw [if_pos hc, List.lookup_cons] at h'
        cases hx : x == n with
        | true =>
          rw [hx] at h'
          have hk : k' = .free := by
            rw [Bool.and_eq_true, Bool.and_eq_true] at hc
            exact eq_of_beq hc.1.1
          exact .inr ⟨(Option.some.inj h').symm, by rw [hk]⟩
        | false => rw [hx] at h'; exact ih h'
      · rw [if_neg hc, List.lookup_cons] at h'
        cases hx : x == n with
        | true => rw [hx] at h'; exact .inl h'
        | false => rw [hx] at h'; exact ih h'
  exact all scope.names h
def cxB (X : Cx) (scope : Scope) (cl : List (Str × Addr)) (C : Addr) (N : List Str) (s₀ : Shared) (H₀ : Hp) (ex : List Addr) (pn : List (Addr × Obj)) : Cx where
  prog := X.prog
  w := X.w
  K := X.K
  mg := X.mg
  base := X.base
  A := X.A
  N := N
  s₀ := s₀
  H₀ := H₀
  env := compEnvC scope cl C X.env
  outer := X.stack
  stack := X.stack
  ex := ex
  fn := fun _ => false
  calm := X.calm
  pn := pn
  xe := fun _ _ => False
structure BScope (esc : Scope) (EN : List Str) (scope : Scope) (tgt : Str) (N : List Str) : Prop where
  kind : scope.kind = .function
  nocell : ∀ y ∈ scope.names, y.2 ≠ .cell
  names : ∀ y ∈ scope.names, y.2 = .local → scope.names.lookup y.1 = some .local ∧ (y.1 = tgt ∨ y.1 ∉ N)
  tl : scope.names.lookup tgt = some .local
  fr : ∀ y ∈ scope.names, y.2 = .free → esc.names.lookup y.1 = some .cell ∨ esc.names.lookup y.1 = some .free
  hd : N[0]? = some tgt
  nd : N.Nodup
  len : N.length = EN.length + 1
  rest : ∀ p ∈ (N.drop 1).zip EN, p.1 = p.2 ∨ scope.names.lookup p.1 = none
structure PIfs (X : Cx) (ifs : List Expr) (t : TT) : Prop where
  go : ∀ (pins : List (Addr × Obj)) (s : Shared) (σ : St) (H : Hp) (Q : Bool → Hp → Prop), Inv X pins σ H s → t σ H Q →
    wpAny (model X.prog X.w) X.A (forIn ifs true fun c r => if r = true then do let ok ← isTrue c X.env (eval c X.env); pure (ForInStep.yield ok) else pure (ForInStep.yield r)) (TP X pins σ Q) X.xe s
instance {X : Cx} {ifs : List Expr} {t : TT} : CoeFun (PIfs X ifs t) (fun _ => ∀ (pins : List (Addr × Obj)) (s : Shared) (σ : St) (H : Hp) (Q : Bool → Hp → Prop), Inv X pins σ H s → t σ H Q →
    wpAny (model X.prog X.w) X.A (forIn ifs true fun c r => if r = true then do let ok ← isTrue c X.env (eval c X.env); pure (ForInStep.yield ok) else pure (ForInStep.yield r)) (TP X pins σ Q) X.xe s) := ⟨fun h => h.go⟩
def tNoIf : TT := fun _ H Q => Q true H
theorem pifs_nil {X : Cx} : PIfs X [] tNoIf := ⟨fun _ _ _ H _ I h => wpAny_tests_nil ⟨H, I, h⟩⟩
theorem pifs_one {X : Cx} {c : Expr} {t : TT} (h : PT X c t) : PIfs X [c] t := ⟨fun pins s σ H Q I q => wpAny_tests_one (h pins s σ H Q I q)⟩
def tComp (wi : TI) (tt : TT) (te : TE) : TE := fun σ H Q => wi σ H fun J H1 => ∀ D, H1 D = none → ∃ W : Nat → Nat → List V → Hp → Prop, (∃ m, W 0 m [] (upd H1 D (.lst []))) ∧ ∀ i m ys H, W i m ys H →
  (J.stop i H ∧ Q (.ref D) H) ∨ (J.go i H ∧ ∃ N : List V → Hp → Prop, (∀ ys' H', N ys' H' → ∃ m', m' < m ∧ W (i + 1) m' ys' H') ∧ ∀ x H', J.yld i H x H' → tt (some x :: σ) H' fun b H2 =>
    if b = true then te (some x :: σ) H2 fun y H3 => H3 D = some (.lst ys) ∧ ys.length < sizeLine ∧ N (ys ++ [y]) (upd H3 D (.lst (ys ++ [y]))) else N ys H2)
section
variable {X : Cx} {elt iter : Expr} {ifs : List Expr} {tgt : Str} {px pos : Pos} {scope : Scope} {N : List Str} {wi : TI} {tt : TT} {te : TE}
abbrev CompTurn (J : It) (D : Addr) (tt : TT) (te : TE) (σ : St) (Qd : Hp → Prop) (W : Nat → Nat → List V → Hp → Prop) : Prop :=
  ∀ i m ys H, W i m ys H → (J.stop i H ∧ Qd H) ∨ (J.go i H ∧ ∃ N : List V → Hp → Prop, (∀ ys' H', N ys' H' → ∃ m', m' < m ∧ W (i + 1) m' ys' H') ∧ ∀ x H', J.yld i H x H' → tt (some x :: σ) H' fun b H2 =>
    if b = true then te (some x :: σ) H2 fun y H3 => H3 D = some (.lst ys) ∧ ys.length < sizeLine ∧ N (ys ++ [y]) (upd H3 D (.lst (ys ++ [y]))) else N ys H2)
theorem comp_run {esc : Scope} {EN : List Str} (S : BScope esc EN scope tgt N) (hsc : X.env.scope = esc) (hEN : X.N = EN) (hc : X.calm = true)
    (ht : ∀ cl C s₀ H₀ ex pn, PIfs (cxB X scope cl C N s₀ H₀ ex pn) ifs tt) (he : ∀ cl C s₀ H₀ ex pn, PE (cxB X scope cl C N s₀ H₀ ex pn) elt te)
    {pins : List (Addr × Obj)} {σ : St} {H3 : Hp} {s3 : Shared} {it D C : Addr} {fp : List Addr} {tn : Nat → Heap → Prop} {J : It} {Q : VK} {cl : List (Str × Addr)} {h₁ : Heap} {m1 : Str → Option Value}
    (hcl1 : ∀ x c, cl.lookup x = some c → X.env.cells.lookup x = some c) (hcl2 : ∀ y ∈ scope.names, y.2 = .free → ∃ c, cl.lookup y.1 = some c)
    (I3 : Inv X pins σ H3 s3) (T : Turn X.prog X.w X.K (.Name tgt px) J fp it tn) (st : tn 0 s3.heap) (hf : ∀ b ∈ fp, FpOk X pins H3 b)
    (hC : C = s3.heap.objs.size) (hns₁ : h₁.Ns C m1) (old : ∀ b o, s3.heap.get? b = some o → h₁.get? b = some o)
    {W : Nat → Nat → List V → Hp → Prop} {m0 : Nat} (w0 : W 0 m0 [] H3) (turn : CompTurn J D tt te σ (fun H => Q (.ref D) H) W) {RR : Value → Addr → Result → Shared → Prop}
    (hRR : ∀ (s4 : Shared) (m : Str → Option Value) (H4 : Hp), Inv X pins σ H4 s4 → s4.heap.Ns C m → H4 C = none → C ≠ X.env.locals → (∀ x c, X.env.cells.lookup x = some c → c ≠ C) → X.s₀.heap.objs.size ≤ C → (∀ p ∈ X.pn ++ pins, p.1 ≠ C) → Q (.ref D) H4 → RR (.ref D) C (.ok .next) s4)
    (s' : Shared) (hs' : s' = { s3 with heap := h₁ }) :
    codeAny (model X.prog X.w) X.A (.compLoop (.ListComp elt [⟨.Name tgt px, iter, ifs, 0⟩] scope pos) 0 (.ref it) (.ref D) (compEnvC scope cl C X.env)) (RR (.ref D) C) s' := by
  subst hs'
  subst hC
  have free3 : ∀ a, s3.heap.objs.size ≤ a → H3 a = none := fun a ha => I3.hok.fresh ha
  have fne : ∀ b ∈ fp, b ≠ s3.heap.objs.size := fun b hb => by
    obtain ⟨o, e, _⟩ := T.obj _ _ st b hb
    exact Nat.ne_of_lt (Heap.lt_size e)
  have inStack : ∀ b, b ≠ X.env.locals → b ∉ X.fs → b ∉ frs X.stack := fun b h1 h2 hb => (List.mem_cons.mp (I3.stkSub b hb)).elim h1 h2
  have cellLt : ∀ x c, X.env.cells.lookup x = some c → c < s3.heap.objs.size := fun x c e => by
    obtain ⟨v, o, ho, _⟩ := I3.cell x c e
    exact Heap.lt_size ho
  have okB : (cxB X scope cl s3.heap.objs.size N s3 H3 fp (X.pn ++ pins)).Ok := by
    refine ⟨I3.ok.mod, S.kind, I3.ok.glob, I3.ok.blt, Nat.le_refl _, fun x y c h1 h2 => I3.ok.inj x y c (hcl1 x c h1) (hcl1 y c h2), fun x hx => ?_, fun x c h => (nomatch h), fun h => I3.ok.hd h, I3.ok.frames, .inl rfl, fun b hb => ?_,
      fun b o e => I3.bs b o e, Nat.le_trans I3.ok.bsz I3.sz, fun b o e hb => ?_, fun b hb => inStack b (hf b hb).2.1 (hf b hb).2.2.1, I3.stack, I3.stkFree⟩
    · have hx' : (relabel scope X.env).names.lookup x = some .cell ∨ (relabel scope X.env).names.lookup x = some .free := hx
      have hfree : scope.names.lookup x = some .free := by
        rcases hx' with h | h
        · rcases lookup_relabel h with q | q
          · exact absurd rfl (S.nocell _ (PySem.mem_of_lookup q))
          · exact q.2
        · rcases lookup_relabel h with q | q
          · exact q
          · exact absurd q.1 (by decide)
      exact hcl2 (x, .free) (PySem.mem_of_lookup hfree) rfl
    · exact ⟨fne b hb, fun x c e => (hf b hb).2.2.2.2.1 x c (hcl1 x c e)⟩
    · rcases (hf b hb).2.2.2.1 with z | z
      · exact I3.ok.noex b o e z
      · exact absurd (Nat.lt_of_lt_of_le (Heap.lt_size e) (Nat.le_trans I3.ok.bsz z)) (Nat.lt_irrefl _)
  have Ib : Inv (cxB X scope cl s3.heap.objs.size N s3 H3 fp (X.pn ++ pins)) [] (none :: σ) H3 { s3 with heap := h₁ } := by
    refine ⟨okB, rfl, I3.bare, Un.kept old, ⟨_, hns₁, fun i x v h1 h2 h3 => ?_⟩, fun x c e => ?_, free3 _ (Nat.le_refl _), fun x c e => I3.freeC x c (hcl1 x c e), fun p hp => ?_, I3.hok.kept old, ?_⟩
    · cases i with
      | zero => cases h2
      | succ i =>
        have h2' : σ[i]? = some (some v) := by simpa using h2
        have h1' : N[i + 1]? = some x := h1
        have hxt : x ≠ tgt := fun e => by
          have := nodup_ix S.nd h1' (e ▸ S.hd); omega
        have hvis : (relabel scope X.env).names.lookup x = some .local ∨ (relabel scope X.env).names.lookup x = some .cell ∨ (relabel scope X.env).names.lookup x = some .free := h3
        have hfree : scope.names.lookup x = some .free := by
          rcases hvis with h | h | h
          · rcases lookup_relabel h with q | q
            · rcases (S.names _ (PySem.mem_of_lookup q) rfl).2 with z | z
              · exact absurd z hxt
              · exact absurd (List.mem_of_getElem? h1') z
            · exact absurd q.1 (by decide)
          · rcases lookup_relabel h with q | q
            · exact absurd rfl (S.nocell _ (PySem.mem_of_lookup q))
            · exact q.2
          · rcases lookup_relabel h with q | q
            · exact q
            · exact absurd q.1 (by decide)
        have hXN : X.N[i]? = some x := by
          have hi : i < σ.length := (List.getElem?_eq_some_iff.mp h2').1
          have hi2 : i < EN.length := by have := I3.len; rw [hEN] at this; omega
          have hz : ((N.drop 1).zip EN)[i]? = some (x, EN[i]) := by
            rw [List.getElem?_zip_eq_some]
            refine ⟨?_, by simp [hi2]⟩
            rw [List.getElem?_drop, Nat.add_comm]; exact h1'
          rcases S.rest _ (List.mem_of_getElem? hz) with q | q
          · have q' : x = EN[i] := q
            rw [hEN, q']; simp [hi2]
          · have q' : scope.names.lookup x = none := q
            rw [hfree] at q'; cases q'
        have hk : X.env.scope.names.lookup x = some .cell ∨ X.env.scope.names.lookup x = some .free := by
          rw [hsc]; exact S.fr (x, .free) (PySem.mem_of_lookup hfree) rfl
        obtain ⟨mX, hnX, hl⟩ := I3.loc
        obtain ⟨u, r, l⟩ := hl i x v hXN h2' (.inr hk)
        refine ⟨u, r, .inr ⟨?_, ?_⟩⟩
        · rcases hvis with h | h | h
          · rcases lookup_relabel h with q | q
            · rw [hfree] at q; cases q
            · exact absurd q.1 (by decide)
          · exact .inl h
          · exact .inr h
        · rcases l with ⟨z, _⟩ | ⟨_, c, e, z⟩
          · have z' : X.env.scope.names.lookup x = some .local := z
            rcases hk with q | q
            · rw [q] at z'; cases z'
            · rw [q] at z'; cases z'
          · obtain ⟨c', e'⟩ := hcl2 (x, .free) (PySem.mem_of_lookup hfree) rfl
            have := hcl1 x c' e'
            rw [e] at this; cases this
            obtain ⟨o, ho, hd⟩ := z
            exact ⟨c, e', o, old _ _ ho, hd⟩
    · obtain ⟨v, o, ho, hd⟩ := I3.cell x c (hcl1 x c e)
      exact ⟨v, o, old _ _ ho, hd⟩
    · have hp' : p ∈ X.pn ++ pins := by
        rcases List.mem_append.mp hp with z | z
        · exact z
        · cases z
      obtain ⟨e, n, ne, nf, d⟩ := I3.pin p hp'
      exact ⟨old _ _ e, n, Nat.ne_of_lt (Heap.lt_size e), inStack p.1 ne nf, d⟩
    · show (none :: σ).length = N.length
      rw [S.len, List.length_cons, I3.len, hEN]
  have stB : tn 0 h₁ := T.keep _ _ _ st fun b hb o e => old b o e
  have stat : ∀ {H' : Hp}, (∀ b ∈ fp, H' b = none) → ∀ b ∈ fp, FpOk (cxB X scope cl s3.heap.objs.size N s3 H3 fp (X.pn ++ pins)) [] H' b := fun hn b hb =>
    ⟨hn b hb, fne b hb, inStack b (hf b hb).2.1 (hf b hb).2.2.1, .inl hb, fun x c e => (hf b hb).2.2.2.2.1 x c (hcl1 x c e), fun p hp => (hf b hb).2.2.2.2.2 p (by
      rcases List.mem_append.mp hp with z | z
      · exact z
      · cases z)⟩
  have hg : PG (cxB X scope cl s3.heap.objs.size N s3 H3 fp (X.pn ++ pins)) (.Name tgt px) (gName 0) := pg_name S.nd S.hd (.inl (lookup_relabel_local S.tl)) (.inr (lookup_relabel_local S.tl))
  refine codeAny_compLoop_tests (fun n s' => ∃ i ys hd H', Inv (cxB X scope cl s3.heap.objs.size N s3 H3 fp (X.pn ++ pins)) [] (hd :: σ) H' s' ∧ tn i s'.heap ∧ (∀ b ∈ fp, H' b = none) ∧ W i n ys H') ?_ m0
    ⟨0, [], none, _, Ib, stB, fun b hb => (hf b hb).1, w0⟩
  rintro n s4 ⟨i, ys, hd, H4, I4, st4, fr4, w4⟩
  rcases turn i n ys H4 w4 with ⟨stop, q⟩ | ⟨go, Nx, hNx, step⟩
  · refine thn (T.done (cxB X scope cl s3.heap.objs.size N s3 H3 fp (X.pn ++ pins)) rfl rfl rfl hc i [] s4 (hd :: σ) H4 _ I4 (stat fr4) st4 stop) fun r s5 ⟨hr5, I5⟩ => ?_
    subst hr5
    obtain ⟨m5, hn5, _⟩ := id I5.loc
    have IX : Inv X pins σ H4 s5 := I3.call' I5.os I5.base I5.hok I5.bare fun b hb => ⟨(hf b hb).2.2.2.1, (hf b hb).2.1, (hf b hb).2.2.2.2.1, (hf b hb).2.2.2.2.2⟩
    exact hRR s5 m5 H4 IX hn5 I5.free (Nat.ne_of_gt I3.lt) (fun x c e => Nat.ne_of_lt (cellLt x c e)) I3.sz (fun p hp => Nat.ne_of_lt (Heap.lt_size (I3.pin p hp).1)) q
  · refine wpAny_mono (T.item (cxB X scope cl s3.heap.objs.size N s3 H3 fp (X.pn ++ pins)) rfl rfl rfl hc i [] s4 (hd :: σ) H4 (fun _ _ => False) I4 (stat fr4) st4 go) (fun r s5 h5 => ?_) fun _ _ f => f.elim
    obtain ⟨u, hr5, h5⟩ := h5
    subst hr5
    show wpAny (model X.prog X.w) X.A ((pure () : Sem Unit) >>= fun _ => assign (.Name tgt px) (compEnvC scope cl s3.heap.objs.size X.env) u) _ _ s5
    refine wpAny_bind (wpAny_mono h5 (fun _ s6 h6 => ?_) fun _ _ f => f.elim)
    obtain ⟨x, H6, I6, r6, y6, st6, fr6⟩ := h6
    have I6' := I6.pinned (stat fr6) (T.obj _ _ st6)
    refine wpAny_mono (hg _ s6 (hd :: σ) H6 x u (fun σ' H' => σ' = some x :: σ ∧ H' = H6) I6' r6 ⟨rfl, rfl⟩) (fun _ s7 h7 => ?_) fun _ _ f => f.elim
    obtain ⟨σ7, H7, I7, rfl, rfl⟩ := h7
    have again : ∀ {s9 : Shared} {ys' : List V} {H9 : Hp}, Inv (cxB X scope cl s3.heap.objs.size N s3 H3 fp (X.pn ++ pins)) ([] ++ pinsAt fp s6.heap) (some x :: σ) H9 s9 → Nx ys' H9 →
        ∃ m, m < n ∧ ∃ i ys hd H', Inv (cxB X scope cl s3.heap.objs.size N s3 H3 fp (X.pn ++ pins)) [] (hd :: σ) H' s9 ∧ tn i s9.heap ∧ (∀ b ∈ fp, H' b = none) ∧ W i m ys H' := fun {s9 ys' H9} I9 n9 => by
      obtain ⟨m', hm, w9⟩ := hNx ys' H9 n9
      refine ⟨m', hm, i + 1, ys', some x, H9, I9.unpinned, T.keep _ _ _ st6 fun b hb o e => (I9.pin (b, o) (List.mem_append_right _ (List.mem_append_right _ (mem_pinsAt hb e)))).1, fun b hb => ?_, w9⟩
      obtain ⟨o, e, d⟩ := T.obj _ _ st6 b hb
      exact (I9.pin (b, o) (List.mem_append_right _ (List.mem_append_right _ (mem_pinsAt hb e)))).2.1
    refine wpAny_mono (ht cl s3.heap.objs.size s3 H3 fp (X.pn ++ pins) _ s7 (some x :: σ) H7 _ I7 (step x H7 y6)) (fun ok s8 h8 => ?_) fun _ _ f => f.elim
    obtain ⟨H8, I8, q8⟩ := h8
    cases ok with
    | false => exact again I8 q8
    | true =>
      show wpAny (model X.prog X.w) X.A (eval elt (compEnvC scope cl s3.heap.objs.size X.env)) _ _ s8
      refine wpAny_mono (he cl s3.heap.objs.size s3 H3 fp (X.pn ++ pins) _ s8 (some x :: σ) H8 _ I8 q8) (fun y s9 h9 => ?_) fun _ _ f => f.elim
      obtain ⟨v, H9, I9, r9, e9, l9, n9⟩ := h9
      refine wpAny_mono (mt_append (X := cxB X scope cl s3.heap.objs.size N s3 H3 fp (X.pn ++ pins)) _ s9 (some x :: σ) H9 (.ref D) [v] (.ref D) [y] (fun _ H' => Nx (ys ++ [v]) H') I9 rfl (.cons r9 .nil) ⟨D, ys, v, rfl, rfl, e9, l9, n9⟩) (fun _ s10 h10 => ?_) fun _ _ f => f.elim
      obtain ⟨_, H10, I10, _, n10⟩ := h10
      exact again I10 n10
theorem comp_block {esc : Scope} {EN : List Str} (S : BScope esc EN scope tgt N) (hsc : X.env.scope = esc) (hEN : X.N = EN) (hc : X.calm = true)
    (ht : ∀ cl C s₀ H₀ ex pn, PIfs (cxB X scope cl C N s₀ H₀ ex pn) ifs tt) (he : ∀ cl C s₀ H₀ ex pn, PE (cxB X scope cl C N s₀ H₀ ex pn) elt te)
    {pins : List (Addr × Obj)} {σ : St} {H2 : Hp} {s2 : Shared} {it : Addr} {fp : List Addr} {tn : Nat → Heap → Prop} {J : It} {Q : VK} {cl : List (Str × Addr)}
    (hcl1 : ∀ x c, cl.lookup x = some c → X.env.cells.lookup x = some c) (hcl2 : ∀ y ∈ scope.names, y.2 = .free → ∃ c, cl.lookup y.1 = some c)
    (I2 : Inv X pins σ H2 s2) (T : Turn X.prog X.w X.K (.Name tgt px) J fp it tn) (st : tn 0 s2.heap) (hf : ∀ b ∈ fp, FpOk X pins H2 b)
    (hr : ∀ D, H2 D = none → ∃ W : Nat → Nat → List V → Hp → Prop, (∃ m, W 0 m [] (upd H2 D (.lst []))) ∧ CompTurn J D tt te σ (fun H => Q (.ref D) H) W)
    {E : Value → Shared → Prop} {RR : Value → Addr → Result → Shared → Prop}
    (hRR : ∀ (D C : Addr) (s4 : Shared) (m : Str → Option Value) (H4 : Hp), Inv X pins σ H4 s4 → s4.heap.Ns C m → H4 C = none → C ≠ X.env.locals → (∀ x c, X.env.cells.lookup x = some c → c ≠ C) → X.s₀.heap.objs.size ≤ C → (∀ p ∈ X.pn ++ pins, p.1 ≠ C) → Q (.ref D) H4 → RR (.ref D) C (.ok .next) s4) :
    wpAny (model X.prog X.w) X.A (newList []) (fun acc s₃ => wpAny (model X.prog X.w) X.A (newFunctionEnv scope X.env.globals cl [] X.env.qual none .none (some X.env)) (fun cenv s₄ =>
      codeAny (model X.prog X.w) X.A (.compStart (.ListComp elt [⟨.Name tgt px, iter, ifs, 0⟩] scope pos) 0 (.ref it) acc { cenv with scope := relabel scope X.env }) (RR acc cenv.locals) s₄) E s₃) E s2 := by
  refine wpAny_newObj_type (wpAny_newFunctionEnv S.nocell (by intro y hy; simp at hy) (fun h₁ hns₁ hsb₁ => ?_) S.kind)
  dsimp only at hns₁ hsb₁ ⊢
  have hDn : H2 s2.heap.objs.size = none := I2.hok.fresh (Nat.le_refl _)
  have I3 : Inv X pins σ (upd H2 s2.heap.objs.size (.lst [])) { s2 with heap := s2.heap.push { cls := .type "list", dict := none, data := .seq ([] : List Value).toArray } } :=
    I2.laid (t' := s2.toks) (fun b o e => Heap.get?_push_of_some _ e) (Nat.le_refl _) ⟨Nat.zero_le _, [], 0, .nil, Heap.get?_push_size _ rfl⟩
  obtain ⟨W, ⟨m0, w0⟩, turn⟩ := hr _ hDn
  have st3 : tn 0 (s2.heap.push { cls := .type "list", dict := none, data := .seq ([] : List Value).toArray }) := T.keep _ _ _ st fun b hb o e => Heap.get?_push_of_some _ e
  have hf3 : ∀ b ∈ fp, FpOk X pins (upd H2 s2.heap.objs.size (.lst [])) b := fun b hb => by
    obtain ⟨o, e, _⟩ := T.obj _ _ st b hb
    exact ⟨by rw [upd_ne (Nat.ne_of_lt (Heap.lt_size e))]; exact (hf b hb).1, (hf b hb).2⟩
  have old : ∀ b o, (s2.heap.push { cls := .type "list", dict := none, data := .seq ([] : List Value).toArray }).get? b = some o → h₁.get? b = some o := fun b o e =>
    hsb₁.extBut b o (Nat.ne_of_lt (Heap.lt_size e)) (Heap.get?_push_of_some _ e)
  have loop := comp_run (elt := elt) (iter := iter) (pos := pos) S hsc hEN hc ht he hcl1 hcl2 I3 T st3 hf3 rfl hns₁ old w0 turn (RR := RR) (fun s4 m H4 a b c d e f g q => hRR _ _ s4 m H4 a b c d e f g q)
  exact codeAny_compStart_list (loop _ rfl) (T.self _ 0 _ _ _ (T.keep _ _ _ st3 fun b hb o e => old b o e) (loop _ rfl))
theorem pe_comp {esc : Scope} {EN : List Str} (S : BScope esc EN scope tgt N) (hsc : X.env.scope = esc) (hEN : X.N = EN) (hc : X.calm = true) (hi : PI X (.Name tgt px) iter wi)
    (ht : ∀ cl C s₀ H₀ ex pn, PIfs (cxB X scope cl C N s₀ H₀ ex pn) ifs tt) (he : ∀ cl C s₀ H₀ ex pn, PE (cxB X scope cl C N s₀ H₀ ex pn) elt te)
    (hs : ∀ x, foldedSetIterable iter X.env x = pure x := by intro _; rfl) : PE X (.ListComp elt [⟨.Name tgt px, iter, ifs, 0⟩] scope pos) (tComp wi tt te) := by
  constructor
  intro pins s σ H Q I h
  rw [eval_ListComp]
  obtain ⟨cl, hclos, hcl1, hcl2⟩ := closure_of (scope := scope) (env := X.env) fun y hy hf => I.ok.has y.1 (by
    show X.env.scope.names.lookup y.1 = _ ∨ X.env.scope.names.lookup y.1 = _
    rw [hsc]; exact S.fr y hy hf)
  refine wpAny_comprehension_free (use := none) rfl hs hclos S.kind (fun y hy hl => (S.names y hy hl).1) (thn (hi pins s σ H _ I h) fun xv s1 h1 => thn h1 fun itv s2 h2 => ?_)
  obtain ⟨it, fp, tn, J, H2, rfl, I2, T, st, hf, hr⟩ := h2
  refine comp_block (Q := Q) (RR := fun acc C => compPost (model X.prog X.w) X.A X.xe none (EP X pins σ Q) acc C) S hsc hEN hc ht he hcl1 hcl2 I2 T st hf hr ?_
  intro D C s4 m H4 I4 hn4 h1 h2 h3 h4 h5 q
  exact ⟨m, hn4, fun h' hs' => ⟨.ref D, H4, I4.turned (t' := s4.toks) (fun b o hb e => (hs'.2 b hb).trans e) h1 h2 (.inr h4) h3 h5, rfl, q⟩⟩
theorem ps_comp {esc : Scope} {EN : List Str} {i : Nat} {y : Str} {py spos : Pos} (S : BScope esc EN scope tgt N) (hsc : X.env.scope = esc) (hEN : X.N = EN) (hc : X.calm = true) (hi : PI X (.Name tgt px) iter wi)
    (ht : ∀ cl C s₀ H₀ ex pn, PIfs (cxB X scope cl C N s₀ H₀ ex pn) ifs tt) (he : ∀ cl C s₀ H₀ ex pn, PE (cxB X scope cl C N s₀ H₀ ex pn) elt te)
    (hN : X.N.Nodup) (hix : X.N[i]? = some y) (hy : X.env.scope.names.lookup y = some .local)
    (hsw : swapsWith (.ListComp elt [⟨.Name tgt px, iter, ifs, 0⟩] scope pos) (some (.Name y py)) spos.line X.env = pure true)
    (hs : ∀ x, foldedSetIterable iter X.env x = pure x := by intro _; rfl) : PS X (.Assign [.Name y py] (.ListComp elt [⟨.Name tgt px, iter, ifs, 0⟩] scope pos) spos) (tAsg (tComp wi tt te) (gName i)) := by
  constructor
  intro pins s σ H D I h
  rw [exec_Assign_Name_used _ _ _ _ hsw]
  obtain ⟨cl, hclos, hcl1, hcl2⟩ := closure_of (scope := scope) (env := X.env) fun y hy hf => I.ok.has y.1 (by
    show X.env.scope.names.lookup y.1 = _ ∨ X.env.scope.names.lookup y.1 = _
    rw [hsc]; exact S.fr y hy hf)
  refine wpAny_bind (wpAny_standAt (wpAny_bind ?_))
  show wpAny _ X.A (do let _ ← comprehension (.ListComp elt [⟨.Name tgt px, iter, ifs, 0⟩] scope pos) scope X.env _ (newList []) false (eval iter X.env) (some (assign (.Name y py) X.env))) _ _ s
  refine wpAny_bind (wpAny_mono (wpAny_comprehension_free (use := some (assign (.Name y py) X.env)) (Q := fun _ s' => SP X pins D .next s') rfl hs hclos S.kind (fun y hy hl => (S.names y hy hl).1)
    (thn (hi pins s σ H _ I h) fun xv s1 h1 => thn h1 fun itv s2 h2 => ?_)) (fun _ s' hq => wpAny_pure (wpAny_pure hq)) fun _ _ e => e)
  obtain ⟨it, fp, tn, J, H2, rfl, I2, T, st, hf, hr⟩ := h2
  refine comp_block (Q := fun x H1 => gName i x σ H1 D.nx) (RR := fun acc C => compPost (model X.prog X.w) X.A X.xe (some (assign (.Name y py) X.env)) (fun _ s' => SP X pins D .next s') acc C) S hsc hEN hc ht he hcl1 hcl2 I2 T st hf hr ?_
  intro Da C s4 m H4 I4 hn4 h1 h2 h3 h4 h5 q
  show wpAny _ X.A (assign (.Name y py) X.env (.ref Da)) _ _ s4
  refine wpAny_assign_Name (store_ok2 I4 hN hix (.inl hy) (show RelV (.ref Da) (.ref Da) from rfl) (fun s5 I5 ch => ?_) (.inr hy))
  obtain ⟨a, hsb, ha⟩ := ch
  have haC : C ≠ a := by
    rcases ha with e | e
    · rw [e]; exact h2
    · exact fun z => h3 _ _ e z.symm
  refine ⟨m, hn4.sameBut hsb haC, fun h' hs' => ?_⟩
  exact ⟨_, H4, I5.turned (t' := s5.toks) (fun b o hb e => (hs'.2 b hb).trans e) h1 h2 (.inr h4) h3 h5, q⟩
end
theorem comp_range {lo : Int} {n : Nat} {D : Addr} {tt : TT} {te : TE} {σ : St} {Qd : Hp → Prop} {H1 : Hp} (Pv : Nat → List V → Hp → Prop) (h0 : Pv 0 [] (upd H1 D (.lst [])))
    (hs : ∀ i ys H, i < n → Pv i ys H → tt (some (.int (lo + i)) :: σ) H fun b H2 => if b = true then te (some (.int (lo + i)) :: σ) H2 fun y H3 => H3 D = some (.lst ys) ∧ ys.length < sizeLine ∧ Pv (i + 1) (ys ++ [y]) (upd H3 D (.lst (ys ++ [y]))) else Pv (i + 1) ys H2)
    (hd : ∀ ys H, Pv n ys H → Qd H) :
    ∃ W : Nat → Nat → List V → Hp → Prop, (∃ m, W 0 m [] (upd H1 D (.lst []))) ∧ CompTurn (Itr lo n) D tt te σ Qd W := by
  refine ⟨fun i m ys H => m = n - i ∧ i ≤ n ∧ Pv i ys H, ⟨n, by simp, Nat.zero_le _, h0⟩, ?_⟩
  rintro i m ys H ⟨rfl, hi, p⟩
  by_cases hlt : i < n
  · refine .inr ⟨hlt, Pv (i + 1), fun ys' H' p' => ⟨n - (i + 1), by omega, rfl, hlt, p'⟩, fun x H' y => ?_⟩
    obtain ⟨e, y⟩ := y
    subst e y
    exact hs i ys H' hlt p
  · have e : i = n := by omega
    subst e
    exact .inl ⟨Nat.le_refl _, hd ys H p⟩
theorem comp_list {K : PySem.W.Frag} {a : Addr} {xs : List V} {D : Addr} {tt : TT} {te : TE} {σ : St} {Qd : Hp → Prop} {H1 : Hp} (Pv : Nat → List V → Hp → Prop) (h0 : Pv 0 [] (upd H1 D (.lst []))) (hl : ∀ i ys H, i ≤ xs.length → Pv i ys H → SqL K H a xs)
    (hs : ∀ i x ys H, xs[i]? = some x → Pv i ys H → tt (some x :: σ) H fun b H2 => if b = true then te (some x :: σ) H2 fun y H3 => H3 D = some (.lst ys) ∧ ys.length < sizeLine ∧ Pv (i + 1) (ys ++ [y]) (upd H3 D (.lst (ys ++ [y]))) else Pv (i + 1) ys H2)
    (hd : ∀ ys H, Pv xs.length ys H → Qd H) :
    ∃ W : Nat → Nat → List V → Hp → Prop, (∃ m, W 0 m [] (upd H1 D (.lst []))) ∧ CompTurn (Itl K a) D tt te σ Qd W := by
  refine ⟨fun i m ys H => m = xs.length - i ∧ i ≤ xs.length ∧ Pv i ys H, ⟨xs.length, by simp, Nat.zero_le _, h0⟩, ?_⟩
  rintro i m ys H ⟨rfl, hi, p⟩
  have q := hl i ys H hi p
  by_cases hlt : i < xs.length
  · refine .inr ⟨⟨xs, xs[i], q, by simp [hlt]⟩, Pv (i + 1), fun ys' H' p' => ⟨xs.length - (i + 1), by omega, rfl, hlt, p'⟩, fun x H' y => ?_⟩
    obtain ⟨e, y⟩ := y
    subst e
    exact hs i x ys H' (y xs q) p
  · have e : i = xs.length := by omega
    subst e
    exact .inl ⟨⟨xs, q, Nat.le_refl _⟩, hd ys H p⟩
end L2
namespace L2
open PySem PySem.Spec PyProof.Rows
abbrev cs (x : Str) : List Nat := x.cps.toList
theorem cs_length (x : Str) : (cs x).length = x.length := by simp [cs, Str.length]
theorem cs_append (x y : Str) : cs (x ++ y) = cs x ++ cs y := by
  show (x.cps ++ y.cps).toList = _
  simp [cs]
theorem cs_inj {x y : Str} (h : cs x = cs y) : x = y := by
  obtain ⟨a⟩ := x
  obtain ⟨b⟩ := y
  have : a = b := Array.toList_inj.mp h
  rw [this]
def Its (x : Str) : It := ⟨fun i _ => i < x.cps.size, fun i H v H' => H' = H ∧ ∃ c, (cs x)[i]? = some c ∧ v = .str ⟨#[c]⟩, fun i _ => i = x.cps.size⟩
theorem turn_str {P : Program} {w : World} {K : PySem.W.Frag} {tg : Expr} {it : Addr} {ty : String} {x : Str} {t : Tok}
    (W : ∀ A' : Around, A'.handled = none → Walks P w A' it [it] [it] x.cps.size (SignAt x) (fun i h => h.IsStrIter it ty x t i))
    (self : ∀ (A : Around) (i : Nat) (s : Shared) (Q : Value → Shared → Prop) (E : Value → Shared → Prop), s.heap.IsStrIter it ty x t i → Q (.ref it) s → wpAny (model P w) A (pyIter (.ref it)) Q E s) :
    Turn P w K tg (Its x) [it] it (fun i h => h.IsStrIter it ty x t i) where
  mem := by simp
  obj := fun i h st b hb => by
    have e : b = it := by simpa using hb
    subst e
    obtain ⟨o, e, c, d⟩ := st
    exact ⟨o, e, fun v z => by rw [d] at z; cases z⟩
  keep := fun i h h' st k => by
    obtain ⟨o, e, r⟩ := st
    exact ⟨o, k it (by simp) o e, r⟩
  item := by
    intro X hP hw hK hc i pins s σ H E I hf st hg
    subst hP hw hK
    obtain ⟨f0, f1, f2, f3, f4, f5⟩ := hf it (by simp)
    refine (W X.A (I.ok.hd hc)).item i s _ _ hg st fun v h' tk hv st' kk => ?_
    obtain ⟨c, u, hcx, rfl⟩ := hv
    have I1 : Inv X pins σ H { s with heap := h', toks := tk } := I.turned (fun b o hb e => kk b o (by simpa using hb) e) f0 f1 f3 f4 f5
    have hgo : letOwnedTupleGo tg (.ref it) (.str ⟨#[c]⟩ u) = pure () := by unfold letOwnedTupleGo; cases tg <;> rfl
    refine ⟨_, rfl, ?_⟩
    rw [hgo]
    exact wpAny_pure ⟨.str ⟨#[c]⟩, H, I1, ⟨u, rfl⟩, ⟨rfl, c, by simpa [cs] using hcx, rfl⟩, st', fun b hb => (hf b hb).1⟩
  done := by
    intro X hP hw hK hc i pins s σ H E I hf st hg
    subst hP hw hK
    obtain ⟨f0, f1, f2, f3, f4, f5⟩ := hf it (by simp)
    have e : i = x.cps.size := hg
    subst e
    exact (W X.A (I.ok.hd hc)).done s _ _ st fun h' tk kk => ⟨rfl, I.turned (fun b o hb e => kk b o (by simpa using hb) e) f0 f1 f3 f4 f5⟩
  self := self
section
variable {X : Cx} {tg : Expr}
def iStr (tl : TE) : TI := fun σ H R => tl σ H fun x H1 => ∃ z, x = .str z ∧ R (Its z) H1
theorem pi_str {l : Expr} {tl : TE} (hl : PE X l tl) : PI X tg l (iStr tl) := by
  constructor
  intro pins s σ H R I h
  refine thn (hl pins s σ H _ I h) fun v s1 ⟨x, H1, I1, r1, q1⟩ => ?_
  obtain ⟨z, rfl, q⟩ := q1
  obtain ⟨t, rfl⟩ := r1
  have fp : ∀ b ∈ [s1.heap.objs.size], FpOk X pins H1 b := fun b hb => by
    have e : b = s1.heap.objs.size := by simpa using hb
    subst e
    exact I1.fpOk (Nat.le_refl _) (I1.hok.fresh (Nat.le_refl _))
  cases ha : z.cps.all (· < 128)
  · refine wpAny_pyIter_wide ha ?_
    exact ⟨s1.heap.objs.size, [s1.heap.objs.size], _, _, H1, rfl, I1.kept (t' := s1.toks) fun b o e => Heap.get?_push_of_some _ e, turn_str (ty := "str_iterator") (x := z) (t := t) (fun A' hA => Walks.strWide hA _ z t)
      (fun _ _ _ _ _ st h => wpAny_pyIter_striter_wide st h), ⟨_, Heap.get?_push_size _ rfl, rfl, rfl⟩, fp, q⟩
  · refine wpAny_pyIter_ascii ha ?_
    exact ⟨s1.heap.objs.size, [s1.heap.objs.size], _, _, H1, rfl, I1.kept (t' := s1.toks) fun b o e => Heap.get?_push_of_some _ e, turn_str (ty := "str_ascii_iterator") (x := z) (t := t) (fun A' hA => Walks.strAscii hA _ z t)
      (fun _ _ _ _ _ st h => wpAny_pyIter_striter_ascii st h), ⟨_, Heap.get?_push_size _ rfl, rfl, rfl⟩, fp, q⟩
end
theorem for_str {z : Str} {g : TG} {tb : TS} {D : Ends} {σ : St} {H : Hp} (Pv : Nat → St → Hp → Prop) (h0 : Pv 0 σ H)
    (hs : ∀ i c σ H, (cs z)[i]? = some c → Pv i σ H → g (.str ⟨#[c]⟩) σ H fun σ2 H2 => tb { D with nx := Pv (i + 1), ct := Pv (i + 1), bk := D.nx } σ2 H2) (hd : ∀ σ H, Pv (cs z).length σ H → D.nx σ H) :
    ∃ W : Nat → Nat → St → Hp → Prop, (∃ m, W 0 m σ H) ∧ ∀ i m σ H, W i m σ H →
      ((Its z).stop i H ∧ D.nx σ H) ∨ ((Its z).go i H ∧ ∃ N : St → Hp → Prop, (∀ σ' H', N σ' H' → ∃ m', m' < m ∧ W (i + 1) m' σ' H') ∧ ∀ x H', (Its z).yld i H x H' → g x σ H' fun σ2 H2 => tb { D with nx := N, ct := N, bk := D.nx } σ2 H2) := by
  have hz : (cs z).length = z.cps.size := by simp [cs]
  refine ⟨fun i m σ H => m = z.cps.size - i ∧ i ≤ z.cps.size ∧ Pv i σ H, ⟨z.cps.size, by simp, Nat.zero_le _, h0⟩, ?_⟩
  rintro i m σ H ⟨rfl, hi, p⟩
  by_cases hlt : i < z.cps.size
  · refine .inr ⟨hlt, Pv (i + 1), fun σ' H' p' => ⟨z.cps.size - (i + 1), by omega, rfl, hlt, p'⟩, fun x H' y => ?_⟩
    obtain ⟨e, c, hc, rfl⟩ := y
    subst e
    exact hs i c σ H' hc p
  · have e : i = z.cps.size := by omega
    refine .inl ⟨e, hd σ H ?_⟩
    rw [hz, ← e]; exact p
theorem comp_str {z : Str} {D : Addr} {tt : TT} {te : TE} {σ : St} {Qd : Hp → Prop} {H1 : Hp} (Pv : Nat → List V → Hp → Prop) (h0 : Pv 0 [] (upd H1 D (.lst [])))
    (hs : ∀ i c ys H, (cs z)[i]? = some c → Pv i ys H → tt (some (.str ⟨#[c]⟩) :: σ) H fun b H2 => if b = true then te (some (.str ⟨#[c]⟩) :: σ) H2 fun y H3 => H3 D = some (.lst ys) ∧ ys.length < sizeLine ∧ Pv (i + 1) (ys ++ [y]) (upd H3 D (.lst (ys ++ [y]))) else Pv (i + 1) ys H2)
    (hd : ∀ ys H, Pv (cs z).length ys H → Qd H) :
    ∃ W : Nat → Nat → List V → Hp → Prop, (∃ m, W 0 m [] (upd H1 D (.lst []))) ∧ CompTurn (Its z) D tt te σ Qd W := by
  have hz : (cs z).length = z.cps.size := by simp [cs]
  refine ⟨fun i m ys H => m = z.cps.size - i ∧ i ≤ z.cps.size ∧ Pv i ys H, ⟨z.cps.size, by simp, Nat.zero_le _, h0⟩, ?_⟩
  rintro i m ys H ⟨rfl, hi, p⟩
  by_cases hlt : i < z.cps.size
  · refine .inr ⟨hlt, Pv (i + 1), fun ys' H' p' => ⟨z.cps.size - (i + 1), by omega, rfl, hlt, p'⟩, fun x H' y => ?_⟩
    obtain ⟨e, c, hc, rfl⟩ := y
    subst e
    exact hs i c ys H' hc p
  · have e : i = z.cps.size := by omega
    refine .inl ⟨e, hd ys H ?_⟩
    rw [hz, ← e]; exact p
def rSlS : V → Option Int → Option Int → Hp → VK → Prop := fun x lo hi H Q => ∃ z, x = .str z ∧ z.length ≤ sizeLine ∧ Q (.str (Txt.slice z lo hi)) H
section
variable {X : Cx}
theorem ints_items {its : List Value} {ns : List Int} (hi : IntsAre its ns) : ∃ xs : Array (Int × Tok), its.toArray = intItems xs ∧ ns = xs.toList.map (·.1) := by
  obtain ⟨xs, e⟩ := hi.allInts.items
  refine ⟨xs, e, ?_⟩
  have a := hi.numsOf
  have b := nums_intItems xs
  rw [← e] at b
  exact a.symm.trans b
theorem call_minL (hc : X.calm = true) : CallR X (.builtin "min") (fun xs H Q => ∃ (p : Addr) (ns : List Int), xs = [.ref p] ∧ SqL X.K H p (ns.map V.int) ∧ 0 < ns.length ∧ ∀ M, M ∈ ns → (∀ a, a ∈ ns → M ≤ a) → Q (.int M) H) := by
  intro pins s σ H xs us Q I r h
  obtain ⟨p, ns, rfl, hq, hne, q⟩ := h
  obtain ⟨u, rfl, rx⟩ := vals1 r
  cases rx
  obtain ⟨its, rv, pl, hz⟩ := I.list hq
  obtain ⟨ys, e1, e2⟩ := ints_items (intsAre_of rv)
  have hl := pl.isList
  rw [e1] at hl
  have hlen : ns.length = ys.size := by rw [e2]; simp
  refine min_intList (I.ok.hd hc) hl (by omega) fun v h' tk hv hk => ?_
  obtain ⟨t, rfl⟩ := intItems_at hv
  obtain ⟨b1, b2⟩ := argBest_lt (numAt ys) (ys.size - 1)
  refine ⟨.int _, H, I.kept hk, ⟨t, rfl⟩, q _ ?_ fun a ha => ?_⟩
  · rw [numAt_eq, e2]
    exact getD_mem (by rw [← e2]; omega)
  · rw [e2] at ha
    obtain ⟨j, hj, ea⟩ := mem_getD ha
    have := b2 j (by rw [← e2] at hj; omega)
    rw [← ea, ← numAt_eq]
    exact this
theorem strsAre_of {ts : List Str} : ∀ {us : List Value}, Vals (ts.map V.str) us → StrsAre us ts := by
  induction ts with
  | nil => intro us r; rw [List.map_nil] at r; cases r; exact .nil
  | cons n ns ih =>
    intro us r
    rw [List.map_cons] at r
    cases r with
    | cons r1 r2 =>
      obtain ⟨t, e⟩ := r1
      subst e
      exact .cons n t (ih r2)
def rJoin (K : PySem.W.Frag) : V → List V → Hp → VK → Prop := fun x vs H Q => ∃ (z : Str) (p : Addr) (ts : List Str), x = .str z ∧ vs = [.ref p] ∧ SqL K H p (ts.map V.str) ∧ (ts.map (·.length)).sum + ts.length * z.length ≤ 16777216 ∧ Q (.str (Txt.join z ts)) H
theorem mt_join : MtR X "str.join" (rJoin X.K) := by
  intro pins s σ H x vs v us Q I rx rv h
  obtain ⟨z, p, ts, rfl, rfl, hq, hz, q⟩ := h
  obtain ⟨t, rfl⟩ := rx
  obtain ⟨u, rfl, ru⟩ := vals1 rv
  cases ru
  obtain ⟨its, r', pl, _⟩ := I.list hq
  exact join_list pl.isList (strsAre_of r') hz fun t' k => ⟨.str _, H, I.tok k, ⟨t', rfl⟩, q⟩
theorem cs_join (ts : List Str) : cs (Txt.join ⟨#[]⟩ ts) = (ts.map cs).flatten := by
  have e : Txt.join ⟨#[]⟩ ts = Str.join ⟨#[]⟩ ts := StrLaws.glued_eq_join _ _
  rw [e]
  have all : ∀ ts : List Str, cs (Str.join ⟨#[]⟩ ts) = (ts.map cs).flatten := by
    intro ts
    induction ts with
    | nil => rfl
    | cons x r ih =>
      cases r with
      | nil => simp [Str.join]
      | cons y r =>
        show cs (x ++ (⟨#[]⟩ : Str) ++ Str.join ⟨#[]⟩ (y :: r)) = _
        rw [cs_append, cs_append, ih]
        simp
  exact all ts
theorem call_isinst (c : V) (cv : Value) (hcv : ∀ u, RelV c u → u = cv) : CallR X (.builtin "isinstance") (fun xs H Q => ∃ x t b, xs = [x, c] ∧ TyOf X.K H x t ∧ PySem.W.kitOne X.K t cv = some b ∧ Q (.bl b) H) := by
  intro pins s σ H xs us Q I r h
  obtain ⟨x, t, b, rfl, ty, e, q⟩ := h
  obtain ⟨u, w', rfl, r1, r2⟩ := vals2 r
  cases hcv _ r2
  exact isinst_ok I r1 ty e fun tk => ⟨.bl b, H, I.tok tk, rfl, q⟩
def rEqLI (K : PySem.W.Frag) (neg : Bool) : R2 := fun x y H Q => ∃ (p q : Addr) (ns ms : List Int), x = .ref p ∧ y = .ref q ∧ SqL K H p (ns.map V.int) ∧ SqL K H q (ms.map V.int) ∧ Q (.bl (if neg then !decide (ns = ms) else decide (ns = ms))) H
section
variable {K : PySem.W.Frag} {a b o e : Expr} {es : List Expr} {ta tb to : TE} {t : TA} {pos apos cpos : Pos} {name : Str} {T id : String} {r : V → List V → Hp → VK → Prop}
def rLen (K : PySem.W.Frag) : List V → Hp → VK → Prop := fun xs H Q => ∃ p ys, xs = [.ref p] ∧ (SqL K H p ys ∨ SqT K H p ys) ∧ Q (.int ys.length) H
theorem call_lenK (hK : X.K = K) : CallR X (.builtin "len") (rLen K) := by subst hK; exact call_len_seq
end
end
end L2
namespace L2
open PySem PySem.Spec PyProof.Rows
section
variable {P : Program} {w : World} {H H' H0 : Hp} {h h0 h1 h2 h' : Heap} {a : Addr} {o : HO} {fs : List Addr}
theorem ObjOk.obj (x : ObjOk P w H h a o) : ∃ ob, h.get? a = some ob := by
  cases o with
  | lst xs => obtain ⟨_, _, _, _, e⟩ := x; exact ⟨_, e⟩
  | tup xs => obtain ⟨_, _, _, ob, e, _⟩ := x; exact ⟨_, e⟩
  | dK kvs => obtain ⟨_, _, _, _, ob, _, _, e, _⟩ := x; exact ⟨_, e⟩
  | dT kvs => obtain ⟨_, _, _, _, ob, _, _, e, _⟩ := x; exact ⟨_, e⟩
  | set S n => obtain ⟨ob, _, _, _, e, _⟩ := x; exact ⟨_, e⟩
  | ins C dx fs => obtain ⟨_, _, _, e, _⟩ := x; exact ⟨_, e⟩
  | own y => exact x
  | xd fs => obtain ⟨_, ⟨_, _, _, e, _⟩, _⟩ := x; exact ⟨_, e⟩
  | rng lo hi => obtain ⟨_, _, _, e⟩ := x; exact ⟨_, e⟩
  | frz ob u => obtain ⟨e, _⟩ := x; exact ⟨_, e⟩
  | tbl ps => exact ⟨_, (show h.get? a = some _ from x)⟩
  | met f y => exact ⟨_, (show h.get? a = some _ from x)⟩
  | ext φ => exact x.2.1
theorem HOk.none_of (x : HOk P w H h) (e : h.get? a = none) : H a = none := by
  cases q : H a with
  | none => rfl
  | some u =>
    obtain ⟨ob, z⟩ := (x a u q).obj
    rw [e] at z; cases z
theorem Un.none_of {ex : List Addr} (u : Un fs [] H H' h h1) (e : h1.get? a = none) : h.get? a = none := by
  cases q : h.get? a with
  | none => rfl
  | some ob =>
    obtain ⟨o', z⟩ := u.there a ob q (by simp)
    rw [e] at z; cases z
theorem Un.shift (u : Un fs [] H H' h h1) (k : ∀ b ob o, h.get? b = some ob → b ∉ fs → h1.get? b = some o → h2.get? b = some o)
    (ks : ∀ b ob o, h.get? b = some ob → b ∈ fs → h1.get? b = some o → ∃ sl, h2.get? b = some { o with slots := sl }) : Un fs [] H H' h h2 where
  keep := fun b ob q n hb hx => k b ob ob q hb (u.keep b ob q n hb hx)
  slot := fun b ob q n hb hx => by
    obtain ⟨sl, e1⟩ := u.slot b ob q n hb hx
    obtain ⟨sl2, e2⟩ := ks b ob _ q hb e1
    exact ⟨sl2, e2⟩
  free := u.free
  there := fun b ob q hx => by
    obtain ⟨o', e1⟩ := u.there b ob q hx
    by_cases hb : b ∈ fs
    · obtain ⟨sl, e2⟩ := ks b ob o' q hb e1
      exact ⟨_, e2⟩
    · exact ⟨_, k b ob o' q hb e1⟩
  tups := u.tups
  frzs := u.frzs
  tbls := u.tbls
structure Fl (H : Hp) (h0 h : Heap) (a T C : Addr) : Prop where
  na : h0.get? a = none
  nT : h0.get? T = none
  ua : H a = none
  uT : H T = none
  tr : ∃ a0 oe vs oT ts, h.get? a = some oe ∧ (oe.cls = .ref C ∧ vs[0]? = some a0) ∧ oe.data = .fields vs ∧ vs[1]? = some (.ref T) ∧ T ≠ a ∧ h.get? T = some oT ∧ oT.data = .fields ts ∧ ts[3]? = some .none
theorem fly_step {base0 : Heap} {st : List Env} {S0 : List Addr} {C : Addr} {a0 : Value} (u : Un fs [] H0 H h0 h1) (hok : HOk P w H h1) (ff : h1.FunFrames base0 st) (fu : ∀ b ∈ frs st, H b = none)
    (hS0 : ∀ b ∈ S0, h0.get? b = none ∧ H b = none) (ha : a ∈ S0) (hst : ∀ b ∈ frs st, b ∈ fs ∨ h0.get? b = none) (hfs : ∀ b ∈ fs, b ∈ frs st)
    (k1 : (PySem.W.hideAll h1 (S0 ++ frs st)).StaysIn h') (k2 : h'.FunFrames (PySem.W.hideAll h1 (S0 ++ frs st)) st) (k3 : h'.TracedW (PySem.W.hideAll h1 (S0 ++ frs st)) a (.ref C) a0) (k4 : h1.UpToSlots h') :
    ∃ T, Un fs [] H0 H h0 h' ∧ HOk P w H h' ∧ Fl H h0 h' a T C := by
  have kk : ∀ b ob, b ∉ S0 → b ∉ frs st → h1.get? b = some ob → h'.get? b = some ob := fun b ob n1 n2 e =>
    k1 b ob (PySem.W.hideAll_get _ e fun z => (List.mem_append.mp z).elim n1 n2)
  have u' : Un fs [] H0 H h0 h' := u.shift (fun b ob ox q hb e => kk b ox (fun z => by rw [(hS0 b z).1] at q; cases q) (fun z => (hst b z).elim hb fun z2 => by rw [z2] at q; cases q) e) (fun b ob ox q hb e => by
    obtain ⟨_, oy, ey, ny⟩ := ff.mem (hfs b hb)
    rw [e] at ey; cases ey
    exact k4 b ox e ny)
  have ok' : HOk P w H h' := fun b v e => (hok b v e).stay (fun c x hc q => by
    have hct : ∃ y, H c = some y := by
      rcases hc with z | z
      · exact ⟨v, by rw [z]; exact e⟩
      · exact ⟨_, z⟩
    obtain ⟨y, hy⟩ := hct
    exact kk c x (fun z => by rw [(hS0 c z).2] at hy; cases hy) (fun z => by rw [fu c z] at hy; cases hy) q) (fun _ q => q) fun _ _ q => q
  obtain ⟨oe, vs, T, oT, ts, he, hc, hd, e1, hnT, hTe, hT, hdT, e3⟩ := k3
  have nf : T ∉ frs st := fun z => by
    obtain ⟨_, oy, ey, ny⟩ := k2.mem z
    rw [hT] at ey; cases ey
    exact ny ts hdT
  have cs : T ∈ S0 ∨ h1.get? T = none := by
    by_cases z : T ∈ S0
    · exact .inl z
    · refine .inr ?_
      cases q : h1.get? T with
      | none => rfl
      | some ox =>
        have := PySem.W.hideAll_get (S0 ++ frs st) q fun z2 => (List.mem_append.mp z2).elim z nf
        rw [hnT] at this; cases this
  refine ⟨T, u', ok', (hS0 a ha).1, ?_, (hS0 a ha).2, ?_, a0, oe, vs, oT, ts, he, hc, hd, e1, hTe, hT, hdT, e3⟩
  · exact cs.elim (fun z => (hS0 T z).1) fun z => u.none_of (ex := []) z
  · exact cs.elim (fun z => (hS0 T z).2) fun z => hok.none_of z
end
def CX1 (P : Program) (w : World) : CXT := fun outer H s E e s' => ∃ a T C H', e = .ref a ∧ s'.os = s.os ∧ AllBare s'.gens ∧ Un (frs outer) [] H H' s.heap s'.heap ∧ HOk P w H' s'.heap ∧ Fl H' s.heap s'.heap a T C ∧ E (.ref C) none H'
theorem pass1 {P : Program} {w : World} {X : Cx} : Passes (CX1 P w) X E0 := fun _ _ _ _ _ _ _ h => by
  obtain ⟨_, _, _, _, _, _, _, _, _, _, q⟩ := h
  exact q.elim
section
variable {P : Program} {w : World} {K : PySem.W.Frag} {mg : Str → Option Value} {base : Heap} {N : List Str} {qual : Str} {scope : Scope} {f : Addr} {cdv : Value} {A : Around} {outer : List Env} {s₀ : Shared} {H₀ : Hp} {E : XK}
theorem mem_frs {env : Env} {L : Addr} (hf : env.frame = some L) {b : Addr} : b ∈ frs (env :: outer) ↔ b = L ∨ b ∈ frs outer := by
  unfold frs
  rw [List.filterMap_cons, hf]
  exact List.mem_cons
theorem leave_new {pins : List (Addr × Obj)} {σ : St} {H : Hp} {s1 : Shared} {a t C : Addr} (I : Inv (cxOf (CX1 P w) P w K mg base N qual scope f cdv A outer s₀ H₀ E) pins σ H s1)
    (he : s1.heap.get? a = some { cls := .ref C, data := .fields #[.ref t, .none, .none, .none, .bool false, .none] }) (na : s₀.heap.get? a = none) (ua : H a = none) (hE : E (.ref C) none H) :
    (cxOf (CX1 P w) P w K mg base N qual scope f cdv A outer s₀ H₀ E).xe (.ref a) s1 := by
  have nL : s₀.heap.get? s₀.heap.objs.size = none := Heap.get?_none_of_le (Nat.le_refl _)
  have hin : ∀ env ∈ envOfC qual scope s₀.heap.objs.size f cdv :: outer, ∀ b, env.frame = some b → b ∈ [a] ++ frs (envOfC qual scope s₀.heap.objs.size f cdv :: outer) := fun env hm b hb =>
    List.mem_append_right _ (List.mem_filterMap.mpr ⟨env, hm, hb⟩)
  refine wpAny_leaving_firstW (base := PySem.W.hideAll s1.heap ([a] ++ frs (envOfC qual scope s₀.heap.objs.size f cdv :: outer))) (L := s₀.heap.objs.size) I.ok.frames (PySem.W.funFrames_hide I.stack hin) rfl he
    (fun b ob e => PySem.W.of_hideAll _ e) (PySem.W.hideAll_none _ (by simp)) rfl rfl rfl fun h' hL => ?_
  obtain ⟨k1, k2, k3, k4⟩ := hL
  obtain ⟨T, u, ok, fl⟩ := fly_step (P := P) (w := w) (fs := frs outer) (H0 := H₀) (h0 := s₀.heap) (a := a) I.base I.hok I.stack I.stkFree (S0 := [a]) (fun b hb => by
    have e : b = a := by simpa using hb
    subst e; exact ⟨na, ua⟩) (by simp) (fun b hb => ((mem_frs rfl).mp hb).elim (fun z => .inr (by rw [z]; exact nL)) .inl) (fun b hb => (mem_frs rfl).mpr (.inr hb)) k1 k2 k3 k4
  exact ⟨a, T, C, H, rfl, I.os, I.bare, u, ok, fl, hE⟩
end
abbrev bmV : List Value := [.type "ValueError", .type "Exception", .type "BaseException", .type "object"]
theorem cls_obj {K : PySem.W.Frag} {h : Heap} {C : Addr} {bmB : List Value} {nid : String} (KX : K.In h) (q : PySem.W.excIn K C bmB nid = true) :
    ∃ bm Nn nm qn bs hd sn sub ab col dd k0 k1 k2 k3 k5 mN, K.lookup C = some (excClassObj nm qn C Nn bs bm hd sn sub ab col dd k0 k1 k2 k3 k5 nid) ∧ mN "__init__" = none ∧ ∀ h', K.In h' → h'.Ns Nn mN ∧ OwnTail h' bmB bm := by
  unfold PySem.W.excIn at q
  split at q
  · rename_i dct cdat sl look
    split at q
    · rename_i D bm k0 k1 k2 k3 nw k5 em es
      simp only [Bool.and_eq_true, beq_iff_eq, Bool.not_eq_true'] at q
      obtain ⟨⟨⟨⟨⟨e1, e2⟩, nodel⟩, tail⟩, nsok⟩, noin⟩ := q
      subst e1 e2
      obtain ⟨nm, bs, mro, ns, qn, hd, sn, sub, ab, col, dl⟩ := cdat
      dsimp only at em nodel nsok noin
      subst em nodel
      have esl : sl = #[k0, k1, k2, k3, some (.builtin nw), k5] := by
        obtain ⟨l⟩ := sl
        simp only at es
        rw [es]
      subst esl
      refine ⟨bm, ns, nm, qn, bs, hd, sn, sub, ab, col, dct, k0, k1, k2, k3, k5, h.nsMap ns, look, PySem.W.nsMap_none_of_in KX nsok noin, fun h' KX' => ⟨?_, PySem.W.tail_of_in KX' tail⟩⟩
      have n0 : h.Ns ns (h.nsMap ns) := .of_isNs (PySem.W.isNs_of_in KX nsok)
      obtain ⟨o, es, ep, ho, r⟩ := n0
      have lo : ∃ oN, K.lookup ns = some oN := by
        unfold PySem.W.nsOkIn at nsok
        split at nsok
        · exact ⟨_, by assumption⟩
        · cases nsok
      obtain ⟨oN, lo⟩ := lo
      have e0 := KX _ _ lo
      rw [ho] at e0
      cases e0
      exact ⟨_, es, ep, KX' _ _ lo, r⟩
    · cases q
  · cases q
section
variable {P : Program} {w : World} {K : PySem.W.Frag} {mg : Str → Option Value} {base : Heap} {N : List Str} {qual : Str} {scope : Scope} {f : Addr} {cdv : Value} {A : Around} {outer : List Env} {s₀ : Shared} {H₀ : Hp} {E : XK}
theorem ps_raise {x : Str} {C : Addr} {np cpos zp pos : Pos} {z : Str} {j : _} (hg : Gl (cxOf (CX1 P w) P w K mg base N qual scope f cdv A outer s₀ H₀ E) x) (hm : mg x = some (.ref C)) (q : PySem.W.excIn K C bmV "ValueError.__new__" = true)
    (hdb : (x == ("__debug__" : Str)) = false := by decide) :
    PS (cxOf (CX1 P w) P w K mg base N qual scope f cdv A outer s₀ H₀ E) (.Raise (some (.Call (.Name x np) [.Constant (.str z) j zp] [] cpos)) none pos) (fun _ _ H => E (.ref C) none H) := by
  constructor
  intro pins s σ H D I h
  obtain ⟨bm, Nn, nm, qn, bs, hd, sn, sub, ab, col, dd, k0, k1, k2, k3, k5, mN, look, hni, more⟩ := cls_obj I.kIn q
  refine wpAny_Raise_call_subT (C := C) (nm := nm) (q := qn) (N := Nn) (bs := bs) (bm := bm) (hdct := hd) (sn := sn) (sub := sub) (ab := ab) (col := col) (dd := dd) (k0 := k0) (k1 := k1) (k2 := k2) (k3 := k3) (k5 := k5)
    PySem.F.excBase_ValueError (mN := mN) ((more _ I.kIn).2.hasType (by decide)) (I.ok.hd rfl) rfl hni (ld_glob I hg hm ⟨rfl, ?_⟩ hdb)
  have pa : PA (cxOf (CX1 P w) P w K mg base N qual scope f cdv A outer s₀ H₀ E) [.Constant (.str z) j zp] (tCons (tC (.str z)) tNil) := pa_cons pe_str pa_nil
  refine Calls.evalArgs_plain (wpAny_mono (pa cpos pins s σ H (fun vs H1 => vs = [.str z] ∧ H1 = H) I ⟨rfl, rfl⟩) (fun us s2 h2 => ?_) fun _ _ y => y)
  obtain ⟨vs, H1, I2, r, rfl, rfl⟩ := h2
  have hl : us.length = 1 := r.length.symm
  refine ⟨rfl, by rw [hl]; decide, I2.kIn _ _ look, (more _ I2.kIn).1, (more _ I2.kIn).2, fun h' e hx => ?_⟩
  obtain ⟨t, he, _, _⟩ := hx.there
  have I3 : Inv (cxOf (CX1 P w) P w K mg base N qual scope f cdv A outer s₀ H₀ E) pins σ H1 { s2 with heap := h' } := I2.kept (t' := s2.toks) hx.keeps
  exact leave_new I3 he (I2.base.none_of (ex := []) hx.new) (I2.hok.none_of hx.new) h
theorem Fun.okX {x qual : Str} {st : Stmt} {f : Addr} {fd : FuncData} {N ps : List Str} {k : Nat} {sp : Sp} (F : Fun K x qual st f fd) (S : FnScope N ps (defScope st)) (len : ∀ vs H Q E, sp vs H Q E → vs.length = ps.length)
    (hbody : ∀ (cdv : Value) (A : Around) (outer : List Env) (s : Shared) (H : Hp) (vs : List V) (Q : VK) (E : XK), Room k (A.deeper (envOfC qual (defScope st) s.heap.objs.size f cdv)) → sp vs H Q E →
      ∃ t, PSs (cxOf (CX1 P w) P w K mg base N qual (defScope st) f cdv A outer s H E) (defBody st) t ∧ t { nx := fun _ H' => Q .non H', rt := Q } (start N vs) H) : FnOk P w K mg base (CX1 P w) (k + 1) f fd ps sp := by
  obtain ⟨oc, od, kV, doc, pm, an, cdv, ct, osl, rfl, lk, hcd⟩ := F.ex
  exact fn_of lk hcd S len fun A outer s H vs Q E hr hsp => hbody cdv A outer s H vs Q E hr hsp
theorem Fun.ok1 {x qual : Str} {st : Stmt} {f : Addr} {fd : FuncData} {N ps : List Str} {k : Nat} {sp : Sp} (F : Fun K x qual st f fd) (S : FnScope N ps (defScope st)) (len : ∀ vs H Q E, sp vs H Q E → vs.length = ps.length)
    (hbody : ∀ (cdv : Value) (A : Around) (outer : List Env) (s : Shared) (H : Hp) (vs : List V) (Q : VK) (E : XK), Room k (A.deeper (envOfC qual (defScope st) s.heap.objs.size f cdv)) → sp vs H Q E →
      ∃ t, PSs (cxOf (CX1 P w) P w K mg base N qual (defScope st) f cdv A outer s H E).nox (defBody st) t ∧ t { nx := fun _ H' => Q .non H', rt := Q } (start N vs) H) : FnOk P w K mg base (CX1 P w) (k + 1) f fd ps sp := by
  obtain ⟨oc, od, kV, doc, pm, an, cdv, ct, osl, rfl, lk, hcd⟩ := F.ex
  refine fn_of lk hcd S len fun A outer s H vs Q E hr hsp => ?_
  obtain ⟨t, h, q⟩ := hbody cdv A outer s H vs Q E hr hsp
  exact ⟨t, h.nox, q⟩
end
def XAt (a C : Addr) (h : Heap) : Prop := ∃ o vs, h.get? a = some o ∧ o.cls = .ref C ∧ o.data = .fields vs
abbrev exO (a C : Addr) : HO := .ext (XAt a C)
structure XCl (K : PySem.W.Frag) (C : Addr) : Prop where
  q : PySem.W.excIn K C bmV "ValueError.__new__" = true
  ga : PySem.W.findIn K (.ref C) "__getattribute__" = some (some (.builtin "BaseException.__getattribute__"))
  gt : PySem.W.findIn K (.ref C) "__getattr__" = some none
  cl : PySem.W.findIn K (.ref C) "__class__" = some (some (.builtin "object.__class__"))
  gg : PySem.W.specialIn K (.builtin "object.__class__") "__get__" = some (some (.builtin "getset_descriptor.__get__"))
  tk : PySem.W.takesIn K (.builtin "object.__class__") = some true
  mo : PySem.W.mroIn K C (.type "object") = some true
  mb : PySem.W.mroIn K C (.type "BaseException") = some true
  ct : PySem.W.typeIn K (.ref C) = some (.type "type")
theorem XAt.ty {a C : Addr} {h : Heap} {M : Model} (p : XAt a C h) : PySem.W.Looks M h (typeOf (.ref a)) (.ref C) := by
  obtain ⟨o, vs, ho, hc, hd⟩ := p
  exact hc ▸ (PySem.W.Looks.ld ho).andThen .now
theorem XCl.look {K : PySem.W.Frag} {C : Addr} (c : XCl K C) : ∃ oC, K.lookup C = some oC ∧ ∃ cd, oC.data = .cls cd := by
  have q := c.q
  unfold PySem.W.excIn at q
  split at q
  · exact ⟨_, by assumption, _, rfl⟩
  · cases q
theorem XCl.ist {K : PySem.W.Frag} {C : Addr} (c : XCl K C) {M : Model} {h : Heap} (X : K.In h) : PySem.W.Looks M h (isType (.ref C)) true := by
  obtain ⟨oC, look, cd, hd⟩ := c.look
  obtain ⟨c1, d1, da, sl⟩ := oC
  cases hd
  intro A' Q' E' s' k q
  unfold isType loadHead
  exact wpAny_bind (wpAny_loadPart (k _ _ (X _ _ look)) (wpAny_pure q))
section
variable {K : PySem.W.Frag} {a C : Addr} {prog : Program} {w : World} {A : Around} {E : Value → Shared → Prop} {s : Shared}
open Builtin Builtin.ObjectAttr in
theorem exc_find {M : Model} {h : Heap} (c : XCl K C) (X : K.In h) : PySem.W.Looks M h (find (.ref a) (.ref C) "__class__") (.bind (.builtin "getset_descriptor.__get__") (.builtin "object.__class__")) := by
  have l1 := PySem.W.looks_findIn (M := M) X c.cl
  have l2 := PySem.W.looks_specialIn (M := M) X c.gg
  have l3 := PySem.W.looks_takesIn (M := M) X c.tk
  have l4 : PySem.W.Looks M h (dataDescriptor? (some (.builtin "object.__class__")) (some (.builtin "getset_descriptor.__get__"))) (some (.builtin "getset_descriptor.__get__", .builtin "object.__class__")) := l3.andThen .now
  exact l1.andThen (PySem.W.Looks.andThen (t := getOf (some (.builtin "object.__class__"))) l2 (l4.andThen (PySem.W.Looks.tag .now)))
theorem exc_cget {R : Result → Shared → Prop} {tp : Value} (c : XCl K C) (X : K.In s.heap) (p : XAt a C s.heap) (h : R (.ok (.ret (.ref C))) s) :
    codeAny (model prog w) A (.call (.builtin "getset_descriptor.__get__") ⟨[.builtin "object.__class__", .ref a, tp], []⟩) R s := by
  obtain ⟨hp, g, dr, t, os⟩ := s
  have t0 := p.ty (M := model prog w)
  have t1 := PySem.W.looks_mroIn (M := model prog w) X c.mo
  refine codeAny_call_builtin PySem.W.KF.slot_gs.plain PySem.W.KF.entry_gs (PySem.W.KF.slot_gs.check _ _ _ _ _ _ _ _ PySem.W.KF.type_class (PySem.W.KF.args_gs _ _ _) ?_)
  unfold Builtin.«getset_descriptor.__get__» Builtin.Getset_descriptor.descrGet
  rw [PySem.W.dga_obj]; refine wpAny_bind (wpAny_pure ?_)
  unfold Builtin.Getset_descriptor.descrGetter Builtin.Getset_descriptor.descrCheckInstance Builtin.Getset_descriptor.descrNameAndClass isInstance; simp only [PySem.W.KF.owner_class]
  repeat lk
  refine ⟨Code.quiet_builtin _ (by decide +kernel), codeAny_builtin PySem.W.KF.entry_class ?_⟩
  unfold Builtin.«object.__class__» shownTypeOf
  repeat lk
  exact h
theorem exc_chk {M : Model} {nameV : Value} {Q : Unit → Shared → Prop} (c : XCl K C) (X : K.In s.heap) (p : XAt a C s.heap) (h : Q () s) : wpAny M A (checkBuiltinCall "BaseException.__getattribute__" ⟨[.ref a, nameV], []⟩) Q E s := by
  have hk : builtinKind "BaseException.__getattribute__" = some .slot := by decide +kernel
  have hs : splitId "BaseException.__getattribute__" = some ("BaseException", "__getattribute__") := by decide +kernel
  have l5 : PySem.W.Looks M s.heap (isInstance (.ref a) (.type "BaseException")) true := (p.ty (M := M)).andThen (PySem.W.looks_mroIn (M := M) X c.mb)
  have ha := PySem.F.args_bexc_ga (.ref a) nameV
  exact PySem.W.check_slot (i := "BaseException.__getattribute__") (owner := "BaseException") (n := "__getattribute__") (self := .ref a) (rest := [nameV]) (kw := []) hk hs l5 ha h
theorem exc_ent {tk : Tok} {Q : Fin → Shared → Prop} (c : XCl K C) (X : K.In s.heap) (p : XAt a C s.heap) (h : Q (.done (.ret (.ref C))) s) :
    wpAny (model prog w) A (Builtin.«object.__getattribute__» ⟨[.ref a, .str "__class__" tk], []⟩) Q E s := by
  obtain ⟨hh, g, d, t, os⟩ := s
  have t0 := p.ty (M := model prog w)
  have l3 := exc_find (a := a) (M := model prog w) c X
  unfold Builtin.«object.__getattribute__»
  refine wpAny_bind (wpAny_pure ?_)
  refine wpAny_bind (wpAny_pure ?_)
  refine wpAny_bind (t0.at (wpAny_bind (l3.at ?_)))
  dsimp only
  unfold Builtin.ObjectAttr.bindTo
  dsimp only
  refine wpAny_bind (wpAny_holding (wpAny_call (exc_cget c X p ?_)))
  exact wpAny_pure h
theorem exc_ga {tk : Tok} {R : Result → Shared → Prop} (c : XCl K C) (X : K.In s.heap) (p : XAt a C s.heap) (h : R (.ok (.ret (.ref C))) s) :
    codeAny (model prog w) A (.call (.builtin "BaseException.__getattribute__") ⟨[.ref a, .str "__class__" tk], []⟩) R s :=
  codeAny_call_builtin PySem.F.attr_ValueError.ga.plain PySem.F.entry_bexc_ga (exc_chk c X p (exc_ent c X p h))
theorem exc_class {Q : Option Value → Shared → Prop} (c : XCl K C) (X : K.In s.heap) (p : XAt a C s.heap) (h : Q (some (.ref C)) { s with toks := s.toks + 1 }) : wpAny (model prog w) A (getAttr? (.ref a) "__class__") Q E s := by
  obtain ⟨hh, g, d, t, os⟩ := s
  have t0 := p.ty (M := model prog w)
  have l1 := PySem.W.looks_findIn (M := model prog w) X c.ga
  have l2 := PySem.W.looks_findIn (M := model prog w) X c.gt
  have gb := PySem.F.attr_ValueError.ga.bind (.ref a)
  unfold getAttr? getAttrBy? getAttrBy
  refine wpAny_bind (wpAny_mkText (wpAny_bind (wpAny_attempt (wpAny_holding (wpAny_bind (t0.at (wpAny_bind (l1.at ?_))))))))
  have n1 : (Value.builtin "BaseException.__getattribute__" == Value.builtin "object.__getattribute__") = false := by decide +kernel
  dsimp only
  rw [n1, Bool.and_false, if_neg Bool.false_ne_true]
  unfold getAttrByItsOwn
  refine wpAny_bind (l2.at ?_)
  refine wpAny_bind (wpAny_attempt (wpAny_holding ?_))
  unfold callGetattribute
  rw [Bool.false_and, if_neg Bool.false_ne_true]
  unfold boundAndCalled
  rw [gb]
  refine wpAny_bind (wpAny_pure ?_)
  dsimp only [List.cons_append, List.nil_append]
  refine wpAny_call (exc_ga (s := ⟨hh, g, d, t + 1, os⟩) c X p ?_)
  dsimp only
  have hho : handedOut (.ref C) = pure (.ref C) := rfl
  rw [hho]
  exact wpAny_pure (wpAny_pure h)
theorem kitx_exc (c : XCl K C) : PySem.W.KitX K (.ref a) (.ref C) (XAt a C) where
  ty := fun _ _ _ p => p.ty
  it := fun _ _ X _ => c.ist X
  ne := fun h tp dd its n sl X htp => by
    obtain ⟨oC, look, cd, hd⟩ := c.look
    refine Bool.eq_false_iff.mpr fun q => ?_
    have e : C = tp := Value.ref.inj (beq_iff_eq.mp q)
    subst e
    have z := (X _ _ look).symm.trans htp
    rw [← Option.some.inj z.symm] at hd
    cases hd
  ca := fun X p k => exc_class c X p k
end
section
variable {X : Cx}
theorem call_isExc {K : PySem.W.Frag} (hK : X.K = K) (cv : V) (cu : Value) (hcv : ∀ u, RelV cv u → u = cu) : CallR X (.builtin "isinstance") (fun xs H Q => ∃ a C b, xs = [.ref a, cv] ∧ H a = some (exO a C) ∧ XCl K C ∧ PySem.W.kitOne K (.ref C) cu = some b ∧ Q (.bl b) H) := by
  subst hK
  intro pins s σ H xs us Q I r h
  obtain ⟨a, C, b, rfl, ea, c, e, q⟩ := h
  obtain ⟨u, w', rfl, r1, r2⟩ := vals2 r
  cases hcv _ r2
  cases (show u = Value.ref a from r1)
  have p : XAt a C s.heap := (show ObjOk X.prog X.w H s.heap a (exO a C) from I.hok a _ ea).1
  exact PySem.W.kia_one (kitx_exc c) I.kIn p e (fun z => nomatch z) fun tk => ⟨.bl b, H, I.tok tk, rfl, q⟩
theorem Cx.Ok.repn (o : X.Ok) (pn : List (Addr × Obj)) : ({ X with pn := pn } : Cx).Ok := ⟨o.mod, o.kind, o.glob, o.blt, o.above, o.inj, o.has, o.cab, o.hd, o.frames, o.stk, o.exf, o.bs, o.bsz, o.noex, o.exfs, o.funs, o.frf⟩
theorem Cx.Ok.unpn {pn : List (Addr × Obj)} (o : ({ X with pn := pn } : Cx).Ok) : X.Ok := ⟨o.mod, o.kind, o.glob, o.blt, o.above, o.inj, o.has, o.cab, o.hd, o.frames, o.stk, o.exf, o.bs, o.bsz, o.noex, o.exfs, o.funs, o.frf⟩
variable {pins : List (Addr × Obj)} {σ : St} {H : Hp} {s : Shared}
theorem Inv.repn (I : Inv X pins σ H s) : Inv { X with pn := X.pn ++ pins } [] σ H s :=
  ⟨I.ok.repn _, I.os, I.bare, I.base, I.loc, I.cell, I.free, I.freeC, fun p hp => I.pin p (by simpa using hp), I.hok, I.len⟩
theorem Inv.unpn (I : Inv { X with pn := X.pn ++ pins } [] σ H s) : Inv X pins σ H s :=
  ⟨I.ok.unpn, I.os, I.bare, I.base, I.loc, I.cell, I.free, I.freeC, fun p hp => I.pin p (List.mem_append_left _ hp), I.hok, I.len⟩
theorem SP.unpn {D : Ends} {f : Flow} {s' : Shared} (h : SP { X with pn := X.pn ++ pins } [] D f s') : SP X pins D f s' := by
  cases f with
  | next => obtain ⟨σ', H', I, q⟩ := h; exact ⟨σ', H', I.unpn, q⟩
  | brk => obtain ⟨σ', H', I, q⟩ := h; exact ⟨σ', H', I.unpn, q⟩
  | cont => obtain ⟨σ', H', I, q⟩ := h; exact ⟨σ', H', I.unpn, q⟩
  | ret u => obtain ⟨v, σ', H', I, r, q⟩ := h; exact ⟨v, σ', H', I.unpn, r, q⟩
abbrev tcx (X : Cx) (pn : List (Addr × Obj)) (E : XK) : Cx := Cx.wish { X with pn := pn } fun e s' => ∃ σ H s, Inv { X with pn := pn } [] σ H s ∧ CX1 X.prog X.w X.stack H s E e s'
theorem passT {P : Program} {w : World} {pn : List (Addr × Obj)} {E : XK} (h1 : X.prog = P) (h2 : X.w = w) : Passes (CX1 P w) (tcx X pn E) E := fun pins σ H s e s' I h => by
  subst h1 h2
  exact ⟨σ, H, s, (I.pins_of (pins' := []) fun p hp => nomatch hp).unwish, h⟩
abbrev hcx (X : Cx) (e : Value) : Cx := { X with A := X.A.mark (some e), calm := false, xe := fun _ _ => False }
theorem Inv.held (I : Inv X pins σ H s) (e : Value) : Inv (hcx X e) pins σ H s :=
  ⟨⟨I.ok.mod, I.ok.kind, I.ok.glob, I.ok.blt, I.ok.above, I.ok.inj, I.ok.has, I.ok.cab, (fun z => nomatch z), I.ok.frames, I.ok.stk, I.ok.exf, I.ok.bs, I.ok.bsz, I.ok.noex, I.ok.exfs, I.ok.funs, I.ok.frf⟩, I.os, I.bare, I.base, I.loc, I.cell, I.free, I.freeC, I.pin, I.hok, I.len⟩
theorem Inv.unheld {e : Value} (I : Inv (hcx X e) pins σ H s) (hd : X.calm = true → X.A.handled = none) : Inv X pins σ H s :=
  ⟨⟨I.ok.mod, I.ok.kind, I.ok.glob, I.ok.blt, I.ok.above, I.ok.inj, I.ok.has, I.ok.cab, hd, I.ok.frames, I.ok.stk, I.ok.exf, I.ok.bs, I.ok.bsz, I.ok.noex, I.ok.exfs, I.ok.funs, I.ok.frf⟩, I.os, I.bare, I.base, I.loc, I.cell, I.free, I.freeC, I.pin, I.hok, I.len⟩
theorem name_gone {M : Model} {A : Around} {E : Value → Shared → Prop} {i : Nat} {n : Str} {pos : Pos} {Q : Unit → Shared → Prop} (I : Inv X pins σ H s) (hN : X.N.Nodup) (hi : X.N[i]? = some n) (hn : X.env.scope.names.lookup n = some .local)
    (h : ∀ s', Inv X pins (σ.set i none) H s' → Q () s') : wpAny M A (do bindName X.env n .none; unbindBehindTheSuite X.env n pos) Q E s := by
  obtain ⟨m, hns, hl⟩ := id I.loc
  have hcls : (X.env.scope.kind == .class || (X.env.scope.kind == .module && X.env.locals != X.env.globals)) = false := by rw [I.ok.kind]; rfl
  refine wpAny_nameGoes_keeps hn hns hcls fun h' v hns' hs => ?_
  have far : ∀ b o, X.s₀.heap.get? b = some o → b ≠ X.env.locals := fun b o e => Nat.ne_of_lt (Nat.lt_of_lt_of_le (Heap.lt_size e) I.ok.above)
  refine h _ ⟨I.ok, I.os, I.bare, ⟨fun b o e n hb hx => (hs.2 b (far b o e)).trans (I.base.keep b o e n hb hx), fun b o e n hb hx => ?_, I.base.free, fun b o e hx => ?_, I.base.tups, I.base.frzs, I.base.tbls⟩, ⟨_, hns', fun j y v' e1 e2 e3 => ?_⟩, fun y c e => ?_, I.free, I.freeC, fun p hp => ?_, fun b ob e => ?_, ?_⟩
  · obtain ⟨sl, e1⟩ := I.base.slot b o e n hb hx
    exact ⟨sl, (hs.2 b (far b o e)).trans e1⟩
  · obtain ⟨o', e1⟩ := I.base.there b o e hx
    exact ⟨o', (hs.2 b (far b o e)).trans e1⟩
  · have hj : j ≠ i := fun z => by
      subst z
      have : j < σ.length := by rw [I.len]; exact (List.getElem?_eq_some_iff.mp hi).1
      rw [List.getElem?_set_self this] at e2; cases e2
    rw [List.getElem?_set_ne (Ne.symm hj)] at e2
    obtain ⟨u', r', q⟩ := hl j y v' e1 e2 e3
    refine ⟨u', r', ?_⟩
    rcases q with ⟨k, e⟩ | ⟨k, c, e, z⟩
    · have ny : y ≠ n := fun e => hj (nodup_ix hN e1 (e ▸ hi))
      exact .inl ⟨k, by show (if y = n then v else m y) = _; rw [if_neg ny]; exact e⟩
    · exact .inr ⟨k, c, e, z.sameBut hs (I.cne y c e)⟩
  · obtain ⟨w', z⟩ := I.cell y c e
    exact ⟨w', z.sameBut hs (I.cne y c e)⟩
  · obtain ⟨e, n, ne, nf, d⟩ := I.pin p hp
    exact ⟨(hs.2 p.1 ne).trans e, n, ne, nf, d⟩
  · refine (I.hok b ob e).stay (fun c w' hc q => (hs.2 c ?_).trans q) (fun _ q => q) fun _ _ q => q
    rintro rfl
    rcases hc with z | z
    · rw [← z, I.free] at e; cases e
    · rw [I.free] at z; cases z
  · rw [List.length_set]; exact I.len
theorem exc_match {K : PySem.W.Frag} {M : Model} {A : Around} {E : Value → Shared → Prop} {a C B : Addr} {Q : Bool → Shared → Prop} (KX : K.In s.heap) (p : XAt a C s.heap) (hB : XCl K B) (hs : PySem.W.mroIn K C (.ref B) = some true) (h : Q true s) :
    wpAny M A (excMatches (.ref a) (.ref B)) Q E s := by
  obtain ⟨hp, g, d, tk, os⟩ := s
  have t0 := p.ty (M := M)
  have b1 := PySem.W.looks_typeIn (M := M) KX hB.ct
  have b2 := hB.ist (M := M) KX
  have b3 := PySem.W.looks_mroIn (M := M) KX hB.mb
  have b4 := PySem.W.looks_mroIn (M := M) KX hs
  unfold excMatches isInstance
  refine wpAny_bind (wpAny_bind (b1.at ?_))
  rw [tc_notTuple]
  refine wpAny_pure ?_
  rw [if_neg Bool.false_ne_true]
  refine wpAny_bind (wpAny_pure ?_)
  simp only [List.forIn_cons, List.forIn_nil]
  unfold isExcClass
  refine wpAny_bind (wpAny_bind (wpAny_bind (wpAny_bind (b2.at ?_))))
  rw [if_pos rfl]
  refine b3.at ?_
  rw [Bool.not_true, if_neg Bool.false_ne_true]
  refine wpAny_pure (wpAny_pure ?_)
  refine wpAny_bind (t0.at ?_)
  refine wpAny_bind (wpAny_bind (wpAny_bind (b4.at ?_)))
  rw [if_pos rfl]
  exact wpAny_pure (wpAny_pure (wpAny_pure h))
def tTry (i : Nat) (E : XK) (tb th : TS) : TS := fun D σ H => tb D σ H ∧ ∀ C Hx a, E (.ref C) none Hx → Hx a = none →
  th { nx := fun σ' H' => D.nx (σ'.set i none) H', rt := D.rt, bk := fun σ' H' => D.bk (σ'.set i none) H', ct := fun σ' H' => D.ct (σ'.set i none) H' } ((List.replicate σ.length none).set i (some (.ref a))) (upd Hx a (exO a C))
theorem ps_try {K : PySem.W.Frag} {body suite : List Stmt} {b₀ : Stmt} {x n : Str} {i : Nat} {B : Addr} {tb th : TS} {E : XK} {np hp pos : Pos} (hK : X.K = K) (hN : X.N.Nodup) (hi : X.N[i]? = some n) (hn : X.env.scope.names.lookup n = some .local)
    (hst : X.stack = X.env :: X.outer) (hfr : X.env.frame = some X.env.locals) (hg : Gl X x) (hm : X.mg x = some (.ref B)) (hB : XCl K B) (hE : ∀ C Hx, E (.ref C) none Hx → PySem.W.mroIn K C (.ref B) = some true)
    (hb : ∀ pn, PSs (tcx X pn E) body tb) (hs : ∀ e, PSs (hcx X e) (b₀ :: suite) th) (hdb : (x == ("__debug__" : Str)) = false := by decide) :
    PS X (.Try body [.ExceptHandler (some (.Name x np)) (some n) (b₀ :: suite) hp] [] [] pos) (tTry i E tb th) := by
  subst hK
  constructor
  intro pins s σ H D I hr
  obtain ⟨r1, r2⟩ := hr
  refine wpAny_Try_except ?_
  refine wpAny_mono (hb (X.pn ++ pins) [] s σ H D (I.repn.wish _) r1) (fun f s1 hf => ?_) (fun e s1 he => ?_)
  · have q := hf.unwish.unpn
    cases f with
    | next => exact wpAny_execs_nil q
    | brk => exact q
    | cont => exact q
    | ret u => exact q
  · obtain ⟨σ1, H0, s0, I0, a, T, C, H', rfl, os, bare, un, hok, fl, hE'⟩ := he
    have J : Inv X pins σ1 H0 s0 := I0.unpn
    have J1 : Inv X pins σ1 H' s1 := J.call' os un hok bare (fun b z => absurd z (by simp))
    obtain ⟨na, nT, ua, uT, a0, oe, vs, oT, ts, eo, hc, hd, e1, hTe, hT, hdT, e3⟩ := fl
    have hin : ∀ env ∈ X.stack, ∀ b, env.frame = some b → b ∈ [a, T] ++ frs X.stack := fun env hmm b hbb => List.mem_append_right _ (List.mem_filterMap.mpr ⟨env, hmm, hbb⟩)
    have ff := PySem.W.funFrames_hide J1.stack hin
    have step : ∀ h', (PySem.W.hideAll s1.heap ([a, T] ++ frs X.stack)).StaysIn h' → h'.FunFrames (PySem.W.hideAll s1.heap ([a, T] ++ frs X.stack)) X.stack → h'.TracedW (PySem.W.hideAll s1.heap ([a, T] ++ frs X.stack)) a (.ref C) a0 → s1.heap.UpToSlots h' →
        Inv X pins σ1 H' { s1 with heap := h' } ∧ XAt a C h' ∧ Un (frs X.stack) [] H0 H' s0.heap h' ∧ HOk X.prog X.w H' h' := fun h' k1 k2 k3 k4 => by
      obtain ⟨T2, u, ok, f2⟩ := fly_step (P := X.prog) (w := X.w) (fs := frs X.stack) (H0 := H0) (h0 := s0.heap) (a := a) un hok J1.stack J1.stkFree (S0 := [a, T]) (fun b hb => by
        rcases List.mem_cons.mp hb with z | z
        · rw [z]; exact ⟨na, ua⟩
        · have z : b = T := by simpa using z
          rw [z]; exact ⟨nT, uT⟩) (by simp) (fun b hb => .inl hb) (fun b hb => hb) k1 k2 k3 k4
      obtain ⟨_, oe2, vs2, _, _, g1, g2, g3, _⟩ := f2.tr
      exact ⟨J.call' (s' := { s1 with heap := h' }) os u ok bare (fun b z => absurd z (by simp)), ⟨oe2, vs2, g1, g2.1, g3⟩, u, ok⟩
    rw [hst] at ff step
    refine wpAny_looks_onW (base := PySem.W.hideAll s1.heap ([a, T] ++ frs (X.env :: X.outer))) (env := X.env) (outer := X.outer) (L := X.env.locals) (by rw [J1.ok.frames, hst]) hfr
      ⟨fun b ob e => PySem.W.of_hideAll _ e, PySem.W.hideAll_none _ (by simp), ff, oe, vs, T, oT, ts, eo, hc, hd, e1, PySem.W.hideAll_none _ (by simp), hTe, hT, hdT, e3⟩ fun h4 held up4 => ?_
    refine wpAny_landsW held fun h5 fly5 up5 => ?_
    obtain ⟨J5, x5, _, _⟩ := step h5 fly5.1 fly5.2.2.1 fly5.2.2.2 (up4.trans up5)
    refine wpAny_handleBy_cons (codeAny_handlers_test (ld_glob (X := hcx X (.ref a)) (J5.held (.ref a)) hg hm (exc_match (s := { s1 with heap := h5 }) J5.kIn x5 hB (hE C H' hE') ?_) hdb)) (by intro q; cases q)
    refine codeAny_handlers_suite_as ?_
    refine lands_againW fly5 fun h6 fly6 up6 => ?_
    obtain ⟨J6, x6, u6, ok6⟩ := step h6 fly6.1 fly6.2.2.1 fly6.2.2.2 ((up4.trans up5).trans up6)
    have nea : ∀ b o, s0.heap.get? b = some o → b ≠ a := fun b o e z => by rw [z, na] at e; cases e
    have net : ∀ b o, H' b = some o → b ≠ a := fun b o e z => by rw [z, ua] at e; cases e
    have ok7 : HOk X.prog X.w (upd H' a (exO a C)) h6 := fun b v e => by
      by_cases z : b = a
      · subst z
        rw [upd_same] at e; cases e
        obtain ⟨o, vs', g1, g2, g3⟩ := x6
        exact ⟨⟨o, vs', g1, g2, g3⟩, ⟨o, g1⟩, fun h1 h2 ⟨o1, v1, p1, p2, p3⟩ k => ⟨o1, v1, k _ p1, p2, p3⟩⟩
      · rw [upd_ne z] at e
        exact (ok6 b v e).stay (fun _ _ _ q => q) (fun c q => by rw [upd_ne (net c _ q)]; exact q) fun c ys q => by rw [upd_ne (net c _ q)]; exact q
    rw [← hst] at u6
    have u7 : Un (frs X.stack) [] H0 (upd H' a (exO a C)) s0.heap h6 := ⟨u6.keep, u6.slot, fun b o e n hx => by rw [upd_ne (nea b o e)]; exact u6.free b o e n hx, u6.there, fun b ys q => by
      have := u6.tups b ys q
      rw [upd_ne (net b _ this)]; exact this, fun b o v q => by
      have := u6.frzs b o v q
      rw [upd_ne (net b _ this)]; exact this, fun b ps q => by
      obtain ⟨more, this⟩ := u6.tbls b ps q
      exact ⟨more, by rw [upd_ne (net b _ this)]; exact this⟩⟩
    have J7 : Inv X pins σ1 (upd H' a (exO a C)) { s1 with heap := h6 } := J.call' (s' := { s1 with heap := h6 }) os u7 ok7 bare (fun b z => absurd z (by simp))
    have J8 : Inv X pins (List.replicate σ.length none) (upd H' a (exO a C)) { s1 with heap := h6 } := J7.weak (by rw [List.length_replicate, I.len, J7.len]) (fun k v e => by
      rw [List.getElem?_replicate] at e
      split at e <;> cases e)
    refine store_ok (X := hcx X (.ref a)) (J8.held (.ref a)) hN hi (.inl hn) (v := .ref a) rfl (fun s9 J9 => ?_) (.inr hn)
    refine wpAny_mono (hs (.ref a) pins s9 _ _ _ J9 (r2 C H' a hE' ua)) (fun f s10 h10 => ?_) fun _ _ z => z.elim
    have fin : ∀ {σ' : St} {H'' : Hp} {R : Shared → Prop}, Inv (hcx X (.ref a)) pins σ' H'' s10 → (∀ s', Inv X pins (σ'.set i none) H'' s' → R s') → wpAny (model X.prog X.w) X.A (do bindName X.env n .none; unbindBehindTheSuite X.env n hp) (fun _ s₃ => R s₃) X.xe s10 :=
      fun {σ' H'' R} K9 hR => name_gone (K9.unheld I.ok.hd) hN hi hn hR
    cases f with
    | next => obtain ⟨σ', H'', K9, q⟩ := h10; exact fin K9 fun s' K10 => ⟨_, _, K10, q⟩
    | brk => obtain ⟨σ', H'', K9, q⟩ := h10; exact fin K9 fun s' K10 => ⟨_, _, K10, q⟩
    | cont => obtain ⟨σ', H'', K9, q⟩ := h10; exact fin K9 fun s' K10 => ⟨_, _, K10, q⟩
    | ret u => obtain ⟨v, σ', H'', K9, r, q⟩ := h10; exact fin K9 fun s' K10 => ⟨v, _, _, K10, r, q⟩
end
end L2
namespace L2
open PySem PySem.Spec PyProof.Rows
structure Has (P : Program) (w : World) (K : PySem.W.Frag) (mg : Str → Option Value) (base : Heap) (k : Nat) (x : Str) (ps : List Str) (sp : Sp) : Prop where
  ex : ∃ f fd, FnOk P w K mg base (CX1 P w) k f fd ps sp ∧ Binds K fd ps [] ∧ PySem.W.keepIn K (.ref f) = true ∧ mg x = some (.ref f)
section
variable {X : Cx} {P : Program} {w : World} {K : PySem.W.Frag} {mg : Str → Option Value} {base : Heap} {k : Nat} {ps : List Str} {sp : Sp} {E : XK} {x : Str} {p pos : Pos} {e : Expr} {es : List Expr} {t : TA}
theorem pe_callH (h : Has P w K mg base k x ps sp) (hr : Room k X.A) (hx : Passes (CX1 P w) X E) (ha : PA X (e :: es) t) (h1 : X.prog = P := by rfl) (h2 : X.w = w := by rfl) (h3 : X.K = K := by rfl) (h4 : X.mg = mg := by rfl) (h5 : X.base = base := by rfl) (hg : Gl X x := by rfl)
    (hdb : (x == ("__debug__" : Str)) = false := by decide) (he : starEach (e :: es) X.env = (false, eval e X.env) :: starEach es X.env := by rfl) (hpl : (backTo pos (starEach es X.env)).any (·.1) = false := by rfl) :
    PE X (.Call (.Name x p) (e :: es) [] pos) (tCall sp [] E t) := by
  subst h1 h2 h3 h4 h5
  obtain ⟨f, fd, F, b, kp, m⟩ := h.ex
  exact pe_call F hr hg m kp b .nil hx ha hdb he hpl
end
def tabV (D : List (Str × Str)) : List (Str × KTD.Dat) := D.map fun p => (p.1, .flat (.str p.2))
structure Tab (K : PySem.W.Frag) (a : Addr) (D : List (Str × Str)) : Prop where
  look : KTD.tabLook (KTD.datLooks fun b => K.lookup b) (fun b => K.lookup b) a (tabV D) = true
theorem Tab.here {K : PySem.W.Frag} {a : Addr} {D : List (Str × Str)} {h : Heap} (T : Tab K a D) (KX : K.In h) : KTD.Here h h a (tabV D) := ⟨PySem.W.kt_text_in KX T.look, fun _ _ e => e⟩
section
variable {X : Cx} {K : PySem.W.Frag} {a : Addr} {D : List (Str × Str)}
theorem op_notinTab (hK : X.K = K) (T : Tab K a D) : OpR X (compareOp .NotIn) (fun x y H Q => ∃ z, x = .str z ∧ y = .ref a ∧ Q (.bl (!KTD.inKeys z (tabV D))) H) := by
  subst hK
  intro pins s σ H x y v u Q I rx ry h
  obtain ⟨z, rfl, rfl, q⟩ := h
  obtain ⟨t, rfl⟩ := rx
  cases ry
  exact KTD.notin_text (T.here I.kIn) ⟨.bl _, H, I.tok _, rfl, q⟩
theorem ix_turned (hK : X.K = K) (T : Tab K a [("(", ")"), (")", "(")]) : IxR X (fun x y H Q => ∃ c, x = .ref a ∧ y = .str ⟨#[c]⟩ ∧ (c = 40 ∨ c = 41) ∧ Q (.str ⟨#[81 - c]⟩) H) := by
  subst hK
  intro value slice pins s σ H x y v u Q I rx ry h hs
  obtain ⟨c, rfl, rfl, hc, q⟩ := h
  cases rx
  obtain ⟨t, rfl⟩ := ry
  have e1 : (Str.ofString "(") = ⟨#[40]⟩ := by decide +kernel
  have e2 : (Str.ofString ")") = ⟨#[41]⟩ := by decide +kernel
  have ne : ¬ ((⟨#[41]⟩ : Str) = ⟨#[40]⟩) := by decide +kernel
  refine KTD.item_textA (T.here I.kIn) rfl ?_ ?_ hs
  · rcases hc with rfl | rfl
    · rw [← e1]; decide +kernel
    · rw [← e2]; decide +kernel
  · unfold tabV
    simp only [List.map_cons, List.map_nil, KTD.EachL]
    rcases hc with rfl | rfl
    · rw [if_pos (by rw [e1]; simp)]
      intro t'
      exact ⟨.str _, H, I.tok _, ⟨t', by rw [e2]⟩, q⟩
    · rw [if_neg (by rw [e1]; simp [ne])]
      intro _ t'
      exact ⟨.str _, H, I.tok _, ⟨t', by rw [e1]⟩, q⟩
theorem in_turned (c : Nat) : KTD.inKeys (⟨#[c]⟩ : Str) (tabV [("(", ")"), (")", "(")]) = decide (c = 40 ∨ c = 41) := by
  have e1 : (Str.ofString "(") = ⟨#[40]⟩ := by decide +kernel
  have e2 : (Str.ofString ")") = ⟨#[41]⟩ := by decide +kernel
  have k : ∀ d : Nat, decide ((⟨#[c]⟩ : Str) = ⟨#[d]⟩) = decide (c = d) := fun d => by
    by_cases h : c = d
    · subst h; simp
    · rw [decide_eq_false h, decide_eq_false]
      intro z
      have := congrArg (fun s : Str => s.cps.toList) z
      simp at this
      exact h this
  show (decide ((⟨#[c]⟩ : Str) = Str.ofString "(") || (decide ((⟨#[c]⟩ : Str) = Str.ofString ")") || false)) = _
  rw [e1, e2, k, k, Bool.or_false]
  by_cases h1 : c = 40
  · simp [h1]
  · by_cases h2 : c = 41 <;> simp [h1, h2]
end
section
variable {X : Cx}
theorem bools_at {its : List Value} {bs : List Bool} (r : Vals (bs.map V.bl) its) {i : Nat} {v : Value} (h : its.toArray[i]? = some v) : ∃ b, bs[i]? = some b ∧ v = .bool b := by
  have hl := r.length
  rw [List.length_map] at hl
  have hi : i < its.length := by
    have := (Array.getElem?_eq_some_iff.mp h).1
    simpa using this
  have hb : i < bs.length := by omega
  obtain ⟨u, hu, ru⟩ := r.get (i := i) (x := .bl bs[i]) (by rw [List.getElem?_map, List.getElem?_eq_getElem hb]; rfl)
  have e : its[i]? = some v := by simpa using h
  rw [hu] at e
  cases e
  exact ⟨bs[i], List.getElem?_eq_getElem hb, ru⟩
theorem any_range (bs : List Bool) : ((List.range bs.length).any fun i => (bs[i]?).getD false) = bs.any id := by
  rw [Bool.eq_iff_iff, List.any_eq_true, List.any_eq_true]
  constructor
  · rintro ⟨i, hi, e⟩
    have hi := List.mem_range.mp hi
    rw [List.getElem?_eq_getElem hi] at e
    exact ⟨bs[i], List.getElem_mem hi, e⟩
  · rintro ⟨b, hb, e⟩
    obtain ⟨i, hi, rfl⟩ := List.getElem_of_mem hb
    exact ⟨i, List.mem_range.mpr hi, by rw [List.getElem?_eq_getElem hi]; exact e⟩
theorem all_range (bs : List Bool) : ((List.range bs.length).all fun i => (bs[i]?).getD true) = bs.all id := by
  rw [Bool.eq_iff_iff, List.all_eq_true, List.all_eq_true]
  constructor
  · intro q b hb
    obtain ⟨i, hi, rfl⟩ := List.getElem_of_mem hb
    have := q i (List.mem_range.mpr hi)
    rw [List.getElem?_eq_getElem hi] at this
    exact this
  · intro q i hi
    have hi := List.mem_range.mp hi
    rw [List.getElem?_eq_getElem hi]
    exact q _ (List.getElem_mem hi)
def rBools (K : PySem.W.Frag) (f : List Bool → Bool) : List V → Hp → VK → Prop := fun xs H Q => ∃ (p : Addr) (bs : List Bool), xs = [.ref p] ∧ SqL K H p (bs.map V.bl) ∧ Q (.bl (f bs)) H
theorem call_any (hc : X.calm = true) : CallR X (.builtin "any") (rBools X.K fun bs => bs.any id) := by
  intro pins s σ H xs us Q I r h
  obtain ⟨p, bs, rfl, hq, q⟩ := h
  obtain ⟨u, rfl, rx⟩ := vals1 r
  cases rx
  obtain ⟨its, rv, pl, hz⟩ := I.list hq
  have hlt : p < s.heap.objs.size := by obtain ⟨_, e, _⟩ := pl.isList; exact Heap.lt_size e
  have hlen : its.toArray.size = bs.length := by have := rv.length; rw [List.length_map] at this; simp; omega
  refine call_any_walk (wpAny_pyIter_list pl.isList ⟨s.heap.objs.size, [s.heap.objs.size, p], [s.heap.objs.size], its.toArray.size, _, _, fun i => (bs[i]?).getD false, rfl, Walks.list (A := X.A.in1) (I.ok.hd hc) _ p (Nat.ne_of_lt hlt) its.toArray,
    ⟨⟨_, Heap.get?_push_size _ rfl, rfl, rfl⟩, pl.isList.push _⟩, fun i v s' Q' E' hP hQ => ?_, fun h' tk hk => ?_⟩)
  · obtain ⟨b, e, rfl⟩ := bools_at rv (by simpa using hP)
    dsimp only at hQ
    rw [e] at hQ
    exact wpAny_truthy_bool hQ
  · rw [hlen, any_range bs]
    exact ⟨.bl _, H, I.kept (fun b o e => hk b o (fun z => by rw [List.mem_singleton.mp z] at e; exact absurd (Heap.lt_size e) (Nat.lt_irrefl _)) (Heap.get?_push_of_some _ e)), rfl, q⟩
theorem call_all (hc : X.calm = true) : CallR X (.builtin "all") (rBools X.K fun bs => bs.all id) := by
  intro pins s σ H xs us Q I r h
  obtain ⟨p, bs, rfl, hq, q⟩ := h
  obtain ⟨u, rfl, rx⟩ := vals1 r
  cases rx
  obtain ⟨its, rv, pl, hz⟩ := I.list hq
  have hlt : p < s.heap.objs.size := by obtain ⟨_, e, _⟩ := pl.isList; exact Heap.lt_size e
  have hlen : its.toArray.size = bs.length := by have := rv.length; rw [List.length_map] at this; simp; omega
  refine call_all_walk (wpAny_pyIter_list pl.isList ⟨s.heap.objs.size, [s.heap.objs.size, p], [s.heap.objs.size], its.toArray.size, _, _, fun i => (bs[i]?).getD true, rfl, Walks.list (A := X.A.in1) (I.ok.hd hc) _ p (Nat.ne_of_lt hlt) its.toArray,
    ⟨⟨_, Heap.get?_push_size _ rfl, rfl, rfl⟩, pl.isList.push _⟩, fun i v s' Q' E' hP hQ => ?_, fun h' tk hk => ?_⟩)
  · obtain ⟨b, e, rfl⟩ := bools_at rv (by simpa using hP)
    dsimp only at hQ
    rw [e] at hQ
    exact wpAny_truthy_bool hQ
  · rw [hlen, all_range bs]
    exact ⟨.bl _, H, I.kept (fun b o e => hk b o (fun z => by rw [List.mem_singleton.mp z] at e; exact absurd (Heap.lt_size e) (Nat.lt_irrefl _)) (Heap.get?_push_of_some _ e)), rfl, q⟩
def rRepS : R2 := fun x y H Q => ∃ z k, x = .str z ∧ y = .int k ∧ 0 ≤ k ∧ k < 2 ^ 63 ∧ z.length * k.toNat ≤ 1000 ∧ Q (.str (Txt.mul z k)) H
def rCount : V → List V → Hp → VK → Prop := fun x vs H Q => ∃ z y, x = .str z ∧ vs = [.str y] ∧ Q (.int (Txt.count z y)) H
theorem op_repS : OpR X (binaryOp .Mult) rRepS := by
  intro pins s σ H x y v u Q I rx ry h
  obtain ⟨z, k, rfl, rfl, h0, h1, hl, q⟩ := h
  obtain ⟨t, rfl⟩ := rx
  obtain ⟨t2, rfl⟩ := ry
  refine SB.mul ⟨?_, fun hk hz => ?_, fun hk hz => ?_⟩ fun t' tk => ⟨.str _, H, I.tok _, ⟨t', rfl⟩, q⟩
  · rw [decide_eq_false (by omega), decide_eq_false (by omega)]; rfl
  · obtain ⟨m, rfl⟩ := Int.eq_ofNat_of_zero_le h0
    have hm : 0 < m := by omega
    rw [Int.toNat_natCast] at hl
    have hz1 : z.length ≤ 1000 := Nat.le_trans (Nat.le_mul_of_pos_right _ hm) hl
    have hm1 : z.length ≠ 0 := by
      intro e
      rw [e] at hz
      simp at hz
    have hm2 : m ≤ 1000 := Nat.le_trans (Nat.le_mul_of_pos_left _ (by omega)) hl
    have : (9223372036854775 : Int) ≤ (2 ^ 63 - 1) / (m : Int) := by
      rw [Int.le_ediv_iff_mul_le (by omega)]
      omega
    omega
  · have : z.length * k.toNat ≤ sizeLine := Nat.le_of_lt (small1000 hl)
    unfold Builtin.Str.tooLong
    exact decide_eq_false (by omega)
def gLst (K : PySem.W.Frag) (n : Nat) (t : TGs) : TG := fun v σ H Q => ∃ a xs, v = .ref a ∧ SqL K H a xs ∧ xs.length = n ∧ t xs σ H Q
def rSortI (K : PySem.W.Frag) : List V → Hp → VK → Prop := fun xs H Q => ∃ (p : Addr) (ns : List Int), xs = [.ref p] ∧ SqL K H p (ns.map V.int) ∧ ns.length < 64 ∧ ∀ (ms : List Int) (l : Addr), ms.Perm ns → ms.Pairwise (· ≤ ·) → H l = none → Q (.ref l) (upd H l (.lst (ms.map V.int)))
theorem call_sortI : CallR X (.builtin "sorted") (rSortI X.K) := by
  intro pins s σ H xs us Q I r h
  obtain ⟨p, ns, rfl, hq, h64, q⟩ := h
  obtain ⟨u, rfl, rx⟩ := vals1 r
  cases rx
  obtain ⟨its, rv, pl, hz⟩ := I.list hq
  have hl : its.length = ns.length := by have := rv.length; rw [List.length_map] at this; omega
  refine sorted_ints pl.isList (intsAre_of rv) (by omega) fun out ms hi hp hs => ?_
  obtain ⟨e, he⟩ := sortedAll_at s.heap its out
  have hml : ms.length = ns.length := hp.length_eq
  have new : ObjOk X.prog X.w (upd H (s.heap.objs.size + 1) (.lst (ms.map V.int))) (sortedAll s.heap its out) (s.heap.objs.size + 1) (.lst (ms.map V.int)) :=
    ⟨by rw [List.length_map, hml]; rw [List.length_map] at hz; exact hz, out.toList, e, vals_ints hi, by simpa [seqObj] using he⟩
  exact ⟨.ref _, _, I.laid (t' := s.toks) (fun b o e => sortedAll_old e) (Nat.le_succ _) new, rfl, q ms _ hp hs (I.hok.fresh (Nat.le_succ _))⟩
def rSortS (K : PySem.W.Frag) : List V → Hp → VK → Prop := fun xs H Q => ∃ (p : Addr) (ts : List Str), xs = [.ref p] ∧ SqL K H p (ts.map V.str) ∧ ts.length < 64 ∧ ∀ (ms : List Str) (l : Addr), ms.Perm ts → sortedS ms = true → H l = none → Q (.ref l) (upd H l (.lst (ms.map V.str)))
end
end L2
namespace L2
open PySem PySem.Spec PyProof.Rows
namespace RevF
theorem init_rev : Slot "reversed" "__init__" "object.__init__" :=
  .of (owner := "object") (n := "__init__") (by rw [typeLookup_type, builtinLookup_eq_fast]; kernel_rfl) (by decide +kernel) (by decide +kernel) (by decide +kernel) (by first | exact .inl (by decide +kernel) | exact .inr (by decide +kernel)) (by rw [isSubtype_type]; kernel_rfl)
theorem next_rev : Slot "reversed" "__next__" "reversed.__next__" :=
  .of (owner := "reversed") (n := "__next__") (by rw [typeLookup_type, builtinLookup_eq_fast]; kernel_rfl) (by decide +kernel) (by decide +kernel) (by decide +kernel) (by first | exact .inl (by decide +kernel) | exact .inr (by decide +kernel)) (by rw [isSubtype_type]; kernel_rfl)
theorem iter_rev : Slot "reversed" "__iter__" "reversed.__iter__" :=
  .of (owner := "reversed") (n := "__iter__") (by rw [typeLookup_type, builtinLookup_eq_fast]; kernel_rfl) (by decide +kernel) (by decide +kernel) (by decide +kernel) (by first | exact .inl (by decide +kernel) | exact .inr (by decide +kernel)) (by rw [isSubtype_type]; kernel_rfl)
theorem e_next : entryFor table "reversed.__next__" = some Builtin.«reversed.__next__» := entryFor_of_tree (by kernel_rfl)
theorem e_iter : entryFor table "reversed.__iter__" = some Builtin.«dict_keyiterator.__iter__» :=
  entryFor_alias (id' := "dict_keyiterator.__iter__") (by kernel_rfl) (by first | rfl | decide +kernel) (by decide +kernel) (by kernel_rfl)
theorem a_next (a : Value) : argsOk "reversed.__next__" ⟨[a], []⟩ := by unfold argsOk; kernel_rfl
theorem a_iter (a : Value) : argsOk "reversed.__iter__" ⟨[a], []⟩ := by unfold argsOk; kernel_rfl
theorem a_init (a b : Value) : argsOk "object.__init__" ⟨[a, b], []⟩ := by unfold argsOk; kernel_rfl
theorem called_rev : TypeCalled "reversed" "reversed.__new__" "object.__init__" :=
  ⟨by decide +kernel, F.create_reversed, ⟨_, _, F.mro_reversed⟩, F.made_reversed, F.plain_reversed_new, F.sub_reversed_self, init_rev⟩
end RevF
abbrev rvO (z : Str) (t : Tok) (i : Int) : Obj := { cls := .type "reversed", data := .fields #[.str z t, rawInt i] }
def IsRv (h : Heap) (a : Addr) (z : Str) (t : Tok) (i : Int) : Prop := ∃ o, h.get? a = some o ∧ o.cls = .type "reversed" ∧ o.data = .fields #[.str z t, rawInt i]
section
variable {prog : Program} {w : World} {A : Around} {E : Value → Shared → Prop} {s : Shared} {z : Str} {t : Tok}
end
def rvS (z : Str) : Str := ⟨(cs z).reverse.toArray⟩
section
variable {X : Cx} {tg : Expr}
def iRev (ta : TA) : TI := fun σ H R => ta σ H fun vs H1 => ∃ z, vs = [.str z] ∧ z.length ≤ sizeLine ∧ R (Its (rvS z)) H1
end
end L2
namespace L2
open PySem PySem.Spec PyProof.Rows
theorem subAt_one (x : Str) (c i : Nat) (h : i + 1 ≤ x.length) : Builtin.Str.subAt x ⟨#[c]⟩ i = decide ((cs x)[i]? = some c) := by
  have hc := cs_length x
  have hi : i < (cs x).length := by omega
  unfold Builtin.Str.subAt
  have e : x.cps.extract i (i + (⟨#[c]⟩ : Str).length) = #[(cs x)[i]] := by
    apply Array.ext'
    show (x.cps.extract i (i + 1)).toList = [(cs x)[i]]
    rw [Array.toList_extract]
    simp only [List.extract_eq_take_drop]
    have : i + 1 - i = 1 := by omega
    rw [this]
    show (List.drop i (cs x)).take 1 = _
    rw [List.drop_eq_getElem_cons hi]
    rfl
  rw [e, List.getElem?_eq_getElem hi]
  generalize (cs x)[i] = d
  by_cases h2 : d = c
  · simp [h2]
  · have : ¬ (some d = some c) := fun z => h2 (Option.some.inj z)
    rw [decide_eq_false this]
    simp [h2]
def plc (x : Str) (c lo n : Nat) : List Nat := (List.range' lo n).filter fun i => decide ((cs x)[i]? = some c)
theorem occ_run (x : Str) (c lim : Nat) : ∀ (n lo free : Nat) (found : Array Nat), free ≤ lo →
    (forIn (List.range' lo n) (found, free) (StrLaws.occBody x ⟨#[c]⟩ x.length lim)).run.fst.toList = found.toList ++ (plc x c lo n).take (lim - found.size)
  | 0, lo, free, found, _ => by simp [plc]
  | n + 1, lo, free, found, h => by
    rw [List.range'_succ, List.forIn_cons]
    unfold StrLaws.occBody
    have hp : plc x c lo (n + 1) = (if decide ((cs x)[lo]? = some c) = true then [lo] else []) ++ plc x c (lo + 1) n := by
      unfold plc
      rw [List.range'_succ, List.filter_cons]
      split <;> rfl
    have hcx := cs_length x
    by_cases hc : (cs x)[lo]? = some c
    · have hlo : lo + 1 ≤ x.length := by have := (List.getElem?_eq_some_iff.mp hc).1; omega
      have hs : Builtin.Str.subAt x ⟨#[c]⟩ lo = true := by rw [subAt_one x c lo hlo]; exact decide_eq_true hc
      rw [hp, if_pos (decide_eq_true hc)]
      by_cases hf : found.size < lim
      · rw [if_pos ⟨⟨⟨hf, h⟩, hlo⟩, hs⟩]
        refine (occ_run x c lim n (lo + 1) (lo + 1) (found.push lo) (Nat.le_refl _)).trans ?_
        rw [Array.toList_push, Array.size_push, List.append_assoc]
        have e : lim - found.size = (lim - (found.size + 1)) + 1 := by omega
        rw [e]; rfl
      · rw [if_neg (fun z => hf z.1.1.1)]
        refine (occ_run x c lim n (lo + 1) free found (by omega)).trans ?_
        have e : lim - found.size = 0 := by omega
        rw [e, List.take_zero, List.take_zero]
    · have hs : ¬ ((((found, free).fst.size < lim ∧ (found, free).snd ≤ lo) ∧ lo + (⟨#[c]⟩ : Str).length ≤ x.length) ∧ Builtin.Str.subAt x ⟨#[c]⟩ lo = true) := fun z => by
        have := z.2
        rw [subAt_one x c lo z.1.2] at this
        exact hc (of_decide_eq_true this)
      rw [if_neg hs, hp, if_neg (by rw [decide_eq_false hc]; exact Bool.false_ne_true), List.nil_append]
      exact occ_run x c lim n (lo + 1) free found (by omega)
theorem occ_one (x : Str) (c lo lim : Nat) : Builtin.Str.occurrences x ⟨#[c]⟩ lo x.length lim = (plc x c lo (x.length + 1 - lo)).take lim := by
  rw [StrLaws.occ_eq, occ_run x c lim _ lo lo #[] (Nat.le_refl _)]
  rfl
theorem bits_of {ns : List Int} (h : PySem.W.WData.layableAll [PySem.W.WData.list (ns.map PySem.W.WData.int)] = true) : ∀ n ∈ ns, Builtin.Int.intBits n ≤ 2 ^ 20 := by
  have h1 : PySem.W.WData.layable (PySem.W.WData.list (ns.map PySem.W.WData.int)) = true := by
    unfold PySem.W.WData.layableAll at h
    rw [List.all_cons, Bool.and_eq_true] at h
    exact h.1
  unfold PySem.W.WData.layable at h1
  rw [Bool.and_eq_true] at h1
  have h2 : PySem.W.WData.weightAll (ns.map PySem.W.WData.int) ≤ 2 ^ 20 := of_decide_eq_true h1.2
  have all : ∀ (ms : List Int), ∀ n ∈ ms, Builtin.Int.intBits n ≤ PySem.W.WData.weightAll (ms.map PySem.W.WData.int) := by
    intro ms
    induction ms with
    | nil => intro n hn; cases hn
    | cons m r ih =>
      intro n hn
      rw [List.map_cons, PySem.W.WData.weightAll]
      rcases List.mem_cons.mp hn with rfl | hn
      · have : PySem.W.WData.weight (PySem.W.WData.int n) = Builtin.Int.intBits n := by
          rw [PySem.W.WData.weight]; rfl
        omega
      · have := ih n hn
        omega
  exact fun n hn => Nat.le_trans (all ns n hn) h2
theorem walk_bits {l : PySem.W.OpenLaw} {n k : Nat} {q : Program} {loose : List Str} {XP : (Str → Option Value) → Heap → Prop} {YP : World → Heap → Prop} {d : DefRec} {K : Params → PySem.W.Frag} {sp : World → Sp} {x : Str}
    (hn : l.most = some n) (hn2 : n ≤ sizeLine) (hdf : d.params.defaults = []) (hr : Room k callerA)
    (hY : ∀ (w : World) (h : Heap), YP w h → (K w.params).In h)
    (F : ∀ (w : World) (mg : Str → Option Value) (fa : Addr) (h : Heap), (K w.params).In h → h.Ns mainGlobals mg → mg d.name = some (.ref fa) →
      ∃ fd : FuncData, (∀ (s : Shared) (u : Value), BindsTo s fd ⟨[u], []⟩ [(x, u)]) ∧
        ∀ base : Heap, (K w.params).In base → base.Ns mainGlobals mg → FnOk l.prog w (K w.params) mg base (CX1 l.prog w) k fa fd [x] (sp w))
    (hsp : ∀ (w : World) (H : Hp) (a : Addr) (ns : List Int), ns.length ≤ n → (∀ m ∈ ns, Builtin.Int.intBits m ≤ 2 ^ 20) → Only H → SqL (K w.params) H a (ns.map V.int) → sp w [.ref a] H (fun v _ => v = .bl true) fun _ _ _ => False) :
    PySem.W.WalkO q loose XP YP l.row.toRowW d [] (fun f vs => PySem.call f vs) := by
  intro w s₀ s₁ mg mb G Y fa o pm cd doc dV kV ho hd hcd hD hmg hg args vals as hpre hlay hrd hwl hlo
  obtain rfl : dV = .none := PySem.W.Dflts.none hD hdf
  obtain rfl : kV = .none := PySem.W.Dflts.noKw hD
  obtain ⟨a, vs, ns, rfl, rfl, hobj, hints, hlen⟩ := Att.script_of hn hpre hwl
  have hb := bits_of hlay
  have KX := hY w _ Y
  obtain ⟨fd, hbi, hF⟩ := F w mg fa _ KX G.T.g hmg
  refine PySem.W.enter_call (codeAny_mono (law_call (CX := CX1 l.prog w) KX G.T.g G.T.b G.T.builtins G.T.nolimit hg hobj hints (Nat.le_trans hlen hn2) hr hF hbi (fun H hO hS => hsp w H a ns hlen hb hO hS) fun H e s' hx => ?_) fun r s' hq => ?_)
  · obtain ⟨_, _, _, _, _, _, _, _, _, _, z⟩ := hx
    exact z
  · obtain ⟨rfl, h2, h3, h4⟩ := hq
    exact ⟨.inl ⟨.bool true, .bool true, [], rfl, fun _ => rfl, .bool true, Att.post_true l _, fun _ => ⟨List.Pairwise.nil, fun _ hm => (nomatch hm)⟩⟩, h2, h3, h4⟩
theorem PS.imp {X : Cx} {st : Stmt} {t R : TS} (h : PS X st t) (i : ∀ D σ H, R D σ H → t D σ H) : PS X st R := ⟨fun pins s σ H D I r => h pins s σ H D I (i D σ H r)⟩
def Holds (σ : St) (i : Nat) (v : V) : Prop := σ[i]? = some (some v)
def Kept (n : List Nat) (σ σ' : St) : Prop := σ'.length = σ.length ∧ ∀ i ∈ n, σ'[i]? = σ[i]?
def forBody : Stmt → List Stmt
  | .For _ _ b _ _ => b
  | _ => []
def forIt : Stmt → Expr
  | .For _ e _ _ _ => e
  | _ => .Constant .none 0 ⟨0,0,0,0⟩
section
variable {X : Cx} {es : List Expr} {te : TE} {t : TA}
end
end L2
namespace L2
open PySem PySem.Spec PyProof.Rows
mutual
inductive Dat (H : Hp) : V → PyData → Prop
  | non : Dat H .non .none
  | int (i : Int) : Dat H (.int i) (.int i)
  | str (z : Str) : Dat H (.str z) (.str z)
  | bl (b : Bool) : Dat H (.bl b) (.bool b)
  | tup {p : Addr} {xs : List V} {ds : List PyData} : H p = some (.tup xs) → Dats H xs ds → Dat H (.ref p) (.tuple ds)
inductive Dats (H : Hp) : List V → List PyData → Prop
  | nil : Dats H [] []
  | cons {x : V} {d : PyData} {xs : List V} {ds : List PyData} : Dat H x d → Dats H xs ds → Dats H (x :: xs) (d :: ds)
end
mutual
theorem Dat.same {H H' : Hp} (s : Same H H') : ∀ {v : V} {d : PyData}, Dat H v d → Dat H' v d
  | _, _, .non => .non
  | _, _, .int i => .int i
  | _, _, .str z => .str z
  | _, _, .bl b => .bl b
  | _, _, .tup h t => .tup (s _ _ h) (t.same s)
theorem Dats.same {H H' : Hp} (s : Same H H') : ∀ {v : List V} {d : List PyData}, Dats H v d → Dats H' v d
  | _, _, .nil => .nil
  | _, _, .cons h t => .cons (h.same s) (t.same s)
end
section
variable {X : Cx}
mutual
theorem Dat.reads {pins : List (Addr × Obj)} {σ : St} {H : Hp} {s : Shared} (I : Inv X pins σ H s) : ∀ {v : V} {d : PyData} {u : Value}, Dat H v d → RelV v u → ∃ as, Reads s.heap u d as
  | _, _, _, .non, r => by cases r; exact ⟨_, .none⟩
  | _, _, _, .int i, r => by obtain ⟨t, rfl⟩ := r; exact ⟨_, .int i t⟩
  | _, _, _, .str z, r => by obtain ⟨t, rfl⟩ := r; exact ⟨_, .str z t⟩
  | _, _, _, .bl b, r => by cases r; exact ⟨_, .bool b⟩
  | _, _, _, .tup h t, r => by
    cases r
    obtain ⟨its, rv, ⟨o, ho, hc, n, hd⟩, _⟩ := I.tuple (SqT.of h)
    obtain ⟨as, ra⟩ := t.reads I rv
    exact ⟨as, .tuple ho hc hd ra⟩
theorem Dats.reads {pins : List (Addr × Obj)} {σ : St} {H : Hp} {s : Shared} (I : Inv X pins σ H s) : ∀ {v : List V} {d : List PyData} {u : List Value}, Dats H v d → Vals v u → ∃ as, ReadsAll s.heap u d as
  | _, _, _, .nil, r => by cases r; exact ⟨_, .nil⟩
  | _, _, _, .cons h t, r => by
    cases r with
    | cons r1 r2 =>
      obtain ⟨a, ra⟩ := h.reads I r1
      obtain ⟨b, rb⟩ := t.reads I r2
      exact ⟨_, .cons ra rb⟩
end
mutual
theorem Dat.keepL {H : Hp} {p : Addr} {ys : List V} {o : HO} (hp : H p = some (.lst ys)) : ∀ {v : V} {d : PyData}, Dat H v d → Dat (upd H p o) v d
  | _, _, .non => .non
  | _, _, .int i => .int i
  | _, _, .str z => .str z
  | _, _, .bl b => .bl b
  | _, _, .tup (p := q) h t => .tup (by
      have n : q ≠ p := fun e => by rw [e, hp] at h; cases h
      rw [upd_ne n]; exact h) (t.keepL hp)
theorem Dats.keepL {H : Hp} {p : Addr} {ys : List V} {o : HO} (hp : H p = some (.lst ys)) : ∀ {v : List V} {d : List PyData}, Dats H v d → Dats (upd H p o) v d
  | _, _, .nil => .nil
  | _, _, .cons h t => .cons (h.keepL hp) (t.keepL hp)
end
def DatT (H : Hp) (v : V) (d : PyData) : Prop := Dat H v d ∨ ∃ p xs ds, v = .ref p ∧ H p = some (.lst xs) ∧ Dats H xs ds ∧ d = .list ds
theorem DatT.reads {pins : List (Addr × Obj)} {σ : St} {H : Hp} {s : Shared} (I : Inv X pins σ H s) {v : V} {d : PyData} {u : Value} (h : DatT H v d) (r : RelV v u) : ∃ as, Reads s.heap u d as := by
  rcases h with h | ⟨p, xs, ds, rfl, hp, hd, rfl⟩
  · exact h.reads I r
  · cases r
    obtain ⟨its, rv, pl, _⟩ := I.list (SqL.of hp)
    obtain ⟨o, ho, hc, n, hd'⟩ := pl.isList
    obtain ⟨as, ra⟩ := hd.reads I rv
    exact ⟨_, .list ho hc hd' ra⟩
def rDat (k : PyData → PyData → Bool) : R2 := fun x y H Q => ∃ d e, DatT H x d ∧ DatT H y e ∧ d.canLay0 = true ∧ e.canLay0 = true ∧ d.depth ≤ 150 ∧ Q (.bl (k d e)) H
theorem op_neD (hu : X.A.units + 200 < cLine) : OpR X (compareOp .NotEq) (rDat fun d e => !PyData.eqv d e) := by
  intro pins s σ H x y v u Q I rx ry h
  obtain ⟨d, e, hd, he, c1, c2, dp, q⟩ := h
  obtain ⟨as, ra⟩ := hd.reads I rx
  obtain ⟨bs, rb⟩ := he.reads I ry
  exact SeqAt.compareNe_reads ra rb c1 c2 (by omega) ⟨.bl _, H, I, rfl, q⟩
theorem op_eqD (hu : X.A.units + 200 < cLine) : OpR X (compareOp .Eq) (rDat fun d e => PyData.eqv d e) := by
  intro pins s σ H x y v u Q I rx ry h
  obtain ⟨d, e, hd, he, c1, c2, dp, q⟩ := h
  obtain ⟨as, ra⟩ := hd.reads I rx
  obtain ⟨bs, rb⟩ := he.reads I ry
  exact SeqAt.compareEq_reads ra rb c1 c2 (by omega) ⟨.bl _, H, I, rfl, q⟩
end
theorem comp_tup {K : PySem.W.Frag} {a : Addr} {xs : List V} {D : Addr} {tt : TT} {te : TE} {σ : St} {Qd : Hp → Prop} {H1 : Hp} (Pv : Nat → List V → Hp → Prop) (h0 : Pv 0 [] (upd H1 D (.lst []))) (hl : ∀ i ys H, i ≤ xs.length → Pv i ys H → SqT K H a xs)
    (hs : ∀ i x ys H, xs[i]? = some x → Pv i ys H → tt (some x :: σ) H fun b H2 => if b = true then te (some x :: σ) H2 fun y H3 => H3 D = some (.lst ys) ∧ ys.length < sizeLine ∧ Pv (i + 1) (ys ++ [y]) (upd H3 D (.lst (ys ++ [y]))) else Pv (i + 1) ys H2)
    (hd : ∀ ys H, Pv xs.length ys H → Qd H) :
    ∃ W : Nat → Nat → List V → Hp → Prop, (∃ m, W 0 m [] (upd H1 D (.lst []))) ∧ CompTurn (Itt K a) D tt te σ Qd W := by
  refine ⟨fun i m ys H => m = xs.length - i ∧ i ≤ xs.length ∧ Pv i ys H, ⟨xs.length, by simp, Nat.zero_le _, h0⟩, ?_⟩
  rintro i m ys H ⟨rfl, hi, p⟩
  have q := hl i ys H hi p
  by_cases hlt : i < xs.length
  · refine .inr ⟨⟨xs, xs[i], q, by simp [hlt]⟩, Pv (i + 1), fun ys' H' p' => ⟨xs.length - (i + 1), by omega, rfl, hlt, p'⟩, fun x H' y => ?_⟩
    obtain ⟨e, y⟩ := y
    subst e
    exact hs i x ys H' (y xs q) p
  · have e : i = xs.length := by omega
    subst e
    exact .inl ⟨⟨xs, q, Nat.le_refl _⟩, hd ys H p⟩
structure Self (K : PySem.W.Frag) (mg : Str → Option Value) (f : Addr) (fd : FuncData) (x : Str) (ps : List Str) : Prop where
  b : Binds K fd ps []
  k : PySem.W.keepIn K (.ref f) = true
  m : mg x = some (.ref f)
end L2
namespace L2
open PySem PySem.Spec PyProof.Rows
section
variable {X : Cx} {pins : List (Addr × Obj)} {σ : List (Option V)} {H : Hp} {s : Shared} {h' : Heap}
theorem Inv.turnT {t' : Nat} {wr : List Addr} {T : Addr} {o : HO} (I : Inv X pins σ H s) (k : ∀ b u, b ∉ wr → s.heap.get? b = some u → h'.get? b = some u) (hf : ∀ b ∈ wr, FpOk X pins H b) (hT : s.heap.objs.size ≤ T)
    (new : ObjOk X.prog X.w (upd H T o) h' T o) : Inv X pins σ (upd H T o) { s with heap := h', toks := t' } := by
  have hn : H T = none := I.hok.fresh hT
  refine I.step (g' := s.gens) (d' := s.drawn) (ch := wr) (fun b hb => ?_) (fun b o _ _ hc e _ => k b o hc e) (fun b o _ _ hc e _ => ⟨o.slots, k b o hc e⟩) (fun b o _ e n => ?_)
    (fun b o hc e => ⟨o, k b o hc e⟩) (fun b xs q => ?_) (fun b u xs q => ?_) (fun b ps q => ⟨#[], ?_⟩) (fun m hm => ?_) (fun b u e => ?_) I.bare
  · obtain ⟨_, f1, _, f3, f4, f5⟩ := hf b hb
    exact ⟨f3, f1, f4, f5⟩
  · rw [upd_ne (Nat.ne_of_lt (Nat.lt_of_lt_of_le (Heap.lt_size e) hT))]; exact n
  · rw [upd_ne (ne_of_none q hn)]; exact q
  · rw [upd_ne (ne_of_none q hn)]; exact q
  · rw [upd_ne (ne_of_none q hn), q]; simp
  · obtain ⟨o', es, ep, ho, r⟩ := hm
    exact ⟨o', es, ep, k _ o' (fun z => (hf _ z).2.1 rfl) ho, r⟩
  · by_cases hb : b = T
    · subst hb; rw [upd_same] at e; cases e; exact new
    · rw [upd_ne hb] at e
      refine (I.hok b u e).stay (fun c v hc q => k c v (fun z => ?_) q) (fun c q => by rw [upd_ne (ne_of_none q hn)]; exact q) fun c xs q => by rw [upd_ne (ne_of_none q hn)]; exact q
      have f0 := (hf c z).1
      rcases hc with hc | hc
      · rw [hc, e] at f0; cases f0
      · rw [hc] at f0; cases f0
theorem Inv.turnL {t' : Nat} {wr : List Addr} (I : Inv X pins σ H s) (k : ∀ b u, b ∉ wr → s.heap.get? b = some u → h'.get? b = some u) (hf : ∀ b ∈ wr, FpOk X pins H b) : Inv X pins σ H { s with heap := h', toks := t' } := by
  refine I.step (g' := s.gens) (d' := s.drawn) (ch := wr) (fun b hb => ?_) (fun b o _ _ hc e _ => k b o hc e) (fun b o _ _ hc e _ => ⟨o.slots, k b o hc e⟩) (fun _ _ _ _ n => n)
    (fun b o hc e => ⟨o, k b o hc e⟩) (fun _ _ e => e) (fun _ _ _ e => e) (fun b ps e => ⟨#[], by rw [e]; simp⟩) (fun m hm => ?_) (fun b u e => ?_) I.bare
  · obtain ⟨_, f1, _, f3, f4, f5⟩ := hf b hb
    exact ⟨f3, f1, f4, f5⟩
  · obtain ⟨o', es, ep, ho, r⟩ := hm
    exact ⟨o', es, ep, k _ o' (fun z => (hf _ z).2.1 rfl) ho, r⟩
  · refine (I.hok b u e).stay (fun c v hc q => k c v (fun z => ?_) q) (fun _ q => q) fun _ _ q => q
    have f0 := (hf c z).1
    rcases hc with hc | hc
    · rw [hc, e] at f0; cases f0
    · rw [hc] at f0; cases f0
end
def ItE (z : Str) : It := ⟨fun i _ => i < z.cps.size, fun i H x H' => ∃ T c, (cs z)[i]? = some c ∧ x = .ref T ∧ H T = none ∧ H' = upd H T (.tup [.int (i : Nat), .str ⟨#[c]⟩]), fun i _ => i = z.cps.size⟩
theorem turn_enum {P : Program} {w : World} {K : PySem.W.Frag} {elts : List Expr} {kk : Nat} {tpos : Pos} {e it : Addr} {z : Str} {t : Tok} {ty : String} (hei : e ≠ it)
    (Dr : ∀ A : Around, A.handled = none → Draws P w A it [it] z.cps.size (fun i v => ∃ c u, z.cps[i]? = some c ∧ v = .str ⟨#[c]⟩ u) (fun i h => h.IsStrIter it ty z t i)) :
    Turn P w K (.Tuple elts kk tpos) (ItE z) [e, it] e (fun i h => (∃ old, IsEnum h e it i old) ∧ h.IsStrIter it ty z t i) where
  mem := by simp
  obj := fun i h st b hb => by
    obtain ⟨⟨old, h1⟩, o, h2, h3, h4⟩ := st
    rcases List.mem_cons.mp hb with rfl | hb
    · exact ⟨_, h1, fun v q => by cases q⟩
    · rw [List.mem_singleton.mp hb]
      exact ⟨o, h2, fun v q => by rw [h4] at q; cases q⟩
  keep := fun i h h' st k => by
    obtain ⟨⟨old, h1⟩, o, h2, r⟩ := st
    exact ⟨⟨old, k e (by simp) _ h1⟩, o, k it (by simp) o h2, r⟩
  item := by
    intro X hP hw hK hc i pins s σ H E I hf st hg
    subst hP hw hK
    have W := WalksT.enumerateD (A := X.A) (Dr X.A.in1 (I.ok.hd hc)) e hei (by simpa using hei) (by simp)
    have he : e < s.heap.objs.size := by obtain ⟨⟨_, h1⟩, _⟩ := st; exact Heap.lt_size h1
    have hi : it < s.heap.objs.size := by obtain ⟨_, o, h2, _⟩ := st; exact Heap.lt_size h2
    refine W.item i s _ _ hg st fun T vals h1 tk hv hT ht mid k1 => ?_
    obtain ⟨tt, x, ⟨c, u, hcx, rfl⟩, rfl⟩ := hv
    refine ⟨_, rfl, ?_⟩
    have hTw : T ∉ [e, it] := W.apart i T h1 mid
    refine W.go elts kk tpos i T { s with heap := h1, toks := tk } _ _ mid fun h2 st2 k2 => ?_
    have hk : ∀ b u, b ∉ [e, it] → s.heap.get? b = some u → h2.get? b = some u := fun b u hb q => k2 b u hb (k1 b u hb q)
    have hcs : (cs z)[i]? = some c := by simpa [cs] using hcx
    obtain ⟨o, ho, hoc, n, hod⟩ := ht
    have new : ObjOk X.prog X.w (upd H T (.tup [V.int (i : Nat), V.str ⟨#[c]⟩])) h2 T (.tup [V.int (i : Nat), V.str ⟨#[c]⟩]) :=
      ⟨by show 2 ≤ sizeLine; decide, [.int i tt, .str ⟨#[c]⟩ u], .cons ⟨tt, rfl⟩ (.cons ⟨u, rfl⟩ .nil), o, k2 T o hTw ho, hoc, n, hod⟩
    refine ⟨.ref T, upd H T (.tup [V.int (i : Nat), V.str ⟨#[c]⟩]), I.turnT (t' := tk) (wr := [e, it]) hk hf hT new, rfl, ⟨T, c, hcs, rfl, I.hok.fresh hT, rfl⟩, st2, fun b hb => ?_⟩
    have hbT : b ≠ T := by
      rcases List.mem_cons.mp hb with rfl | hb
      · exact Nat.ne_of_lt (Nat.lt_of_lt_of_le he hT)
      · rw [List.mem_singleton.mp hb]; exact Nat.ne_of_lt (Nat.lt_of_lt_of_le hi hT)
    rw [upd_ne hbT]
    exact (hf b hb).1
  done := by
    intro X hP hw hK hc i pins s σ H E I hf st hg
    subst hP hw hK
    have W := WalksT.enumerateD (A := X.A) (Dr X.A.in1 (I.ok.hd hc)) e hei (by simpa using hei) (by simp)
    have e : i = z.cps.size := hg
    subst e
    exact W.done s _ _ st fun h1 tk k1 => ⟨rfl, I.turnL k1 hf⟩
  self := fun A i s Q E st h => by
    obtain ⟨⟨old, h1⟩, _⟩ := st
    exact wpAny_pyIter_enum h1 h
section
variable {X : Cx}
def iEnum (ta : TA) : TI := fun σ H R => ta σ H fun vs H1 => ∃ z, vs = [.str z] ∧ R (ItE z) H1
theorem pi_enum {elts : List Expr} {kk : Nat} {tpos : Pos} {e : Expr} {ta : TA} {p pos : Pos} (hg : Gl X "enumerate") (hm : X.mg "enumerate" = none) (ha : PA X [e] ta) (hs : starEach [e] X.env = [(false, eval e X.env)] := by rfl) :
    PI X (.Tuple elts kk tpos) (.Call (.Name "enumerate" p) [e] [] pos) (iEnum ta) := by
  constructor
  intro pins s σ H R I h
  refine Call_ (ld_blt I hg hm (u := .type "enumerate") (by decide +kernel) (PyProof.Rows.callWith_type1 (thn (ha pos pins s σ H _ I h) fun us s1 ⟨vs, H1, I1, r1, q1⟩ => ?_) hs rfl))
  obtain ⟨z, rfl, q⟩ := q1
  obtain ⟨u, rfl, ru⟩ := vals1 r1
  obtain ⟨t, rfl⟩ := ru
  refine call_enumerate_str fun h1 h2 h3 h4 h5 => ?_
  refine wpAny_pyIter_enum h2 ?_
  have ne : s1.heap.objs.size + 1 ≠ s1.heap.objs.size := Nat.succ_ne_self _
  have fp : ∀ b ∈ [s1.heap.objs.size + 1, s1.heap.objs.size], FpOk X pins H1 b := fun b hb => by
    rcases List.mem_cons.mp hb with rfl | hb
    · exact I1.fpOk (Nat.le_succ _) (I1.hok.fresh (Nat.le_succ _))
    · rw [List.mem_singleton.mp hb]; exact I1.fpOk (Nat.le_refl _) (I1.hok.fresh (Nat.le_refl _))
  have I2 : Inv X pins σ H1 { s1 with heap := h1 } := I1.kept (t' := s1.toks) h5
  cases hty : z.cps.all (· < 128)
  · have e : strIterType z = "str_iterator" := by unfold strIterType; rw [hty]; rfl
    rw [e] at h3
    exact ⟨_, _, _, _, H1, rfl, I2, turn_enum ne fun A hA => Draws.strWide hA _ z t, ⟨⟨_, h2⟩, h3⟩, fp, q⟩
  · have e : strIterType z = "str_ascii_iterator" := by unfold strIterType; rw [hty]; rfl
    rw [e] at h3
    exact ⟨_, _, _, _, H1, rfl, I2, turn_enum ne fun A hA => Draws.strAscii hA _ z t, ⟨⟨_, h2⟩, h3⟩, fp, q⟩
theorem for_enum {z : Str} {g : TG} {tb : TS} {D : Ends} {σ : St} {H : Hp} (Pv : Nat → St → Hp → Prop) (h0 : Pv 0 σ H)
    (hs : ∀ i c σ H T, (cs z)[i]? = some c → Pv i σ H → H T = none → g (.ref T) σ (upd H T (.tup [.int (i : Nat), .str ⟨#[c]⟩])) fun σ2 H2 => tb { D with nx := Pv (i + 1), ct := Pv (i + 1), bk := D.nx } σ2 H2) (hd : ∀ σ H, Pv z.length σ H → D.nx σ H) :
    ∃ W : Nat → Nat → St → Hp → Prop, (∃ m, W 0 m σ H) ∧ ∀ i m σ H, W i m σ H →
      ((ItE z).stop i H ∧ D.nx σ H) ∨ ((ItE z).go i H ∧ ∃ N : St → Hp → Prop, (∀ σ' H', N σ' H' → ∃ m', m' < m ∧ W (i + 1) m' σ' H') ∧ ∀ x H', (ItE z).yld i H x H' → g x σ H' fun σ2 H2 => tb { D with nx := N, ct := N, bk := D.nx } σ2 H2) := by
  have el : z.cps.size = z.length := rfl
  refine ⟨fun i m σ H => m = z.length - i ∧ i ≤ z.length ∧ Pv i σ H, ⟨z.length, by simp, Nat.zero_le _, h0⟩, ?_⟩
  rintro i m σ H ⟨rfl, hi, p⟩
  by_cases hlt : i < z.length
  · refine .inr ⟨hlt, Pv (i + 1), fun σ' H' p' => ⟨z.length - (i + 1), by omega, rfl, hlt, p'⟩, fun x H' y => ?_⟩
    obtain ⟨T, c, hc, rfl, hT, rfl⟩ := y
    exact hs i c σ H T hc p hT
  · have e : i = z.length := by omega
    subst e
    exact .inl ⟨rfl, hd σ H p⟩
def rFind : V → List V → Hp → VK → Prop := fun x vs H Q => ∃ z y i, x = .str z ∧ vs = [.str y, .int i] ∧ Q (.int (Txt.find3 z y i)) H
end
end L2
namespace L2
open PySem PyProof.Rows
section
variable {X : Cx}
theorem call_sumL (hc : X.calm = true) : CallR X (.builtin "sum") (fun xs H Q => ∃ (p : Addr) (ns : List Int), xs = [.ref p] ∧ SqL X.K H p (ns.map V.int) ∧ Q (.int ns.sum) H) := by
  intro pins s σ H xs us Q I r h
  obtain ⟨p, ns, rfl, hq, q⟩ := h
  obtain ⟨u, rfl, rx⟩ := vals1 r
  cases rx
  obtain ⟨its, rv, pl, hz⟩ := I.list hq
  obtain ⟨ys, e1, e2⟩ := ints_items (intsAre_of rv)
  have hl := pl.isList
  rw [e1] at hl
  refine sum_intListG (I.ok.hd hc) hl fun h' tk t' hk => ?_
  refine ⟨.int ns.sum, H, I.kept hk, ⟨t', ?_⟩, q⟩
  rw [preSum_eq, List.take_of_length_le (by simp), ← e2]
end
end L2
namespace L2
open PySem PySem.W PyProof.Rows
section
variable {n : Nat} {lt : Nat → Nat → Bool} {cmp : Nat → Nat → (Bool → Shared → Prop) → Shared → Prop} {s : Shared}
structure Ord (n : Nat) (lt : Nat → Nat → Bool) : Prop where
  asym : ∀ i j, i < n → j < n → lt i j = true → lt j i = false
  trans : ∀ i j k, i < n → j < n → k < n → lt i j = true → lt j k = true → lt i k = true
  tot : ∀ i j, i < n → j < n → i ≠ j → lt i j = false → lt j i = true
structure Shf (n : Nat) (p : Array Nat) : Prop where
  pm : p.Perm (List.range n).toArray
theorem Shf.size {p : Array Nat} (h : Shf n p) : p.size = n := by rw [h.pm.size_eq]; simp
theorem Shf.bd {p : Array Nat} (h : Shf n p) {i : Nat} (hi : i < n) : p.getD i 0 < n := by
  have hi' : i < p.size := by rw [h.size]; exact hi
  have hm : p[i] ∈ (List.range n).toArray := h.pm.mem_iff.mp (Array.getElem_mem hi')
  rw [Array.getD_eq_getD_getElem?, Array.getElem?_eq_getElem hi']
  simpa using hm
theorem Shf.inj {p : Array Nat} (h : Shf n p) {i j : Nat} (hi : i < n) (hj : j < n) (e : p.getD i 0 = p.getD j 0) : i = j := by
  have nd : p.toList.Nodup := by
    have := (Array.perm_iff_toList_perm.mp h.pm).nodup_iff.mpr (by simpa using List.nodup_range)
    exact this
  have hi' : i < p.size := by rw [h.size]; exact hi
  have hj' : j < p.size := by rw [h.size]; exact hj
  rw [Array.getD_eq_getD_getElem?, Array.getD_eq_getD_getElem?, Array.getElem?_eq_getElem hi', Array.getElem?_eq_getElem hj'] at e
  have e' : p.toList[i]'(by simpa using hi') = p.toList[j]'(by simpa using hj') := by simpa using e
  exact (List.getElem_inj nd).mp e'
def Up (lt : Nat → Nat → Bool) (p : Array Nat) (k : Nat) : Prop := ∀ i j, i < j → j < k → lt (p.getD i 0) (p.getD j 0) = true
def Dn (lt : Nat → Nat → Bool) (p : Array Nat) (k : Nat) : Prop := ∀ i j, i < j → j < k → lt (p.getD j 0) (p.getD i 0) = true
variable (O : Ord n lt) (hc : ∀ i j C, i < n → j < n → C (lt i j) s → cmp i j C s)
include O hc
theorem asc_ok {p : Array Nat} (S : Shf n p) {Q : Nat → Shared → Prop} : ∀ f m, 1 ≤ m → m + f = n → Up lt p m → (∀ m', Up lt p m' → m ≤ m' → m' ≤ n → (m' = n ∨ lt (p.getD m' 0) (p.getD (m' - 1) 0) = true) → Q m' s) → (kas_asc p f m).kasWp cmp Q s
  | 0, m, h1, hm, hu, q => q m hu (Nat.le_refl _) (by omega) (.inl (by omega))
  | f + 1, m, h1, hm, hu, q => by
    refine hc _ _ _ (S.bd (by omega)) (S.bd (by omega)) ?_
    show KasT.kasWp cmp (if lt (p.getD m 0) (p.getD (m - 1) 0) = true then KasT.ret m else kas_asc p f (m + 1)) Q s
    by_cases e : lt (p.getD m 0) (p.getD (m - 1) 0) = true
    · rw [if_pos e]
      exact q m hu (Nat.le_refl _) (by omega) (.inr e)
    · rw [if_neg e]
      have e' : lt (p.getD (m - 1) 0) (p.getD m 0) = true := O.tot _ _ (S.bd (by omega)) (S.bd (by omega)) (fun z => by have := S.inj (by omega) (by omega) z; omega) (Bool.eq_false_iff.mpr e)
      refine asc_ok S f (m + 1) (by omega) (by omega) (fun i j hij hj => ?_) fun m' a b c d => q m' a (by omega) c d
      rcases Nat.lt_or_ge j m with h | h
      · exact hu i j hij h
      · have ej : j = m := by omega
        subst ej
        rcases Nat.lt_or_ge i (j - 1) with h' | h'
        · exact O.trans _ _ _ (S.bd (by omega)) (S.bd (by omega)) (S.bd (by omega)) (hu i (j - 1) h' (by omega)) e'
        · have ei : i = j - 1 := by omega
          subst ei; exact e'
theorem desc_ok {p : Array Nat} (S : Shf n p) {Q : Array Nat × Nat × Nat → Shared → Prop} : ∀ f m, 2 ≤ m → m + f = n → Dn lt p m → (∀ m', Dn lt p m' → m ≤ m' → m' ≤ n → Q (p, m', 0) s) → (kas_desc f p m 0).kasWp cmp Q s
  | 0, m, h1, hm, hu, q => q m hu (Nat.le_refl _) (by omega)
  | f + 1, m, h1, hm, hu, q => by
    refine hc _ _ _ (S.bd (by omega)) (S.bd (by omega)) ?_
    show KasT.kasWp cmp (if lt (p.getD m 0) (p.getD (m - 1) 0) = true then (if 0 > 0 then kas_desc f (kas_rev p (m - (0 + 1)) m) (m + 1) 0 else kas_desc f p (m + 1) 0)
      else KasT.ask (p.getD (m - 1) 0) (p.getD m 0) fun d => if d = true then KasT.ret (p, m, 0) else kas_desc f p (m + 1) (0 + 1)) Q s
    by_cases e : lt (p.getD m 0) (p.getD (m - 1) 0) = true
    · rw [if_pos e, if_neg (by omega)]
      refine desc_ok S f (m + 1) (by omega) (by omega) (fun i j hij hj => ?_) fun m' a b c => q m' a (by omega) c
      rcases Nat.lt_or_ge j m with h | h
      · exact hu i j hij h
      · have ej : j = m := by omega
        subst ej
        rcases Nat.lt_or_ge i (j - 1) with h' | h'
        · exact O.trans _ _ _ (S.bd (by omega)) (S.bd (by omega)) (S.bd (by omega)) e (hu i (j - 1) h' (by omega))
        · have ei : i = j - 1 := by omega
          subst ei; exact e
    · rw [if_neg e]
      have e' : lt (p.getD (m - 1) 0) (p.getD m 0) = true := O.tot _ _ (S.bd (by omega)) (S.bd (by omega)) (fun z => by have := S.inj (by omega) (by omega) z; omega) (Bool.eq_false_iff.mpr e)
      refine hc _ _ _ (S.bd (by omega)) (S.bd (by omega)) ?_
      show KasT.kasWp cmp (if lt (p.getD (m - 1) 0) (p.getD m 0) = true then KasT.ret (p, m, 0) else kas_desc f p (m + 1) (0 + 1)) Q s
      rw [if_pos e']
      exact q m hu (Nat.le_refl _) (by omega)
theorem place_ok {p : Array Nat} (S : Shf n p) {k : Nat} (hk : k < n) (hu : Up lt p k) {Q : Nat → Shared → Prop} : ∀ f l r, l ≤ r → r ≤ k → r - l ≤ f → (∀ i, i < l → lt (p.getD i 0) (p.getD k 0) = true) → (∀ i, r ≤ i → i < k → lt (p.getD k 0) (p.getD i 0) = true) →
    (∀ l', l' ≤ k → (∀ i, i < l' → lt (p.getD i 0) (p.getD k 0) = true) → (∀ i, l' ≤ i → i < k → lt (p.getD k 0) (p.getD i 0) = true) → Q l' s) → (kas_place p k f l r).kasWp cmp Q s
  | 0, l, r, h1, h2, h3, hl, hr, q => q l (by omega) hl fun i a b => hr i (by omega) b
  | f + 1, l, r, h1, h2, h3, hl, hr, q => by
    rw [kas_place]
    by_cases e : l ≥ r
    · rw [if_pos e]
      exact q l (by omega) hl fun i a b => hr i (by omega) b
    · rw [if_neg e]
      refine hc _ _ _ (S.bd hk) (S.bd (by omega)) ?_
      show KasT.kasWp cmp (if lt (p.getD k 0) (p.getD ((l + r) / 2) 0) = true then kas_place p k f l ((l + r) / 2) else kas_place p k f ((l + r) / 2 + 1) r) Q s
      by_cases c : lt (p.getD k 0) (p.getD ((l + r) / 2) 0) = true
      · rw [if_pos c]
        refine place_ok S hk hu f _ _ (by omega) (by omega) (by omega) hl (fun i a b => ?_) q
        rcases Nat.lt_or_ge ((l + r) / 2) i with h | h
        · exact O.trans _ _ _ (S.bd hk) (S.bd (by omega)) (S.bd (by omega)) c (hu _ _ h b)
        · have ei : i = (l + r) / 2 := by omega
          subst ei; exact c
      · rw [if_neg c]
        have c' : lt (p.getD ((l + r) / 2) 0) (p.getD k 0) = true := O.tot _ _ (S.bd hk) (S.bd (by omega)) (fun z => by have := S.inj (by omega) (by omega) z; omega) (Bool.eq_false_iff.mpr c)
        refine place_ok S hk hu f _ _ (by omega) (by omega) (by omega) (fun i a => ?_) hr q
        rcases Nat.lt_or_ge i ((l + r) / 2) with h | h
        · exact O.trans _ _ _ (S.bd (by omega)) (S.bd (by omega)) (S.bd hk) (hu _ _ h (by omega)) c'
        · have ei : i = (l + r) / 2 := by omega
          subst ei; exact c'
omit O hc in
theorem bub_get {p : Array Nat} {k d : Nat} (hk : k < p.size) (hd : d ≤ k) (i : Nat) : (bubble p k d).getD i 0 = if i = k - d then p.getD k 0 else if k - d < i ∧ i ≤ k then p.getD (i - 1) 0 else p.getD i 0 := by
  rw [Array.getD_eq_getD_getElem?, getElem?_bubble hk d hd i]
  by_cases h1 : i = k - d
  · rw [if_pos h1, if_pos h1, Array.getD_eq_getD_getElem?]
  · rw [if_neg h1, if_neg h1]
    by_cases h2 : k - d < i ∧ i ≤ k
    · rw [if_pos h2, if_pos h2, Array.getD_eq_getD_getElem?]
    · rw [if_neg h2, if_neg h2, Array.getD_eq_getD_getElem?]
theorem bin_ok {Q : Array Nat → Shared → Prop} : ∀ f p k, Shf n p → k + f = n → Up lt p k → (∀ p', Shf n p' → Up lt p' n → Q p' s) → (kas_bin f p k).kasWp cmp Q s
  | 0, p, k, S, hk, hu, q => q p S (by have : k = n := by omega
                                       subst this; exact hu)
  | f + 1, p, k, S, hk, hu, q => by
    rw [kas_bin, KasT.kasWp_bind]
    refine place_ok O hc S (by omega) hu k 0 k (by omega) (by omega) (by omega) (fun i h => by omega) (fun i a b => by omega) fun l hl h1 h2 => ?_
    refine bin_ok f _ (k + 1) ⟨(bubble_perm _ _ _).trans S.pm⟩ (by omega) (fun i j hij hj => ?_) q
    have hs : k < p.size := by rw [S.size]; omega
    rw [bub_get hs (by omega), bub_get hs (by omega), show k - (k - l) = l by omega]
    by_cases i1 : i = l
    · rw [if_pos i1, if_neg (by omega), if_pos (by omega)]
      exact h2 _ (by omega) (by omega)
    · rw [if_neg i1]
      by_cases i2 : l < i ∧ i ≤ k
      · rw [if_pos i2, if_neg (by omega), if_pos (by omega)]
        exact hu _ _ (by omega) (by omega)
      · rw [if_neg i2]
        by_cases j1 : j = l
        · rw [if_pos j1]
          exact h1 _ (by omega)
        · rw [if_neg j1]
          by_cases j2 : l < j ∧ j ≤ k
          · rw [if_pos j2]
            exact hu _ _ (by omega) (by omega)
          · rw [if_neg j2]
            exact hu _ _ (by omega) (by omega)
omit O hc in
theorem rev_get {p : Array Nat} {m : Nat} (hm : m ≤ p.size) (i : Nat) : (kas_rev p 0 m).getD i 0 = if i < m then p.getD (m - 1 - i) 0 else p.getD i 0 := by
  unfold kas_rev
  rw [Array.getD_eq_getD_getElem?, getElem?_mirror_all hm i]
  by_cases h : i < m
  · rw [if_pos ⟨Nat.zero_le _, h⟩, if_pos h, Array.getD_eq_getD_getElem?, Nat.zero_add]
  · rw [if_neg (by omega), if_neg h, Array.getD_eq_getD_getElem?]
theorem count_ok {Q : Nat × Array Nat → Shared → Prop} {p : Array Nat} (S : Shf n p) (h2 : 2 ≤ n) (q : ∀ m p', Shf n p' → 1 ≤ m → m ≤ n → Up lt p' m → Q (m, p') s) : (kas_count n p).kasWp cmp Q s := by
  unfold kas_count
  rw [KasT.kasWp_bind]
  refine asc_ok O hc S (n - 1) 1 (by omega) (by omega) (fun i j a b => by omega) fun m hu h1 hm hlast => ?_
  by_cases e : (m == n) = true
  · rw [if_pos e]
    exact q m p S h1 hm hu
  · rw [if_neg e]
    have hne : m ≠ n := fun z => e (by rw [z]; exact beq_self_eq_true n)
    by_cases e1 : m > 1
    · rw [if_pos e1]
      refine hc _ _ _ (S.bd (by omega)) (S.bd (by omega)) ?_
      show KasT.kasWp cmp (if lt (p.getD 0 0) (p.getD (m - 1) 0) = true then KasT.ret (m, p) else kas_descPart m n (kas_rev p 0 m)) Q s
      rw [if_pos (hu 0 (m - 1) (by omega) (by omega))]
      exact q m p S h1 hm hu
    · rw [if_neg e1]
      have em : m = 1 := by omega
      subst em
      have hd : lt (p.getD 1 0) (p.getD 0 0) = true := by
        rcases hlast with h | h
        · omega
        · exact h
      unfold kas_descPart
      rw [KasT.kasWp_bind]
      refine desc_ok O hc S (n - (1 + 1)) 2 (by omega) (by omega) (fun i j a b => ?_) fun m' hdn ha hb => ?_
      · have ei : i = 0 := by omega
        have ej : j = 1 := by omega
        subst ei ej; exact hd
      · show KasT.kasWp cmp (if 0 > 0 then _ else kas_tail3 m' n p) Q s
        rw [if_neg (by omega)]
        unfold kas_tail3
        rw [KasT.kasWp_bind]
        have S' : Shf n (kas_rev p 0 m') := ⟨(mirror_perm _ _ _ _).trans S.pm⟩
        refine asc_ok O hc S' (n - m') m' (by omega) (by omega) (fun i j a b => ?_) fun m2 hu2 _ hm2 _ => q m2 _ S' (by omega) hm2 hu2
        have hs : m' ≤ p.size := by rw [S.size]; exact hb
        rw [rev_get hs, rev_get hs, if_pos (by omega), if_pos (by omega)]
        exact hdn _ _ (by omega) (by omega)
theorem sort_ok {Q : Array Nat → Shared → Prop} (h2 : 2 ≤ n) (q : ∀ p, Shf n p → Up lt p n → Q p s) : (kas_sort n).kasWp cmp Q s := by
  unfold kas_sort
  rw [KasT.kasWp_bind]
  refine count_ok O hc ⟨Array.Perm.refl _⟩ h2 fun m p S h1 hm hu => ?_
  dsimp only
  by_cases e : m < n
  · rw [if_pos e]
    exact bin_ok O hc _ _ _ S (by omega) (by rw [Nat.max_eq_left h1]; exact hu) q
  · rw [if_neg e]
    have em : m = n := by omega
    subst em
    exact q p S hu
end
end L2
namespace L2
open PySem PySem.W PyProof.Rows
section
variable {prog : Program} {w : World} {A : Around} {E : Value → Shared → Prop} {s : Shared}
theorem lex_ok {b f : Bool} {Q : Bool → Shared → Prop} : ∀ {xs ys : List Value} {x y : List Int}, IntsAre xs x → IntsAre ys y → ∀ i, f = decide (x.length < y.length) → Q (decide (x < y)) s → KatLex prog w A b f Q (xs.zip ys) i s
  | _, _, _, _, .nil, .nil, i, e, q => by
    subst e
    exact q
  | _, _, _, _, .nil, .cons n t h, i, e, q => by
    subst e
    have lt1 : ∀ r : List Int, decide (([] : List Int) < n :: r) = true := fun r => by simp
    rw [lt1] at q
    exact q
  | _, _, _, _, .cons n t h, .nil, i, e, q => by
    subst e
    have lt1 : ∀ r : List Int, decide (n :: r < ([] : List Int)) = false := fun r => by simp
    rw [lt1] at q
    exact q
  | _, _, _, _, .cons n t h, .cons m u h', i, e, q => by
    refine kat_cons (wpAny_eqBool_int ?_)
    by_cases c : n = m
    · subst c
      rw [beq_self_eq_true]
      refine kat_yes (lex_ok h h' (i + 1) (by rw [e, List.length_cons, List.length_cons]; simp) ?_)
      have lt1 : ∀ r r' : List Int, decide (n :: r < n :: r') = decide (r < r') := fun r r' => by
        rw [Bool.eq_iff_iff, decide_eq_true_iff, decide_eq_true_iff, List.cons_lt_cons_iff]
        simp
      rw [lt1] at q
      exact q
    · have e1 : (n == m) = false := by simpa using c
      rw [e1]
      have lt1 : ∀ r r' : List Int, decide (n :: r < m :: r') = decide (n < m) := fun r r' => by
        rw [Bool.eq_iff_iff, decide_eq_true_iff, decide_eq_true_iff, List.cons_lt_cons_iff]
        simp [c]
      rw [lt1] at q
      refine kat_no ?_
      cases hb : (b && i == 0) with
      | true => exact oneLt_int q
      | false => exact kat_one _ _ (lt_int q)
inductive TupsAt (h : Heap) : List Value → List (List Int) → Prop
  | nil : TupsAt h [] []
  | cons {a : Addr} {o : Obj} {xs : Array Value} {n : Nat} {t : List Int} {vs : List Value} {ts : List (List Int)} (ho : h.get? a = some o) (hc : o.cls = .type "tuple") (hd : o.data = .seq xs n) (hi : IntsAre xs.toList t) (r : TupsAt h vs ts) : TupsAt h (.ref a :: vs) (t :: ts)
theorem TupsAt.length {h : Heap} {vs : List Value} {ts : List (List Int)} (T : TupsAt h vs ts) : vs.length = ts.length := by
  induction T with
  | nil => rfl
  | cons _ _ _ _ _ ih => rw [List.length_cons, List.length_cons, ih]
theorem TupsAt.keep {h h' : Heap} {vs : List Value} {ts : List (List Int)} (T : TupsAt h vs ts) (k : ∀ b o, h.get? b = some o → h'.get? b = some o) : TupsAt h' vs ts := by
  induction T with
  | nil => exact .nil
  | cons ho hc hd hi _ ih => exact .cons (k _ _ ho) hc hd hi ih
theorem TupsAt.keepBut {h h' : Heap} {x : Addr} {vs : List Value} {ts : List (List Int)} (T : TupsAt h vs ts) : (∀ a, Value.ref a ∈ vs → a ≠ x) → (∀ b o, h.get? b = some o → b ≠ x → h'.get? b = some o) → TupsAt h' vs ts := by
  induction T with
  | nil => intro _ _; exact .nil
  | cons ho hc hd hi _ ih =>
    intro hx k
    exact .cons (k _ _ ho (hx _ List.mem_cons_self)) hc hd hi (ih (fun a ha => hx a (List.mem_cons_of_mem _ ha)) k)
theorem TupsAt.fresh {h : Heap} {vs : List Value} {ts : List (List Int)} (T : TupsAt h vs ts) : ∀ a, Value.ref a ∈ vs → a ≠ h.objs.size + 1 := by
  induction T with
  | nil => intro a h; simp at h
  | cons ho _ _ _ _ ih =>
    intro a h
    rcases List.mem_cons.mp h with e | e
    · cases e; exact Nat.ne_of_lt (Nat.lt_succ_of_lt (Heap.lt_size ho))
    · exact ih a e
theorem all_here (us : List Value) : (List.range us.length).map (fun i => us.getD i .none) = us := by
  refine List.ext_getElem (by simp) fun i h1 h2 => ?_
  simp [List.getD_eq_getElem?_getD, h2]
theorem TupsAt.at {h : Heap} {vs : List Value} {ts : List (List Int)} (T : TupsAt h vs ts) : ∀ i, i < vs.length → ∃ a o xs n, vs.getD i .none = .ref a ∧ h.get? a = some o ∧ o.data = .seq xs n ∧ IntsAre xs.toList (ts.getD i []) := by
  induction T with
  | nil => intro i hi; simp at hi
  | cons ho hc hd hi _ ih =>
    intro i hl
    cases i with
    | zero => exact ⟨_, _, _, _, rfl, ho, hd, hi⟩
    | succ i => exact ih i (by simpa using hl)
theorem TupsAt.firsts {h : Heap} {vs : List Value} {ts : List (List Int)} (T : TupsAt h vs ts) (hne : ∀ t ∈ ts, t ≠ []) : ∃ fs, KatTups h vs fs ∧ fs.length = vs.length ∧ ∀ v ∈ fs, ∃ n t, v = .int n t := by
  induction T with
  | nil => exact ⟨[], .nil, rfl, fun v hv => by simp at hv⟩
  | @cons a o xs n t vs ts ho hc hd hi r ih =>
    obtain ⟨fs, k, l, g⟩ := ih fun t ht => hne t (List.mem_cons_of_mem _ ht)
    obtain ⟨f, m, u, hf, ef⟩ : ∃ f m u, xs[0]? = some f ∧ f = .int m u := by
      have h0 := hne t List.mem_cons_self
      have e : xs[0]? = xs.toList[0]? := (Array.getElem?_toList ..).symm
      cases hx : xs.toList with
      | nil => rw [hx] at hi; cases hi; exact absurd rfl h0
      | cons v r' =>
        rw [hx] at hi
        cases hi with
        | cons m u _ => exact ⟨_, m, u, by rw [e, hx]; rfl, rfl⟩
    refine ⟨f :: fs, .cons ho hc hd hf k, by rw [List.length_cons, List.length_cons, l], fun v hv => ?_⟩
    rcases List.mem_cons.mp hv with rfl | hv
    · exact ⟨m, u, ef⟩
    · exact g v hv
theorem tup_ord {ts : List (List Int)} (nd : ts.Nodup) : Ord ts.length (fun i j => decide (ts.getD i [] < ts.getD j [])) where
  asym i j _ _ h := by
    rw [decide_eq_true_iff] at h
    rw [decide_eq_false_iff_not]
    exact List.lt_asymm h
  trans i j k _ _ _ h1 h2 := by
    rw [decide_eq_true_iff] at *
    exact List.lt_trans h1 h2
  tot i j hi hj ne h := by
    rw [decide_eq_false_iff_not] at h
    rw [decide_eq_true_iff]
    have h' := List.not_lt.mp h
    rcases Classical.em (ts.getD j [] < ts.getD i []) with g | g
    · exact g
    · exfalso
      have e := List.le_antisymm (List.not_lt.mp g) h'
      have gi : ts.getD i [] = ts[i] := by simp [List.getD_eq_getElem?_getD, hi]
      have gj : ts.getD j [] = ts[j] := by simp [List.getD_eq_getElem?_getD, hj]
      rw [gi, gj] at e
      exact ne ((List.getElem_inj nd).mp e)
theorem sort_tups {x : Addr} {us : List Value} {ts : List (List Int)} {c : Nat} {P : Fin → Shared → Prop} (hx : s.heap.get? x = some (seqObj "list" us.toArray c)) (hT : TupsAt s.heap us ts) (hxt : ∀ a, .ref a ∈ us → a ≠ x) (h64 : us.length < 64) (nd : ts.Nodup) (hne : ∀ t ∈ ts, t ≠ [])
    (q : ∀ (out : Array Value) (p : List Nat), p.Perm (List.range us.length) → out.toList = p.map (fun i => us.getD i .none) → (p.map fun i => ts.getD i []).Pairwise (· < ·) → P (.done (.ret .none)) { s with heap := sortedHeap s.heap x us out }) :
    wpAny (model prog w) A (Builtin.«list.sort» ⟨[.ref x], []⟩) P E s := by
  have hlt := Heap.lt_size hx
  have s1k : 64 ≤ sizeLine := by decide
  obtain ⟨d, hd⟩ : ∃ d, (s.heap.update x (Obj.mapSeq fun _ => #[])).get? x = some (seqObj "list" #[] d) := ⟨_, get?_update_seq hx fun _ => #[]⟩
  have h6 : (((s.heap.update x (Obj.mapSeq fun _ => #[])).push (seqObj "tuple" us.toArray 0)).push (seqObj "list" #[] 0)).get? x = some (seqObj "list" #[] d) := by
    rw [Heap.get?_push_ne, Heap.get?_push_ne, hd]
    · rw [Heap.size_update]; exact Nat.ne_of_lt hlt
    · rw [size_push', Heap.size_update]; exact Nat.ne_of_lt (Nat.lt_succ_of_lt hlt)
  have hl := hT.length
  have hT6 : TupsAt (((s.heap.update x (Obj.mapSeq fun _ => #[])).push (seqObj "tuple" us.toArray 0)).push (seqObj "list" #[] 0)) us ts := by
    refine hT.keepBut hxt fun a o ho hne => ?_
    have hlo := Heap.lt_size ho
    rw [Heap.get?_push_ne, Heap.get?_push_ne, Heap.get?_update_ne]
    · exact ho
    · exact hne
    · rw [Heap.size_update]; exact Nat.ne_of_lt hlo
    · rw [size_push', Heap.size_update]; exact Nat.ne_of_lt (Nat.lt_succ_of_lt hlo)
  rw [list_sort_plain]
  refine wpAny_bind (listItems_at hx rfl (wpAny_bind (listUpdate_at hx rfl (wpAny_bind (seqEpoch_at hd rfl (wpAny_bind (wpAny_newTuple (wpAny_bind (wpAny_newList (wpAny_holding ?_))))))))))
  show wpAny (model prog w) A _ P E { s with heap := ((s.heap.update x (Obj.mapSeq fun _ => #[])).push (seqObj "tuple" us.toArray 0)).push (seqObj "list" #[] 0) }
  dsimp only
  by_cases hsz : us.toArray.size < 2
  · rw [if_pos hsz, if_pos hsz]
    refine wpAny_bind (wpAny_pure ?_)
    rw [StateT.run_pure]
    refine wpAny_bind (wpAny_pure ?_)
    dsimp only
    refine wpAny_bind (seqEpoch_at h6 rfl (wpAny_bind (listUpdate_at h6 rfl ?_ (hsz2 := by rw [Array.size_map]; show (pairsOf us).size ≤ _; rw [pairsOf_size]; omega))))
    simp only [bne_self_eq_false, Bool.false_eq_true, if_false]
    rw [List.size_toArray] at hsz
    refine wpAny_pure (q _ (List.range us.length) (.refl _) ?_ ?_)
    · rw [all_here]
      show ((us.toArray.zip us.toArray).map (·.2)).toList = us
      rw [List.zip_toArray, List.map_toArray, List.map_snd_zip (Nat.le_refl _)]
    · match us, hsz with
      | [], _ => exact .nil
      | [v], _ => exact List.pairwise_singleton _ _
  · rw [if_neg hsz, if_neg hsz]
    rw [List.size_toArray] at hsz
    obtain ⟨fs, kf, lf, gf⟩ := hT6.firsts hne
    refine wpAny_bind (kat_kind (T := Value.type "int") kf (by omega) (fun v hv => ?_) rfl ?_)
    · obtain ⟨m, t, rfl⟩ := gf v hv
      exact .now
    refine wpAny_bind (wpAny_mono (kat_run (vs := us) (ks := us) (Q := fun st s' => s' = { s with heap := ((s.heap.update x (Obj.mapSeq fun _ => #[])).push (seqObj "tuple" us.toArray 0)).push (seqObj "list" #[] 0) } ∧ failedOf st = none ∧
        ∃ p : List Nat, p.Perm (List.range us.length) ∧ ((arrOf st).map (·.2)).toList = p.map (fun i => us.getD i .none) ∧ (p.map fun i => ts.getD i []).Pairwise (· < ·))
      (G := fun p s' => s' = { s with heap := ((s.heap.update x (Obj.mapSeq fun _ => #[])).push (seqObj "tuple" us.toArray 0)).push (seqObj "list" #[] 0) } ∧ Shf us.length p ∧ Up (fun i j => decide (ts.getD i [] < ts.getD j [])) p us.length)
      rfl (by omega) h64 (fun p st' s' hp ha hf hg => ⟨hg.1, hf, p.toList, ?_, ?_, ?_⟩) ?_) ?_ fun _ _ e => e)
    · have := Array.perm_iff_toList_perm.mp hg.2.1.pm
      simpa using this
    · rw [kat_snds rfl ha]
    · rw [List.pairwise_iff_getElem]
      intro i j hi hj hij
      rw [List.length_map, Array.length_toList, hg.2.1.size] at hi hj
      have := hg.2.2 i j hij hj
      have gi : p.getD i 0 = p[i]'(by rw [hg.2.1.size]; exact hi) := by simp [Array.getD_eq_getD_getElem?, hg.2.1.size, hi]
      have gj : p.getD j 0 = p[j]'(by rw [hg.2.1.size]; exact hj) := by simp [Array.getD_eq_getD_getElem?, hg.2.1.size, hj]
      rw [gi, gj] at this
      simpa using this
    · refine sort_ok (n := us.length) (lt := fun i j => decide (ts.getD i [] < ts.getD j [])) (hl ▸ tup_ord nd) (fun i j C hi hj hC => ?_) (by omega) fun p S hu => ⟨rfl, S, hu⟩
      obtain ⟨a1, o1, x1, n1, e1, g1, d1, i1⟩ := hT6.at i hi
      obtain ⟨a2, o2, x2, n2, e2, g2, d2, i2⟩ := hT6.at j hj
      unfold kas_ask
      rw [e1, e2]
      have l1 := congrArg List.length i1.numsOf
      have l2 := congrArg List.length i2.numsOf
      refine kat_lt g1 d1 g2 d2 (lex_ok i1 i2 0 ?_ hC)
      have m1 : x1.size = (ts.getD i []).length := by rw [← Array.length_toList]; exact i1.length
      have m2 : x2.size = (ts.getD j []).length := by rw [← Array.length_toList]; exact i2.length
      rw [m1, m2]
    · rintro ⟨⟨⟩, st'⟩ s' ⟨rfl, hf, p, hp, ho, hu⟩
      dsimp only at hf ho ⊢
      have hsz2 : ((arrOf st').map (·.2)).size = us.length := by
        rw [← Array.length_toList, ho, List.length_map, hp.length_eq, List.length_range]
      refine wpAny_bind (seqEpoch_at h6 rfl (wpAny_bind (listUpdate_at h6 rfl ?_ (hsz2 := by rw [hsz2]; omega))))
      rw [hf]
      simp only [bne_self_eq_false, Bool.false_eq_true, if_false]
      exact wpAny_pure (q _ p hp ho hu)
theorem sorted_tups {x : Addr} {us : List Value} {ts : List (List Int)} {Q : Value → Shared → Prop} (hx : s.heap.IsList x us.toArray) (hT : TupsAt s.heap us ts) (h64 : us.length < 64) (nd : ts.Nodup) (hne : ∀ t ∈ ts, t ≠ [])
    (q : ∀ (out : Array Value) (p : List Nat), p.Perm (List.range us.length) → out.toList = p.map (fun i => us.getD i .none) → (p.map fun i => ts.getD i []).Pairwise (· < ·) → Q (.ref (s.heap.objs.size + 1)) { s with heap := sortedAll s.heap us out }) :
    wpAny (model prog w) A (call (.builtin "sorted") [.ref x]) Q E s := by
  have s1k : 64 ≤ sizeLine := by decide
  refine Calls.call_function_entry kind_sorted plain_sorted entry_sorted (args_sorted1 _) ?_
  unfold Builtin.«sorted»
  refine wpAny_bind (m := checkCount "sorted" 1 1 _) (wpAny_pure (wpAny_bind (collect_list hx (wpAny_bind (wpAny_newList ?_)) (by omega))))
  have hs0 : ((s.heap.push (seqObj "list" #[] 0)).update s.heap.objs.size (Obj.mapSeq (· ++ us.toArray))).objs.size = s.heap.objs.size + 1 := by rw [Heap.size_update, size_push']
  have hL : (((s.heap.push (seqObj "list" #[] 0)).update s.heap.objs.size (Obj.mapSeq (· ++ us.toArray))).push (seqObj "list" us.toArray 0)).get? (s.heap.objs.size + 1) = some (seqObj "list" us.toArray 0) := by
    rw [← hs0]; exact Heap.get?_push_size _ rfl
  have old : ∀ b o, s.heap.get? b = some o → (((s.heap.push (seqObj "list" #[] 0)).update s.heap.objs.size (Obj.mapSeq (· ++ us.toArray))).push (seqObj "list" us.toArray 0)).get? b = some o := fun b o g => by
    have hb := Heap.lt_size g
    rw [Heap.get?_push_ne, Heap.get?_update_ne, Heap.get?_push_ne, g]
    · exact Nat.ne_of_lt hb
    · exact Nat.ne_of_lt hb
    · rw [hs0]; exact Nat.ne_of_lt (Nat.lt_succ_of_lt hb)
  have hxt := hT.fresh
  show wpAny _ _ _ _ _ { s with heap := ((s.heap.push (seqObj "list" #[] 0)).update s.heap.objs.size (Obj.mapSeq (· ++ us.toArray))).push (seqObj "list" us.toArray 0) }
  rw [hs0]
  exact wpAny_bind (wpAny_holding (wpAny_call_entry slot_list_sort ⟨_, hL, rfl⟩ entry_list_sort (sort_tups hL (hT.keep old) hxt h64 nd hne fun out p h1 h2 h3 => ⟨_, rfl, wpAny_pure ⟨_, rfl, q out p h1 h2 h3⟩⟩) (args_list_sort _)))
end
end L2
namespace L2
open PySem PySem.W PyProof.Rows
inductive TupI (H : Hp) : List Addr → List (List Int) → Prop
  | nil : TupI H [] []
  | cons {a : Addr} {t : List Int} {as : List Addr} {ts : List (List Int)} (h : H a = some (.tup (t.map V.int))) (r : TupI H as ts) : TupI H (a :: as) (t :: ts)
theorem TupI.length {H : Hp} {as : List Addr} {ts : List (List Int)} (T : TupI H as ts) : as.length = ts.length := by
  induction T with
  | nil => rfl
  | cons _ _ ih => rw [List.length_cons, List.length_cons, ih]
theorem TupI.same {H H' : Hp} {as : List Addr} {ts : List (List Int)} (T : TupI H as ts) (hs : ∀ b u, H b = some u → H' b = some u) : TupI H' as ts := by
  induction T with
  | nil => exact .nil
  | cons h _ ih => exact .cons (hs _ _ h) ih
theorem TupI.append {H : Hp} {as bs : List Addr} {ts us : List (List Int)} (T : TupI H as ts) (U : TupI H bs us) : TupI H (as ++ bs) (ts ++ us) := by
  induction T with
  | nil => exact U
  | cons h _ ih => exact .cons h ih
theorem TupI.get {H : Hp} {as : List Addr} {ts : List (List Int)} (T : TupI H as ts) : ∀ i, i < as.length → H (as.getD i 0) = some (.tup ((ts.getD i []).map V.int)) := by
  induction T with
  | nil => intro i h; simp at h
  | cons h _ ih =>
    intro i hl
    cases i with
    | zero => exact h
    | succ i => exact ih i (by simpa using hl)
theorem TupI.pick {H : Hp} {as : List Addr} {ts : List (List Int)} (T : TupI H as ts) : ∀ p : List Nat, (∀ i ∈ p, i < as.length) → TupI H (p.map fun i => as.getD i 0) (p.map fun i => ts.getD i [])
  | [], _ => .nil
  | i :: p, h => .cons (T.get i (h i List.mem_cons_self)) (T.pick p fun j hj => h j (List.mem_cons_of_mem _ hj))
theorem pick_all (ts : List (List Int)) : (List.range ts.length).map (fun i => ts.getD i []) = ts := by
  refine List.ext_getElem (by simp) fun i h1 h2 => ?_
  simp [List.getD_eq_getElem?_getD, h2]
section
variable {X : Cx} {pins : List (Addr × Obj)} {σ : St} {H : Hp} {s : Shared}
theorem refs_of : ∀ {as : List Addr} {its : List Value}, Vals (as.map V.ref) its → its = as.map Value.ref
  | [], its, r => by cases r; rfl
  | a :: as, its, r => by
    rw [List.map_cons] at r
    cases r with
    | cons h r' => cases h; rw [refs_of r', List.map_cons]
theorem refs_to : ∀ as : List Addr, Vals (as.map V.ref) (as.map Value.ref)
  | [] => .nil
  | _ :: as => .cons rfl (refs_to as)
theorem tups_at (I : Inv X pins σ H s) {as : List Addr} {ts : List (List Int)} (T : TupI H as ts) : TupsAt s.heap (as.map Value.ref) ts := by
  induction T with
  | nil => exact .nil
  | cons h _ ih =>
    obtain ⟨its, rv, ⟨o, e, c, n, d⟩, _⟩ := I.tuple (SqT.of h)
    exact .cons e c d (by simpa using intsAre_of rv) ih
theorem call_sortT : CallR X (.builtin "sorted") (fun xs H Q => ∃ (p : Addr) (as : List Addr) (ts : List (List Int)), xs = [.ref p] ∧ SqL X.K H p (as.map V.ref) ∧ TupI H as ts ∧ ts.length < 64 ∧ ts.Nodup ∧ (∀ t ∈ ts, t ≠ []) ∧
    ∀ (l : Addr) (as' : List Addr) (ts' : List (List Int)), TupI H as' ts' → ts'.Perm ts → ts'.Pairwise (· < ·) → H l = none → Q (.ref l) (upd H l (.lst (as'.map V.ref)))) := by
  intro pins s σ H xs us Q I r h
  obtain ⟨p, as, ts, rfl, hq, T, h64, nd, hne, q⟩ := h
  obtain ⟨u, rfl, rx⟩ := vals1 r
  cases rx
  obtain ⟨its, rv, pl, hz⟩ := I.list hq
  have e0 := refs_of rv
  subst e0
  have hl := T.length
  refine sorted_tups pl.isList (tups_at I T) (by rw [List.length_map]; omega) nd hne fun out pm h1 h2 h3 => ?_
  obtain ⟨e, he⟩ := sortedAll_at s.heap (as.map Value.ref) out
  rw [List.length_map] at h1
  have hlt : ∀ i ∈ pm, i < as.length := fun i hi => List.mem_range.mp (h1.mem_iff.mp hi)
  have e2 : out.toList = (pm.map fun i => as.getD i 0).map Value.ref := by
    rw [h2, List.map_map]
    refine List.map_congr_left fun i hi => ?_
    have := hlt i hi
    simp [List.getD_eq_getElem?_getD, this]
  have hpl : (pm.map fun i => as.getD i 0).length = as.length := by rw [List.length_map, h1.length_eq, List.length_range]
  have s64 : 64 ≤ sizeLine := by decide
  have new : ObjOk X.prog X.w (upd H (s.heap.objs.size + 1) (.lst ((pm.map fun i => as.getD i 0).map V.ref))) (sortedAll s.heap (as.map Value.ref) out) (s.heap.objs.size + 1) (.lst ((pm.map fun i => as.getD i 0).map V.ref)) :=
    ⟨by rw [List.length_map, hpl]; omega, out.toList, e, by rw [e2]; exact refs_to _, by simpa [seqObj] using he⟩
  refine ⟨.ref _, _, I.laid (t' := s.toks) (fun b o e => sortedAll_old e) (Nat.le_succ _) new, rfl, q _ _ _ (T.pick pm hlt) ?_ h3 (I.hok.fresh (Nat.le_succ _))⟩
  have := h1.map fun i => ts.getD i []
  rwa [hl, pick_all] at this
def tChain3 (r1 r2 r3 : R2) (ta tb tc td : TE) : TT := fun σ H Q => ta σ H fun x H1 => tb σ H1 fun y H2 => r1 x y H2 fun z H3 => ∃ k, z = .bl k ∧
  (if k = true then tc σ H3 fun y2 H4 => r2 y y2 H4 fun z2 H5 => ∃ k2, z2 = .bl k2 ∧ (if k2 = true then td σ H5 fun y3 H6 => r3 y2 y3 H6 fun z3 H7 => ∃ k3, z3 = .bl k3 ∧ Q k3 H7 else Q false H5) else Q false H3)
open Classical in
noncomputable def isT (P : Program) (w : World) (h : Heap) (k : List Int) (v : Value) : Bool := decide (∃ a, v = .ref a ∧ IsTupleKey (intKind P w) h k a)
end
end L2
namespace L2
open PySem PySem.Spec PyProof.Rows
def ItL (a : Addr) : It := ⟨fun i H => ∃ xs x, H a = some (.lst xs) ∧ xs[i]? = some x, fun i H x H' => ∃ T y, (∀ xs, H a = some (.lst xs) → xs[i]? = some y) ∧ x = .ref T ∧ H T = none ∧ H' = upd H T (.tup [.int (i : Nat), y]),
  fun i H => ∃ xs, H a = some (.lst xs) ∧ xs.length = i⟩
theorem turn_enumL {P : Program} {w : World} {K : PySem.W.Frag} {elts : List Expr} {kk : Nat} {tpos : Pos} {e it a : Addr} (hei : e ≠ it) :
    Turn P w K (.Tuple elts kk tpos) (ItL a) [e, it] e (fun i h => (∃ old, IsEnum h e it i old) ∧ h.IsListIter it a i) where
  mem := by simp
  obj := fun i h st b hb => by
    obtain ⟨⟨old, h1⟩, o, h2, h3, h4⟩ := st
    rcases List.mem_cons.mp hb with rfl | hb
    · exact ⟨_, h1, fun v q => by cases q⟩
    · rw [List.mem_singleton.mp hb]
      exact ⟨o, h2, fun v q => by rw [h4] at q; cases q⟩
  keep := fun i h h' st k => by
    obtain ⟨⟨old, h1⟩, h2⟩ := st
    exact ⟨⟨old, k e (by simp) _ h1⟩, h2.at fun o g => k it (by simp) o g⟩
  item := by
    intro X hP hw hK hc i pins s σ H E I hf st hg
    subst hP hw hK
    obtain ⟨xs, x, hq, hx⟩ := hg
    obtain ⟨its, rv, pl, hz⟩ := I.list (SqL.of hq)
    obtain ⟨u, hu, ru⟩ := rv.get hx
    have n1 : a ≠ it := fun z => by have := (hf it (by simp)).1; rw [← z, hq] at this; cases this
    have n2 : a ≠ e := fun z => by have := (hf e (by simp)).1; rw [← z, hq] at this; cases this
    have W := WalksT.enumerateD (A := X.A) (Draws.list (prog := X.prog) (w := X.w) (A := X.A.in1) (I.ok.hd hc) it a n1 its.toArray) e hei (by simp; exact ⟨hei, Ne.symm n2⟩) (by simp)
    have he : e < s.heap.objs.size := by obtain ⟨⟨_, h1⟩, _⟩ := st; exact Heap.lt_size h1
    have hi : it < s.heap.objs.size := by obtain ⟨_, o, h2, _⟩ := st; exact Heap.lt_size h2
    have hil : i < its.length := (List.getElem?_eq_some_iff.mp hu).1
    refine W.item i s _ _ (by simpa using hil) ⟨st.1, st.2, pl.isList⟩ fun T vals h1 tk hv hT ht mid k1 => ?_
    obtain ⟨tt, v, hvx, rfl⟩ := hv
    have ev : v = u := by
      have : its[i]? = some v := by simpa using hvx
      rw [hu] at this
      exact (Option.some.inj this).symm
    subst ev
    refine ⟨_, rfl, ?_⟩
    have hTw : T ∉ [e, it] := W.apart i T h1 mid
    refine W.go elts kk tpos i T { s with heap := h1, toks := tk } _ _ mid fun h2 st2 k2 => ?_
    have hk : ∀ b u, b ∉ [e, it] → s.heap.get? b = some u → h2.get? b = some u := fun b u hb q => k2 b u hb (k1 b u hb q)
    obtain ⟨o, ho, hoc, n, hod⟩ := ht
    have new : ObjOk X.prog X.w (upd H T (.tup [V.int (i : Nat), x])) h2 T (.tup [V.int (i : Nat), x]) :=
      ⟨by show 2 ≤ sizeLine; decide, [.int i tt, v], .cons ⟨tt, rfl⟩ (.cons ru .nil), o, k2 T o hTw ho, hoc, n, hod⟩
    refine ⟨.ref T, upd H T (.tup [V.int (i : Nat), x]), I.turnT (t' := tk) (wr := [e, it]) hk hf hT new, rfl, ⟨T, x, fun ys hy => ?_, rfl, I.hok.fresh hT, rfl⟩, ⟨st2.1, st2.2.1⟩, fun b hb => ?_⟩
    · rw [hq] at hy; cases hy; exact hx
    have hbT : b ≠ T := by
      rcases List.mem_cons.mp hb with rfl | hb
      · exact Nat.ne_of_lt (Nat.lt_of_lt_of_le he hT)
      · rw [List.mem_singleton.mp hb]; exact Nat.ne_of_lt (Nat.lt_of_lt_of_le hi hT)
    rw [upd_ne hbT]
    exact (hf b hb).1
  done := by
    intro X hP hw hK hc i pins s σ H E I hf st hg
    subst hP hw hK
    obtain ⟨xs, hq, hx⟩ := hg
    obtain ⟨its, rv, pl, hz⟩ := I.list (SqL.of hq)
    have hl := rv.length
    have n1 : a ≠ it := fun z => by have := (hf it (by simp)).1; rw [← z, hq] at this; cases this
    have n2 : a ≠ e := fun z => by have := (hf e (by simp)).1; rw [← z, hq] at this; cases this
    have W := WalksT.enumerateD (A := X.A) (Draws.list (prog := X.prog) (w := X.w) (A := X.A.in1) (I.ok.hd hc) it a n1 its.toArray) e hei (by simp; exact ⟨hei, Ne.symm n2⟩) (by simp)
    have ei : i = its.toArray.size := by simp; omega
    subst ei
    exact W.done s _ _ ⟨st.1, st.2, pl.isList⟩ fun h1 tk k1 => ⟨rfl, I.turnL k1 hf⟩
  self := fun A i s Q E st h => by
    obtain ⟨⟨old, h1⟩, _⟩ := st
    exact wpAny_pyIter_enum h1 h
section
variable {X : Cx}
def iEnumL (ta : TA) : TI := fun σ H R => ta σ H fun vs H1 => ∃ a xs, vs = [.ref a] ∧ H1 a = some (.lst xs) ∧ R (ItL a) H1
theorem pi_enumL {elts : List Expr} {kk : Nat} {tpos : Pos} {e : Expr} {ta : TA} {p pos : Pos} (hg : Gl X "enumerate") (hm : X.mg "enumerate" = none) (ha : PA X [e] ta) (hs : starEach [e] X.env = [(false, eval e X.env)] := by rfl) :
    PI X (.Tuple elts kk tpos) (.Call (.Name "enumerate" p) [e] [] pos) (iEnumL ta) := by
  constructor
  intro pins s σ H R I h
  refine Call_ (ld_blt I hg hm (u := .type "enumerate") (by decide +kernel) (PyProof.Rows.callWith_type1 (thn (ha pos pins s σ H _ I h) fun us s1 ⟨vs, H1, I1, r1, q1⟩ => ?_) hs rfl))
  obtain ⟨a, xs, rfl, hl, q⟩ := q1
  obtain ⟨u, rfl, ru⟩ := vals1 r1
  cases ru
  obtain ⟨its, rv, pl, hz⟩ := I1.list (SqL.of hl)
  refine call_enumerate_list pl.isList fun h1 h2 h3 h4 h5 => ?_
  refine wpAny_pyIter_enum h2 ?_
  have ne : s1.heap.objs.size + 1 ≠ s1.heap.objs.size := Nat.succ_ne_self _
  have fp : ∀ b ∈ [s1.heap.objs.size + 1, s1.heap.objs.size], FpOk X pins H1 b := fun b hb => by
    rcases List.mem_cons.mp hb with rfl | hb
    · exact I1.fpOk (Nat.le_succ _) (I1.hok.fresh (Nat.le_succ _))
    · rw [List.mem_singleton.mp hb]; exact I1.fpOk (Nat.le_refl _) (I1.hok.fresh (Nat.le_refl _))
  have I2 : Inv X pins σ H1 { s1 with heap := h1 } := I1.kept (t' := s1.toks) h5
  exact ⟨_, _, _, _, H1, rfl, I2, turn_enumL ne, ⟨⟨_, h2⟩, h3⟩, fp, q⟩
theorem for_enumL {a : Addr} {xs : List V} {g : TG} {tb : TS} {D : Ends} {σ : St} {H : Hp} (Pv : Nat → St → Hp → Prop) (h0 : Pv 0 σ H) (hl : ∀ i σ H, Pv i σ H → H a = some (.lst xs))
    (hs : ∀ i y σ H T, xs[i]? = some y → Pv i σ H → H T = none → g (.ref T) σ (upd H T (.tup [.int (i : Nat), y])) fun σ2 H2 => tb { D with nx := Pv (i + 1), ct := Pv (i + 1), bk := D.nx } σ2 H2) (hd : ∀ σ H, Pv xs.length σ H → D.nx σ H) :
    ∃ W : Nat → Nat → St → Hp → Prop, (∃ m, W 0 m σ H) ∧ ∀ i m σ H, W i m σ H →
      ((ItL a).stop i H ∧ D.nx σ H) ∨ ((ItL a).go i H ∧ ∃ N : St → Hp → Prop, (∀ σ' H', N σ' H' → ∃ m', m' < m ∧ W (i + 1) m' σ' H') ∧ ∀ x H', (ItL a).yld i H x H' → g x σ H' fun σ2 H2 => tb { D with nx := N, ct := N, bk := D.nx } σ2 H2) := by
  refine ⟨fun i m σ H => m = xs.length - i ∧ i ≤ xs.length ∧ Pv i σ H, ⟨xs.length, by simp, Nat.zero_le _, h0⟩, ?_⟩
  rintro i m σ H ⟨rfl, hi, p⟩
  have q := hl i σ H p
  by_cases hlt : i < xs.length
  · refine .inr ⟨⟨xs, xs[i], q, by simp [hlt]⟩, Pv (i + 1), fun σ' H' p' => ⟨xs.length - (i + 1), by omega, rfl, hlt, p'⟩, fun x H' y => ?_⟩
    obtain ⟨T, v, hv, rfl, hT, rfl⟩ := y
    exact hs i v σ H T (hv xs q) p hT
  · have e : i = xs.length := by omega
    subst e
    exact .inl ⟨⟨xs, q, rfl⟩, hd σ H p⟩
theorem vals_from : ∀ (tk : Nat) (xs : List Str), Vals (xs.map V.str) (strsFrom tk xs)
  | _, [] => .nil
  | tk, _ :: xs => .cons ⟨tk, rfl⟩ (vals_from (tk + 1) xs)
theorem mt_split : MtM X "str.split" (fun x vs H Q => ∃ z y, x = .str z ∧ vs = [.str y] ∧ (y.length == 0) = false ∧ z.length ≤ 900 ∧ (Txt.split z y).length ≤ 900 ∧ ∀ p, H p = none → Q (.ref p) (upd H p (.lst ((Txt.split z y).map V.str)))) := by
  intro pins s σ H x vs v us Q I rx rv h
  obtain ⟨z, y, rfl, rfl, hy, hz, hn, q⟩ := h
  obtain ⟨t, rfl⟩ := rx
  obtain ⟨u, rfl, ru⟩ := vals1 rv
  obtain ⟨t2, rfl⟩ := ru
  have s1k := small1000 (n := 1000) (by omega)
  have fin : ∀ (its : List Value) (tk : Nat), Vals ((Txt.split z y).map V.str) its → EP X pins σ Q (.ref s.heap.objs.size) { s with toks := tk, heap := s.heap.push { cls := .type "list", data := .seq its.toArray } } := fun its tk rel => by
    have new : ObjOk X.prog X.w (upd H s.heap.objs.size (.lst ((Txt.split z y).map V.str))) (s.heap.push { cls := .type "list", data := .seq its.toArray }) s.heap.objs.size (.lst ((Txt.split z y).map V.str)) :=
      ⟨by rw [List.length_map]; omega, its, 0, rel, Heap.get?_push_size _ rfl⟩
    exact ⟨.ref _, _, I.laid (t' := tk) (fun b o e => Heap.get?_push_of_some _ e) (Nat.le_refl _) new, rfl, q _ (I.hok.fresh (Nat.le_refl _))⟩
  cases h1 : (decide (z.length < y.length) || decide (Builtin.Str.strKind z < Builtin.Str.strKind y))
  · cases hf : (Builtin.Str.occurrences z y 0 z.length (z.length + 1)).isEmpty
    · have e : Txt.split z y = Builtin.Str.partsBetween z (Builtin.Str.occurrences z y 0 z.length (z.length + 1)) y.length := (if_neg (ne_true_of_eq_false h1)).trans (if_neg (ne_true_of_eq_false hf))
      refine call_meets PySem.F.slot_str_split (typeIs_str _ _ _) PySem.F.entry_str_split (PySem.F.args_str_split_2 _ _) (meets_str_split_sep z y t t2 h1 hy hf (by omega) (by rw [← e]; omega)) ?_
      exact fin _ _ (by rw [e]; exact vals_from _ _)
    · have e : Txt.split z y = [z] := (if_neg (ne_true_of_eq_false h1)).trans (if_pos hf)
      exact call_meets PySem.F.slot_str_split (typeIs_str _ _ _) PySem.F.entry_str_split (PySem.F.args_str_split_2 _ _) (meets_str_split_not_found z y t t2 h1 hy hf) (fin [.str z t] s.toks (by rw [e]; exact .cons ⟨t, rfl⟩ .nil))
  · have e : Txt.split z y = [z] := if_pos h1
    exact call_meets PySem.F.slot_str_split (typeIs_str _ _ _) PySem.F.entry_str_split (PySem.F.args_str_split_2 _ _) (meets_str_split_cannot_occur z y t t2 h1) (fin [.str z t] s.toks (by rw [e]; exact .cons ⟨t, rfl⟩ .nil))
end
end L2
namespace Br
def stp (s : List Int × List (List Int)) (p k : Nat) : List Int × List (List Int) :=
  if k = 0 then (s.1 ++ [(p : Int)], s.2) else ((s.1 ++ [(p : Int)]).take (s.1.length + 1 - k), s.2 ++ [(s.1 ++ [(p : Int)]).drop (s.1.length + 1 - k)])
def runP : Nat → List Int × List (List Int) → List Nat → List Int × List (List Int)
  | _, s, [] => s
  | p, s, k :: ks => runP (p + 1) (stp s p k) ks
theorem runP_append : ∀ (p : Nat) (s : List Int × List (List Int)) (a b : List Nat), runP p s (a ++ b) = runP (p + a.length) (runP p s a) b
  | _, _, [], _ => rfl
  | p, s, k :: a, b => by
    rw [List.cons_append, runP, runP_append (p + 1) _ a b, runP, List.length_cons]
    congr 1
    omega
def aft (ks : List Nat) (i : Nat) : List Int × List (List Int) := runP 0 ([], []) (ks.take i)
theorem aft_succ {ks : List Nat} {i : Nat} (h : i < ks.length) : aft ks (i + 1) = stp (aft ks i) i (ks.getD i 0) := by
  unfold aft
  have e : ks[i]? = some (ks.getD i 0) := by rw [List.getD_eq_getElem?_getD, List.getElem?_eq_getElem h]; rfl
  rw [List.take_add_one, e, Option.toList_some, runP_append, List.length_take, Nat.min_eq_left (Nat.le_of_lt h), Nat.zero_add]
  rfl
def Fits (ks : List Nat) : Prop := ∀ i, i ≤ ks.length → (ks.take i).sum ≤ i
def Apart (B : List Int) (z : Int) : Prop := (∀ x ∈ B, z < x) ∨ (∀ x ∈ B, x < z)
structure Good (n : Nat) (s : List Int × List (List Int)) : Prop where
  perm : (s.1 ++ s.2.flatten).Perm ((List.range n).map fun (k : Nat) => (k : Int))
  up : s.1.Pairwise (· < ·)
  ups : ∀ B ∈ s.2, B.Pairwise (· < ·) ∧ B ≠ []
  free : ∀ B ∈ s.2, ∀ z ∈ s.1, Apart B z
  apart : s.2.Pairwise fun B C => ∀ z ∈ C, Apart B z
theorem Good.lt {n : Nat} {s : List Int × List (List Int)} (g : Good n s) {z : Int} (h : z ∈ s.1 ++ s.2.flatten) : z < n := by
  obtain ⟨k, hk, rfl⟩ := List.mem_map.mp (g.perm.mem_iff.mp h)
  have := List.mem_range.mp hk
  omega
theorem Good.step {n k : Nat} {s : List Int × List (List Int)} (g : Good n s) (hk : k ≤ s.1.length + 1) : Good (n + 1) (stp s n k) ∧ (stp s n k).1.length + k = s.1.length + 1 := by
  have lt1 : ∀ z ∈ s.1, z < (n : Int) := fun z hz => g.lt (List.mem_append_left _ hz)
  have lt2 : ∀ B ∈ s.2, ∀ z ∈ B, z < (n : Int) := fun B hB z hz => g.lt (List.mem_append_right _ (List.mem_flatten.mpr ⟨B, hB, hz⟩))
  have up1 : (s.1 ++ [(n : Int)]).Pairwise (· < ·) := by
    rw [List.pairwise_append]
    refine ⟨g.up, List.pairwise_singleton _ _, fun a ha b hb => ?_⟩
    have : b = (n : Int) := by simpa using hb
    rw [this]; exact lt1 a ha
  have fr1 : ∀ B ∈ s.2, ∀ z ∈ s.1 ++ [(n : Int)], Apart B z := fun B hB z hz => by
    rcases List.mem_append.mp hz with h | h
    · exact g.free B hB z h
    · have : z = (n : Int) := by simpa using h
      rw [this]; exact .inr (lt2 B hB)
  have pm1 : ((s.1 ++ [(n : Int)]) ++ s.2.flatten).Perm ((List.range (n + 1)).map fun (k : Nat) => (k : Int)) := by
    rw [List.range_succ, List.map_append, List.append_assoc]
    refine (List.perm_append_comm_assoc _ _ _).trans ?_
    exact (List.perm_append_comm (l₁ := [(n : Int)])).trans (g.perm.append_right _)
  unfold stp
  by_cases h0 : k = 0
  · rw [if_pos h0]
    exact ⟨⟨pm1, up1, g.ups, fr1, g.apart⟩, by show (s.1 ++ [(n : Int)]).length + k = _; rw [List.length_append, h0]; rfl⟩
  · rw [if_neg h0]
    generalize hm : s.1.length + 1 - k = m
    have hl : (s.1 ++ [(n : Int)]).length = s.1.length + 1 := by rw [List.length_append]; rfl
    refine ⟨⟨?_, ?_, ?_, ?_, ?_⟩, ?_⟩
    · show ((s.1 ++ [(n : Int)]).take m ++ (s.2 ++ [(s.1 ++ [(n : Int)]).drop m]).flatten).Perm _
      rw [List.flatten_append, List.flatten_cons, List.flatten_nil, List.append_nil]
      refine List.Perm.trans ?_ pm1
      have : ((s.1 ++ [(n : Int)]).take m ++ (s.2.flatten ++ (s.1 ++ [(n : Int)]).drop m)).Perm ((s.1 ++ [(n : Int)]).take m ++ ((s.1 ++ [(n : Int)]).drop m ++ s.2.flatten)) := (List.perm_append_comm).append_left _
      refine this.trans ?_
      rw [← List.append_assoc, List.take_append_drop]
    · exact up1.sublist (List.take_sublist _ _)
    · intro B hB
      rcases List.mem_append.mp hB with h | h
      · exact g.ups B h
      · have e : B = (s.1 ++ [(n : Int)]).drop m := by simpa using h
        rw [e]
        refine ⟨up1.sublist (List.drop_sublist _ _), fun z => ?_⟩
        have := congrArg List.length z
        rw [List.length_drop, hl] at this
        simp at this
        omega
    · intro B hB z hz
      have hz' := List.mem_of_mem_take hz
      rcases List.mem_append.mp hB with h | h
      · exact fr1 B h z hz'
      · have e : B = (s.1 ++ [(n : Int)]).drop m := by simpa using h
        refine .inl fun x hx => ?_
        rw [e] at hx
        have sp := List.take_append_drop m (s.1 ++ [(n : Int)])
        have up2 := up1
        rw [← sp, List.pairwise_append] at up2
        exact up2.2.2 z hz x hx
    · show (s.2 ++ [(s.1 ++ [(n : Int)]).drop m]).Pairwise _
      rw [List.pairwise_append]
      refine ⟨g.apart, List.pairwise_singleton _ _, fun B hB C hC z hz => ?_⟩
      have e : C = (s.1 ++ [(n : Int)]).drop m := by simpa using hC
      rw [e] at hz
      exact fr1 B hB z (List.mem_of_mem_drop hz)
    · show ((s.1 ++ [(n : Int)]).take m).length + k = _
      rw [List.length_take, hl]
      omega
theorem aft_good {ks : List Nat} (f : Fits ks) : ∀ i, i ≤ ks.length → Good i (aft ks i) ∧ (aft ks i).1.length + (ks.take i).sum = i
  | 0, _ => ⟨⟨by show (([] : List Int) ++ []).Perm _; exact .refl _, .nil, fun B h => (by cases h), fun B h => (by cases h), .nil⟩, rfl⟩
  | i + 1, h => by
    obtain ⟨g, l⟩ := aft_good f i (by omega)
    have e : ks[i]? = some (ks.getD i 0) := by rw [List.getD_eq_getElem?_getD, List.getElem?_eq_getElem (by omega)]; rfl
    have hs : (ks.take (i + 1)).sum = (ks.take i).sum + ks.getD i 0 := by
      rw [List.take_add_one, e, Option.toList_some, List.sum_append]; simp
    have hf := f (i + 1) h
    obtain ⟨g', l'⟩ := g.step (k := ks.getD i 0) (by omega)
    rw [aft_succ (by omega)]
    exact ⟨g', by omega⟩
end Br
namespace Br
def pts (n : Nat) : List Int := (List.range n).map fun (k : Nat) => (k : Int)
theorem mem_pts {n : Nat} {z : Int} : z ∈ pts n ↔ 0 ≤ z ∧ z < n := by
  unfold pts
  constructor
  · intro h
    obtain ⟨k, hk, rfl⟩ := List.mem_map.mp h
    have := List.mem_range.mp hk
    omega
  · rintro ⟨h1, h2⟩
    exact List.mem_map.mpr ⟨z.toNat, List.mem_range.mpr (by omega), by omega⟩
theorem pts_succ (n : Nat) : pts (n + 1) = pts n ++ [(n : Int)] := by unfold pts; rw [List.range_succ, List.map_append]; rfl
theorem pts_length (n : Nat) : (pts n).length = n := by unfold pts; rw [List.length_map, List.length_range]
theorem pts_up : ∀ n : Nat, (pts n).Pairwise (· < ·)
  | 0 => .nil
  | n + 1 => by
    rw [pts_succ, List.pairwise_append]
    refine ⟨pts_up n, List.pairwise_singleton _ _, fun a ha b hb => ?_⟩
    have e : b = (n : Int) := by simpa using hb
    rw [e]; exact (mem_pts.mp ha).2
theorem up_nd {l : List Int} (h : l.Pairwise (· < ·)) : l.Nodup := h.imp fun h e => by omega
theorem up_same {a b : List Int} (ha : a.Pairwise (· < ·)) (hb : b.Pairwise (· < ·)) (h : ∀ z, z ∈ a ↔ z ∈ b) : a = b :=
  List.Perm.eq_of_pairwise (fun x y _ _ h1 h2 => by omega) ha hb ((List.perm_ext_iff_of_nodup (up_nd ha) (up_nd hb)).mpr h)
theorem filter_two {P Q : Int → Bool} : ∀ {l : List Int}, l.Pairwise (· < ·) → (∀ x ∈ l, ∀ y ∈ l, P x = true → Q y = true → x < y) → (∀ x ∈ l, P x = true → Q x = false) → l.filter (fun x => P x || Q x) = l.filter P ++ l.filter Q
  | [], _, _, _ => rfl
  | a :: l, hp, h, hd => by
    rw [List.pairwise_cons] at hp
    have ih := filter_two hp.2 (fun x hx y hy => h x (List.mem_cons_of_mem _ hx) y (List.mem_cons_of_mem _ hy)) fun x hx => hd x (List.mem_cons_of_mem _ hx)
    rw [List.filter_cons, List.filter_cons, List.filter_cons]
    by_cases p : P a = true
    · have q := hd a List.mem_cons_self p
      rw [if_pos (by rw [p]; rfl), if_pos p, if_neg (by rw [q]; exact Bool.false_ne_true), ih]
      rfl
    · have p' : P a = false := Bool.eq_false_iff.mpr p
      by_cases q : Q a = true
      · have none : l.filter P = [] := List.filter_eq_nil_iff.mpr fun x hx px => by
          have h1 := h x (List.mem_cons_of_mem _ hx) a List.mem_cons_self px q
          have h2 := hp.1 x hx
          omega
        rw [if_pos (by rw [q, Bool.or_true]), if_neg p, if_pos q, ih, none]
        rfl
      · have q' : Q a = false := Bool.eq_false_iff.mpr q
        rw [if_neg (by rw [p', q']; exact Bool.false_ne_true), if_neg p, if_neg q, ih]
def Cr (hm : Int → Int) (n : Nat) : Prop := ∃ a b c d : Int, 0 ≤ a ∧ a < b ∧ b < c ∧ c < d ∧ d < n ∧ hm a = hm c ∧ hm b = hm d ∧ hm b ≠ hm c
def kfn (ts : List (List Int)) (p : Int) : Nat := match ts.reverse.find? fun B => decide (B.getLastD 0 = p) with
  | some B => B.length
  | none => 0
def ksT (ts : List (List Int)) : List Nat := (List.range ts.flatten.length).map fun (p : Nat) => kfn ts p
structure Part (ts : List (List Int)) (hm : Int → Int) : Prop where
  perm : ts.flatten.Perm (pts ts.flatten.length)
  ups : ∀ B ∈ ts, B.Pairwise (· < ·) ∧ B ≠ []
  up : ts.Pairwise (· < ·)
  same : ∀ B ∈ ts, ∀ C ∈ ts, ∀ x ∈ B, ∀ y ∈ C, hm x = hm y ↔ B = C
  cr : ¬ Cr hm ts.flatten.length
section
variable {ts : List (List Int)} {hm : Int → Int}
theorem last_mem {B : List Int} (h : B ≠ []) : B.getLastD 0 ∈ B := by
  rw [List.getLastD_eq_getLast?, List.getLast?_eq_some_getLast h]
  exact List.getLast_mem h
theorem last_max {B : List Int} (h : B.Pairwise (· < ·)) {x : Int} (hx : x ∈ B) : x ≤ B.getLastD 0 := by
  have hne : B ≠ [] := fun e => by rw [e] at hx; cases hx
  have e : B.getLastD 0 = B.getLast hne := by rw [List.getLastD_eq_getLast?, List.getLast?_eq_some_getLast hne]; rfl
  rw [e]
  have sp := List.dropLast_concat_getLast hne
  rw [← sp] at hx h
  rw [List.pairwise_append] at h
  rcases List.mem_append.mp hx with m | m
  · exact Int.le_of_lt (h.2.2 x m _ (by simp))
  · have : x = B.getLast hne := by simpa using m
    omega
theorem Part.one (p : Part ts hm) {B C : List Int} (hB : B ∈ ts) (hC : C ∈ ts) {x : Int} (h1 : x ∈ B) (h2 : x ∈ C) : B = C := (p.same B hB C hC x h1 x h2).mp rfl
theorem Part.tnd (p : Part ts hm) : ts.Nodup := p.up.imp fun h e => by rw [e] at h; exact absurd h (List.lt_irrefl _)
theorem Part.in_ (p : Part ts hm) {z : Int} : (0 ≤ z ∧ z < ts.flatten.length) ↔ ∃ B ∈ ts, z ∈ B := by
  rw [← mem_pts, ← p.perm.mem_iff, List.mem_flatten]
def mxf (ts : List (List Int)) (z : Int) : Int := match ts.find? fun B => decide (z ∈ B) with
  | some B => B.getLastD 0
  | none => 0
theorem Part.mx (p : Part ts hm) {B : List Int} (hB : B ∈ ts) {z : Int} (hz : z ∈ B) : mxf ts z = B.getLastD 0 := by
  unfold mxf
  cases e : ts.find? fun B => decide (z ∈ B) with
  | none =>
    have := List.find?_eq_none.mp e B hB
    exact absurd (decide_eq_true hz) this
  | some C =>
    have h1 := List.mem_of_find?_eq_some e
    have h2 : z ∈ C := of_decide_eq_true (List.find?_some (p := fun B : List Int => decide (z ∈ B)) e)
    rw [p.one hB h1 hz h2]
theorem Part.k_at (p : Part ts hm) {B : List Int} (hB : B ∈ ts) : kfn ts (B.getLastD 0) = B.length := by
  unfold kfn
  have hl := last_mem (p.ups B hB).2
  cases e : ts.reverse.find? fun C => decide (C.getLastD 0 = B.getLastD 0) with
  | none =>
    have := List.find?_eq_none.mp e B (List.mem_reverse.mpr hB)
    exact absurd (decide_eq_true rfl) this
  | some C =>
    have h1 := List.mem_reverse.mp (List.mem_of_find?_eq_some e)
    have h2 : C.getLastD 0 = B.getLastD 0 := of_decide_eq_true (List.find?_some (p := fun C : List Int => decide (C.getLastD 0 = B.getLastD 0)) e)
    have h3 := last_mem (p.ups C h1).2
    rw [h2] at h3
    rw [p.one hB h1 hl h3]
theorem k_no {i : Int} (h : ∀ B ∈ ts, B.getLastD 0 ≠ i) : kfn ts i = 0 := by
  unfold kfn
  cases e : ts.reverse.find? fun C => decide (C.getLastD 0 = i) with
  | none => rfl
  | some C =>
    have h1 := List.mem_reverse.mp (List.mem_of_find?_eq_some e)
    have h2 : C.getLastD 0 = i := of_decide_eq_true (List.find?_some (p := fun C : List Int => decide (C.getLastD 0 = i)) e)
    exact absurd h2 (h C h1)
def frF (ts : List (List Int)) (i : Nat) : List Int := (pts i).filter fun z => decide ((i : Int) ≤ mxf ts z)
theorem Part.run (p : Part ts hm) : ∀ i, i ≤ ts.flatten.length → (aft (ksT ts) i).1 = frF ts i ∧ (aft (ksT ts) i).2.Perm (ts.filter fun B => decide (B.getLastD 0 < i)) ∧ (frF ts i).length + ((ksT ts).take i).sum = i
  | 0, _ => by
    refine ⟨rfl, ?_, rfl⟩
    have : (ts.filter fun B => decide (B.getLastD 0 < ((0 : Nat) : Int))) = [] := List.filter_eq_nil_iff.mpr fun B hB h => by
      have h1 := of_decide_eq_true h
      have h2 := (p.in_.mpr ⟨B, hB, last_mem (p.ups B hB).2⟩).1
      omega
    rw [this]
    exact .refl _
  | i + 1, hi => by
    obtain ⟨h1, h2, h3⟩ := p.run i (by omega)
    have kl : (ksT ts).length = ts.flatten.length := by unfold ksT; rw [List.length_map, List.length_range]
    have ki : (ksT ts).getD i 0 = kfn ts i := by
      unfold ksT
      rw [List.getD_eq_getElem?_getD, List.getElem?_map, List.getElem?_range (by omega)]; rfl
    have kt : ((ksT ts).take (i + 1)).sum = ((ksT ts).take i).sum + kfn ts i := by
      have e : (ksT ts)[i]? = some ((ksT ts).getD i 0) := by rw [List.getD_eq_getElem?_getD, List.getElem?_eq_getElem (by omega)]; rfl
      rw [List.take_add_one, e, Option.toList_some, List.sum_append, ki]; simp
    rw [aft_succ (by omega), ki]
    obtain ⟨C, hC, iC⟩ := p.in_.mp (show 0 ≤ (i : Int) ∧ (i : Int) < ts.flatten.length by omega)
    have mi := p.mx hC iC
    have ile : (i : Int) ≤ C.getLastD 0 := last_max (p.ups C hC).1 iC
    have mxB : ∀ z ∈ pts (i + 1), ∃ B ∈ ts, z ∈ B ∧ mxf ts z = B.getLastD 0 := fun z hz => by
      have := mem_pts.mp hz
      obtain ⟨B, hB, zB⟩ := p.in_.mp (show 0 ≤ z ∧ z < ts.flatten.length by omega)
      exact ⟨B, hB, zB, p.mx hB zB⟩
    have L : frF ts i ++ [(i : Int)] = (pts (i + 1)).filter fun z => decide ((i : Int) ≤ mxf ts z) := by
      rw [pts_succ, List.filter_append, List.filter_cons, if_pos (decide_eq_true (by rw [mi]; exact ile))]
      rfl
    by_cases hb : ∃ B ∈ ts, B.getLastD 0 = (i : Int)
    · obtain ⟨B, hB, eB⟩ := hb
      have kB : kfn ts i = B.length := by rw [← eB]; exact p.k_at hB
      have iB : (i : Int) ∈ B := by rw [← eB]; exact last_mem (p.ups B hB).2
      have hBC : B = C := p.one hB hC iB iC
      have mB : ∀ z, z ∈ B → mxf ts z = (i : Int) := fun z hz => (p.mx hB hz).trans eB
      have two : (pts (i + 1)).filter (fun z => decide ((i : Int) ≤ mxf ts z)) = frF ts (i + 1) ++ (pts (i + 1)).filter fun z => decide (mxf ts z = (i : Int)) := by
        have e : ((pts (i + 1)).filter fun z => decide ((i : Int) ≤ mxf ts z)) = (pts (i + 1)).filter fun z => decide (((i + 1 : Nat) : Int) ≤ mxf ts z) || decide (mxf ts z = (i : Int)) := by
          refine List.filter_congr fun z _ => ?_
          rw [Bool.eq_iff_iff, Bool.or_eq_true, decide_eq_true_iff, decide_eq_true_iff, decide_eq_true_iff]
          omega
        rw [e]
        refine filter_two (pts_up _) (fun x hx y hy px qy => ?_) (fun x _ px => ?_)
        · have px' := of_decide_eq_true px
          have qy' := of_decide_eq_true qy
          obtain ⟨X, hX, xX, ex⟩ := mxB x hx
          obtain ⟨Y, hY, yY, ey⟩ := mxB y hy
          have yB : Y = B := p.one hY hB (x := (i : Int)) (by rw [← qy', ey]; exact last_mem (p.ups Y hY).2) iB
          rcases Int.lt_or_le x y with h | h
          · exact h
          · exfalso
            have hxb := mem_pts.mp hx
            have hyb := mem_pts.mp hy
            have nXB : X ≠ B := fun e => by rw [ex, e, eB] at px'; omega
            have nxy : x ≠ y := fun e => nXB (p.one hX hB xX (by rw [e, ← yB]; exact yY))
            have nxi : x ≠ (i : Int) := fun e => nXB (p.one hX hB xX (by rw [e]; exact iB))
            have lX := last_mem (p.ups X hX).2
            have hlX := p.in_.mpr ⟨X, hX, lX⟩
            refine p.cr ⟨y, x, (i : Int), X.getLastD 0, by omega, by omega, by omega, by rw [ex] at px'; omega, hlX.2, ?_, ?_, ?_⟩
            · exact (p.same B hB B hB y (by rw [← yB]; exact yY) (i : Int) iB).mpr rfl
            · exact (p.same X hX X hX x xX _ lX).mpr rfl
            · exact fun e => nXB ((p.same X hX B hB x xX (i : Int) iB).mp e)
        · have px' := of_decide_eq_true px
          refine decide_eq_false fun e => ?_
          omega
      have eqB : ((pts (i + 1)).filter fun z => decide (mxf ts z = (i : Int))) = B := by
        refine up_same ((pts_up _).sublist List.filter_sublist) (p.ups B hB).1 fun z => ?_
        rw [List.mem_filter, decide_eq_true_iff]
        constructor
        · rintro ⟨hz, ez⟩
          obtain ⟨Z, hZ, zZ, e⟩ := mxB z hz
          have : Z = B := p.one hZ hB (x := (i : Int)) (by rw [← ez, e]; exact last_mem (p.ups Z hZ).2) iB
          rw [← this]; exact zZ
        · intro hz
          have h4 := (p.in_.mpr ⟨B, hB, hz⟩).1
          have h5 := last_max (p.ups B hB).1 hz
          rw [eB] at h5
          exact ⟨mem_pts.mpr ⟨h4, by omega⟩, mB z hz⟩
      have hlen : (frF ts i).length + 1 = (frF ts (i + 1)).length + B.length := by
        have := congrArg List.length (L.trans (two.trans (by rw [eqB])))
        rw [List.length_append, List.length_append] at this
        exact this
      have Bpos : B.length ≠ 0 := fun e => (p.ups B hB).2 (List.eq_nil_of_length_eq_zero e)
      unfold stp
      rw [kB, if_neg Bpos, h1, L, two, eqB]
      have hm2 : (frF ts i).length + 1 - B.length = (frF ts (i + 1)).length := by omega
      rw [hm2, List.take_left, List.drop_left]
      refine ⟨rfl, ?_, by rw [kt, kB]; omega⟩
      have fl : (ts.filter fun D => decide (D.getLastD 0 < ((i + 1 : Nat) : Int))).Perm ((ts.filter fun D => decide (D.getLastD 0 < (i : Int))) ++ [B]) := by
        refine (List.perm_ext_iff_of_nodup (p.tnd.sublist List.filter_sublist) ?_).mpr fun D => ?_
        · rw [List.nodup_append]
          refine ⟨p.tnd.sublist List.filter_sublist, by simp, fun a ha b hb e => ?_⟩
          have eb : b = B := by simpa using hb
          rw [e, eb, List.mem_filter, decide_eq_true_iff, eB] at ha
          omega
        · rw [List.mem_append, List.mem_filter, List.mem_filter, decide_eq_true_iff, decide_eq_true_iff, List.mem_singleton]
          constructor
          · rintro ⟨hD, hl⟩
            rcases Int.lt_or_le (D.getLastD 0) (i : Int) with h | h
            · exact .inl ⟨hD, h⟩
            · have eD : D.getLastD 0 = (i : Int) := by omega
              exact .inr (p.one hD hB (x := (i : Int)) (by rw [← eD]; exact last_mem (p.ups D hD).2) iB)
          · rintro (⟨hD, hl⟩ | rfl)
            · exact ⟨hD, by omega⟩
            · exact ⟨hB, by omega⟩
      exact (h2.append_right _).trans fl.symm
    · have no : ∀ B ∈ ts, B.getLastD 0 ≠ (i : Int) := fun B hB e => hb ⟨B, hB, e⟩
      have k0 : kfn ts i = 0 := k_no no
      have eF : frF ts (i + 1) = frF ts i ++ [(i : Int)] := by
        rw [L]
        unfold frF
        refine List.filter_congr fun z hz => ?_
        obtain ⟨B, hB, _, e⟩ := mxB z hz
        have := no B hB
        rw [Bool.eq_iff_iff, decide_eq_true_iff, decide_eq_true_iff, e]
        omega
      unfold stp
      rw [if_pos k0, h1]
      refine ⟨eF.symm, ?_, by rw [eF, List.length_append, kt, k0]; show _ + 1 + _ = _; omega⟩
      have : (ts.filter fun B => decide (B.getLastD 0 < ((i + 1 : Nat) : Int))) = ts.filter fun B => decide (B.getLastD 0 < (i : Int)) := by
        refine List.filter_congr fun B hB => ?_
        have := no B hB
        rw [Bool.eq_iff_iff, decide_eq_true_iff, decide_eq_true_iff]
        omega
      rw [this]
      exact h2
theorem Part.back (p : Part ts hm) : Fits (ksT ts) ∧ (ksT ts).sum = (ksT ts).length ∧ (aft (ksT ts) (ksT ts).length).2.Perm ts := by
  have kl : (ksT ts).length = ts.flatten.length := by unfold ksT; rw [List.length_map, List.length_range]
  refine ⟨fun i hi => ?_, ?_, ?_⟩
  · have := (p.run i (by omega)).2.2
    omega
  · have h := (p.run ts.flatten.length (Nat.le_refl _)).2.2
    rw [← kl, List.take_length] at h
    have : frF ts (ksT ts).length = [] := by
      unfold frF
      refine List.filter_eq_nil_iff.mpr fun z hz h => ?_
      have h' := of_decide_eq_true h
      have hz' := mem_pts.mp hz
      rw [kl] at hz' h'
      obtain ⟨B, hB, zB⟩ := p.in_.mp hz'
      rw [p.mx hB zB] at h'
      have := (p.in_.mpr ⟨B, hB, last_mem (p.ups B hB).2⟩).2
      omega
    rw [this] at h
    have h0 : ([] : List Int).length = 0 := rfl
    omega
  · have h := (p.run ts.flatten.length (Nat.le_refl _)).2.1
    rw [kl]
    refine h.trans ?_
    have : (ts.filter fun B => decide (B.getLastD 0 < ((ts.flatten.length : Nat) : Int))) = ts := List.filter_eq_self.mpr fun B hB => decide_eq_true (p.in_.mpr ⟨B, hB, last_mem (p.ups B hB).2⟩).2
    rw [this]
end
end Br
namespace Br
theorem pw_or {α : Type} {R : α → α → Prop} : ∀ {l : List α}, l.Pairwise R → ∀ {x y : α}, x ∈ l → y ∈ l → x ≠ y → R x y ∨ R y x
  | [], _, _, _, h, _, _ => by cases h
  | a :: l, hp, x, y, hx, hy, ne => by
    rw [List.pairwise_cons] at hp
    rcases List.mem_cons.mp hx with e1 | m1
    · rcases List.mem_cons.mp hy with e2 | m2
      · exact absurd (e1.trans e2.symm) ne
      · rw [e1]; exact .inl (hp.1 y m2)
    · rcases List.mem_cons.mp hy with e2 | m2
      · rw [e2]; exact .inr (hp.1 x m1)
      · exact pw_or hp.2 m1 m2 ne
def hmI (ts : List (List Int)) (z : Int) : Int := ((ts.findIdx fun B => decide (z ∈ B) : Nat) : Int)
theorem one_block {ts : List (List Int)} (nd : ts.flatten.Nodup) {i j : Nat} {B C : List Int} {x : Int} (h1 : ts[i]? = some B) (h2 : ts[j]? = some C) (x1 : x ∈ B) (x2 : x ∈ C) : i = j := by
  induction ts generalizing i j with
  | nil => simp at h1
  | cons D ts ih =>
    rw [List.flatten_cons, List.nodup_append] at nd
    cases i with
    | zero =>
      cases j with
      | zero => rfl
      | succ j =>
        have e : D = B := by simpa using h1
        have m : C ∈ ts := List.mem_of_getElem? (by simpa using h2)
        exact absurd rfl (nd.2.2 x (by rw [e]; exact x1) x (List.mem_flatten.mpr ⟨C, m, x2⟩))
    | succ i =>
      cases j with
      | zero =>
        have e : D = C := by simpa using h2
        have m : B ∈ ts := List.mem_of_getElem? (by simpa using h1)
        exact absurd rfl (nd.2.2 x (by rw [e]; exact x2) x (List.mem_flatten.mpr ⟨B, m, x1⟩))
      | succ j =>
        have e : i = j := ih nd.2.1 (by simpa using h1) (by simpa using h2)
        rw [e]
theorem hm_at {ts : List (List Int)} (nd : ts.flatten.Nodup) {i : Nat} {B : List Int} {x : Int} (h : ts[i]? = some B) (hx : x ∈ B) : hmI ts x = (i : Int) := by
  unfold hmI
  have ex : ∃ C ∈ ts, decide (x ∈ C) = true := ⟨B, List.mem_of_getElem? h, decide_eq_true hx⟩
  have hl := List.findIdx_lt_length_of_exists ex
  have hg := List.findIdx_getElem (w := hl)
  have e := one_block nd (List.getElem?_eq_getElem hl) h (of_decide_eq_true hg) hx
  rw [e]
theorem hm_same {ts : List (List Int)} (nd : ts.flatten.Nodup) {B C : List Int} (hB : B ∈ ts) (hC : C ∈ ts) {x y : Int} (hx : x ∈ B) (hy : y ∈ C) : hmI ts x = hmI ts y ↔ B = C := by
  obtain ⟨i, hi⟩ := List.mem_iff_getElem?.mp hB
  obtain ⟨j, hj⟩ := List.mem_iff_getElem?.mp hC
  rw [hm_at nd hi hx, hm_at nd hj hy]
  constructor
  · intro e
    have e' : i = j := by omega
    rw [e', hj] at hi
    exact (Option.some.inj hi).symm
  · intro e
    rw [e] at hx hi
    have hw : y ∈ C := hy
    have := one_block nd hi hj (x := y) hw hw
    omega
theorem of_row {ks : List Nat} {ts : List (List Int)} (f : Fits ks) (hs : ks.sum = ks.length) (pm : ts.Perm (aft ks ks.length).2) (up : ts.Pairwise (· < ·)) : Part ts (hmI ts) ∧ ts.flatten.length = ks.length := by
  obtain ⟨g, l⟩ := aft_good f ks.length (Nat.le_refl _)
  rw [List.take_length] at l
  have f0 : (aft ks ks.length).1 = [] := List.eq_nil_of_length_eq_zero (by omega)
  have gp := g.perm
  rw [f0, List.nil_append] at gp
  have fp : ts.flatten.Perm (pts ks.length) := pm.flatten.trans gp
  have fl : ts.flatten.length = ks.length := by rw [fp.length_eq, pts_length]
  have nd : ts.flatten.Nodup := fp.nodup_iff.mpr (up_nd (pts_up _))
  refine ⟨⟨by rw [fl]; exact fp, fun B hB => g.ups B (pm.mem_iff.mp hB), up, fun B hB C hC x hx y hy => hm_same nd hB hC hx hy, ?_⟩, fl⟩
  rintro ⟨a, b, c, d, h0, hab, hbc, hcd, hd, e1, e2, ne⟩
  have blk : ∀ z : Int, 0 ≤ z → z < ts.flatten.length → ∃ B ∈ ts, z ∈ B := fun z h1 h2 => by
    have : z ∈ ts.flatten := fp.mem_iff.mpr (mem_pts.mpr ⟨h1, by rw [← fl]; exact h2⟩)
    obtain ⟨B, hB, hz⟩ := List.mem_flatten.mp this
    exact ⟨B, hB, hz⟩
  obtain ⟨B, hB, aB⟩ := blk a (by omega) (by omega)
  obtain ⟨C, hC, bC⟩ := blk b (by omega) (by omega)
  obtain ⟨B', hB', cB'⟩ := blk c (by omega) (by omega)
  obtain ⟨C', hC', dC'⟩ := blk d (by omega) (by omega)
  have eB := (hm_same nd hB hB' aB cB').mp e1
  have eC := (hm_same nd hC hC' bC dC').mp e2
  subst eB eC
  have nBC : B ≠ C := fun e => ne ((hm_same nd hC hB bC cB').mpr e.symm)
  rcases pw_or g.apart (pm.mem_iff.mp hB) (pm.mem_iff.mp hC) nBC with r | r
  · rcases r b bC with h | h
    · have := h a aB; omega
    · have := h c cB'; omega
  · rcases r c cB' with h | h
    · have := h b bC; omega
    · have := h d dC'; omega
def rowK (ks : List Nat) : List Nat := ks.flatMap fun k => 40 :: List.replicate k 41
theorem rowK_cons (k : Nat) (ks : List Nat) : rowK (k :: ks) = 40 :: (List.replicate k 41 ++ rowK ks) := by unfold rowK; rw [List.flatMap_cons]; rfl
theorem rowK_append (a b : List Nat) : rowK (a ++ b) = rowK a ++ rowK b := by unfold rowK; rw [List.flatMap_append]
theorem rowK_length : ∀ ks : List Nat, (rowK ks).length = ks.length + ks.sum
  | [] => rfl
  | k :: ks => by rw [rowK_cons, List.length_cons, List.length_append, List.length_replicate, rowK_length ks, List.length_cons, List.sum_cons]; omega
theorem lev_shut : ∀ k : Nat, lev (List.replicate k 41) = -(k : Int)
  | 0 => rfl
  | k + 1 => by
    rw [List.replicate_succ, show (41 :: List.replicate k 41) = [41] ++ List.replicate k 41 from rfl, lev_append, lev_shut k]
    show -1 + 0 + -(k : Int) = _
    omega
theorem rowK_lev : ∀ ks : List Nat, lev (rowK ks) = (ks.length : Int) - (ks.sum : Int)
  | [] => rfl
  | k :: ks => by
    rw [rowK_cons, show (40 :: (List.replicate k 41 ++ rowK ks)) = [40] ++ (List.replicate k 41 ++ rowK ks) from rfl, lev_append, lev_append, lev_shut, rowK_lev ks, List.length_cons, List.sum_cons]
    show 1 + 0 + (-(k : Int) + ((ks.length : Int) - (ks.sum : Int))) = _
    omega
theorem rowK_br : ∀ ks : List Nat, IsBr (rowK ks)
  | [] => fun c h => by cases h
  | k :: ks => fun c h => by
    rw [rowK_cons] at h
    rcases List.mem_cons.mp h with rfl | h
    · exact .inl rfl
    · rcases List.mem_append.mp h with h | h
      · exact .inr (List.eq_of_mem_replicate h)
      · exact rowK_br ks c h
theorem br_form : ∀ r : List Nat, IsBr r → ∃ j ks, r = List.replicate j 41 ++ rowK ks
  | [], _ => ⟨0, [], rfl⟩
  | c :: r, h => by
    obtain ⟨j, ks, e⟩ := br_form r fun d hd => h d (List.mem_cons_of_mem _ hd)
    rcases h c List.mem_cons_self with rfl | rfl
    · exact ⟨0, j :: ks, by rw [rowK_cons, ← e]; rfl⟩
    · exact ⟨j + 1, ks, by rw [List.replicate_succ, List.cons_append, ← e]⟩
theorem whole_form {r : List Nat} (h : Whole r) : ∃ ks, r = rowK ks ∧ Fits ks ∧ ks.sum = ks.length := by
  obtain ⟨j, ks, e⟩ := br_form r h.1
  have j0 : j = 0 := by
    rcases Nat.eq_zero_or_pos j with z | z
    · exact z
    · exfalso
      have h1 := h.2.1 j (by rw [e, List.length_append, List.length_replicate]; omega)
      rw [e, List.take_left' (by rw [List.length_replicate]), lev_shut] at h1
      omega
  subst j0
  have e' : r = rowK ks := e
  subst e'
  refine ⟨ks, rfl, fun i hi => ?_, ?_⟩
  · have h1 := h.2.1 (rowK (ks.take i)).length (by
      have := rowK_append (ks.take i) (ks.drop i)
      rw [List.take_append_drop] at this
      rw [this, List.length_append]; omega)
    have e2 : (rowK ks).take (rowK (ks.take i)).length = rowK (ks.take i) := by
      have := rowK_append (ks.take i) (ks.drop i)
      rw [List.take_append_drop] at this
      rw [this, List.take_left]
    rw [e2, rowK_lev, List.length_take, Nat.min_eq_left hi] at h1
    omega
  · have h2 := h.2.2
    rw [rowK_lev] at h2
    omega
theorem form_whole {ks : List Nat} (f : Fits ks) (hs : ks.sum = ks.length) : Whole (rowK ks) := by
  refine ⟨rowK_br ks, ?_, by rw [rowK_lev]; omega⟩
  have key : ∀ (ks : List Nat) (b : Int), 0 ≤ b → (∀ i, i ≤ ks.length → 0 ≤ b + i - ((ks.take i).sum : Int)) → ∀ k, k ≤ (rowK ks).length → 0 ≤ b + lev ((rowK ks).take k) := by
    intro ks
    induction ks with
    | nil =>
      intro b hb _ k hk
      have : k = 0 := by simpa [rowK] using hk
      subst this
      show 0 ≤ b + 0
      omega
    | cons m ks ih =>
      intro b hb h k hk
      rw [rowK_cons] at hk ⊢
      cases k with
      | zero => show 0 ≤ b + 0; omega
      | succ k =>
        rw [List.take_succ_cons]
        have e40 : lev (40 :: (List.replicate m 41 ++ rowK ks).take k) = lev [40] + lev ((List.replicate m 41 ++ rowK ks).take k) := lev_append [40] _
        rw [e40]
        have l1 : lev [40] = 1 := rfl
        have h1 := h 1 (by rw [List.length_cons]; omega)
        rw [List.take_succ_cons, List.take_zero, List.sum_cons, List.sum_nil] at h1
        rcases Nat.lt_or_ge k m with hkm | hkm
        · rw [List.take_append_of_le_length (by rw [List.length_replicate]; omega), List.take_replicate, lev_shut, l1, Nat.min_eq_left (by omega)]
          omega
        · obtain ⟨q, rfl⟩ : ∃ q, k = m + q := ⟨k - m, by omega⟩
          have e : (List.replicate m 41 ++ rowK ks).take (m + q) = List.replicate m 41 ++ (rowK ks).take q := by
            rw [List.take_append, List.length_replicate, Nat.add_sub_cancel_left, List.take_of_length_le (by rw [List.length_replicate]; omega)]
          rw [e, lev_append, lev_shut, l1]
          have hb1 : 0 ≤ b + 1 - (m : Int) := by omega
          have := ih (b + 1 - m) hb1 (fun i hi => by
            have := h (i + 1) (by rw [List.length_cons]; omega)
            rw [List.take_succ_cons, List.sum_cons] at this
            omega) q (by rw [List.length_cons, List.length_append, List.length_replicate] at hk; omega)
          omega
  intro k hk
  have := key ks 0 (Int.le_refl _) (fun i hi => by have := f i hi; omega) k hk
  omega
theorem rowK_inj : ∀ a b : List Nat, rowK a = rowK b → a = b
  | [], [], _ => rfl
  | [], k :: b, h => by rw [rowK_cons] at h; cases h
  | k :: a, [], h => by rw [rowK_cons] at h; cases h
  | k :: a, m :: b, h => by
    rw [rowK_cons, rowK_cons] at h
    have h1 := (List.cons.inj h).2
    have st : ∀ (k m : Nat) (a b : List Nat), List.replicate k 41 ++ rowK a = List.replicate m 41 ++ rowK b → k ≤ m → k = m := fun k m a b e hle => by
      rcases Nat.lt_or_ge k m with hlt | hge
      · exfalso
        have g1 : (List.replicate k 41 ++ rowK a)[k]? = (rowK a)[0]? := by rw [List.getElem?_append_right (by rw [List.length_replicate]; omega), List.length_replicate, Nat.sub_self]
        have g2 : (List.replicate m 41 ++ rowK b)[k]? = some 41 := by rw [List.getElem?_append_left (by rw [List.length_replicate]; omega), List.getElem?_replicate, if_pos hlt]
        rw [e, g2] at g1
        cases a with
        | nil => cases g1
        | cons x a => rw [rowK_cons] at g1; cases g1
      · omega
    have ekm : k = m := by
      rcases Nat.le_total k m with h2 | h2
      · exact st k m a b h1 h2
      · exact (st m k b a h1.symm h2).symm
    subst ekm
    rw [rowK_inj a b (List.append_cancel_left h1)]
end Br
namespace L2
open PySem PySem.Spec PyProof.Rows
def posK : List Nat → Nat → List Nat
  | [], _ => []
  | k :: ks, lo => lo :: posK ks (lo + 1 + k)
theorem filt_none {f : Nat → Bool} : ∀ (k lo : Nat), (∀ i, i < k → f (lo + i) = false) → (List.range' lo k).filter f = []
  | 0, _, _ => rfl
  | k + 1, lo, h => by
    rw [List.range'_succ, List.filter_cons, if_neg (by rw [show lo = lo + 0 from rfl, h 0 (by omega)]; exact Bool.false_ne_true)]
    exact filt_none k (lo + 1) fun i hi => by rw [Nat.add_assoc, Nat.add_comm 1 i]; exact h (i + 1) (by omega)
theorem filt_row {f : Nat → Option Nat} : ∀ (ks : List Nat) (lo : Nat), (∀ i, i < (Br.rowK ks).length → f (lo + i) = (Br.rowK ks)[i]?) → (List.range' lo (Br.rowK ks).length).filter (fun i => decide (f i = some 40)) = posK ks lo
  | [], _, _ => rfl
  | k :: ks, lo, h => by
    have hl : (Br.rowK (k :: ks)).length = 1 + (k + (Br.rowK ks).length) := by rw [Br.rowK_cons, List.length_cons, List.length_append, List.length_replicate]; omega
    have h0 := h 0 (by omega)
    rw [Br.rowK_cons] at h0
    rw [hl, ← List.range'_append_1, ← List.range'_append_1, List.filter_append, List.filter_append]
    have e1 : (List.range' lo 1).filter (fun i => decide (f i = some 40)) = [lo] := by
      rw [List.range'_one, List.filter_cons, if_pos (decide_eq_true (by rw [show lo = lo + 0 from rfl, h0]; rfl))]
      rfl
    have e2 : (List.range' (lo + 1) k).filter (fun i => decide (f i = some 40)) = [] := filt_none k (lo + 1) fun i hi => by
      refine decide_eq_false fun z => ?_
      have := h (i + 1) (by omega)
      rw [Br.rowK_cons, List.getElem?_cons_succ, List.getElem?_append_left (by rw [List.length_replicate]; omega), List.getElem?_replicate, if_pos hi] at this
      rw [Nat.add_assoc, Nat.add_comm 1 i, this] at z
      cases z
    have e3 := filt_row (f := f) ks (lo + 1 + k) fun i hi => by
      have := h (1 + k + i) (by omega)
      rw [Br.rowK_cons, show 1 + k + i = (k + i) + 1 by omega, List.getElem?_cons_succ, List.getElem?_append_right (by rw [List.length_replicate]; omega), List.length_replicate, Nat.add_sub_cancel_left] at this
      rw [show lo + 1 + k + i = lo + (k + i + 1) by omega]
      exact this
    rw [e1, e2, e3]
    rfl
theorem sub_length (z : Str) (i j : Nat) (h1 : i ≤ j) (h2 : j ≤ z.length) : (Builtin.Str.strSub z i j).length = j - i := by
  show (z.cps.extract i j).size = j - i
  have e : z.cps.size = z.length := rfl
  rw [Array.size_extract, e, Nat.min_eq_left h2]
theorem part_lens (z : Str) : ∀ (ks : List Nat) (s lo L : Nat), s ≤ lo → L = lo + (Br.rowK ks).length → L ≤ z.length →
    (((s :: (posK ks lo).map (· + 1)).zip (posK ks lo ++ [L])).map fun p => (Builtin.Str.strSub z p.1 p.2).length) = (lo - s) :: ks
  | [], s, lo, L, h1, h2, h3 => by
    have e : L = lo := by rw [h2]; rfl
    subst e
    show [(Builtin.Str.strSub z s L).length] = [L - s]
    rw [sub_length z s L h1 h3]
  | k :: ks, s, lo, L, h1, h2, h3 => by
    have hl : (Br.rowK (k :: ks)).length = 1 + (k + (Br.rowK ks).length) := by rw [Br.rowK_cons, List.length_cons, List.length_append, List.length_replicate]; omega
    rw [hl] at h2
    show (Builtin.Str.strSub z s lo).length :: _ = _
    rw [sub_length z s lo h1 (by omega)]
    congr 1
    have := part_lens z ks (lo + 1) (lo + 1 + k) L (by omega) (by omega) h3
    rw [show lo + 1 + k - (lo + 1) = k by omega] at this
    exact this
theorem posK_length : ∀ (ks : List Nat) (lo : Nat), (posK ks lo).length = ks.length
  | [], _ => rfl
  | k :: ks, lo => by rw [posK, List.length_cons, posK_length ks, List.length_cons]
theorem split_row {z : Str} {ks : List Nat} (hz : cs z = Br.rowK ks) (hl : z.length ≤ 900) : ((Txt.split z ⟨#[40]⟩).drop 1).map (·.length) = ks ∧ (Txt.split z ⟨#[40]⟩).length ≤ 901 ∧ ∀ y ∈ Txt.split z ⟨#[40]⟩, y.length ≤ 900 := by
  have hcz := cs_length z
  rw [hz] at hcz
  have hrl := Br.rowK_length ks
  have l1 : (⟨#[40]⟩ : Str).length = 1 := rfl
  cases ks with
  | nil =>
    have h0 : z.length = 0 := by rw [← hcz]; rfl
    have e : Txt.split z ⟨#[40]⟩ = [z] := if_pos (by rw [h0, l1]; rfl)
    rw [e]
    exact ⟨rfl, by show 1 ≤ 901; omega, fun y hy => by rw [List.mem_singleton.mp hy]; exact hl⟩
  | cons k ks =>
    have hpos : 0 < z.length := by rw [← hcz, hrl, List.length_cons]; omega
    have hall : (z.cps.all (· < 256)) = true := by
      rw [← Array.all_toList, List.all_eq_true]
      intro c hc
      have hc' : c ∈ cs z := hc
      rw [hz] at hc'
      rcases Br.rowK_br _ c hc' with rfl | rfl <;> rfl
    have k1 : Builtin.Str.strKind z = 1 := if_pos hall
    have k2 : Builtin.Str.strKind ⟨#[40]⟩ = 1 := by decide +kernel
    have h1 : (decide (z.length < (⟨#[40]⟩ : Str).length) || decide (Builtin.Str.strKind z < Builtin.Str.strKind ⟨#[40]⟩)) = false := by
      rw [k1, k2, l1, decide_eq_false (by omega : ¬ z.length < 1)]; rfl
    have occ : Builtin.Str.occurrences z ⟨#[40]⟩ 0 z.length (z.length + 1) = posK (k :: ks) 0 := by
      rw [occ_one]
      have e1 : plc z 40 0 (z.length + 1 - 0) = plc z 40 0 z.length := by
        unfold plc
        rw [Nat.sub_zero, List.range'_concat, List.filter_append]
        have : (cs z)[0 + 1 * z.length]? = none := List.getElem?_eq_none (by rw [hz]; omega)
        rw [List.filter_cons, this]
        simp
      rw [e1]
      have e2 : plc z 40 0 z.length = posK (k :: ks) 0 := by
        unfold plc
        rw [← hcz]
        exact filt_row (f := fun i => (cs z)[i]?) (k :: ks) 0 fun i _ => by rw [Nat.zero_add]; show (cs z)[i]? = _; rw [hz]
      rw [e2, List.take_of_length_le (by rw [posK_length]; omega)]
    have hne : (Builtin.Str.occurrences z ⟨#[40]⟩ 0 z.length (z.length + 1)).isEmpty = false := by rw [occ]; rfl
    have e : Txt.split z ⟨#[40]⟩ = Builtin.Str.partsBetween z (posK (k :: ks) 0) 1 := by
      have e3 : Txt.split z ⟨#[40]⟩ = Builtin.Str.partsBetween z (Builtin.Str.occurrences z ⟨#[40]⟩ 0 z.length (z.length + 1)) (⟨#[40]⟩ : Str).length := (if_neg (ne_true_of_eq_false h1)).trans (if_neg (ne_true_of_eq_false hne))
      rw [occ] at e3
      exact e3
    have pl := part_lens z (k :: ks) 0 0 z.length (Nat.le_refl _) (by omega) (Nat.le_refl _)
    have lens : (Txt.split z ⟨#[40]⟩).map (·.length) = (0 - 0) :: k :: ks := by
      rw [e]
      unfold Builtin.Str.partsBetween
      rw [List.map_map]
      exact pl
    have sl : (Txt.split z ⟨#[40]⟩).length = ks.length + 2 := by
      have := congrArg List.length lens
      rw [List.length_map] at this
      exact this
    refine ⟨?_, by rw [sl]; rw [List.length_cons] at hrl; omega, fun y hy => ?_⟩
    · rw [List.map_drop, lens]; rfl
    · have hm : y.length ∈ (0 - 0) :: k :: ks := by rw [← lens]; exact List.mem_map_of_mem hy
      rcases List.mem_cons.mp hm with h | h
      · omega
      · have hs : ∀ (l : List Nat) (x : Nat), x ∈ l → x ≤ l.sum := by
          intro l
          induction l with
          | nil => intro x hx; cases hx
          | cons a l ih =>
            intro x hx
            rw [List.sum_cons]
            rcases List.mem_cons.mp hx with rfl | hx
            · omega
            · have := ih x hx; omega
        have := hs _ _ h
        omega
end L2
namespace Br
theorem lev_le : ∀ l : List Nat, lev l ≤ l.length
  | [] => Int.le_refl _
  | c :: l => by
    have h1 := (rise_bounds c).2
    have h2 := lev_le l
    rw [lev, List.length_cons]
    omega
structure CS where
  op : List Int
  bl : List (List Int)
  n : Nat
  pv : Bool
def chS (s : CS) (c : Nat) : CS :=
  if c = 40 then ⟨s.op ++ [(s.n : Int)], s.bl, s.n + 1, true⟩
  else if s.pv then ⟨s.op.dropLast, s.bl ++ [[s.op.getLastD 0]], s.n, false⟩
  else ⟨s.op.dropLast, s.bl.dropLast ++ [s.bl.getLastD [] ++ [s.op.getLastD 0]], s.n, false⟩
def chR (l : List Nat) : CS := l.foldl chS ⟨[], [], 0, false⟩
theorem chR_snoc (l : List Nat) (c : Nat) : chR (l ++ [c]) = chS (chR l) c := by unfold chR; rw [List.foldl_append]; rfl
theorem getLastD_eq {α : Type} {l : List α} {d : α} (h : 0 < l.length) : l.getLastD d = l[l.length - 1] := by
  rw [List.getLastD_eq_getLast?, List.getLast?_eq_getElem?, List.getElem?_eq_getElem (by omega)]; rfl
theorem shut_run (op : List Int) (bl : List (List Int)) (n : Nat) : ∀ k, 1 ≤ k → k ≤ op.length →
    (List.replicate k 41).foldl chS ⟨op, bl, n, true⟩ = ⟨op.take (op.length - k), bl ++ [(op.drop (op.length - k)).reverse], n, false⟩
  | 0, h, _ => by omega
  | 1, _, h => by
    show chS ⟨op, bl, n, true⟩ 41 = _
    unfold chS
    rw [if_neg (by decide), if_pos rfl]
    simp only
    have e : op.drop (op.length - 1) = [op.getLastD 0] := by
      rw [getLastD_eq (by omega), List.drop_eq_getElem_cons (by omega), List.drop_of_length_le (by omega)]
    rw [e, ← List.dropLast_eq_take]; rfl
  | k + 2, _, h => by
    have ih := shut_run op bl n (k + 1) (by omega) (by omega)
    rw [List.replicate_succ', List.foldl_append, ih, List.foldl_cons, List.foldl_nil]
    unfold chS
    rw [if_neg (by decide), if_neg (by simp)]
    simp only
    have l1 : (op.take (op.length - (k + 1))).length = op.length - (k + 1) := by rw [List.length_take]; omega
    have e1 : (op.take (op.length - (k + 1))).dropLast = op.take (op.length - (k + 2)) := by
      rw [List.dropLast_eq_take, l1, List.take_take]
      congr 1
      omega
    have e2 : op.drop (op.length - (k + 2)) = (op.take (op.length - (k + 1))).getLastD 0 :: op.drop (op.length - (k + 1)) := by
      rw [getLastD_eq (by omega), List.getElem_take, List.drop_eq_getElem_cons (by omega)]
      have a1 : op.length - (k + 2) + 1 = op.length - (k + 1) := by omega
      have a2 : (op.take (op.length - (k + 1))).length - 1 = op.length - (k + 2) := by omega
      simp only [a1, a2]
    rw [e1, e2, List.reverse_cons, List.dropLast_concat]
    congr 1
    simp
theorem chR_row : ∀ n (ks : List Nat), ks.length = n → Fits ks → (chR (rowK ks)).op = (aft ks n).1 ∧ (chR (rowK ks)).bl = (aft ks n).2.map List.reverse ∧ (chR (rowK ks)).n = n
  | 0, ks, h, _ => by
    have : ks = [] := List.eq_nil_of_length_eq_zero h
    subst this
    exact ⟨rfl, rfl, rfl⟩
  | n + 1, ks, h, f => by
    obtain ⟨ks', k, rfl⟩ : ∃ ks' k, ks = ks' ++ [k] := ⟨ks.dropLast, ks.getLast (by intro e; rw [e] at h; cases h), (List.dropLast_concat_getLast _).symm⟩
    rw [List.length_append] at h
    have hl : ks'.length = n := by simpa using h
    have f' : Fits ks' := fun i hi => by
      have := f i (by rw [List.length_append]; omega)
      rwa [List.take_append_of_le_length hi] at this
    obtain ⟨h1, h2, h3⟩ := chR_row n ks' hl f'
    obtain ⟨g, gl⟩ := aft_good f' n (by omega)
    have ea : aft (ks' ++ [k]) (n + 1) = stp (aft ks' n) n k := by
      rw [aft_succ (by rw [List.length_append]; simp; omega)]
      have : aft (ks' ++ [k]) n = aft ks' n := by unfold aft; rw [List.take_append_of_le_length (by omega)]
      rw [this]
      congr 1
      rw [← hl, List.getD_eq_getElem?_getD, List.getElem?_append_right (Nat.le_refl _), Nat.sub_self]; rfl
    have hk : k ≤ (aft ks' n).1.length + 1 := by
      have := f (n + 1) (by rw [List.length_append]; simp; omega)
      rw [List.take_of_length_le (by rw [List.length_append]; simp; omega), List.sum_append] at this
      rw [List.take_of_length_le (by omega)] at gl
      simp at this
      omega
    have er : chR (rowK (ks' ++ [k])) = (List.replicate k 41).foldl chS ⟨(aft ks' n).1 ++ [(n : Int)], (aft ks' n).2.map List.reverse, n + 1, true⟩ := by
      rw [rowK_append]
      have : rowK [k] = 40 :: List.replicate k 41 := by unfold rowK; simp
      rw [this]
      unfold chR
      rw [List.foldl_append, List.foldl_cons]
      congr 1
      show chS (chR (rowK ks')) 40 = _
      unfold chS
      rw [if_pos rfl, h1, h2, h3]
    rw [er, ea]
    unfold stp
    by_cases k0 : k = 0
    · subst k0
      rw [if_pos rfl]
      exact ⟨rfl, rfl, rfl⟩
    · rw [if_neg k0]
      rw [shut_run _ _ _ k (by omega) (by rw [List.length_append]; simpa using hk)]
      have e : ((aft ks' n).1 ++ [(n : Int)]).length = (aft ks' n).1.length + 1 := by simp
      refine ⟨?_, ?_, rfl⟩
      · simp only [e]
      · simp only [e, List.map_append, List.map_cons, List.map_nil]
theorem chR_at {r : List Nat} (w : Whole r) : ∀ i, i ≤ r.length → ((chR (r.take i)).op.length : Int) = lev (r.take i) ∧ (chR (r.take i)).n ≤ i ∧ (chR (r.take i)).bl.flatten.length ≤ i ∧ (chR (r.take i)).bl.length ≤ i ∧
    (0 < i → (chR (r.take i)).pv = decide (r[i - 1]? = some 40)) ∧ (0 < i → (chR (r.take i)).pv = false → (chR (r.take i)).bl ≠ []) := by
  intro i
  induction i with
  | zero => intro _; exact ⟨rfl, Nat.le_refl _, Nat.le_refl _, Nat.le_refl _, fun h => absurd h (Nat.lt_irrefl _), fun h => absurd h (Nat.lt_irrefl _)⟩
  | succ i ih =>
    intro hi
    obtain ⟨h1, h2, h3, h4, h5, h6⟩ := ih (by omega)
    have hb := w.1 _ (List.getElem_mem (show i < r.length by omega))
    have hl := w.2.1 (i + 1) hi
    have e := take_succ_snoc (show i < r.length by omega)
    rw [lev_take_succ (show i < r.length by omega)] at hl ⊢
    rw [e, chR_snoc]
    have er : r[i + 1 - 1]? = some r[i] := by rw [Nat.add_sub_cancel]; exact List.getElem?_eq_getElem (by omega)
    rw [er]
    generalize chR (r.take i) = s at h1 h2 h3 h4 h5 h6
    unfold chS
    rcases hb with hb | hb
    · rw [hb] at hl ⊢
      have r40 : rise 40 = 1 := rfl
      rw [r40, if_pos rfl]
      refine ⟨?_, by simp only; omega, by simp only; omega, by simp only; omega, fun _ => rfl, fun _ h => by cases h⟩
      simp only [List.length_append, List.length_cons, List.length_nil]
      omega
    · rw [hb] at hl ⊢
      have r41 : rise 41 = -1 := rfl
      rw [r41] at hl ⊢
      rw [if_neg (by decide)]
      have i0 : 0 < i := by
        rcases Nat.eq_zero_or_pos i with e0 | e0
        · rw [e0] at hl; exact absurd hl (show ¬ (0 : Int) ≤ 0 + -1 by decide)
        · exact e0
      have op0 : 0 < s.op.length := by omega
      cases hp : s.pv with
      | true =>
        rw [if_pos rfl]
        refine ⟨?_, by simp only; omega, ?_, ?_, fun _ => rfl, fun _ _ => by simp⟩
        · simp only [List.length_dropLast]; omega
        · simp only [List.flatten_append, List.length_append, List.flatten_cons, List.flatten_nil, List.length_cons, List.length_nil]; omega
        · simp only [List.length_append, List.length_cons, List.length_nil]; omega
      | false =>
        rw [if_neg (by simp)]
        have nb := h6 i0 hp
        have e1 : s.bl = s.bl.dropLast ++ [s.bl.getLastD []] := by
          have := (List.dropLast_concat_getLast nb).symm
          rwa [show s.bl.getLast nb = s.bl.getLastD [] by rw [List.getLastD_eq_getLast?, List.getLast?_eq_some_getLast nb]; rfl] at this
        have f1 : s.bl.flatten.length = s.bl.dropLast.flatten.length + (s.bl.getLastD []).length := by
          rw [congrArg List.flatten e1, List.flatten_append, List.length_append]; simp
        have l1 : 0 < s.bl.length := by
          rcases Nat.eq_zero_or_pos s.bl.length with e0 | e0
          · exact absurd (List.eq_nil_of_length_eq_zero e0) nb
          · exact e0
        refine ⟨?_, by simp only; omega, ?_, ?_, fun _ => rfl, fun _ _ => by simp⟩
        · simp only [List.length_dropLast]; omega
        · simp only [List.flatten_append, List.length_append, List.flatten_cons, List.flatten_nil, List.length_cons, List.length_nil]; omega
        · simp only [List.length_append, List.length_cons, List.length_nil, List.length_dropLast]; omega
end Br
namespace L2
open PySem PySem.W PyProof.Rows
structure LstI (H : Hp) (as : List Addr) (ls : List (List Int)) : Prop where
  nd : as.Nodup
  len : as.length = ls.length
  at_ : ∀ (i : Nat) (a : Addr) (l : List Int), as[i]? = some a → ls[i]? = some l → H a = some (.lst (l.map V.int))
theorem LstI.nil {H : Hp} : LstI H [] [] := ⟨List.nodup_nil, rfl, fun i a l h => by simp at h⟩
theorem LstI.same {H H' : Hp} {as : List Addr} {ls : List (List Int)} (L : LstI H as ls) (s : ∀ b u, H b = some u → H' b = some u) : LstI H' as ls :=
  ⟨L.nd, L.len, fun i a l h1 h2 => s _ _ (L.at_ i a l h1 h2)⟩
theorem LstI.has {H : Hp} {as : List Addr} {ls : List (List Int)} (L : LstI H as ls) {a : Addr} (h : a ∈ as) : ∃ l ∈ ls, H a = some (.lst (l.map V.int)) := by
  obtain ⟨i, hi, e⟩ := List.mem_iff_getElem.mp h
  have h2 : i < ls.length := by rw [← L.len]; exact hi
  exact ⟨ls[i], List.getElem_mem h2, L.at_ i a _ (by rw [List.getElem?_eq_getElem hi, e]) (List.getElem?_eq_getElem h2)⟩
theorem LstI.notin {H : Hp} {as : List Addr} {ls : List (List Int)} (L : LstI H as ls) {a : Addr} (h : H a = none) : a ∉ as := fun m => by
  obtain ⟨l, _, e⟩ := L.has m
  rw [h] at e; cases e
theorem LstI.keep {H : Hp} {as : List Addr} {ls : List (List Int)} (L : LstI H as ls) {b : Addr} (o : HO) (h : b ∉ as) : LstI (upd H b o) as ls :=
  ⟨L.nd, L.len, fun i a l h1 h2 => by
    have ne : a ≠ b := fun e => h (e ▸ List.mem_of_getElem? h1)
    rw [upd_ne ne]; exact L.at_ i a l h1 h2⟩
theorem LstI.put {H : Hp} {as : List Addr} {ls : List (List Int)} (L : LstI H as ls) {i : Nat} {a : Addr} (h : as[i]? = some a) (l : List Int) : LstI (upd H a (.lst (l.map V.int))) as (ls.set i l) := by
  refine ⟨L.nd, by rw [List.length_set]; exact L.len, fun j b m h1 h2 => ?_⟩
  have hi := (List.getElem?_eq_some_iff.mp h).1
  have hj := (List.getElem?_eq_some_iff.mp h1).1
  by_cases e : j = i
  · subst e
    rw [h] at h1
    cases h1
    rw [List.getElem?_set_self (by rw [← L.len]; exact hi)] at h2
    cases h2
    exact upd_same
  · rw [List.getElem?_set_ne (fun x => e x.symm)] at h2
    have ne : b ≠ a := fun e2 => by
      subst e2
      have a1 := (List.getElem?_eq_some_iff.mp h).2
      have a2 := (List.getElem?_eq_some_iff.mp h1).2
      exact e ((List.getElem_inj L.nd).mp (a2.trans a1.symm))
    rw [upd_ne ne]
    exact L.at_ j b m h1 h2
theorem LstI.snoc {H : Hp} {as : List Addr} {ls : List (List Int)} (L : LstI H as ls) {b : Addr} (h : b ∉ as) {l : List Int} (hb : H b = some (.lst (l.map V.int))) : LstI H (as ++ [b]) (ls ++ [l]) := by
  refine ⟨?_, by rw [List.length_append, List.length_append, L.len]; rfl, fun i a m h1 h2 => ?_⟩
  · rw [List.nodup_append]
    exact ⟨L.nd, by simp, fun x hx y hy e => by rw [List.mem_singleton.mp hy] at e; exact h (e ▸ hx)⟩
  · rcases Nat.lt_or_ge i as.length with hi | hi
    · rw [List.getElem?_append_left hi] at h1
      rw [List.getElem?_append_left (by rw [← L.len]; exact hi)] at h2
      exact L.at_ i a m h1 h2
    · rw [List.getElem?_append_right hi] at h1
      rw [List.getElem?_append_right (by rw [← L.len]; exact hi), ← L.len] at h2
      cases e : i - as.length with
      | zero => rw [e] at h1 h2; cases h1; cases h2; exact hb
      | succ n => rw [e] at h1; simp at h1
section
variable {X : Cx} {K : PySem.W.Frag}
def rTupOf (K : PySem.W.Frag) : List V → Hp → VK → Prop := fun xs H Q => ∃ p ys, xs = [.ref p] ∧ ((SqL K H p ys ∧ ∀ l, H l = none → Q (.ref l) (upd H l (.tup ys))) ∨ (SqT K H p ys ∧ Q (.ref p) H))
def rLstOf (K : PySem.W.Frag) : List V → Hp → VK → Prop := fun xs H Q => ∃ p ys, xs = [.ref p] ∧ (SqL K H p ys ∨ SqT K H p ys) ∧ ∀ l, H l = none → Q (.ref l) (upd H l (.lst ys))
theorem call_sortIK (hK : X.K = K) : CallR X (.builtin "sorted") (rSortI K) := by subst hK; exact call_sortI
theorem call_tupK (hK : X.K = K) : CallR X (.type "tuple") (rTupOf K) := by subst hK; exact call_tuple_of
theorem call_isinstK (hK : X.K = K) (c : V) (cv : Value) (hcv : ∀ u, RelV c u → u = cv) : CallR X (.builtin "isinstance") (fun xs H Q => ∃ x t b, xs = [x, c] ∧ TyOf K H x t ∧ PySem.W.kitOne K t cv = some b ∧ Q (.bl b) H) := by subst hK; exact call_isinst c cv hcv
theorem call_lstK (hK : X.K = K) : CallR X (.type "list") (rLstOf K) := by subst hK; exact call_list_of
end
end L2
namespace L2
open PySem PySem.W PyProof.Rows
section
open PySem.SeqAt
open PySem.AutoSeq1 (wpAny_loadPart')
open PySem.MeetsSeq PySem.MeetsSeq2 PySem.MeetsSeq3
theorem ia_at {vs : List Value} {ns : List Int} (h : IntsAre vs ns) : ∀ {i : Nat}, i < ns.length → ∃ t, vs[i]? = some (.int (ns.getD i 0) t) := by
  induction h with
  | nil => intro i hi; cases hi
  | cons a t _ ih =>
    intro i hi
    cases i with
    | zero => exact ⟨t, rfl⟩
    | succ i => exact ih (i := i) (by simpa using hi)
theorem lt_drop {ns ms : List Int} {i : Nat} (h1 : i < ns.length) (h2 : i < ms.length) : decide (ns.drop i < ms.drop i) = if ns.getD i 0 = ms.getD i 0 then decide (ns.drop (i + 1) < ms.drop (i + 1)) else decide (ns.getD i 0 < ms.getD i 0) := by
  have g1 : ns.getD i 0 = ns[i] := by simp [List.getD_eq_getElem?_getD, h1]
  have g2 : ms.getD i 0 = ms[i] := by simp [List.getD_eq_getElem?_getD, h2]
  rw [g1, g2, List.drop_eq_getElem_cons h1, List.drop_eq_getElem_cons h2]
  by_cases c : ns[i] = ms[i]
  · rw [if_pos c, Bool.eq_iff_iff, decide_eq_true_iff, decide_eq_true_iff, List.cons_lt_cons_iff]
    simp [c]
  · rw [if_neg c, Bool.eq_iff_iff, decide_eq_true_iff, decide_eq_true_iff, List.cons_lt_cons_iff]
    simp [c]
theorem lt_loop (l b : Addr) (items items2 : Array Value) (n n2 : Nat) (dd dd2 : Option Addr) (sl sl2 : Array (Option Value)) (ns ms : List Int) (hi : IntsAre items.toList ns) (hj : IntsAre items2.toList ms) (k : Nat) :
    ∀ i : Nat, items.size - i = k → i ≤ items.size → i ≤ items2.size → Meets (Builtin.«list.__eq__.loop» ⟨[.ref l, .ref b, rawInt i, rawInt 0], []⟩)
      (fun _ R s => s.heap.get? l = some { cls := .type "list", dict := dd, data := .seq items n, slots := sl } ∧ s.heap.get? b = some { cls := .type "list", dict := dd2, data := .seq items2 n2, slots := sl2 } ∧
        R (.ok (.ret (.bool (decide (ns.drop i < ms.drop i))))) s) := by
  have z1 : items.size = ns.length := by rw [← hi.length]; simp
  have z2 : items2.size = ms.length := by rw [← hj.length]; simp
  induction k with
  | zero =>
    intro i hk h1 h2 prog w A R s h
    obtain ⟨hp, g, d, tk, os⟩ := s; obtain ⟨hl, hb, h⟩ := h
    wp_walk using wpAny_loadPart' hl, wpAny_loadPart' hb
    have hi1 : items[((i : Nat) : Int).toNat]? = none := by simp; omega
    have hd : ns.drop i = [] := List.drop_of_length_le (by omega)
    rw [hd] at h
    rw [hi1]
    wp_walk using wpAny_loadPart' hl, wpAny_loadPart' hb
    show R (.ok (.ret (.bool (decide (items.size < items2.size))))) _
    have e : decide (items.size < items2.size) = decide (([] : List Int) < ms.drop i) := by
      rcases Nat.lt_or_ge i ms.length with c | c
      · rw [List.drop_eq_getElem_cons c, decide_eq_true (by omega), decide_eq_true (List.nil_lt_cons _ _)]
      · rw [List.drop_of_length_le c, decide_eq_false (by omega), decide_eq_false (by simp)]
    rw [e]; exact h
  | succ k ih =>
    intro i hk h1 h2 prog w A R s h
    obtain ⟨hp, g, d, tk, os⟩ := s; obtain ⟨hl, hb, h⟩ := h
    wp_walk using wpAny_loadPart' hl, wpAny_loadPart' hb
    have hlt : i < items.size := by omega
    obtain ⟨t, e1⟩ := ia_at hi (i := i) (by omega)
    have hi1 : items[((i : Nat) : Int).toNat]? = some (.int (ns.getD i 0) t) := by rw [Int.toNat_natCast, ← Array.getElem?_toList]; exact e1
    rcases Nat.lt_or_ge i items2.size with hlt2 | hlt2
    · obtain ⟨u, e2⟩ := ia_at hj (i := i) (by omega)
      have hi2 : items2[((i : Nat) : Int).toNat]? = some (.int (ms.getD i 0) u) := by rw [Int.toNat_natCast, ← Array.getElem?_toList]; exact e2
      have hc : ((i : Int) + 1) = ((i + 1 : Nat) : Int) := by push_cast; rfl
      rw [lt_drop (by omega) (by omega)] at h
      rw [hi1, hi2]
      obtain ⟨e, he, hiff⟩ := HT.eqAt_int A.in1 ⟨hp, g, d, tk, os⟩ (ns.getD i 0) t (ms.getD i 0) u
      refine wpAny_bind (he prog w _ _ ?_)
      cases e with
      | true =>
        rw [if_pos (hiff.mp rfl)] at h
        wp_walk
        rw [hc]
        exact ⟨plainId_quiet plain_eq_loop _, codeAny_builtin entry_eq_loop (by
          rw [Around.under_plainId plain_eq_loop _]
          exact ih (i + 1) (by omega) (by omega) (by omega) prog w A R _ ⟨hl, hb, h⟩)⟩
      | false =>
        rw [if_neg (fun q => absurd (hiff.mpr q) Bool.false_ne_true)] at h
        wp_walk using wpAny_loadPart' hl, wpAny_loadPart' hb
        rw [hi1, hi2]
        have hri := HT.rcLt_int A.in1 ⟨hp, g, d, tk, os⟩ (ns.getD i 0) t (ms.getD i 0) u prog w
        wp_walk using hri
        exact h
    · have hi2 : items2[((i : Nat) : Int).toNat]? = none := by simp; omega
      rw [hi1, hi2]
      wp_walk using wpAny_loadPart' hl, wpAny_loadPart' hb
      show R (.ok (.ret (.bool (decide (items.size < items2.size))))) _
      have e : decide (items.size < items2.size) = decide (ns.drop i < ms.drop i) := by
        rw [List.drop_eq_getElem_cons (show i < ns.length by omega), List.drop_of_length_le (show ms.length ≤ i by omega), decide_eq_false (by omega), decide_eq_false (by simp)]
      rw [e]; exact h
theorem list_lt (l b : Addr) (items items2 : Array Value) (n n2 : Nat) (dd dd2 : Option Addr) (sl sl2 : Array (Option Value)) (ns ms : List Int) (hi : IntsAre items.toList ns) (hj : IntsAre items2.toList ms) :
    Meets (Builtin.«list.__lt__» ⟨[.ref l, .ref b], []⟩)
      (fun _ R s => s.heap.get? l = some { cls := .type "list", dict := dd, data := .seq items n, slots := sl } ∧ s.heap.get? b = some { cls := .type "list", dict := dd2, data := .seq items2 n2, slots := sl2 } ∧
        R (.ok (.ret (.bool (decide (ns < ms))))) s) := by
  intro prog w A R s h
  obtain ⟨hp, g, d, tk, os⟩ := s; obtain ⟨hl, hb, h⟩ := h
  have f3 := AutoSeq1.sub_list_list
  wp_walk using wpAny_loadPart' hl, wpAny_loadPart' hb
  exact ⟨plainId_quiet plain_eq_loop _, codeAny_builtin entry_eq_loop (by
    rw [Around.under_plainId plain_eq_loop _]
    exact lt_loop l b items items2 n n2 dd dd2 sl sl2 ns ms hi hj _ 0 rfl (Nat.zero_le _) (Nat.zero_le _) prog w A R _ ⟨hl, hb, h⟩)⟩
end
end L2
namespace L2
open PySem PySem.W PyProof.Rows
section
variable {n : Nat} {lt : Nat → Nat → Bool} {cmp : Nat → Nat → (Bool → Shared → Prop) → Shared → Prop} {s : Shared} (hc : ∀ i j C, i < n → j < n → C (lt i j) s → cmp i j C s)
include hc
theorem asc_any {p : Array Nat} (S : Shf n p) {Q : Nat → Shared → Prop} : ∀ f m, 1 ≤ m → m + f = n → (∀ m', m ≤ m' → m' ≤ n → Q m' s) → (kas_asc p f m).kasWp cmp Q s
  | 0, m, h1, hm, q => q m (Nat.le_refl _) (by omega)
  | f + 1, m, h1, hm, q => by
    refine hc _ _ _ (S.bd (by omega)) (S.bd (by omega)) ?_
    show KasT.kasWp cmp (if lt (p.getD m 0) (p.getD (m - 1) 0) = true then KasT.ret m else kas_asc p f (m + 1)) Q s
    by_cases e : lt (p.getD m 0) (p.getD (m - 1) 0) = true
    · rw [if_pos e]; exact q m (Nat.le_refl _) (by omega)
    · rw [if_neg e]
      exact asc_any S f (m + 1) (by omega) (by omega) fun m' a b => q m' (by omega) b
theorem desc_any {Q : Array Nat × Nat × Nat → Shared → Prop} : ∀ f p m u, Shf n p → 1 ≤ m → m + f = n → (∀ p' m' u', Shf n p' → m ≤ m' → m' ≤ n → Q (p', m', u') s) → (kas_desc f p m u).kasWp cmp Q s
  | 0, p, m, u, S, h1, hm, q => q p m u S (Nat.le_refl _) (by omega)
  | f + 1, p, m, u, S, h1, hm, q => by
    refine hc _ _ _ (S.bd (by omega)) (S.bd (by omega)) ?_
    show KasT.kasWp cmp (if lt (p.getD m 0) (p.getD (m - 1) 0) = true then (if u > 0 then kas_desc f (kas_rev p (m - (u + 1)) m) (m + 1) 0 else kas_desc f p (m + 1) 0)
      else KasT.ask (p.getD (m - 1) 0) (p.getD m 0) fun d => if d = true then KasT.ret (p, m, u) else kas_desc f p (m + 1) (u + 1)) Q s
    by_cases e : lt (p.getD m 0) (p.getD (m - 1) 0) = true
    · rw [if_pos e]
      by_cases e2 : u > 0
      · rw [if_pos e2]
        exact desc_any f _ (m + 1) 0 ⟨(mirror_perm _ _ _ _).trans S.pm⟩ (by omega) (by omega) fun p' m' u' a b c => q p' m' u' a (by omega) c
      · rw [if_neg e2]
        exact desc_any f _ (m + 1) 0 S (by omega) (by omega) fun p' m' u' a b c => q p' m' u' a (by omega) c
    · rw [if_neg e]
      refine hc _ _ _ (S.bd (by omega)) (S.bd (by omega)) ?_
      show KasT.kasWp cmp (if lt (p.getD (m - 1) 0) (p.getD m 0) = true then KasT.ret (p, m, u) else kas_desc f p (m + 1) (u + 1)) Q s
      by_cases e2 : lt (p.getD (m - 1) 0) (p.getD m 0) = true
      · rw [if_pos e2]; exact q p m u S (Nat.le_refl _) (by omega)
      · rw [if_neg e2]
        exact desc_any f _ (m + 1) (u + 1) S (by omega) (by omega) fun p' m' u' a b c => q p' m' u' a (by omega) c
theorem tl_any {Q : Nat × Array Nat → Shared → Prop} {p : Array Nat} (S : Shf n p) {m : Nat} (h1 : 1 ≤ m) (hm : m ≤ n) (q : ∀ m' p', Shf n p' → 1 ≤ m' → m' ≤ n → Q (m', p') s) : (kas_tail3 m n p).kasWp cmp Q s := by
  unfold kas_tail3
  rw [KasT.kasWp_bind]
  have S' : Shf n (kas_rev p 0 m) := ⟨(mirror_perm _ _ _ _).trans S.pm⟩
  exact asc_any hc S' (n - m) m h1 (by omega) fun m2 a b => q m2 _ S' (by omega) b
theorem part_any {Q : Nat × Array Nat → Shared → Prop} {p : Array Nat} (S : Shf n p) {m : Nat} (h1 : 1 ≤ m) (hm : m < n) (q : ∀ m' p', Shf n p' → 1 ≤ m' → m' ≤ n → Q (m', p') s) : (kas_descPart m n p).kasWp cmp Q s := by
  unfold kas_descPart
  rw [KasT.kasWp_bind]
  refine desc_any hc (n - (m + 1)) p (m + 1) 0 S (by omega) (by omega) fun p' m' u' S' a b => ?_
  dsimp only
  by_cases e : u' > 0
  · rw [if_pos e]
    exact tl_any hc ⟨(mirror_perm _ _ _ _).trans S'.pm⟩ (by omega) b q
  · rw [if_neg e]
    exact tl_any hc S' (by omega) b q
theorem count_any {Q : Nat × Array Nat → Shared → Prop} {p : Array Nat} (S : Shf n p) (h2 : 2 ≤ n) (q : ∀ m p', Shf n p' → 1 ≤ m → m ≤ n → Q (m, p') s) : (kas_count n p).kasWp cmp Q s := by
  unfold kas_count
  rw [KasT.kasWp_bind]
  refine asc_any hc S (n - 1) 1 (by omega) (by omega) fun m h1 hm => ?_
  by_cases e : (m == n) = true
  · rw [if_pos e]; exact q m p S h1 hm
  · rw [if_neg e]
    have hne : m ≠ n := fun z => e (by rw [z]; exact beq_self_eq_true n)
    by_cases e1 : m > 1
    · rw [if_pos e1]
      refine hc _ _ _ (S.bd (by omega)) (S.bd (by omega)) ?_
      show KasT.kasWp cmp (if lt (p.getD 0 0) (p.getD (m - 1) 0) = true then KasT.ret (m, p) else kas_descPart m n (kas_rev p 0 m)) Q s
      by_cases e2 : lt (p.getD 0 0) (p.getD (m - 1) 0) = true
      · rw [if_pos e2]; exact q m p S h1 hm
      · rw [if_neg e2]
        exact part_any hc ⟨(mirror_perm _ _ _ _).trans S.pm⟩ h1 (by omega) q
    · rw [if_neg e1]
      exact part_any hc S h1 (by omega) q
theorem place_any {p : Array Nat} (S : Shf n p) {k : Nat} (hk : k < n) {Q : Nat → Shared → Prop} : ∀ f l r, l ≤ r → r ≤ k → (∀ l', l' ≤ k → Q l' s) → (kas_place p k f l r).kasWp cmp Q s
  | 0, l, r, h1, h2, q => q l (by omega)
  | f + 1, l, r, h1, h2, q => by
    rw [kas_place]
    by_cases e : l ≥ r
    · rw [if_pos e]; exact q l (by omega)
    · rw [if_neg e]
      refine hc _ _ _ (S.bd hk) (S.bd (by omega)) ?_
      show KasT.kasWp cmp (if lt (p.getD k 0) (p.getD ((l + r) / 2) 0) = true then kas_place p k f l ((l + r) / 2) else kas_place p k f ((l + r) / 2 + 1) r) Q s
      by_cases c : lt (p.getD k 0) (p.getD ((l + r) / 2) 0) = true
      · rw [if_pos c]; exact place_any S hk f _ _ (by omega) (by omega) q
      · rw [if_neg c]; exact place_any S hk f _ _ (by omega) (by omega) q
theorem bin_any {Q : Array Nat → Shared → Prop} : ∀ f p k, Shf n p → k + f = n → (∀ p', Shf n p' → Q p' s) → (kas_bin f p k).kasWp cmp Q s
  | 0, p, k, S, hk, q => q p S
  | f + 1, p, k, S, hk, q => by
    rw [kas_bin, KasT.kasWp_bind]
    exact place_any hc S (by omega) k 0 k (by omega) (by omega) fun l hl => bin_any f _ (k + 1) ⟨(bubble_perm _ _ _).trans S.pm⟩ (by omega) q
theorem sort_any {Q : Array Nat → Shared → Prop} (h2 : 2 ≤ n) (q : ∀ p, Shf n p → Q p s) : (kas_sort n).kasWp cmp Q s := by
  unfold kas_sort
  rw [KasT.kasWp_bind]
  refine count_any hc ⟨Array.Perm.refl _⟩ h2 fun m p S h1 hm => ?_
  dsimp only
  by_cases e : m < n
  · rw [if_pos e]
    exact bin_any hc _ _ _ S (by omega) q
  · rw [if_neg e]
    exact q p S
end
section
variable {prog : Program} {w : World} {A : Around} {E : Value → Shared → Prop} {s : Shared}
inductive LstsAt (h : Heap) : List Value → List (List Int) → Prop
  | nil : LstsAt h [] []
  | cons {a : Addr} {o : Obj} {xs : Array Value} {n : Nat} {t : List Int} {vs : List Value} {ts : List (List Int)} (ho : h.get? a = some o) (hc : o.cls = .type "list") (hd : o.data = .seq xs n) (hi : IntsAre xs.toList t) (r : LstsAt h vs ts) : LstsAt h (.ref a :: vs) (t :: ts)
theorem LstsAt.length {h : Heap} {vs : List Value} {ts : List (List Int)} (T : LstsAt h vs ts) : vs.length = ts.length := by
  induction T with
  | nil => rfl
  | cons _ _ _ _ _ ih => rw [List.length_cons, List.length_cons, ih]
theorem LstsAt.keep {h h' : Heap} {vs : List Value} {ts : List (List Int)} (T : LstsAt h vs ts) (k : ∀ b o, h.get? b = some o → h'.get? b = some o) : LstsAt h' vs ts := by
  induction T with
  | nil => exact .nil
  | cons ho hc hd hi _ ih => exact .cons (k _ _ ho) hc hd hi ih
theorem LstsAt.keepBut {h h' : Heap} {x : Addr} {vs : List Value} {ts : List (List Int)} (T : LstsAt h vs ts) : (∀ a, Value.ref a ∈ vs → a ≠ x) → (∀ b o, h.get? b = some o → b ≠ x → h'.get? b = some o) → LstsAt h' vs ts := by
  induction T with
  | nil => intro _ _; exact .nil
  | cons ho hc hd hi _ ih =>
    intro hx k
    exact .cons (k _ _ ho (hx _ List.mem_cons_self)) hc hd hi (ih (fun a ha => hx a (List.mem_cons_of_mem _ ha)) k)
theorem LstsAt.fresh {h : Heap} {vs : List Value} {ts : List (List Int)} (T : LstsAt h vs ts) : ∀ a, Value.ref a ∈ vs → a ≠ h.objs.size + 1 := by
  induction T with
  | nil => intro a h; simp at h
  | cons ho _ _ _ _ ih =>
    intro a h
    rcases List.mem_cons.mp h with e | e
    · cases e; exact Nat.ne_of_lt (Nat.lt_succ_of_lt (Heap.lt_size ho))
    · exact ih a e
theorem LstsAt.at {h : Heap} {vs : List Value} {ts : List (List Int)} (T : LstsAt h vs ts) : ∀ i, i < vs.length → ∃ a o xs n, vs.getD i .none = .ref a ∧ h.get? a = some o ∧ o.cls = .type "list" ∧ o.data = .seq xs n ∧ IntsAre xs.toList (ts.getD i []) := by
  induction T with
  | nil => intro i hi; simp at hi
  | cons ho hc hd hi _ ih =>
    intro i hl
    cases i with
    | zero => exact ⟨_, _, _, _, rfl, ho, hc, hd, hi⟩
    | succ i => exact ih i (by simpa using hl)
theorem LstsAt.type {h : Heap} {vs : List Value} {ts : List (List Int)} {M : Model} (T : LstsAt h vs ts) : ∀ v ∈ vs, Looks M h (typeOf v) (.type "list") := by
  induction T with
  | nil => intro v hv; simp at hv
  | cons ho hc _ _ _ ih =>
    intro v hv
    rcases List.mem_cons.mp hv with rfl | hv
    · rw [← hc]; exact (Looks.ld ho).andThen .now
    · exact ih v hv
theorem oneLt_list {l b : Addr} {o o2 : Obj} {items items2 : Array Value} {n n2 : Nat} {ns ms : List Int} {Q : Bool → Shared → Prop} (hu : A.units < cLine) (ho : s.heap.get? l = some o) (hc : o.cls = .type "list") (hd : o.data = .seq items n)
    (ho2 : s.heap.get? b = some o2) (hc2 : o2.cls = .type "list") (hd2 : o2.data = .seq items2 n2) (hi : IntsAre items.toList ns) (hj : IntsAre items2.toList ms) (h : Q (decide (ns < ms)) s) :
    wpAny (model prog w) A (keyLt' oneType' (.ref l) (.ref b)) Q E s := by
  obtain ⟨cls, dd, data, sl⟩ := o
  obtain ⟨cls2, dd2, data2, sl2⟩ := o2
  simp only at hc hd hc2 hd2
  subst hc hd hc2 hd2
  rw [keyLt'_oneType, oneLt'_eq]
  simp only [if_true]
  refine wpAny_bind (wpAny_cRoomFor hu ?_)
  refine wpAny_bind (wpAny_callSpecialIfBound?_slot ⟨_, ho, rfl⟩ PySem.F.slot_list_lt (call_meets PySem.F.slot_list_lt ⟨_, ho, rfl⟩ PySem.F.entry_list_lt (PySem.F.args_list_lt_2 _ _) (list_lt l b items items2 n n2 dd dd2 sl sl2 ns ms hi hj) ⟨ho, ho2, ?_⟩))
  exact wpAny_truthy_bool h
end
end L2
namespace L2
open PySem PySem.W PyProof.Rows
section
variable {prog : Program} {w : World} {A : Around} {E : Value → Shared → Prop} {s : Shared}
theorem sort_lists {x : Addr} {us : List Value} {ts : List (List Int)} {c : Nat} {P : Fin → Shared → Prop} (hu : A.units < cLine) (hx : s.heap.get? x = some (seqObj "list" us.toArray c)) (hT : LstsAt s.heap us ts) (hxt : ∀ a, .ref a ∈ us → a ≠ x) (h64 : us.length < 64)
    (q : ∀ (out : Array Value) (p : List Nat), p.Perm (List.range us.length) → out.toList = p.map (fun i => us.getD i .none) → P (.done (.ret .none)) { s with heap := sortedHeap s.heap x us out }) :
    wpAny (model prog w) A (Builtin.«list.sort» ⟨[.ref x], []⟩) P E s := by
  have hlt := Heap.lt_size hx
  have s1k : 64 ≤ sizeLine := by decide
  obtain ⟨d, hd⟩ : ∃ d, (s.heap.update x (Obj.mapSeq fun _ => #[])).get? x = some (seqObj "list" #[] d) := ⟨_, get?_update_seq hx fun _ => #[]⟩
  have h6 : (((s.heap.update x (Obj.mapSeq fun _ => #[])).push (seqObj "tuple" us.toArray 0)).push (seqObj "list" #[] 0)).get? x = some (seqObj "list" #[] d) := by
    rw [Heap.get?_push_ne, Heap.get?_push_ne, hd]
    · rw [Heap.size_update]; exact Nat.ne_of_lt hlt
    · rw [size_push', Heap.size_update]; exact Nat.ne_of_lt (Nat.lt_succ_of_lt hlt)
  have hl := hT.length
  have hT6 : LstsAt (((s.heap.update x (Obj.mapSeq fun _ => #[])).push (seqObj "tuple" us.toArray 0)).push (seqObj "list" #[] 0)) us ts := by
    refine hT.keepBut hxt fun a o ho hne => ?_
    have hlo := Heap.lt_size ho
    rw [Heap.get?_push_ne, Heap.get?_push_ne, Heap.get?_update_ne]
    · exact ho
    · exact hne
    · rw [Heap.size_update]; exact Nat.ne_of_lt hlo
    · rw [size_push', Heap.size_update]; exact Nat.ne_of_lt (Nat.lt_succ_of_lt hlo)
  rw [list_sort_plain]
  refine wpAny_bind (listItems_at hx rfl (wpAny_bind (listUpdate_at hx rfl (wpAny_bind (seqEpoch_at hd rfl (wpAny_bind (wpAny_newTuple (wpAny_bind (wpAny_newList (wpAny_holding ?_))))))))))
  show wpAny (model prog w) A _ P E { s with heap := ((s.heap.update x (Obj.mapSeq fun _ => #[])).push (seqObj "tuple" us.toArray 0)).push (seqObj "list" #[] 0) }
  dsimp only
  by_cases hsz : us.toArray.size < 2
  · rw [if_pos hsz, if_pos hsz]
    refine wpAny_bind (wpAny_pure ?_)
    rw [StateT.run_pure]
    refine wpAny_bind (wpAny_pure ?_)
    dsimp only
    refine wpAny_bind (seqEpoch_at h6 rfl (wpAny_bind (listUpdate_at h6 rfl ?_ (hsz2 := by rw [Array.size_map]; show (pairsOf us).size ≤ _; rw [pairsOf_size]; omega))))
    simp only [bne_self_eq_false, Bool.false_eq_true, if_false]
    rw [List.size_toArray] at hsz
    refine wpAny_pure (q _ (List.range us.length) (.refl _) ?_)
    rw [all_here]
    show ((us.toArray.zip us.toArray).map (·.2)).toList = us
    rw [List.zip_toArray, List.map_toArray, List.map_snd_zip (Nat.le_refl _)]
  · rw [if_neg hsz, if_neg hsz]
    rw [List.size_toArray] at hsz
    refine wpAny_bind (kas_kind (T := Value.type "list") (by omega) hT6.type rfl rfl ?_)
    refine wpAny_bind (wpAny_mono (kat_run (vs := us) (ks := us) (Q := fun st s' => s' = { s with heap := ((s.heap.update x (Obj.mapSeq fun _ => #[])).push (seqObj "tuple" us.toArray 0)).push (seqObj "list" #[] 0) } ∧ failedOf st = none ∧
        ∃ p : List Nat, p.Perm (List.range us.length) ∧ ((arrOf st).map (·.2)).toList = p.map (fun i => us.getD i .none))
      (G := fun p s' => s' = { s with heap := ((s.heap.update x (Obj.mapSeq fun _ => #[])).push (seqObj "tuple" us.toArray 0)).push (seqObj "list" #[] 0) } ∧ Shf us.length p)
      rfl (by omega) h64 (fun p st' s' hp ha hf hg => ⟨hg.1, hf, p.toList, ?_, ?_⟩) ?_) ?_ fun _ _ e => e)
    · have := Array.perm_iff_toList_perm.mp hg.2.pm
      simpa using this
    · rw [kat_snds rfl ha]
    · refine sort_any (n := us.length) (lt := fun i j => decide (ts.getD i [] < ts.getD j [])) (fun i j C hi hj hC => ?_) (by omega) fun p S => ⟨rfl, S⟩
      obtain ⟨a1, o1, x1, n1, e1, g1, c1, d1, i1⟩ := hT6.at i hi
      obtain ⟨a2, o2, x2, n2, e2, g2, c2, d2, i2⟩ := hT6.at j hj
      unfold kas_ask
      rw [e1, e2]
      exact oneLt_list hu g1 c1 d1 g2 c2 d2 i1 i2 hC
    · rintro ⟨⟨⟩, st'⟩ s' ⟨rfl, hf, p, hp, ho⟩
      dsimp only at hf ho ⊢
      have hsz2 : ((arrOf st').map (·.2)).size = us.length := by
        rw [← Array.length_toList, ho, List.length_map, hp.length_eq, List.length_range]
      refine wpAny_bind (seqEpoch_at h6 rfl (wpAny_bind (listUpdate_at h6 rfl ?_ (hsz2 := by rw [hsz2]; omega))))
      rw [hf]
      simp only [bne_self_eq_false, Bool.false_eq_true, if_false]
      exact wpAny_pure (q _ p hp ho)
theorem sorted_lists {x : Addr} {us : List Value} {ts : List (List Int)} {Q : Value → Shared → Prop} (hu : A.units + 200 < cLine) (hx : s.heap.IsList x us.toArray) (hT : LstsAt s.heap us ts) (h64 : us.length < 64)
    (q : ∀ (out : Array Value) (p : List Nat), p.Perm (List.range us.length) → out.toList = p.map (fun i => us.getD i .none) → Q (.ref (s.heap.objs.size + 1)) { s with heap := sortedAll s.heap us out }) :
    wpAny (model prog w) A (call (.builtin "sorted") [.ref x]) Q E s := by
  have s1k : 64 ≤ sizeLine := by decide
  refine Calls.call_function_entry kind_sorted plain_sorted entry_sorted (args_sorted1 _) ?_
  unfold Builtin.«sorted»
  refine wpAny_bind (m := checkCount "sorted" 1 1 _) (wpAny_pure (wpAny_bind (collect_list hx (wpAny_bind (wpAny_newList ?_)) (by omega))))
  have hs0 : ((s.heap.push (seqObj "list" #[] 0)).update s.heap.objs.size (Obj.mapSeq (· ++ us.toArray))).objs.size = s.heap.objs.size + 1 := by rw [Heap.size_update, size_push']
  have hL : (((s.heap.push (seqObj "list" #[] 0)).update s.heap.objs.size (Obj.mapSeq (· ++ us.toArray))).push (seqObj "list" us.toArray 0)).get? (s.heap.objs.size + 1) = some (seqObj "list" us.toArray 0) := by
    rw [← hs0]; exact Heap.get?_push_size _ rfl
  have old : ∀ b o, s.heap.get? b = some o → (((s.heap.push (seqObj "list" #[] 0)).update s.heap.objs.size (Obj.mapSeq (· ++ us.toArray))).push (seqObj "list" us.toArray 0)).get? b = some o := fun b o g => by
    have hb := Heap.lt_size g
    rw [Heap.get?_push_ne, Heap.get?_update_ne, Heap.get?_push_ne, g]
    · exact Nat.ne_of_lt hb
    · exact Nat.ne_of_lt hb
    · rw [hs0]; exact Nat.ne_of_lt (Nat.lt_succ_of_lt hb)
  have hxt := hT.fresh
  show wpAny _ _ _ _ _ { s with heap := ((s.heap.push (seqObj "list" #[] 0)).update s.heap.objs.size (Obj.mapSeq (· ++ us.toArray))).push (seqObj "list" us.toArray 0) }
  rw [hs0]
  exact wpAny_bind (wpAny_holding (wpAny_call_entry slot_list_sort ⟨_, hL, rfl⟩ entry_list_sort (sort_lists (by simp only [Around.in1_units]; omega) hL (hT.keep old) hxt h64 fun out p h1 h2 => ⟨_, rfl, wpAny_pure ⟨_, rfl, q out p h1 h2⟩⟩) (args_list_sort _)))
theorem collect_tup {l : Addr} {vs : List Value} {Q : List Value → Shared → Prop} (hl : IsTup s.heap l vs.toArray)
    (h : Q vs { s with heap := (s.heap.push (seqObj "list" #[] 0)).update s.heap.objs.size (Obj.mapSeq (· ++ vs.toArray)) }) (hsz : vs.length ≤ sizeLine) :
    wpAny (model prog w) A (collect (.ref l)) Q E s := by
  obtain ⟨o, ho, hc, n, hd⟩ := id hl
  unfold collect
  refine wpAny_bind (wpAny_runValue (codeAny_builtin entry_proto_collect' ?_))
  show wpAny _ _ (do again (.builtin "list.__iadd__" ⟨[← newList [], .ref l], []⟩)) _ _ s
  refine wpAny_bind (wpAny_newList (wpAny_pure ⟨Code.quiet_builtin _ (by decide +kernel), codeAny_builtin entry_list_iadd' ?_⟩))
  show wpAny _ _ (Builtin.List.listExtendWith (.ref s.heap.objs.size) (.ref l) (.ref s.heap.objs.size)) _ _ { s with heap := s.heap.push (seqObj "list" #[] 0) }
  unfold Builtin.List.listExtendWith
  have ho' : (s.heap.push (seqObj "list" #[] 0)).get? l = some o := Heap.get?_push_of_some _ ho
  refine wpAny_bind (wpAny_typeOf (T := "tuple") ⟨o, ho', hc⟩ ?_)
  have ht : (Value.type "tuple" == Value.type "tuple") = true := by rfl
  rw [if_pos (by rw [ht]; simp)]
  refine wpAny_bind (listItems_at ho' hd ?_)
  refine wpAny_bind (listItems_at (xs := #[]) (n := 0) (Heap.get?_push_size _ rfl) rfl ?_)
  rw [if_neg (by simp)]
  refine wpAny_bind (listUpdate_at (xs := #[]) (n := 0) (Heap.get?_push_size _ rfl) rfl ?_ (Nat.zero_le _) (by show (#[] ++ vs.toArray).size ≤ sizeLine + 1; simp only [Array.size_append, List.size_toArray, List.length_nil]; omega))
  refine wpAny_pure ?_
  show wpAny (model prog w) A (do
      let o ← load s.heap.objs.size
      match o.data with
      | .seq xs _ => pure xs.toList
      | _ => unsupported "internal:collect") Q E { s with heap := (s.heap.push (seqObj "list" #[] 0)).update s.heap.objs.size (Obj.mapSeq (· ++ vs.toArray)) }
  refine wpAny_bind (wpAny_load (get?_update_seq (Heap.get?_push_size _ rfl) _) ?_)
  show wpAny _ _ (pure ((#[] : Array Value) ++ vs.toArray).toList) Q E _
  rw [show ((#[] : Array Value) ++ vs.toArray).toList = vs by simp]
  exact wpAny_pure h
theorem sorted_intsT {l : Addr} {vs : List Value} {ns : List Int} {Q : Value → Shared → Prop} (hl : IsTup s.heap l vs.toArray) (hI : IntsAre vs ns) (h64 : vs.length < 64)
    (h : ∀ (out : Array Value) (ns' : List Int), IntsAre out.toList ns' → ns'.Perm ns → ns'.Pairwise (· ≤ ·) → Q (.ref (s.heap.objs.size + 1)) { s with heap := sortedAll s.heap vs out }) :
    wpAny (model prog w) A (call (.builtin "sorted") [.ref l]) Q E s := by
  have s1k : 64 ≤ sizeLine := by decide
  refine Calls.call_function_entry kind_sorted plain_sorted entry_sorted (args_sorted1 _) ?_
  unfold Builtin.«sorted»
  refine wpAny_bind (m := checkCount "sorted" 1 1 _) (wpAny_pure ?_)
  refine wpAny_bind (collect_tup hl ?_ (by omega))
  refine wpAny_bind (wpAny_newList ?_)
  have hsz : ((s.heap.push (seqObj "list" #[] 0)).update s.heap.objs.size (Obj.mapSeq (· ++ vs.toArray))).objs.size = s.heap.objs.size + 1 := by
    rw [Heap.size_update, size_push']
  have hoL : (((s.heap.push (seqObj "list" #[] 0)).update s.heap.objs.size (Obj.mapSeq (· ++ vs.toArray))).push (seqObj "list" vs.toArray 0)).get? (s.heap.objs.size + 1) = some (seqObj "list" vs.toArray 0) := by
    rw [← hsz]; exact Heap.get?_push_size _ rfl
  show wpAny _ _ _ _ _ { s with heap := ((s.heap.push (seqObj "list" #[] 0)).update s.heap.objs.size (Obj.mapSeq (· ++ vs.toArray))).push (seqObj "list" vs.toArray 0) }
  rw [hsz]
  refine wpAny_bind (wpAny_holding (wpAny_call_entry slot_list_sort ⟨_, hoL, rfl⟩ entry_list_sort (list_sort_tree hoL hI h64 fun out ns' a1 a2 a3 => ⟨_, rfl, ?_⟩) (args_list_sort _)))
  exact wpAny_pure ⟨_, rfl, h out ns' a1 a2 a3⟩
theorem sorted_tupsT {x : Addr} {us : List Value} {ts : List (List Int)} {Q : Value → Shared → Prop} (hx : IsTup s.heap x us.toArray) (hT : TupsAt s.heap us ts) (h64 : us.length < 64) (nd : ts.Nodup) (hne : ∀ t ∈ ts, t ≠ [])
    (q : ∀ (out : Array Value) (p : List Nat), p.Perm (List.range us.length) → out.toList = p.map (fun i => us.getD i .none) → (p.map fun i => ts.getD i []).Pairwise (· < ·) → Q (.ref (s.heap.objs.size + 1)) { s with heap := sortedAll s.heap us out }) :
    wpAny (model prog w) A (call (.builtin "sorted") [.ref x]) Q E s := by
  have s1k : 64 ≤ sizeLine := by decide
  refine Calls.call_function_entry kind_sorted plain_sorted entry_sorted (args_sorted1 _) ?_
  unfold Builtin.«sorted»
  refine wpAny_bind (m := checkCount "sorted" 1 1 _) (wpAny_pure (wpAny_bind (collect_tup hx (wpAny_bind (wpAny_newList ?_)) (by omega))))
  have hs0 : ((s.heap.push (seqObj "list" #[] 0)).update s.heap.objs.size (Obj.mapSeq (· ++ us.toArray))).objs.size = s.heap.objs.size + 1 := by rw [Heap.size_update, size_push']
  have hL : (((s.heap.push (seqObj "list" #[] 0)).update s.heap.objs.size (Obj.mapSeq (· ++ us.toArray))).push (seqObj "list" us.toArray 0)).get? (s.heap.objs.size + 1) = some (seqObj "list" us.toArray 0) := by
    rw [← hs0]; exact Heap.get?_push_size _ rfl
  have old : ∀ b o, s.heap.get? b = some o → (((s.heap.push (seqObj "list" #[] 0)).update s.heap.objs.size (Obj.mapSeq (· ++ us.toArray))).push (seqObj "list" us.toArray 0)).get? b = some o := fun b o g => by
    have hb := Heap.lt_size g
    rw [Heap.get?_push_ne, Heap.get?_update_ne, Heap.get?_push_ne, g]
    · exact Nat.ne_of_lt hb
    · exact Nat.ne_of_lt hb
    · rw [hs0]; exact Nat.ne_of_lt (Nat.lt_succ_of_lt hb)
  have hxt := hT.fresh
  show wpAny _ _ _ _ _ { s with heap := ((s.heap.push (seqObj "list" #[] 0)).update s.heap.objs.size (Obj.mapSeq (· ++ us.toArray))).push (seqObj "list" us.toArray 0) }
  rw [hs0]
  exact wpAny_bind (wpAny_holding (wpAny_call_entry slot_list_sort ⟨_, hL, rfl⟩ entry_list_sort (sort_tups hL (hT.keep old) hxt h64 nd hne fun out p h1 h2 h3 => ⟨_, rfl, wpAny_pure ⟨_, rfl, q out p h1 h2 h3⟩⟩) (args_list_sort _)))
end
section
variable {X : Cx} {K : PySem.W.Frag}
theorem call_sortIT : CallR X (.builtin "sorted") (fun xs H Q => ∃ (p : Addr) (ns : List Int), xs = [.ref p] ∧ SqT X.K H p (ns.map V.int) ∧ ns.length < 64 ∧ ∀ (ms : List Int) (l : Addr), ms.Perm ns → ms.Pairwise (· ≤ ·) → H l = none → Q (.ref l) (upd H l (.lst (ms.map V.int)))) := by
  intro pins s σ H xs us Q I r h
  obtain ⟨p, ns, rfl, hq, h64, q⟩ := h
  obtain ⟨u, rfl, rx⟩ := vals1 r
  cases rx
  obtain ⟨its, rv, pl, hz⟩ := I.tuple hq
  have hl : its.length = ns.length := by have := rv.length; rw [List.length_map] at this; omega
  refine sorted_intsT pl (intsAre_of rv) (by omega) fun out ms hi hp hs => ?_
  obtain ⟨e, he⟩ := sortedAll_at s.heap its out
  have hml : ms.length = ns.length := hp.length_eq
  have new : ObjOk X.prog X.w (upd H (s.heap.objs.size + 1) (.lst (ms.map V.int))) (sortedAll s.heap its out) (s.heap.objs.size + 1) (.lst (ms.map V.int)) :=
    ⟨by rw [List.length_map, hml]; rw [List.length_map] at hz; exact hz, out.toList, e, vals_ints hi, by simpa [seqObj] using he⟩
  exact ⟨.ref _, _, I.laid (t' := s.toks) (fun b o e => sortedAll_old e) (Nat.le_succ _) new, rfl, q ms _ hp hs (I.hok.fresh (Nat.le_succ _))⟩
theorem call_sortTT : CallR X (.builtin "sorted") (fun xs H Q => ∃ (p : Addr) (as : List Addr) (ts : List (List Int)), xs = [.ref p] ∧ SqT X.K H p (as.map V.ref) ∧ TupI H as ts ∧ ts.length < 64 ∧ ts.Nodup ∧ (∀ t ∈ ts, t ≠ []) ∧
    ∀ (l : Addr) (as' : List Addr) (ts' : List (List Int)), TupI H as' ts' → ts'.Perm ts → ts'.Pairwise (· < ·) → H l = none → Q (.ref l) (upd H l (.lst (as'.map V.ref)))) := by
  intro pins s σ H xs us Q I r h
  obtain ⟨p, as, ts, rfl, hq, T, h64, nd, hne, q⟩ := h
  obtain ⟨u, rfl, rx⟩ := vals1 r
  cases rx
  obtain ⟨its, rv, pl, hz⟩ := I.tuple hq
  have e0 := refs_of rv
  subst e0
  have hl := T.length
  refine sorted_tupsT pl (tups_at I T) (by rw [List.length_map]; omega) nd hne fun out pm h1 h2 h3 => ?_
  obtain ⟨e, he⟩ := sortedAll_at s.heap (as.map Value.ref) out
  rw [List.length_map] at h1
  have hlt : ∀ i ∈ pm, i < as.length := fun i hi => List.mem_range.mp (h1.mem_iff.mp hi)
  have e2 : out.toList = (pm.map fun i => as.getD i 0).map Value.ref := by
    rw [h2, List.map_map]
    refine List.map_congr_left fun i hi => ?_
    have := hlt i hi
    simp [List.getD_eq_getElem?_getD, this]
  have hpl : (pm.map fun i => as.getD i 0).length = as.length := by rw [List.length_map, h1.length_eq, List.length_range]
  have s64 : 64 ≤ sizeLine := by decide
  have new : ObjOk X.prog X.w (upd H (s.heap.objs.size + 1) (.lst ((pm.map fun i => as.getD i 0).map V.ref))) (sortedAll s.heap (as.map Value.ref) out) (s.heap.objs.size + 1) (.lst ((pm.map fun i => as.getD i 0).map V.ref)) :=
    ⟨by rw [List.length_map, hpl]; omega, out.toList, e, by rw [e2]; exact refs_to _, by simpa [seqObj] using he⟩
  refine ⟨.ref _, _, I.laid (t' := s.toks) (fun b o e => sortedAll_old e) (Nat.le_succ _) new, rfl, q _ _ _ (T.pick pm hlt) ?_ h3 (I.hok.fresh (Nat.le_succ _))⟩
  have := h1.map fun i => ts.getD i []
  rwa [hl, pick_all] at this
theorem lsts_at {pins : List (Addr × Obj)} {σ : St} {H : Hp} {s : Shared} (I : Inv X pins σ H s) : ∀ {as : List Addr} {ts : List (List Int)}, Paired (fun a t => H a = some (.lst (List.map V.int t))) as ts → LstsAt s.heap (as.map Value.ref) ts
  | _, _, .nil => .nil
  | _, _, .cons h r => by
    obtain ⟨its, rv, pl, _⟩ := I.list (SqL.of h)
    obtain ⟨o, e, c, n, d⟩ := pl.isList
    exact .cons e c d (by simpa using intsAre_of rv) (lsts_at I r)
theorem call_sortLL (hu : X.A.units + 200 < cLine) : CallR X (.builtin "sorted") (fun xs H Q => ∃ (p : Addr) (as : List Addr) (ts : List (List Int)), xs = [.ref p] ∧ SqL X.K H p (as.map V.ref) ∧ Paired (fun a t => H a = some (.lst (List.map V.int t))) as ts ∧ ts.length < 64 ∧
    ∀ (l : Addr) (as' : List Addr), as'.Perm as → H l = none → Q (.ref l) (upd H l (.lst (as'.map V.ref)))) := by
  intro pins s σ H xs us Q I r h
  obtain ⟨p, as, ts, rfl, hq, T, h64, q⟩ := h
  obtain ⟨u, rfl, rx⟩ := vals1 r
  cases rx
  obtain ⟨its, rv, pl, hz⟩ := I.list hq
  have e0 := refs_of rv
  subst e0
  have hl : as.length = ts.length := Paired.length T
  refine sorted_lists hu pl.isList (lsts_at I T) (by rw [List.length_map]; omega) fun out pm h1 h2 => ?_
  obtain ⟨e, he⟩ := sortedAll_at s.heap (as.map Value.ref) out
  rw [List.length_map] at h1
  have hlt : ∀ i ∈ pm, i < as.length := fun i hi => List.mem_range.mp (h1.mem_iff.mp hi)
  have e2 : out.toList = (pm.map fun i => as.getD i 0).map Value.ref := by
    rw [h2, List.map_map]
    refine List.map_congr_left fun i hi => ?_
    have := hlt i hi
    simp [List.getD_eq_getElem?_getD, this]
  have hpl : (pm.map fun i => as.getD i 0).length = as.length := by rw [List.length_map, h1.length_eq, List.length_range]
  have s64 : 64 ≤ sizeLine := by decide
  have new : ObjOk X.prog X.w (upd H (s.heap.objs.size + 1) (.lst ((pm.map fun i => as.getD i 0).map V.ref))) (sortedAll s.heap (as.map Value.ref) out) (s.heap.objs.size + 1) (.lst ((pm.map fun i => as.getD i 0).map V.ref)) :=
    ⟨by rw [List.length_map, hpl]; omega, out.toList, e, by rw [e2]; exact refs_to _, by simpa [seqObj] using he⟩
  refine ⟨.ref _, _, I.laid (t' := s.toks) (fun b o e => sortedAll_old e) (Nat.le_succ _) new, rfl, q _ _ ?_ (I.hok.fresh (Nat.le_succ _))⟩
  have := h1.map fun i => as.getD i 0
  have e3 : (List.range as.length).map (fun i => as.getD i 0) = as := by
    refine List.ext_getElem (by simp) fun i h1 h2 => ?_
    simp [List.getD_eq_getElem?_getD, h2]
  rwa [e3] at this
end
end L2
namespace L2
open PySem PySem.Spec PyProof.Rows
open PySem.AutoSeq1 (wpAny_loadPart')
theorem tup_is {h : Heap} {a : Addr} {xs : Array Value} (x : IsTup h a xs) : h.IsTuple a xs := x
section
variable {prog : Program} {w : World} {A : Around} {E : Value → Shared → Prop} {s : Shared}
theorem nextOf_tup_item {it t : Addr} {i : Nat} {items : Array Value} {x : Value} {Q : Value → Shared → Prop} (hit : s.heap.IsTupleIter it t i) (ht : s.heap.IsTuple t items) (hx : items[i]? = some x)
    (hQ : ∀ h', h'.IsTupleIter it t (i + 1) → Heap.SameBut it s.heap h' → Q x { s with heap := h' }) : wpAny (model prog w) A (Builtin.SmallTypes.nextOf (.ref it)) Q E s := by
  obtain ⟨o, ho, hc, hd⟩ := id hit
  obtain ⟨ol, hol, _, nl, hdl⟩ := ht
  unfold Builtin.SmallTypes.nextOf
  refine wpAny_bind (wpAny_callSpecial?_slot (name := Str.ofString "__next__") hit.typeIs F.slot_tuple_iterator_next
    (wpAny_call_entry F.slot_tuple_iterator_next hit.typeIs F.entry_tuple_iterator_next ?_ (F.args_tuple_iterator_next_1 _)))
  show wpAny _ _ (field (.ref it) 0 >>= _) _ _ s
  refine wpAny_bind (wpAny_field ho hd (x := .ref t) rfl ?_)
  show wpAny _ _ (if (Value.ref t == Value.none) = true then _ else _) _ _ s
  rw [if_neg (show ¬ ((Value.ref t == Value.none) = true) from Bool.false_ne_true)]
  show wpAny _ _ (field (.ref it) 1 >>= _) _ _ s
  refine wpAny_bind (wpAny_field ho hd (x := .int i 0) rfl ?_)
  show wpAny _ _ (seqItems? (.ref t) >>= _) _ _ s
  refine wpAny_bind (wpAny_seqItems hol hdl ?_)
  simp only [Int.toNat_natCast, hx]
  refine wpAny_bind (wpAny_setField ho hd (by simp) (wpAny_pure ⟨x, rfl, wpAny_pure (hQ _ ?_ (Heap.SameBut.update ..))⟩))
  exact ⟨_, Heap.get?_update_self _ ho (Obj.isFreed_of_fields (Obj.data_mapFields hd _)), (Obj.cls_mapFields ..).trans hc, by
    rw [Obj.data_mapFields hd]; simp [rawInt]⟩
theorem nextOf_tup_end {it t : Addr} {i : Nat} {items : Array Value} {Q : Value → Shared → Prop} (hh : A.handled = none) (hit : s.heap.IsTupleIter it t i) (ht : s.heap.IsTuple t items) (hx : items[i]? = none)
    (hE : ∀ h' e, Heap.ExtBut it s.heap h' → (∃ o, h'.get? e = some o ∧ o.cls = .type "StopIteration") → E (.ref e) { s with heap := h' }) : wpAny (model prog w) A (Builtin.SmallTypes.nextOf (.ref it)) Q E s := by
  obtain ⟨o, ho, hc, hd⟩ := id hit
  obtain ⟨ol, hol, _, nl, hdl⟩ := ht
  unfold Builtin.SmallTypes.nextOf
  refine wpAny_bind (wpAny_callSpecial?_slot (name := Str.ofString "__next__") hit.typeIs F.slot_tuple_iterator_next
    (wpAny_call_entry F.slot_tuple_iterator_next hit.typeIs F.entry_tuple_iterator_next ?_ (F.args_tuple_iterator_next_1 _)))
  show wpAny _ _ (field (.ref it) 0 >>= _) _ _ s
  refine wpAny_bind (wpAny_field ho hd (x := .ref t) rfl ?_)
  show wpAny _ _ (if (Value.ref t == Value.none) = true then _ else _) _ _ s
  rw [if_neg (show ¬ ((Value.ref t == Value.none) = true) from Bool.false_ne_true)]
  show wpAny _ _ (field (.ref it) 1 >>= _) _ _ s
  refine wpAny_bind (wpAny_field ho hd (x := .int i 0) rfl ?_)
  show wpAny _ _ (seqItems? (.ref t) >>= _) _ _ s
  refine wpAny_bind (wpAny_seqItems hol hdl ?_)
  simp only [Int.toNat_natCast, hx]
  refine wpAny_bind (wpAny_rule (wpAny_bind (wpAny_setField ho hd (by simp) ?_)))
  show wpAny _ _ (newExc (.type "StopIteration") [] >>= _) _ _ _
  refine wpAny_bind ?_
  simp only [newExc, newTuple]
  refine wpAny_bind (wpAny_newObj_type ?_ (by size_fits))
  refine wpAny_bind (m := firstArgMember _ _) (wpAny_of_eq (a := Value.none) (by first | rfl | (simp only [firstArgMember]; rfl)) ?_)
  refine wpAny_newObj_type ?_ (by size_fits)
  simp only [raiseNew]
  refine wpAny_bind (wpAny_handled ?_)
  first | rw [show A.in1.handled = none from hh] | rw [hh]
  refine wpAny_bind (wpAny_pure (wpAny_throw ?_))
  exact hE _ _ (((Heap.SameBut.update ..).extBut.push _).push _) ⟨_, Heap.get?_push_size _ rfl, rfl⟩
end
theorem draws_tuple {prog : Program} {w : World} {A : Around} (hh : A.handled = none) (it l : Addr) (hne : l ≠ it) (items : Array Value) :
    Draws prog w A it [it, l] items.size (fun i v => items[i]? = some v) (fun i h => h.IsTupleIter it l i ∧ h.IsTuple l items) where
  live := fun _ _ st => let ⟨o, ho, _⟩ := st.1; ⟨o, ho⟩
  frame := fun _ _ _ st hk => let ⟨⟨o, ho, r⟩, ⟨o2, ho2, r2⟩⟩ := st; ⟨⟨o, hk it (by simp) o ho, r⟩, ⟨o2, hk l (by simp) o2 ho2, r2⟩⟩
  item := fun i s Q E hi st hQ => by
    refine nextOf_tup_item st.1 st.2 (x := items[i]) (by simp [hi]) fun h' hit' hs' => ?_
    exact hQ _ h' s.toks (by simp [hi]) ⟨hit', st.2.extBut hs'.extBut hne⟩ hs'
  done := fun s Q E st hE => nextOf_tup_end hh st.1 st.2 (by simp) hE
theorem meets_enumT (l : Addr) (items : Array Value) (n : Nat) (dct : Option Addr) (sl : Array (Option Value)) :
    Meets (Builtin.«enumerate.__new__» ⟨[.type "enumerate", .ref l], []⟩) (fun _ R s => s.heap.get? l = some { cls := .type "tuple", dict := dct, data := .seq items n, slots := sl } ∧
      R (.ok (.ret (.ref (s.heap.push { cls := .type "tuple_iterator", data := .fields #[.ref l, .int 0 0] }).objs.size)))
        { s with heap := (s.heap.push { cls := .type "tuple_iterator", data := .fields #[.ref l, .int 0 0] }).push { cls := .type "enumerate", data := .fields #[.none, .bool false, .ref s.heap.objs.size, rawInt 0, .none, .none] } }) :=
  .of_wp fun prog w A R s h => by
    obtain ⟨hp, g, d, tk, os⟩ := s; obtain ⟨hl, h⟩ := h
    have hsub := sub_enumerate
    have hL : Heap.IsTuple (Shared.heap ⟨hp, g, d, tk, os⟩) l items := ⟨_, hl, rfl, n, rfl⟩
    wp_walk using wpAny_loadPart' hl
    refine wpAny_stack_any fun st => wpAny_pure ?_
    split
    · rename_i c _ _ _ _ _
      cases (c == Value.type "enumerate")
      · wp_walk using wpAny_loadPart' hl, wpAny_pyIter_tuple hL
        exact ⟨_, rfl, h⟩
      · wp_walk using wpAny_loadPart' hl, wpAny_pyIter_tuple hL
        exact ⟨_, rfl, h⟩
    · wp_walk using wpAny_loadPart' hl, wpAny_pyIter_tuple hL
      exact ⟨_, rfl, h⟩
section
variable {prog : Program} {w : World} {A : Around} {E : Value → Shared → Prop} {s : Shared}
theorem call_enumerate_tup {l : Addr} {items : Array Value} {Q : Value → Shared → Prop} (hL : s.heap.IsTuple l items)
    (h : ∀ h', IsEnum h' (s.heap.objs.size + 1) s.heap.objs.size 0 .none → h'.IsTupleIter s.heap.objs.size l 0 → h'.objs.size = s.heap.objs.size + 2 →
      (∀ b o, s.heap.get? b = some o → h'.get? b = some o) → Q (.ref (s.heap.objs.size + 1)) { s with heap := h' }) :
    wpAny (model prog w) A (call (.type "enumerate") [.ref l]) Q E s := by
  obtain ⟨⟨c, dct, dt, sl⟩, hl, hc, n, hd⟩ := hL
  replace hc : c = .type "tuple" := hc
  replace hd : dt = .seq items n := hd
  subst hc hd
  refine callType_new F.called_enumerate (by decide) (F.typeCall_enumerate_1 _) (F.newCall_enumerate_1 _) (fun obj => F.args_object_init_2 obj _) F.entry_enumerate_new
    (meets_enumT l items n dct sl) ⟨hl, ?_⟩
  have hz : (s.heap.push { cls := .type "tuple_iterator", data := .fields #[.ref l, .int 0 0] }).objs.size = s.heap.objs.size + 1 := Heap.size_push ..
  show _ ∧ _
  rw [hz]
  have he : IsEnum ((s.heap.push { cls := .type "tuple_iterator", data := .fields #[.ref l, .int 0 0] }).push
      { cls := .type "enumerate", data := .fields #[.none, .bool false, .ref s.heap.objs.size, rawInt 0, .none, .none] }) (s.heap.objs.size + 1) s.heap.objs.size 0 .none := by
    have := Heap.get?_push_size (s.heap.push { cls := .type "tuple_iterator", data := .fields #[.ref l, .int 0 0] })
      (o := { cls := .type "enumerate", data := .fields #[.none, .bool false, .ref s.heap.objs.size, rawInt 0, .none, .none] }) rfl
    rw [hz] at this; exact this
  refine ⟨⟨_, he, rfl⟩, h _ he ⟨_, Heap.get?_push_of_some _ (Heap.get?_push_size _ rfl), rfl, rfl⟩ (by rw [Heap.size_push, hz]) fun b o x => Heap.get?_push_of_some _ (Heap.get?_push_of_some _ x)⟩
end
def ItT2 (a : Addr) : It := ⟨fun i H => ∃ xs x, H a = some (.tup xs) ∧ xs[i]? = some x, fun i H x H' => ∃ T y, (∀ xs, H a = some (.tup xs) → xs[i]? = some y) ∧ x = .ref T ∧ H T = none ∧ H' = upd H T (.tup [.int (i : Nat), y]),
  fun i H => ∃ xs, H a = some (.tup xs) ∧ xs.length = i⟩
theorem turn_enumT {P : Program} {w : World} {K : PySem.W.Frag} {elts : List Expr} {kk : Nat} {tpos : Pos} {e it a : Addr} (hei : e ≠ it) :
    Turn P w K (.Tuple elts kk tpos) (ItT2 a) [e, it] e (fun i h => (∃ old, IsEnum h e it i old) ∧ h.IsTupleIter it a i) where
  mem := by simp
  obj := fun i h st b hb => by
    obtain ⟨⟨old, h1⟩, o, h2, h3, h4⟩ := st
    rcases List.mem_cons.mp hb with rfl | hb
    · exact ⟨_, h1, fun v q => by cases q⟩
    · rw [List.mem_singleton.mp hb]
      exact ⟨o, h2, fun v q => by rw [h4] at q; cases q⟩
  keep := fun i h h' st k => by
    obtain ⟨⟨old, h1⟩, h2⟩ := st
    obtain ⟨o, g, r⟩ := h2
    exact ⟨⟨old, k e (by simp) _ h1⟩, o, k it (by simp) o g, r⟩
  item := by
    intro X hP hw hK hc i pins s σ H E I hf st hg
    subst hP hw hK
    obtain ⟨xs, x, hq, hx⟩ := hg
    obtain ⟨its, rv, pl, hz⟩ := I.tuple (SqT.of hq)
    obtain ⟨u, hu, ru⟩ := rv.get hx
    have n1 : a ≠ it := fun z => by have := (hf it (by simp)).1; rw [← z, hq] at this; cases this
    have n2 : a ≠ e := fun z => by have := (hf e (by simp)).1; rw [← z, hq] at this; cases this
    have W := WalksT.enumerateD (A := X.A) (draws_tuple (prog := X.prog) (w := X.w) (A := X.A.in1) (I.ok.hd hc) it a n1 its.toArray) e hei (by simp; exact ⟨hei, Ne.symm n2⟩) (by simp)
    have he : e < s.heap.objs.size := by obtain ⟨⟨_, h1⟩, _⟩ := st; exact Heap.lt_size h1
    have hi : it < s.heap.objs.size := by obtain ⟨_, o, h2, _⟩ := st; exact Heap.lt_size h2
    have hil : i < its.length := (List.getElem?_eq_some_iff.mp hu).1
    refine W.item i s _ _ (by simpa using hil) ⟨st.1, st.2, (tup_is pl)⟩ fun T vals h1 tk hv hT ht mid k1 => ?_
    obtain ⟨tt, v, hvx, rfl⟩ := hv
    have ev : v = u := by
      have : its[i]? = some v := by simpa using hvx
      rw [hu] at this
      exact (Option.some.inj this).symm
    subst ev
    refine ⟨_, rfl, ?_⟩
    have hTw : T ∉ [e, it] := W.apart i T h1 mid
    refine W.go elts kk tpos i T { s with heap := h1, toks := tk } _ _ mid fun h2 st2 k2 => ?_
    have hk : ∀ b u, b ∉ [e, it] → s.heap.get? b = some u → h2.get? b = some u := fun b u hb q => k2 b u hb (k1 b u hb q)
    obtain ⟨o, ho, hoc, n, hod⟩ := ht
    have new : ObjOk X.prog X.w (upd H T (.tup [V.int (i : Nat), x])) h2 T (.tup [V.int (i : Nat), x]) :=
      ⟨by show 2 ≤ sizeLine; decide, [.int i tt, v], .cons ⟨tt, rfl⟩ (.cons ru .nil), o, k2 T o hTw ho, hoc, n, hod⟩
    refine ⟨.ref T, upd H T (.tup [V.int (i : Nat), x]), I.turnT (t' := tk) (wr := [e, it]) hk hf hT new, rfl, ⟨T, x, fun ys hy => ?_, rfl, I.hok.fresh hT, rfl⟩, ⟨st2.1, st2.2.1⟩, fun b hb => ?_⟩
    · rw [hq] at hy; cases hy; exact hx
    have hbT : b ≠ T := by
      rcases List.mem_cons.mp hb with rfl | hb
      · exact Nat.ne_of_lt (Nat.lt_of_lt_of_le he hT)
      · rw [List.mem_singleton.mp hb]; exact Nat.ne_of_lt (Nat.lt_of_lt_of_le hi hT)
    rw [upd_ne hbT]
    exact (hf b hb).1
  done := by
    intro X hP hw hK hc i pins s σ H E I hf st hg
    subst hP hw hK
    obtain ⟨xs, hq, hx⟩ := hg
    obtain ⟨its, rv, pl, hz⟩ := I.tuple (SqT.of hq)
    have hl := rv.length
    have n1 : a ≠ it := fun z => by have := (hf it (by simp)).1; rw [← z, hq] at this; cases this
    have n2 : a ≠ e := fun z => by have := (hf e (by simp)).1; rw [← z, hq] at this; cases this
    have W := WalksT.enumerateD (A := X.A) (draws_tuple (prog := X.prog) (w := X.w) (A := X.A.in1) (I.ok.hd hc) it a n1 its.toArray) e hei (by simp; exact ⟨hei, Ne.symm n2⟩) (by simp)
    have ei : i = its.toArray.size := by simp; omega
    subst ei
    exact W.done s _ _ ⟨st.1, st.2, (tup_is pl)⟩ fun h1 tk k1 => ⟨rfl, I.turnL k1 hf⟩
  self := fun A i s Q E st h => by
    obtain ⟨⟨old, h1⟩, _⟩ := st
    exact wpAny_pyIter_enum h1 h
section
variable {X : Cx}
def iEnumT (ta : TA) : TI := fun σ H R => ta σ H fun vs H1 => ∃ a xs, vs = [.ref a] ∧ H1 a = some (.tup xs) ∧ R (ItT2 a) H1
theorem pi_enumT {elts : List Expr} {kk : Nat} {tpos : Pos} {e : Expr} {ta : TA} {p pos : Pos} (hg : Gl X "enumerate") (hm : X.mg "enumerate" = none) (ha : PA X [e] ta) (hs : starEach [e] X.env = [(false, eval e X.env)] := by rfl) :
    PI X (.Tuple elts kk tpos) (.Call (.Name "enumerate" p) [e] [] pos) (iEnumT ta) := by
  constructor
  intro pins s σ H R I h
  refine Call_ (ld_blt I hg hm (u := .type "enumerate") (by decide +kernel) (PyProof.Rows.callWith_type1 (thn (ha pos pins s σ H _ I h) fun us s1 ⟨vs, H1, I1, r1, q1⟩ => ?_) hs rfl))
  obtain ⟨a, xs, rfl, hl, q⟩ := q1
  obtain ⟨u, rfl, ru⟩ := vals1 r1
  cases ru
  obtain ⟨its, rv, pl, hz⟩ := I1.tuple (SqT.of hl)
  refine call_enumerate_tup (tup_is pl) fun h1 h2 h3 h4 h5 => ?_
  refine wpAny_pyIter_enum h2 ?_
  have ne : s1.heap.objs.size + 1 ≠ s1.heap.objs.size := Nat.succ_ne_self _
  have fp : ∀ b ∈ [s1.heap.objs.size + 1, s1.heap.objs.size], FpOk X pins H1 b := fun b hb => by
    rcases List.mem_cons.mp hb with rfl | hb
    · exact I1.fpOk (Nat.le_succ _) (I1.hok.fresh (Nat.le_succ _))
    · rw [List.mem_singleton.mp hb]; exact I1.fpOk (Nat.le_refl _) (I1.hok.fresh (Nat.le_refl _))
  have I2 : Inv X pins σ H1 { s1 with heap := h1 } := I1.kept (t' := s1.toks) h5
  exact ⟨_, _, _, _, H1, rfl, I2, turn_enumT ne, ⟨⟨_, h2⟩, h3⟩, fp, q⟩
theorem for_enumT {a : Addr} {xs : List V} {g : TG} {tb : TS} {D : Ends} {σ : St} {H : Hp} (Pv : Nat → St → Hp → Prop) (h0 : Pv 0 σ H) (hl : ∀ i σ H, Pv i σ H → H a = some (.tup xs))
    (hs : ∀ i y σ H T, xs[i]? = some y → Pv i σ H → H T = none → g (.ref T) σ (upd H T (.tup [.int (i : Nat), y])) fun σ2 H2 => tb { D with nx := Pv (i + 1), ct := Pv (i + 1), bk := D.nx } σ2 H2) (hd : ∀ σ H, Pv xs.length σ H → D.nx σ H) :
    ∃ W : Nat → Nat → St → Hp → Prop, (∃ m, W 0 m σ H) ∧ ∀ i m σ H, W i m σ H →
      ((ItT2 a).stop i H ∧ D.nx σ H) ∨ ((ItT2 a).go i H ∧ ∃ N : St → Hp → Prop, (∀ σ' H', N σ' H' → ∃ m', m' < m ∧ W (i + 1) m' σ' H') ∧ ∀ x H', (ItT2 a).yld i H x H' → g x σ H' fun σ2 H2 => tb { D with nx := N, ct := N, bk := D.nx } σ2 H2) := by
  refine ⟨fun i m σ H => m = xs.length - i ∧ i ≤ xs.length ∧ Pv i σ H, ⟨xs.length, by simp, Nat.zero_le _, h0⟩, ?_⟩
  rintro i m σ H ⟨rfl, hi, p⟩
  have q := hl i σ H p
  by_cases hlt : i < xs.length
  · refine .inr ⟨⟨xs, xs[i], q, by simp [hlt]⟩, Pv (i + 1), fun σ' H' p' => ⟨xs.length - (i + 1), by omega, rfl, hlt, p'⟩, fun x H' y => ?_⟩
    obtain ⟨T, v, hv, rfl, hT, rfl⟩ := y
    exact hs i v σ H T (hv xs q) p hT
  · have e : i = xs.length := by omega
    subst e
    exact .inl ⟨⟨xs, q, rfl⟩, hd σ H p⟩
theorem vals_rng : ∀ (us : List Value) (lo : Nat), (∀ (i : Nat) (v : Value), us[i]? = some v → ∃ t, v = Value.int ((lo + i : Nat) : Int) t) → Vals ((List.range' lo us.length).map fun (k : Nat) => V.int (k : Int)) us
  | [], _, _ => .nil
  | u :: us, lo, h => by
    rw [List.length_cons, List.range'_succ, List.map_cons]
    refine .cons ?_ (vals_rng us (lo + 1) fun i v hv => ?_)
    · obtain ⟨t, e⟩ := h 0 u rfl
      exact ⟨t, e⟩
    · obtain ⟨t, e⟩ := h (i + 1) v (by simpa using hv)
      exact ⟨t, by rw [e]; congr 1; omega⟩
theorem pe_listRange {a : Expr} {ta : TA} {p p2 pos pos2 : Pos} (hc : X.calm = true) (hg : Gl X "list") (hm : X.mg "list" = none) (hg2 : Gl X "range") (hm2 : X.mg "range" = none) (ha : PA X [a] ta) (hs : starEach [a] X.env = [(false, eval a X.env)] := by rfl) :
    PE X (.Call (.Name "list" p) [.Call (.Name "range" p2) [a] [] pos2] [] pos) (fun σ H Q => ta σ H fun vs H1 => ∃ j : Nat, vs = [.int (j : Nat)] ∧ j ≤ 1000 ∧ ∀ l, H1 l = none → Q (.ref l) (upd H1 l (.lst ((List.range j).map fun (k : Nat) => V.int (k : Int))))) := by
  constructor
  intro pins s σ H Q I h
  have s1k : 1000 ≤ sizeLine := by decide
  refine Call_ (ld_blt I hg hm (u := .type "list") PyProof.Rows.boot_list (PyProof.Rows.callWith_type1 ?_ rfl rfl))
  show wpAny _ _ (spliced ((false, eval (.Call (.Name "range" p2) [a] [] pos2) X.env) :: backTo pos (starEach [] X.env))) _ _ _
  refine Calls.spliced_cons ?_
  refine Call_ (ld_blt (I.tok _) hg2 hm2 boot_range (PyProof.Rows.callWith_type1 (thn (ha pos2 pins _ σ H _ (I.tok _) h) fun us s1 ⟨vs, H1, I1, r1, q1⟩ => ?_) hs rfl))
  obtain ⟨j, rfl, hj, q⟩ := q1
  obtain ⟨u, rfl, ru⟩ := vals1 r1
  obtain ⟨t, rfl⟩ := ru
  refine call_range_1 (Calls.spliced_nil ?_)
  have e2 : Builtin.Range.rangeSize 0 (j : Int) 1 = (j : Int) := by rw [rangeSize_one]; split <;> omega
  refine call_list_range (n := j) (I1.ok.hd hc) (IsRange.new ..) (small_one (by omega) (by omega) (by omega) (by omega)) e2 (by omega) fun h' tk acc c' hk hS hacc => ?_
  have I2 : Inv X pins σ H1 { s1 with heap := s1.heap.push { cls := .type "range", data := .fields #[.int 0 s1.toks, .int (j : Int) t, .int 1 (s1.toks + 1)] }, toks := s1.toks + 1 + 1 } := I1.kept fun b o e => Heap.get?_push_of_some _ e
  have hl : acc.toList.length = j := by rw [Array.length_toList]; exact hacc.1
  have rv := vals_rng acc.toList 0 fun i v hv => by
    obtain ⟨tt, e⟩ := hacc.2 i v (by simpa using hv)
    exact ⟨tt, by rw [e]; congr 1; omega⟩
  rw [hl, ← List.range_eq_range'] at rv
  refine ⟨.ref _, _, I2.laid (t' := tk) hk (Nat.le_refl _) (show ObjOk X.prog X.w _ h' _ (.lst ((List.range j).map fun (k : Nat) => V.int (k : Int))) from ⟨by rw [List.length_map, List.length_range]; omega, acc.toList, c', rv, by simpa using hS⟩), rfl, q _ (I2.hok.fresh (Nat.le_refl _))⟩
end
end L2
namespace L2
open PySem PySem.Spec PyProof.Rows
namespace RevF
theorem no_revT : typeLookup (.type "tuple") "__reversed__" = pure none := by rw [typeLookup_type, builtinLookup_eq_fast]; kernel_rfl
theorem tup_dict : isSubtype (.type "tuple") (.type "dict") = pure false := by rw [isSubtype_type]; kernel_rfl
theorem nolen_rv : typeLookup (.type "reversed") "__len__" = pure none := by rw [typeLookup_type, builtinLookup_eq_fast]; kernel_rfl
theorem hint_rv : Slot "reversed" "__length_hint__" "reversed.__length_hint__" :=
  .of (owner := "reversed") (n := "__length_hint__") (by rw [typeLookup_type, builtinLookup_eq_fast]; kernel_rfl) (by decide +kernel) (by decide +kernel) (by decide +kernel) (by first | exact .inl (by decide +kernel) | exact .inr (by decide +kernel)) (by rw [isSubtype_type]; kernel_rfl)
theorem e_hint : entryFor table "reversed.__length_hint__" = some Builtin.«reversed.__length_hint__» := entryFor_of_tree (by kernel_rfl)
theorem a_hint (a : Value) : argsOk "reversed.__length_hint__" ⟨[a], []⟩ := by unfold argsOk; kernel_rfl
end RevF
abbrev rtO (t : Addr) (i : Int) : Obj := { cls := .type "reversed", data := .fields #[.ref t, rawInt i] }
def IsRt (h : Heap) (a t : Addr) (i : Int) : Prop := ∃ o, h.get? a = some o ∧ o.cls = .type "reversed" ∧ o.data = .fields #[.ref t, rawInt i]
section
variable {prog : Program} {w : World} {A : Around} {E : Value → Shared → Prop} {s : Shared} {t : Addr} {items : Array Value}
theorem rt_new : Meets (Builtin.«reversed.__new__» ⟨[.type "reversed", .ref t], []⟩) (fun _ R s => s.heap.IsTuple t items ∧ items.size ≤ sizeLine ∧ ∀ tk, R (.ok (.ret (.ref s.heap.objs.size))) { s with heap := s.heap.push (rtO t ((items.size : Int) - 1)), toks := tk }) := by
  intro prog w A R s h
  obtain ⟨ht, hz, h⟩ := h
  have hn := line63
  unfold Builtin.«reversed.__new__»
  refine wpAny_bind (wpAny_of_eq (newClass_reversed _) ?_)
  try dsimp only
  refine wpAny_bind (wpAny_of_eq (a := ()) (by first | rfl | kernel_rfl) ?_)
  refine wpAny_bind (wpAny_of_eq (a := ()) (by first | rfl | kernel_rfl) ?_)
  try dsimp only
  refine wpAny_bind (wpAny_specialOf ht.typeIs RevF.no_revT ?_)
  try dsimp only
  k_delta "hasItemSlot"
  refine wpAny_bind (wpAny_bind (wpAny_isInstance ht.typeIs RevF.tup_dict ?_))
  rw [if_neg Bool.false_ne_true]
  refine wpAny_bind (wpAny_specialOf ht.typeIs slot_tuple_getitem.lookup ?_)
  have c1 : ["tuple.__getitem__", "str.__getitem__", "bytes.__getitem__", "bytearray.__getitem__", "memoryview.__getitem__", "numpy.ndarray.__getitem__", "sqlite3.Row.__getitem__"].contains "tuple.__getitem__" = true := by decide +kernel
  dsimp only
  rw [if_pos c1]
  refine wpAny_pure ?_
  rw [Bool.not_true, if_neg Bool.false_ne_true]
  refine wpAny_bind (len_tuple ht (by omega) ?_)
  refine wpAny_bind (wpAny_of_eq (a := some (items.size : Int)) rfl ?_)
  show wpAny _ _ (newObj (.type "reversed") (.fields #[.ref t, rawInt ((items.size : Int) - 1)]) >>= _) _ _ _
  exact wpAny_bind (wpAny_newObj_type (wpAny_pure (h _)))
theorem call_rt {Q : Value → Shared → Prop} (ht : s.heap.IsTuple t items) (hz : items.size ≤ sizeLine) (h : ∀ tk, Q (.ref s.heap.objs.size) { s with heap := s.heap.push (rtO t ((items.size : Int) - 1)), toks := tk }) : wpAny (model prog w) A (call (.type "reversed") [.ref t]) Q E s :=
  callType_new RevF.called_rev (by decide) (F.typeCall_reversed_1 _) (F.newCall_reversed_1 _) (fun obj => RevF.a_init obj _) F.entry_reversed_new (rt_new (items := items)) ⟨ht, hz, fun tk => ⟨⟨_, Heap.get?_push_size _ rfl, rfl⟩, h tk⟩⟩
theorem IsRt.typeIs {a : Addr} {i : Int} (x : IsRt s.heap a t i) : s.TypeIs (.ref a) "reversed" := let ⟨o, ho, hc, _⟩ := x; ⟨o, ho, hc⟩
theorem rt_item {it : Addr} {i : Nat} {x : Value} {Q : Option Value → Shared → Prop} (hit : IsRt s.heap it t (i : Int)) (ht : s.heap.IsTuple t items) (hz : items.size ≤ sizeLine) (hx : items[i]? = some x)
    (hQ : ∀ h' tk, IsRt h' it t ((i : Int) - 1) → Heap.SameBut it s.heap h' → Q (some x) { s with heap := h', toks := tk }) : wpAny (model prog w) A (pyNext (.ref it)) Q E s := by
  have hn := line63
  obtain ⟨o, ho, hc, hd⟩ := id hit
  have hi : i < items.size := (Array.getElem?_eq_some_iff.mp hx).1
  unfold pyNext
  refine wpAny_bind (wpAny_attempt (wpAny_callSpecial?_slot (name := Str.ofString "__next__") hit.typeIs RevF.next_rev (wpAny_call_entry RevF.next_rev hit.typeIs RevF.e_next ?_ (RevF.a_next _))))
  unfold Builtin.«reversed.__next__»
  refine wpAny_bind (wpAny_of_eq (a := (Value.ref it, [])) rfl ?_)
  try dsimp only
  refine wpAny_bind (wpAny_field ho hd (x := .ref t) rfl ?_)
  refine wpAny_bind (wpAny_field ho hd (x := rawInt (i : Int)) rfl ?_)
  show wpAny _ _ (if (i : Int) < 0 then _ else _) _ _ s
  rw [if_neg (by omega)]
  refine wpAny_bind (wpAny_specialOf ht.typeIs slot_tuple_getitem.lookup ?_)
  rw [if_neg (by simp)]
  refine wpAny_bind (wpAny_mkInt ?_)
  refine wpAny_bind (wpAny_attempt (getItem_tuple (s := { s with toks := s.toks + 1 }) (j := i) ht (by omega) (by omega) (by rw [seqIndex_of (by omega) (by omega)]; simp) hx ?_))
  dsimp only
  refine wpAny_bind (wpAny_field ho hd (x := rawInt (i : Int)) rfl ?_)
  show wpAny _ _ (setField (.ref it) 1 (rawInt ((i : Int) - 1)) >>= _) _ _ _
  refine wpAny_bind (wpAny_setField ho hd (by simp) (wpAny_pure ⟨_, rfl, wpAny_pure (hQ _ _ ?_ (Heap.SameBut.update ..))⟩))
  exact ⟨_, Heap.get?_update_self _ ho (Obj.isFreed_of_fields (Obj.data_mapFields hd _)), (Obj.cls_mapFields ..).trans hc, by rw [Obj.data_mapFields hd]; simp⟩
theorem rt_end {it : Addr} {Q : Option Value → Shared → Prop} (hh : A.handled = none) (hit : IsRt s.heap it t (-1)) (hQ : ∀ h', Heap.ExtBut it s.heap h' → Q none { s with heap := h' }) : wpAny (model prog w) A (pyNext (.ref it)) Q E s := by
  obtain ⟨o, ho, hc, hd⟩ := id hit
  unfold pyNext
  refine wpAny_bind (wpAny_attempt (wpAny_callSpecial?_slot (name := Str.ofString "__next__") hit.typeIs RevF.next_rev (wpAny_call_entry RevF.next_rev hit.typeIs RevF.e_next ?_ (RevF.a_next _))))
  unfold Builtin.«reversed.__next__»
  refine wpAny_bind (wpAny_of_eq (a := (Value.ref it, [])) rfl ?_)
  try dsimp only
  refine wpAny_bind (wpAny_field ho hd (x := .ref t) rfl ?_)
  refine wpAny_bind (wpAny_field ho hd (x := rawInt (-1)) rfl ?_)
  show wpAny _ _ (if (-1 : Int) < 0 then _ else _) _ _ s
  rw [if_pos (by decide)]
  refine wpAny_bind (wpAny_rule ?_)
  k_delta "reversedEnd"
  refine wpAny_bind (wpAny_bind (wpAny_setField ho hd (by simp) ?_))
  have hd2 := Obj.data_mapFields hd (·.setIfInBounds 1 (rawInt (-1)))
  have ho2 := Heap.get?_update_self (Obj.mapFields (·.setIfInBounds 1 (rawInt (-1)))) ho (Obj.isFreed_of_fields hd2)
  refine wpAny_setField ho2 hd2 (by simp) ?_
  unfold Builtin.SmallTypes.stopIteration
  refine wpAny_bind (wpAny_bind ?_); simp only [newExc, newTuple]; refine wpAny_bind (wpAny_newObj_type ?_ (by size_fits)); refine wpAny_bind (m := firstArgMember _ _) (wpAny_of_eq (a := Value.none) (by first | rfl | (simp only [firstArgMember]; rfl)) ?_)
  refine wpAny_newObj_type ?_ (by size_fits)
  refine wpAny_raiseNew_none hh (wpAny_bind (wpAny_isInstance (T := "StopIteration") (b := true) ⟨_, Heap.get?_push_size _ rfl, rfl⟩ isSubtype_stop (wpAny_pure (hQ _ ?_))))
  exact ((((Heap.SameBut.update ..).trans (Heap.SameBut.update ..)).extBut).push _).push _
theorem rt_self {it : Addr} {i : Int} {Q : Value → Shared → Prop} (hit : IsRt s.heap it t i) (h : Q (.ref it) s) : wpAny (model prog w) A (pyIter (.ref it)) Q E s := by
  refine wpAny_pyIter_slot hit.typeIs RevF.iter_rev (wpAny_call_entry RevF.iter_rev hit.typeIs RevF.e_iter ?_ (RevF.a_iter _))
  show wpAny _ _ (ret (.ref it)) _ _ s
  exact wpAny_pure ⟨_, rfl, "reversed", _, hit.typeIs, RevF.next_rev.lookup, h⟩
theorem rt_hint {it : Addr} {i : Int} {Q : Value → Shared → Prop} (hit : IsRt s.heap it t i) (ht : s.heap.IsTuple t items) (hz : items.size ≤ sizeLine) (hi : i + 1 ≤ items.size)
    (hQ : ∀ tk u, s.toks ≤ tk → Q (.int (i + 1) u) { s with toks := tk }) : wpAny (model prog w) A (call (.builtin "reversed.__length_hint__") [.ref it]) Q E s := by
  have hn := line63
  obtain ⟨o, ho, hc, hd⟩ := id hit
  refine wpAny_call_entry RevF.hint_rv hit.typeIs RevF.e_hint ?_ (RevF.a_hint _)
  unfold Builtin.«reversed.__length_hint__»
  refine wpAny_bind (wpAny_of_eq (a := Value.ref it) (by first | rfl | kernel_rfl) ?_)
  try dsimp only
  refine wpAny_bind (wpAny_field ho hd (x := .ref t) rfl ?_)
  rw [if_neg (show ¬ ((Value.ref t == Value.none) = true) from Bool.false_ne_true)]
  refine wpAny_bind (len_tuple ht (by omega) ?_)
  refine wpAny_bind (wpAny_of_eq (a := some (items.size : Int)) rfl ?_)
  try dsimp only
  refine wpAny_bind (wpAny_field ho hd (x := rawInt i) rfl ?_)
  show wpAny _ _ (if (items.size : Int) < i + 1 then _ else _) _ _ _
  rw [if_neg (by omega)]
  exact wpAny_bind (wpAny_mkInt (wpAny_pure ⟨_, rfl, hQ _ _ (by show s.toks ≤ s.toks + 1 + 1 + 1; omega)⟩))
end
theorem walks_rt {prog : Program} {w : World} {A : Around} (hh : A.handled = none) (I t : Addr) (hne : t ≠ I) (items : Array Value) (hz : items.size ≤ sizeLine) :
    Walks prog w A I [I, t] [I] items.size (fun i v => items[items.size - 1 - i]? = some v) (fun i h => i ≤ items.size ∧ IsRt h I t ((items.size : Int) - 1 - (i : Int)) ∧ h.IsTuple t items) where
  sub := fun b hb => by simp at hb; simp [hb]
  frame := fun _ _ _ st hk => let ⟨hi, ⟨o, ho, r⟩, ⟨o2, ho2, r2⟩⟩ := st; ⟨hi, ⟨o, hk I (by simp) o ho, r⟩, ⟨o2, hk t (by simp) o2 ho2, r2⟩⟩
  item := fun i s Q E hi st hQ => by
    obtain ⟨_, st1, st2⟩ := st
    have e0 : (items.size : Int) - 1 - (i : Int) = ((items.size - 1 - i : Nat) : Int) := by omega
    rw [e0] at st1
    have hx : items[items.size - 1 - i]? = some items[items.size - 1 - i] := by rw [Array.getElem?_eq_getElem]
    refine rt_item st1 st2 hz hx fun h' tk st' sb => ?_
    refine hQ _ h' tk hx ⟨hi, ?_, st2.extBut sb.extBut hne⟩ fun b o hb e => (sb.2 b (fun h => hb (by simp [h]))).trans e
    have e2 : (items.size : Int) - 1 - ((i + 1 : Nat) : Int) = ((items.size - 1 - i : Nat) : Int) - 1 := by omega
    rw [e2]; exact st'
  done := fun s Q E st hQ => by
    obtain ⟨_, st1, _⟩ := st
    have e0 : (items.size : Int) - 1 - ((items.size : Nat) : Int) = -1 := by omega
    rw [e0] at st1
    exact rt_end hh st1 fun h' he => hQ h' s.toks fun b o hb e => he b o (fun h => hb (by simp [h])) e
  self := fun _ _ _ _ st hQ => rt_self st.2.1 hQ
section
variable {prog : Program} {w : World} {A : Around} {E : Value → Shared → Prop} {s : Shared} {t : Addr} {items : Array Value}
theorem collect_rt {I : Addr} {Q : List Value → Shared → Prop} (hh : A.handled = none) (hne : t ≠ I) (hz : items.size ≤ sizeLine) (h0 : 0 < items.size) (hit : IsRt s.heap I t ((items.size : Int) - 1)) (ht : s.heap.IsTuple t items)
    (hQ : ∀ s' acc, (∀ b o, b ≠ I → s.heap.get? b = some o → s'.heap.get? b = some o) → s'.gens = s.gens → s'.drawn = s.drawn → s'.os = s.os → ItemsOf (fun i v => items[items.size - 1 - i]? = some v) acc items.size → Q acc.toList s') :
    wpAny (model prog w) A (collect (.ref I)) Q E s := by
  have hIl : I < s.heap.objs.size := let ⟨o, ho, _⟩ := hit; Heap.lt_size ho
  have htl : t < s.heap.objs.size := let ⟨o, ho, _⟩ := ht; Heap.lt_size ho
  have hSI : s.heap.objs.size ≠ I := fun e => Nat.lt_irrefl _ (e ▸ hIl)
  have hSf : s.heap.objs.size ∉ [I, t] := fun hm => by
    rcases List.mem_cons.mp hm with e | e
    · exact hSI e
    · exact Nat.lt_irrefl _ (List.mem_singleton.mp e ▸ htl)
  have W := (walks_rt (prog := prog) (w := w) (A := A.in1) hh I t hne items hz).toS
  unfold collect
  refine wpAny_bind (wpAny_runValue (codeAny_builtin F.entry_proto_collect ?_))
  rw [Around.under_plainId F.plain_proto_collect _]
  show wpAny _ A.in1 (newList [] >>= fun l => again (.builtin "list.__iadd__" ⟨[l, .ref I], []⟩)) _ _ s
  refine wpAny_bind (wpAny_newObj_type ?_)
  refine wpAny_pure ⟨plainId_quiet F.plain_list_iadd _, codeAny_builtin F.entry_list_iadd ?_⟩
  rw [Around.under_plainId F.plain_list_iadd _]
  have e00 : (items.size : Int) - 1 - ((0 : Nat) : Int) = (items.size : Int) - 1 := by omega
  have hit1 : IsRt (s.heap.push { cls := .type "list", data := .seq ([] : List Value).toArray }) I t ((items.size : Int) - 1) := let ⟨o, ho, r⟩ := hit; ⟨o, Heap.get?_push_of_some _ ho, r⟩
  have ht1 : (s.heap.push { cls := .type "list", data := .seq ([] : List Value).toArray }).IsTuple t items := ht.push _
  have hS₁ : (s.heap.push { cls := .type "list", data := .seq ([] : List Value).toArray }).get? s.heap.objs.size = some { cls := .type "list", data := .seq ([] : List Value).toArray } := Heap.get?_push_size _ rfl
  have h1 : Builtin.List.listSameRef (.ref s.heap.objs.size) (.ref I) = false := by simp [Builtin.List.listSameRef, hSI]
  show wpAny _ A.in1 (Builtin.List.listExtendWith (.ref s.heap.objs.size) (.ref I) (.ref s.heap.objs.size)) _ _ _
  unfold Builtin.List.listExtendWith
  refine wpAny_bind (wpAny_typeOf (IsRt.typeIs (s := { s with heap := s.heap.push { cls := .type "list", data := .seq ([] : List Value).toArray } }) hit1) ?_)
  rw [if_neg (by rw [h1]; decide)]
  refine wpAny_bind (rt_self (s := { s with heap := s.heap.push { cls := .type "list", data := .seq ([] : List Value).toArray } }) hit1 ?_)
  refine wpAny_bind (wpAny_holding ?_)
  unfold Builtin.List.listLengthHint
  refine wpAny_bind (wpAny_specialOf (IsRt.typeIs (s := { s with heap := s.heap.push { cls := .type "list", data := .seq ([] : List Value).toArray } }) hit1) RevF.nolen_rv ?_)
  show wpAny _ A.in1 (specialOf (Value.ref I) (Str.ofString "__length_hint__") >>= _) _ _ _
  refine wpAny_bind (wpAny_specialOf (IsRt.typeIs (s := { s with heap := s.heap.push { cls := .type "list", data := .seq ([] : List Value).toArray } }) hit1) RevF.hint_rv.lookup ?_)
  (generalize hid : ("reversed.__length_hint__" : String) = id0; (fail_if_success (clear hid id0)); wp_delta; rw [show splitId id0 = some ("reversed", "__length_hint__") from by subst hid; decide +kernel]; subst hid)
  refine wpAny_bind (wpAny_isInstance (b := true) (IsRt.typeIs (s := { s with heap := s.heap.push { cls := .type "list", data := .seq ([] : List Value).toArray } }) hit1) (by rw [isSubtype_type]; kernel_rfl) ?_)
  rw [if_neg (by decide)]
  dsimp only
  rw [if_neg (by decide +kernel)]
  refine wpAny_bind (wpAny_rule ?_)
  refine wpAny_bind (wpAny_of_eq (RevF.hint_rv.bind _) ?_)
  dsimp only
  refine wpAny_bind (wpAny_attempt (rt_hint (s := { s with heap := s.heap.push { cls := .type "list", data := .seq ([] : List Value).toArray } }) hit1 ht1 hz (by omega) fun tk u htk => ?_))
  dsimp only
  refine wpAny_bind (m := asInt? (.int ((items.size : Int) - 1 + 1) u)) (wpAny_pure ?_)
  dsimp only
  have hn := line63
  have f1 : Builtin.List.listFitsIndex ((items.size : Int) - 1 + 1) = true := by
    unfold Builtin.List.listFitsIndex
    rw [Bool.and_eq_true]
    exact ⟨decide_eq_true (by omega), decide_eq_true (by omega)⟩
  have f2 : ¬ Builtin.List.listTooLong ((items.size : Int) - 1 + 1).toNat = true := by
    unfold Builtin.List.listTooLong
    intro h
    have := of_decide_eq_true h
    omega
  have f3 : ((items.size : Int) - 1 + 1 != 0) = true := by
    rw [bne_iff_ne]; omega
  rw [if_neg (by rw [f1]; decide), if_neg (by omega), if_neg f2, f3]
  refine wpAny_pure ?_
  rw [if_pos (by rfl)]
  refine wpAny_bind (wpAny_rule ?_)
  refine wpAny_bind ?_
  show wpAny _ _ (updateSeq s.heap.objs.size (·.push .none) >>= fun _ => updateSeq s.heap.objs.size (·.pop)) _ _ _
  refine wpAny_bind (wpAny_updateSeq hS₁ rfl ?_)
  have hS₂ := Heap.get?_update_self (Obj.mapSeq (·.push Value.none)) hS₁ rfl
  refine wpAny_updateSeq (hz := by seq_fits) hS₂ rfl ?_
  have hS₃ := Heap.get?_update_self (Obj.mapSeq (·.pop)) hS₂ rfl
  have oth : ∀ b o, b ≠ s.heap.objs.size → s.heap.get? b = some o → (((s.heap.push { cls := .type "list", data := .seq ([] : List Value).toArray }).update s.heap.objs.size (Obj.mapSeq (·.push Value.none))).update s.heap.objs.size (Obj.mapSeq (·.pop))).get? b = some o := fun b o hb e =>
    (Heap.get?_update_other _ _ (Ne.symm hb)).trans ((Heap.get?_update_other _ _ (Ne.symm hb)).trans (Heap.get?_push_of_some _ e))
  refine wpAny_pure ⟨plainId_quiet F.plain_extend_loop _, codeAny_extend_loopS W hz _ hSf _ items.size 0 _ #[] _ rfl (Nat.zero_le _) ⟨Nat.zero_le _, ?_, ?_⟩ hS₃ (ItemsOf.nil _) fun s' acc' c' hm hS' hacc => ?_⟩
  · obtain ⟨o, ho, r⟩ := hit
    rw [e00]
    exact ⟨o, oth I o (Ne.symm hSI) ho, r⟩
  · obtain ⟨o, ho, r⟩ := ht
    exact ⟨o, oth t o (Nat.ne_of_lt htl) ho, r⟩
  · show wpAny _ A (load s.heap.objs.size >>= _) _ _ s'
    refine wpAny_bind (wpAny_load hS' ?_)
    refine wpAny_pure (hQ s' acc' (fun b o hb e => hm.heap b o (fun hmem => ?_) (oth b o (Nat.ne_of_lt (Heap.lt_size e)) e)) hm.gens hm.drawn hm.os hacc)
    rcases List.mem_cons.mp hmem with e' | hmem
    · exact absurd (e' ▸ Heap.lt_size e) (Nat.lt_irrefl _)
    · exact hb (List.mem_singleton.mp hmem)
theorem meets_tup_rt (I : Addr) (hne : t ≠ I) (hz : items.size ≤ sizeLine) (h0 : 0 < items.size) :
    Meets (Builtin.«tuple.__new__» ⟨[.type "tuple", .ref I], []⟩)
      (fun A R s => A.handled = none ∧ IsRt s.heap I t ((items.size : Int) - 1) ∧ s.heap.IsTuple t items ∧ ∀ (s' : Shared) (acc : Array Value), (∀ b o, b ≠ I → s.heap.get? b = some o → s'.heap.get? b = some o) → s'.gens = s.gens → s'.drawn = s.drawn → s'.os = s.os → ItemsOf (fun i v => items[items.size - 1 - i]? = some v) acc items.size →
        R (.ok (.ret (.ref s'.heap.objs.size))) { s' with heap := s'.heap.push { cls := .type "tuple", data := .seq acc } }) :=
  .of_wp fun prog w A R s h => by
    obtain ⟨hh, hit, ht, h⟩ := h
    have hsub := sub_tuple_self
    have hinit := init_tuple_lookup
    have hmh := madeHere_tuple
    have hT : s.TypeIs (.ref I) "reversed" := hit.typeIs
    have hh1 : A.in1.handled = none := hh
    wp_walk using wpAny_typeOf hT, collect_rt hh1 hne hz h0 hit ht
    intro s' acc hk hg hd hos hacc
    show wpAny _ _ (Builtin.Tuple.tupleExact acc.toList.toArray >>= fun v => ret v) _ _ _
    unfold Builtin.Tuple.tupleExact
    refine wpAny_bind (wpAny_newObj_type ?_ (show acc.toList.toArray.size ≤ sizeLine by simp only [Array.toArray_toList]; rw [hacc.1]; exact hz))
    refine wpAny_pure ⟨_, rfl, ?_⟩
    have e : acc.toList.toArray = acc := by simp
    rw [e]
    exact h s' acc hk hg hd hos hacc
theorem call_tup_rt {I : Addr} {Q : Value → Shared → Prop} (hh : A.handled = none) (hne : t ≠ I) (hz : items.size ≤ sizeLine) (h0 : 0 < items.size) (hit : IsRt s.heap I t ((items.size : Int) - 1)) (ht : s.heap.IsTuple t items)
    (h : ∀ (h' : Heap) (tk : Nat) (acc : Array Value), (∀ b o, b ≠ I → s.heap.get? b = some o → h'.get? b = some o) → ItemsOf (fun i v => items[items.size - 1 - i]? = some v) acc items.size → Q (.ref h'.objs.size) { s with heap := h'.push { cls := .type "tuple", data := .seq acc }, toks := tk }) :
    wpAny (model prog w) A (call (.type "tuple") [.ref I]) Q E s := by
  refine callType_new F.called_tuple (by decide) (F.typeCall_tuple_1 _) (F.newCall_tuple_1 _) (fun obj => F.args_object_init_2 obj _) F.entry_tuple_new
    (meets_tup_rt (t := t) (items := items) I hne hz h0) ⟨hh, hit, ht, fun s' acc hk hg hd hos hacc => ⟨⟨_, Heap.get?_push_size _ rfl, rfl⟩, ?_⟩⟩
  obtain ⟨h', g', d', tk', os'⟩ := s'
  have e1 : g' = s.gens := hg
  have e2 : d' = s.drawn := hd
  have e3 : os' = s.os := hos
  subst e1 e2 e3
  exact h h' tk' acc hk hacc
end
end L2
namespace L2
open PySem PySem.Spec PyProof.Rows
section
variable {X : Cx}
theorem items_rev {items acc : Array Value} (h : ItemsOf (fun i v => items[items.size - 1 - i]? = some v) acc items.size) : acc.toList = items.toList.reverse := by
  have hl : acc.size = items.size := h.1
  refine List.ext_getElem? fun i => ?_
  rcases Nat.lt_or_ge i items.size with hi | hi
  · have ha : acc[i]? = some acc[i] := Array.getElem?_eq_getElem (by omega)
    have := h.2 i _ ha
    rw [Array.getElem?_toList, ha, List.getElem?_reverse (by rw [Array.length_toList]; exact hi), Array.length_toList, Array.getElem?_toList, this]
  · rw [List.getElem?_eq_none (by rw [Array.length_toList]; omega), List.getElem?_eq_none (by rw [List.length_reverse, Array.length_toList]; exact hi)]
theorem vals_rev {xs : List V} {us : List Value} (r : Vals xs us) : Vals xs.reverse us.reverse := by
  induction r with
  | nil => exact .nil
  | cons h _ ih => rw [List.reverse_cons, List.reverse_cons]; exact ih.append (.cons h .nil)
theorem pe_tupRev {a : Expr} {ta : TA} {p p2 pos pos2 : Pos} (hc : X.calm = true) (hg : Gl X "tuple") (hm : X.mg "tuple" = none) (hg2 : Gl X "reversed") (hm2 : X.mg "reversed" = none) (ha : PA X [a] ta) (hs : starEach [a] X.env = [(false, eval a X.env)] := by rfl) :
    PE X (.Call (.Name "tuple" p) [.Call (.Name "reversed" p2) [a] [] pos2] [] pos) (fun σ H Q => ta σ H fun vs H1 => ∃ (b : Addr) (xs : List V), vs = [.ref b] ∧ H1 b = some (.tup xs) ∧ xs ≠ [] ∧ ∀ l, H1 l = none → Q (.ref l) (upd H1 l (.tup xs.reverse))) := by
  constructor
  intro pins s σ H Q I h
  refine Call_ (ld_blt I hg hm (u := .type "tuple") PyProof.Rows.boot_tuple (PyProof.Rows.callWith_type1 ?_ rfl rfl))
  show wpAny _ _ (spliced ((false, eval (.Call (.Name "reversed" p2) [a] [] pos2) X.env) :: backTo pos (starEach [] X.env))) _ _ _
  refine Calls.spliced_cons ?_
  refine Call_ (ld_blt (I.tok _) hg2 hm2 (u := .type "reversed") (by decide +kernel) (PyProof.Rows.callWith_type1 (thn (ha pos2 pins _ σ H _ (I.tok _) h) fun us s1 ⟨vs, H1, I1, r1, q1⟩ => ?_) hs rfl))
  obtain ⟨b, xs, rfl, hb, hne, q⟩ := q1
  obtain ⟨u, rfl, ru⟩ := vals1 r1
  cases ru
  obtain ⟨its, rv, pl, hz⟩ := I1.tuple (SqT.of hb)
  have hl := rv.length
  have hsz : its.toArray.size ≤ sizeLine := by rw [List.size_toArray]; omega
  have h0 : 0 < its.toArray.size := by
    rw [List.size_toArray, ← hl]
    cases xs with
    | nil => exact absurd rfl hne
    | cons _ _ => exact Nat.succ_pos _
  refine call_rt (tup_is pl) hsz fun tk => Calls.spliced_nil ?_
  have hlt : b < s1.heap.objs.size := let ⟨o, ho, _⟩ := pl; Heap.lt_size ho
  refine call_tup_rt (I1.ok.hd hc) (Nat.ne_of_lt hlt) hsz h0 ⟨_, Heap.get?_push_size _ rfl, rfl, rfl⟩ ((tup_is pl).push _) fun h' tk' acc hk hacc => ?_
  have I2 : Inv X pins σ H1 { s1 with heap := h', toks := tk' } := I1.kept fun b o e => hk b o (Nat.ne_of_lt (Heap.lt_size e)) (Heap.get?_push_of_some _ e)
  have ea := items_rev hacc
  have new : ObjOk X.prog X.w (upd H1 h'.objs.size (.tup xs.reverse)) (h'.push { cls := .type "tuple", data := .seq acc }) h'.objs.size (.tup xs.reverse) :=
    ⟨by rw [List.length_reverse]; exact hz, acc.toList, by rw [ea]; exact vals_rev rv, _, Heap.get?_push_size _ rfl, rfl, 0, by simp⟩
  exact ⟨.ref h'.objs.size, _, I2.laid (t' := tk') (fun b o e => Heap.get?_push_of_some _ e) (Nat.le_refl _) new, rfl, q _ (I2.hok.fresh (Nat.le_refl _))⟩
theorem pe_rev {e st : Expr} {te : TE} {tst : TO} {pos p2 : Pos} (he : PE X e te) (hst : PO X (some st) tst) :
    PE X (.Subscript e (.Slice none none (some st) p2) pos) (fun σ H Q => te σ H fun x H1 => tst σ H1 fun k H2 => k = some (-1) ∧ ∃ (a : Addr) (ns : List Int), x = .ref a ∧ SqL X.K H2 a (ns.map V.int) ∧ ∀ (p : Addr) (ms : List Int), ms.length ≤ ns.length → H2 p = none → Q (.ref p) (upd H2 p (.lst (ms.map V.int)))) := by
  constructor
  intro pins s σ H Q I h
  refine Subscript_ (thn (he pins s σ H _ I h) fun v s1 ⟨x, H1, I1, r1, q1⟩ => ?_)
  refine wpAny_Slice ?_
  rw [evalPart_none]
  refine wpAny_pure (wpAny_pure (thn (hst pins s1 σ H1 _ I1 q1) fun vs s2 ⟨k, H2, I2, pk, q2⟩ => ?_))
  obtain ⟨rfl, a, ns, rfl, ha, q⟩ := q2
  cases r1
  have I4 : Inv X pins σ H2 { s2 with heap := s2.heap.push { cls := .type "slice", data := .fields #[.none, .none, vs] } } := I2.kept (t' := s2.toks) fun b ob q => Heap.get?_push_of_some _ q
  obtain ⟨its, r, ht, hz⟩ := I4.list ha
  have hlen := r.length
  have hi := intsAre_of r
  rw [List.length_map] at hz hlen
  show wpAny (model X.prog X.w) X.A (subscriptTail e (.Slice none none (some st) p2) (.ref a) (.ref s2.heap.objs.size)) (EP X pins σ Q) X.xe { s2 with heap := s2.heap.push { cls := .type "slice", data := .fields #[.none, .none, vs] } }
  refine tail_any (ops := [.ref a, .ref s2.heap.objs.size]) ht.isList.typeIs slot_list_getitem.lookup ?_ (by with_unfolding_all rfl)
  refine wpAny_getItem_list_slice ht.isList (Heap.IsSliceOf.new ..) .none .none pk (by decide) ?_ (by rw [List.size_toArray]; omega)
  have hp := hi.pick none none (some (-1))
  have hle : (pickNums ns none none (some (-1))).length ≤ ns.length := by
    have := slicePick_size_le its.toArray none none (some (-1))
    rw [← Array.length_toList, hp.length, List.size_toArray] at this
    omega
  have new : ObjOk X.prog X.w (upd H2 (s2.heap.push { cls := .type "slice", data := .fields #[.none, .none, vs] }).objs.size (.lst ((pickNums ns none none (some (-1))).map V.int))) ((s2.heap.push { cls := .type "slice", data := .fields #[.none, .none, vs] }).push { cls := .type "list", data := .seq (slicePick its.toArray none none (some (-1))) }) (s2.heap.push { cls := .type "slice", data := .fields #[.none, .none, vs] }).objs.size (.lst ((pickNums ns none none (some (-1))).map V.int)) :=
    ⟨by rw [List.length_map]; omega, (slicePick its.toArray none none (some (-1))).toList, 0, vals_ints hp, by simpa using Heap.get?_push_size (s2.heap.push { cls := .type "slice", data := .fields #[.none, .none, vs] }) (o := { cls := .type "list", data := .seq (slicePick its.toArray none none (some (-1))) }) rfl⟩
  exact ⟨.ref _, _, I4.laid (t' := s2.toks) (fun b o e => Heap.get?_push_of_some _ e) (Nat.le_refl _) new, rfl, q _ _ hle (I4.hok.fresh (Nat.le_refl _))⟩
def tTru (K : PySem.W.Frag) (ta : TE) : TT := fun σ H Q => ta σ H fun x H' => ∃ k, TruV K x H' k ∧ Q k H'
theorem pt_tru {K : PySem.W.Frag} {a : Expr} {ta : TE} (hK : X.K = K) (ha : PE X a ta) (he : ∀ whole, isTrue a X.env whole = (do let v ← whole; standAt a.pos; holding [v] (truthy v))) : PT X a (tTru K ta) := by subst hK; exact pt_truth ha he
def rCatT2 (K : PySem.W.Frag) : R2 := fun x y H Q => ∃ (a b : Addr) (xs ys : List V), x = .ref a ∧ y = .ref b ∧ SqT K H a xs ∧ SqT K H b ys ∧ xs.length + ys.length ≤ sizeLine ∧ (xs = [] → Q (.ref b) H) ∧ (xs ≠ [] → ys = [] → Q (.ref a) H) ∧ (xs ≠ [] → ys ≠ [] → ∀ p, H p = none → Q (.ref p) (upd H p (.tup (xs ++ ys))))
theorem op_catT2 : OpR X (binaryOp .Add) (rCatT2 X.K) := by
  intro pins s σ H x y v u Q I rx ry h
  obtain ⟨a, b, xs, ys, rfl, rfl, ha, hb, hz, q0, q1, q2⟩ := h
  by_cases hx : xs = []
  case neg => exact op_catT pins s σ H _ _ v u Q I rx ry ⟨a, b, xs, ys, rfl, rfl, ha, hb, hx, hz, q1 hx, q2 hx⟩
  case pos =>
  cases rx
  cases ry
  obtain ⟨its, r1, p1, _⟩ := I.tuple ha
  obtain ⟨its2, r2, p2, _⟩ := I.tuple hb
  have e1 : its = [] := r1.nil_iff.mpr hx
  obtain ⟨⟨cls, dd, data, sl⟩, ho, hc, n, hd⟩ := id p1
  obtain ⟨⟨cls2, dd2, data2, sl2⟩, ho2, hc2, n2, hd2⟩ := id p2
  simp only at hc hd hc2 hd2
  subst hc hd hc2 hd2
  exact concat_meets ⟨_, ho, rfl⟩ ⟨_, ho2, rfl⟩ noFill_tuple_add seq_tuple_add PySem.F.slot_tuple_add PySem.F.entry_tuple_add (PySem.F.args_tuple_add_2 _ _)
    (tuple_addW0 a b its.toArray its2.toArray n n2 dd dd2 sl sl2 (by simp [e1])) ⟨ho, ho2, ⟨.ref b, H, I, rfl, q0 hx⟩⟩
end
end L2
namespace Br
theorem aft_last {ks : List Nat} (f : Fits ks) : ∀ i, i ≤ ks.length → (∀ B ∈ (aft ks i).2, ∃ j : Nat, j < i ∧ B.getLastD 0 = (j : Int) ∧ B.length = ks.getD j 0) ∧ ∀ j : Nat, j < i → 0 < ks.getD j 0 → ∃ B ∈ (aft ks i).2, B.getLastD 0 = (j : Int) ∧ B.length = ks.getD j 0
  | 0, _ => ⟨(fun B hB => by cases hB), fun j h => absurd h (Nat.not_lt_zero _)⟩
  | i + 1, hi => by
    obtain ⟨h1, h2⟩ := aft_last f i (by omega)
    obtain ⟨g, gl⟩ := aft_good f i (by omega)
    have hs := f (i + 1) hi
    have e : ks[i]? = some (ks.getD i 0) := by rw [List.getD_eq_getElem?_getD, List.getElem?_eq_getElem (by omega)]; rfl
    rw [List.take_add_one, e, Option.toList_some, List.sum_append] at hs
    simp at hs
    rw [aft_succ (by omega)]
    generalize hk : ks.getD i 0 = k at *
    have hs' : k ≤ (aft ks i).1.length + 1 := by
      have : ks[i]?.getD 0 = k := by rw [e]; rfl
      omega
    unfold stp
    by_cases k0 : k = 0
    · rw [if_pos k0]
      refine ⟨fun B hB => ?_, fun j hj hp => ?_⟩
      · obtain ⟨j, a, b, c⟩ := h1 B hB
        exact ⟨j, by omega, b, c⟩
      · rcases Nat.lt_or_ge j i with h | h
        · exact h2 j h hp
        · have : j = i := by omega
          subst this; omega
    · rw [if_neg k0]
      have bl : (((aft ks i).1 ++ [(i : Int)]).drop ((aft ks i).1.length + 1 - k)).length = k := by
        rw [List.length_drop, List.length_append]; simp; omega
      have bz : (((aft ks i).1 ++ [(i : Int)]).drop ((aft ks i).1.length + 1 - k)).getLastD 0 = (i : Int) := by
        rw [List.drop_append_of_le_length (by omega)]
        simp
      refine ⟨fun B hB => ?_, fun j hj hp => ?_⟩
      · rcases List.mem_append.mp hB with h | h
        · obtain ⟨j, a, b, c⟩ := h1 B h
          exact ⟨j, by omega, b, c⟩
        · rw [List.mem_singleton.mp h]
          exact ⟨i, by omega, bz, by rw [bl, hk]⟩
      · rcases Nat.lt_or_ge j i with h | h
        · obtain ⟨B, a, b, c⟩ := h2 j h hp
          exact ⟨B, List.mem_append_left _ a, b, c⟩
        · have : j = i := by omega
          subst this
          exact ⟨_, List.mem_append_right _ (List.mem_singleton.mpr rfl), bz, by rw [bl, hk]⟩
theorem ksT_row {ks : List Nat} {ts : List (List Int)} (f : Fits ks) (hs : ks.sum = ks.length) (pm : ts.Perm (aft ks ks.length).2) (up : ts.Pairwise (· < ·)) : ksT ts = ks := by
  obtain ⟨p, hl⟩ := of_row f hs pm up
  obtain ⟨h1, h2⟩ := aft_last f ks.length (Nat.le_refl _)
  unfold ksT
  rw [hl]
  refine List.ext_getElem (by simp) fun i hi hi' => ?_
  rw [List.getElem_map, List.getElem_range]
  have e : ks[i] = ks.getD i 0 := by simp [List.getD_eq_getElem?_getD, hi']
  rw [e]
  rcases Nat.eq_zero_or_pos (ks.getD i 0) with h0 | h0
  · rw [h0]
    refine k_no fun B hB eB => ?_
    obtain ⟨j, a, b, c⟩ := h1 B (pm.mem_iff.mp hB)
    have : j = i := by rw [eB] at b; omega
    subst this
    have := (p.ups B hB).2
    exact this (List.eq_nil_of_length_eq_zero (by omega))
  · obtain ⟨B, a, b, c⟩ := h2 i hi' h0
    have := p.k_at (pm.mem_iff.mpr a)
    rw [b] at this
    rw [this, c]
end Br
namespace Nk06
open PySem L2
def top (i : Nat) : Stmt := PySem.Challenge.pw_bracketnumbers_k06_whole_partings.main.body.getD i (.Pass ⟨0, 0, 0, 0⟩)
abbrev st_rise : Stmt := top 7
abbrev st_levels : Stmt := top 8
abbrev st_is_whole : Stmt := top 9
abbrev st_parting_of : Stmt := top 11
abbrev st_is_point : Stmt := top 12
abbrev st_is_block : Stmt := top 13
abbrev st_has_blocks : Stmt := top 14
abbrev st_shut_behind_last_points : Stmt := top 15
abbrev st_row_by_parting : Stmt := top 16
abbrev st__law_cell : Stmt := top 18
abbrev st__law_mix : Stmt := top 19
abbrev st__law_row : Stmt := top 20
abbrev st__law_whole : Stmt := top 21
abbrev st__law_is_parting : Stmt := top 22
abbrev st__law_crosses : Stmt := top 23
abbrev st__law_parting : Stmt := top 24
abbrev st__law_row_by : Stmt := top 25
abbrev st__law_spoilt : Stmt := top 26
abbrev st_law : Stmt := top 27
theorem same_new {H : Hp} {p : Addr} (h : H p = none) (o : HO) : Same H (upd H p o) := fun b u q => by rw [upd_ne (ne_of_none q h)]; exact q
theorem same_but {H H1 : Hp} {p : Addr} (hs : Same H H1) (hp : H p = none) (o : HO) : Same H (upd H1 p o) := fun b u q => by rw [upd_ne (ne_of_none q hp)]; exact hs b u q
theorem par_l : (Str.ofString "(") = ⟨#[40]⟩ := by decide +kernel
theorem par_r : (Str.ofString ")") = ⟨#[41]⟩ := by decide +kernel
theorem no_sign : (Str.ofString "") = ⟨#[]⟩ := by decide +kernel
theorem one_eq {c d : Nat} : ((⟨#[c]⟩ : Str) = ⟨#[d]⟩) ↔ c = d := by
  constructor
  · intro h
    have := congrArg (fun s : Str => s.cps.toList) h
    simpa using this
  · rintro rfl; rfl
theorem cs_snoc (z : Str) (c : Nat) : cs (z ++ (⟨#[c]⟩ : Str)) = cs z ++ [c] := by rw [cs_append]
theorem len_snoc (z : Str) (c : Nat) : (z ++ (⟨#[c]⟩ : Str)).length = z.length + 1 := by rw [← cs_length, cs_snoc, List.length_append, cs_length]; rfl
theorem cut_int {ns : List Int} {lo hi : Option Int} {i : Nat} {x : V} (h : (cutV (ns.map V.int) lo hi)[i]? = some x) : ∃ c, x = .int c ∧ c ∈ ns := by
  have m := List.mem_of_getElem? h
  unfold cutV at m
  obtain ⟨c, hc, rfl⟩ := List.mem_map.mp (List.mem_of_mem_drop (List.mem_of_mem_take m))
  exact ⟨c, rfl, hc⟩
def ones (r : List Nat) : List Str := r.map fun c => (⟨#[c]⟩ : Str)
theorem atI_of {α : Type} {xs : List α} {k : Int} {j : Nat} {v : α} (e : k = (j : Int)) (h : xs[j]? = some v) : atI xs k = some v := by subst e; exact atI_nat h
section
variable {P : Program} {w : World} {K : PySem.W.Frag} {mg : Str → Option Value} {base : Heap} {f : Addr} {fd : FuncData}
def spRise : Sp := fun vs H Q _ => ∃ c, vs = [.str ⟨#[c]⟩] ∧ Q (.int (Br.rise c)) H
theorem scRise : FnScope ["sign"] ["sign"] (defScope st_rise) := ⟨rfl, rfl, rfl, by decide +kernel, rfl, by decide +kernel, by decide +kernel⟩
theorem ok_rise (F : Fun K "rise" "rise" st_rise f fd) : FnOk P w K mg base (CX1 P w) 1 f fd ["sign"] spRise := by
  refine F.ok1 scRise (fun vs H Q E h => ?_) (fun cdv A outer s H vs Q E hr h => ?_)
  · obtain ⟨c, rfl, _⟩ := h
    rfl
  obtain ⟨c, rfl, q⟩ := h
  refine ⟨_, pss_one (ps_ret (pe_ifExp (pt_cmpR op_eq (pv 0) pe_str (nomark _)) pe_int (pe_un un_neg pe_int))), ?_⟩
  refine ⟨_, rfl, rfl, _, rfl, ?_⟩
  refine ite2 (fun h => ?_) (fun h => ?_)
  · have e : c = 40 := by
      have := of_decide_eq_true h
      rw [par_l] at this
      exact one_eq.mp (V.str.inj this)
    have : Br.rise c = 1 := by rw [e]; rfl
    rw [this] at q
    exact q
  · have e : ¬ c = 40 := fun z => h (by rw [par_l, z]; exact decide_eq_true rfl)
    have : Br.rise c = -1 := by unfold Br.rise; rw [if_neg e]
    rw [this] at q
    exact ⟨1, rfl, q⟩
def spLevels : Sp := fun vs H Q _ => ∃ z, vs = [.str z] ∧ z.length ≤ 1000 ∧ ∀ p H', H p = none → Same H H' → H' p = some (.lst ((Br.heads (cs z)).map V.int)) → Q (.ref p) H'
theorem scLevels : FnScope ["row", "heads", "sign"] ["row"] (defScope st_levels) := ⟨rfl, rfl, rfl, by decide +kernel, rfl, by decide +kernel, by decide +kernel⟩
def upTo (r : List Nat) (i : Nat) : List Int := (List.range (i + 1)).map fun k => Br.lev (r.take k)
theorem upTo_succ (r : List Nat) (i : Nat) : upTo r (i + 1) = upTo r i ++ [Br.lev (r.take (i + 1))] := by
  unfold upTo
  rw [List.range_succ, List.map_append]
  rfl
theorem upTo_last (r : List Nat) (i : Nat) : atI ((upTo r i).map V.int) (-1) = some (.int (Br.lev (r.take i))) := by
  have e : (upTo r i).map V.int = ((List.range i).map fun k => V.int (Br.lev (r.take k))) ++ [V.int (Br.lev (r.take i))] := by
    unfold upTo
    rw [List.range_succ, List.map_append, List.map_append, List.map_map]
    rfl
  rw [e]
  exact atI_last _ _
theorem ok_levels (F : Fun K "levels" "levels" st_levels f fd) (hRise : Has P w K mg base 1 "rise" ["sign"] spRise) : FnOk P w K mg base (CX1 P w) 2 f fd ["row"] spLevels := by
  refine F.ok1 scLevels (fun vs H Q E h => ?_) (fun cdv A outer s H vs Q E hr h => ?_)
  · obtain ⟨c, rfl, _⟩ := h
    rfl
  obtain ⟨z, rfl, hz, q⟩ := h
  refine ⟨_, pss_cons (ps_set (i := 1) scLevels.nd rfl (Or.inl rfl) (pe_lst (pa_cons pe_int pa_nil)))
    (pss_cons (ps_for PassesOwn.never rfl (pi_str (pv 0)) (pg_name (i := 2) scLevels.nd rfl (Or.inl rfl))
      (pss_one (ps_expr (pe_bm PySem.F.plainAttrs_list PySem.F.slot_list_append PySem.F.type_list_append mt_append (pv 1)
        (pa_cons (pe_op op_add (pe_ix ix_list (pv 1) (pe_un un_neg pe_int) (fun _ _ => rfl)) (pe_callH hRise hr pass1 (pa_cons (pv 2) pa_nil))) pa_nil)))))
    (pss_one (ps_ret (pv 1)))), ?_⟩
  refine ⟨(by show 1 ≤ sizeLine; decide), fun p hp => ?_⟩
  refine ⟨_, rfl, z, rfl, for_str (fun i σ H' => ∃ sg, σ = [some (.str z), some (.ref p), sg] ∧ Same H H' ∧ H' p = some (.lst ((upTo (cs z) i).map V.int))) ⟨none, rfl, same_new hp _, upd_same⟩ ?_ ?_⟩
  · rintro i c σ H1 hc ⟨sg, rfl, hs, hl⟩
    have hi : i < (cs z).length := (List.getElem?_eq_some_iff.mp hc).1
    have hic : (cs z)[i] = c := (List.getElem?_eq_some_iff.mp hc).2
    refine ⟨_, rfl, .inl ⟨rfl, _, SqL.of hl⟩, _, rfl, 1, rfl, p, _, _, _, rfl, rfl, SqL.of hl, upTo_last _ _, _, rfl, c, rfl, _, _, rfl, rfl, p, _, _, rfl, rfl, hl, ?_, ?_⟩
    · have := cs_length z
      rw [List.length_map]
      unfold upTo
      rw [List.length_map, List.length_range]
      exact small1000 (by omega)
    · refine ⟨_, rfl, fun b o e => ?_, ?_⟩
      · rw [upd_ne (ne_of_none e hp)]; exact hs b o e
      · rw [upd_same, upTo_succ, List.map_append, Br.lev_take_succ hi, hic]
        rfl
  · rintro σ H1 ⟨sg, rfl, hs, hl⟩
    exact ⟨_, rfl, q p H1 hp hs hl⟩
def spIsW (K : PySem.W.Frag) : Sp := fun vs H Q _ => (∃ z, vs = [.str z] ∧ z.length ≤ 900 ∧ ∀ H', Same H H' → Q (.bl (decide (z.length ≤ 120) && Br.lw 0 (cs z))) H') ∨
  (∃ x t, vs = [x] ∧ TyOf K H x t ∧ PySem.W.kitOne K t (.type "str") = some false ∧ Q (.bl false) H)
theorem scIsW : FnScope ["thing", "heads"] ["thing"] (defScope st_is_whole) := ⟨rfl, rfl, rfl, by decide +kernel, rfl, by decide +kernel, by decide +kernel⟩
def bad (r : List Nat) : List Bool := r.map fun c => !decide (c = 40 ∨ c = 41)
theorem bad_any (r : List Nat) : (bad r).any id = true ↔ ¬ Br.IsBr r := by
  unfold bad Br.IsBr
  rw [List.any_map, List.any_eq_true]
  constructor
  · rintro ⟨c, hc, e⟩ z
    have := z c hc
    simp only [Function.comp, id] at e
    rw [decide_eq_true this] at e
    cases e
  · intro z
    refine Classical.byContradiction fun n => z fun c hc => Classical.byContradiction fun m => n ⟨c, hc, ?_⟩
    simp only [Function.comp, id]
    rw [decide_eq_false m]; rfl
theorem ok_isW {aT : Addr} {tL : Tok} (F : Fun K "is_whole" "is_whole" st_is_whole f fd) (hLev : Has P w K mg base 2 "levels" ["row"] spLevels) (mL : mg "LONGEST" = some (.int 120 tL)) (mT : mg "TURNED" = some (.ref aT)) (T : Tab K aT [("(", ")"), (")", "(")])
    (mi : mg "isinstance" = none) (ms : mg "str" = none) (ml : mg "len" = none) (ma : mg "any" = none) (mm : mg "min" = none) (k1 : PySem.W.kitOne K (.type "str") (.type "str") = some true) :
    FnOk P w K mg base (CX1 P w) 3 f fd ["thing"] (spIsW K) := by
  refine F.ok1 scIsW (fun vs H Q E h => ?_) (fun cdv A outer s H vs Q E hr h => ?_)
  · rcases h with ⟨z, rfl, _⟩ | ⟨x, t, rfl, _⟩ <;> rfl
  refine ⟨_, pss_cons (ps_if (PW.pt (pw_or (pt_not (pt_val (pe_callB (call_isinst (.ty "str") (.type "str") fun _ e => e) rfl mi PyProof.Rows.boot_isinstance (pa_cons (pv 0) (pa_cons (pe_bltn (v := .ty "str") rfl ms PyProof.Rows.boot_str rfl) pa_nil)))))
      (pw_or1 (pt_cmpR op_gt (pe_callB call_len_str rfl ml PySem.boot_len (pa_cons (pv 0) pa_nil)) (pe_glob (v := .int 120) rfl mL ⟨_, rfl⟩) (nomark _))))) (pss_one (ps_ret pe_bl)) pss_nil)
    (pss_cons (ps_if (pt_val (pe_callB (call_any rfl) rfl ma (by decide +kernel) (pa_cons
        (pe_comp (esc := defScope st_is_whole) (EN := ["thing", "heads"]) (N := ["sign", "thing", "heads"]) ⟨by rfl, by decide +kernel, by decide +kernel, by rfl, by decide +kernel, by rfl, by decide +kernel, by rfl, by decide +kernel⟩ rfl rfl rfl
          (pi_str (pv 0)) (fun _ _ _ _ _ _ => pifs_nil) (fun _ _ _ _ _ _ => pe_cmpR (op_notinTab (K := K) rfl T) (pv 0) (pe_glob (v := .ref aT) rfl mT rfl) rfl)) pa_nil))) (pss_one (ps_ret pe_bl)) pss_nil)
    (pss_cons (ps_set (i := 1) scIsW.nd rfl (Or.inl rfl) (pe_callH hLev hr pass1 (pa_cons (pv 0) pa_nil)))
    (pss_one (ps_ret (pe_and (pe_cmpR op_eq (pe_callB (call_minL rfl) rfl mm PyProof.Rows.boot_min (pa_cons (pv 1) pa_nil)) pe_int (nomark _))
      (pe_one (pe_cmpR op_eq (pe_ix ix_list (pv 1) (pe_un un_neg pe_int) (fun _ _ => rfl)) pe_int (nomark _)))))))), ?_⟩
  rcases h with ⟨z, rfl, hz, q⟩ | ⟨x, t, rfl, ty, kt, q⟩
  · have hzs : z.length ≤ sizeLine := Nat.le_of_lt (small1000 (by omega))
    have hcz := cs_length z
    refine ⟨_, rfl, _, _, _, rfl, .str z, k1, true, rfl, ?_⟩
    refine iteF ?_
    refine ⟨_, rfl, z, rfl, hzs, _, _, rfl, rfl, _, rfl, ?_⟩
    refine ite2 (fun h => ?_) (fun h => ?_)
    · have hl : (120 : Int) < z.length := of_decide_eq_true h
      have := q H (Same.refl _)
      rw [decide_eq_false (by omega), Bool.false_and] at this
      exact this
    · have hl : z.length ≤ 120 := by
        have : ¬ (120 : Int) < z.length := fun zz => h (decide_eq_true zz)
        omega
      rw [decide_eq_true hl, Bool.true_and] at q
      refine ⟨_, rfl, z, rfl, fun D hD => ?_⟩
      refine comp_str (fun i ys H' => Same H H' ∧ ys = (bad ((cs z).take i)).map V.bl ∧ H' D = some (.lst ys)) ⟨same_new hD _, rfl, upd_same⟩ ?_ ?_
      · rintro i c ys H2 hc ⟨hs2, rfl, hD2⟩
        have hi : i < (cs z).length := (List.getElem?_eq_some_iff.mp hc).1
        have hic : (cs z)[i] = c := (List.getElem?_eq_some_iff.mp hc).2
        refine ⟨_, rfl, ⟨#[c]⟩, rfl, rfl, hD2, ?_, fun b o eb => ?_, ?_, upd_same⟩
        · unfold bad
          rw [List.length_map, List.length_map, List.length_take]
          exact small1000 (by omega)
        · rw [upd_ne (ne_of_none eb hD)]; exact hs2 b o eb
        · rw [in_turned]
          unfold bad
          rw [Br.take_succ_snoc hi, hic, List.map_append, List.map_append]
          rfl
      · rintro ys H2 ⟨hs2, rfl, hD2⟩
        rw [List.take_length] at hD2
        refine ⟨D, bad (cs z), rfl, SqL.of hD2, _, rfl, ?_⟩
        refine ite2 (fun h => ?_) (fun h => ?_)
        · have hb := (bad_any (cs z)).mp h
          have e : Br.lw 0 (cs z) = false := by
            rw [Bool.eq_false_iff]
            exact fun zz => hb ((Br.lw_whole (by omega)).mp zz).1
          have := q H2 hs2
          rw [e] at this
          exact this
        · have hb : Br.IsBr (cs z) := Classical.byContradiction fun n => h ((bad_any (cs z)).mpr n)
          refine ⟨_, rfl, z, rfl, by omega, fun p H3 hp hs3 hl3 => ?_⟩
          have hlen : (Br.heads (cs z)).length = (cs z).length + 1 := Br.heads_length _
          refine ⟨_, rfl, p, Br.heads (cs z), rfl, SqL.of hl3, by omega, fun M hM hle => ⟨rfl, _, rfl, ?_⟩⟩
          have qq := q H3 (hs2.trans hs3)
          have M0 : M ≤ 0 := hle 0 (Br.mem_heads.mpr ⟨0, Nat.zero_le _, by rw [List.take_zero]; rfl⟩)
          have last : atI ((Br.heads (cs z)).map V.int) (-1) = some (.int (Br.lev (cs z))) := by
            have e : Br.heads (cs z) = upTo (cs z) (cs z).length := rfl
            rw [e, upTo_last, List.take_length]
          refine ite2 (fun h1 => ?_) (fun h1 => ?_)
          · have eM : M = 0 := V.int.inj (of_decide_eq_true h1)
            refine ⟨_, rfl, 1, rfl, p, _, _, _, rfl, rfl, SqL.of hl3, last, rfl, ?_⟩
            have e : decide (V.int (Br.lev (cs z)) = V.int 0) = Br.lw 0 (cs z) := by
              rw [Bool.eq_iff_iff, decide_eq_true_iff, Br.lw_whole (by omega)]
              constructor
              · intro hv
                exact ⟨hb, fun k hk => by rw [← eM]; exact hle _ (Br.mem_heads.mpr ⟨k, hk, rfl⟩), V.int.inj hv⟩
              · intro hw
                rw [hw.2.2]
            rw [e]
            exact qq
          · have nM : ¬ M = 0 := fun e => h1 (decide_eq_true (congrArg V.int e))
            have e : Br.lw 0 (cs z) = false := by
              rw [Bool.eq_false_iff]
              intro zz
              have hw := (Br.lw_whole (by omega)).mp zz
              obtain ⟨k, hk, ek⟩ := Br.mem_heads.mp hM
              have := hw.2.1 k hk
              omega
            rw [e] at qq
            exact qq
  · refine ⟨_, rfl, _, _, _, rfl, ty, kt, false, rfl, ?_⟩
    exact iteT (iteT q)
def IsRow (z : Str) : Prop := z.length ≤ 120 ∧ Br.Whole (cs z)
def spMix : Sp := fun vs H Q _ => ∃ c p m : Int, vs = [.int c, .int p, .int m] ∧ 0 < p ∧ 0 < m ∧ Q (.int (c * 48271 % p % m)) H
theorem scMix : FnScope ["_law_cell_here", "_law_prime", "_law_many"] ["_law_cell_here", "_law_prime", "_law_many"] (defScope st__law_mix) := ⟨rfl, rfl, rfl, by decide +kernel, rfl, by decide +kernel, by decide +kernel⟩
theorem ok_mix (F : Fun K "_law_mix" "_law_mix" st__law_mix f fd) : FnOk P w K mg base (CX1 P w) 1 f fd ["_law_cell_here", "_law_prime", "_law_many"] spMix := by
  refine F.ok1 scMix (fun vs H Q E h => ?_) (fun cdv A outer s H vs Q E hr h => ?_)
  · obtain ⟨c, p, m, rfl, _⟩ := h
    rfl
  obtain ⟨c, p, m, rfl, hp, hm, q⟩ := h
  refine ⟨_, pss_one (ps_ret (pe_op op_mod (pe_op op_mod (pe_op op_mul (pv 0) pe_int) (pv 1)) (pv 2))), ?_⟩
  exact ⟨_, rfl, _, _, rfl, rfl, .inr ⟨by decide, by decide⟩, _, rfl, _, _, rfl, rfl, hp, _, rfl, _, _, rfl, rfl, hm, q⟩
def spRow : Sp := fun vs H Q _ => ∃ c n : Int, vs = [.int c, .int n] ∧ 0 ≤ n ∧ n ≤ 60 ∧ ∀ z H', Same H H' → Br.Whole (cs z) → (z.length : Int) = 2 * n → Q (.str z) H'
theorem scRow : FnScope ["_law_cell_here", "_law_size", "_law_row_here", "_law_high", "_law_k", "_law_left"] ["_law_cell_here", "_law_size"] (defScope st__law_row) := ⟨rfl, rfl, rfl, by decide +kernel, rfl, by decide +kernel, by decide +kernel⟩
theorem ok_row (F : Fun K "_law_row" "_law_row" st__law_row f fd) (hMix : Has P w K mg base 1 "_law_mix" ["_law_cell_here", "_law_prime", "_law_many"] spMix) (mrange : mg "range" = none) : FnOk P w K mg base (CX1 P w) 2 f fd ["_law_cell_here", "_law_size"] spRow := by
  refine F.ok1 scRow (fun vs H Q E h => ?_) (fun cdv A outer s H vs Q E hr h => ?_)
  · obtain ⟨c, n, rfl, _⟩ := h
    rfl
  obtain ⟨c, n, rfl, h0, h60, q⟩ := h
  refine ⟨_, pss_cons (ps_set (i := 2) scRow.nd rfl (Or.inl rfl) pe_str) (pss_cons (ps_set (i := 3) scRow.nd rfl (Or.inl rfl) pe_int)
    (pss_cons (ps_for PassesOwn.never rfl (pi_range1 rfl mrange (pa_cons (pe_op op_mul pe_int (pv 1)) pa_nil)) (pg_name (i := 4) scRow.nd rfl (Or.inl rfl))
      (pss_cons (ps_set (i := 5) scRow.nd rfl (Or.inl rfl) (pe_op op_sub (pe_op op_mul pe_int (pv 1)) (pv 4)))
      (pss_one (ps_if (PW.pt (pw_or (pt_cmpR op_eq (pv 3) pe_int (nomark _)) (pw_or1 (PW.pt (pw_and (pt_cmpR op_lt (pv 3) (pv 5) (nomark _))
          (pw_and1 (pt_cmpR op_lt (pe_callH hMix hr pass1 (pa_cons (pe_op op_add (pv 0) (pe_op op_mul pe_int (pv 4))) (pa_cons pe_int (pa_cons pe_int pa_nil)))) pe_int (nomark _))))))))
        (pss_cons (ps_set (i := 2) scRow.nd rfl (Or.inl rfl) (pe_op op_add_str (pv 2) pe_str)) (pss_one (ps_set (i := 3) scRow.nd rfl (Or.inl rfl) (pe_op op_add (pv 3) pe_int))))
        (pss_cons (ps_set (i := 2) scRow.nd rfl (Or.inl rfl) (pe_op op_add_str (pv 2) pe_str)) (pss_one (ps_set (i := 3) scRow.nd rfl (Or.inl rfl) (pe_op op_sub (pv 3) pe_int))))))))
    (pss_one (ps_ret (pv 2))))), ?_⟩
  refine ⟨_, rfl, _, _, rfl, rfl, .inl ⟨by decide, by decide⟩, _, rfl, by omega, by omega, ?_⟩
  refine for_range (fun i σ H' => ∃ z h kk ll, σ = [some (.int c), some (.int n), some (.str z), some (.int h), kk, ll] ∧ H' = H ∧ z.length = i ∧ Br.Grow (cs z) n h) ?_ ?_ ?_
  · exact ⟨_, 0, none, none, rfl, rfl, by rw [no_sign]; rfl, by rw [no_sign]; exact Br.Grow.nil h0⟩
  · rintro i σ H1 hi ⟨z, h, kk, ll, rfl, rfl, hl, g⟩
    have hcz := cs_length z
    have gt := g.top
    have gp := g.par
    have g0 := g.pos
    have hi' : (i : Int) < 2 * n := by omega
    have u1 : h = 0 → h + ((cs z).length : Int) + 2 ≤ 2 * n := fun e => by omega
    have u2 : h < 2 * n - (0 + (i : Int)) → h + ((cs z).length : Int) + 2 ≤ 2 * n := fun e => by omega
    have u3 : ¬ h = 0 → 1 ≤ h := fun e => by omega
    have zs : z.length + 1 ≤ 1000 := by omega
    refine ⟨_, rfl, _, _, rfl, rfl, .inl ⟨by decide, by decide⟩, _, rfl, _, _, rfl, rfl, ?_⟩
    have up : h + ((cs z).length : Int) + 2 ≤ 2 * n → ∃ z' h' kk' ll', ([some (.int c), some (.int n), some (.str (z ++ Str.ofString "(")), some (.int (h + 1)), some (.int (0 + (i : Int))), some (.int (2 * n - (0 + (i : Int))))] : St) = [some (.int c), some (.int n), some (.str z'), some (.int h'), kk', ll'] ∧ H1 = H1 ∧ z'.length = i + 1 ∧ Br.Grow (cs z') n h' := fun ht =>
      ⟨_, _, _, _, rfl, rfl, by rw [par_l, len_snoc, hl], by rw [par_l, cs_snoc]; exact g.up ht⟩
    have down : 1 ≤ h → ∃ z' h' kk' ll', ([some (.int c), some (.int n), some (.str (z ++ Str.ofString ")")), some (.int (h - 1)), some (.int (0 + (i : Int))), some (.int (2 * n - (0 + (i : Int))))] : St) = [some (.int c), some (.int n), some (.str z'), some (.int h'), kk', ll'] ∧ H1 = H1 ∧ z'.length = i + 1 ∧ Br.Grow (cs z') n h' := fun ht =>
      ⟨_, _, _, _, rfl, rfl, by rw [par_r, len_snoc, hl], by rw [par_r, cs_snoc]; exact g.down ht⟩
    have room : z.length + (Str.ofString "(").length ≤ sizeLine := by rw [par_l]; exact Nat.le_of_lt (small1000 zs)
    have room' : z.length + (Str.ofString ")").length ≤ sizeLine := by rw [par_r]; exact Nat.le_of_lt (small1000 zs)
    refine ⟨_, rfl, rfl, _, rfl, ?_⟩
    refine ite2 (fun h1 => ?_) (fun h1 => ?_)
    · have e : h = 0 := V.int.inj (of_decide_eq_true h1)
      refine iteT ?_
      exact ⟨_, rfl, _, _, rfl, rfl, room, _, rfl, _, _, rfl, rfl, up (u1 e)⟩
    · have e : ¬ h = 0 := fun ez => h1 (decide_eq_true (congrArg V.int ez))
      refine ⟨_, rfl, _, rfl, _, _, rfl, rfl, _, rfl, ?_⟩
      refine ite2 (fun h2 => ?_) (fun h2 => ?_)
      · have lt : h < 2 * n - (0 + (i : Int)) := of_decide_eq_true h2
        refine ⟨_, rfl, _, rfl, _, _, rfl, rfl, .inl ⟨by decide, by decide⟩, _, _, rfl, rfl, _, _, _, rfl, by decide, by decide, _, _, rfl, rfl, _, rfl, ?_⟩
        refine ite2 (fun h3 => ?_) (fun h3 => ?_)
        · exact ⟨_, rfl, _, _, rfl, rfl, room, _, rfl, _, _, rfl, rfl, up (u2 lt)⟩
        · exact ⟨_, rfl, _, _, rfl, rfl, room', _, rfl, _, _, rfl, rfl, down (u3 e)⟩
      · refine iteF ?_
        exact ⟨_, rfl, _, _, rfl, rfl, room', _, rfl, _, _, rfl, rfl, down (u3 e)⟩
  · rintro σ H1 ⟨z, h, kk, ll, rfl, rfl, hl, g⟩
    have hcz := cs_length z
    have e2 : (z.length : Int) = 2 * n := by rw [hl]; omega
    exact ⟨_, rfl, q z H1 (Same.refl _) (g.whole (by omega)) e2⟩
def spPartG : Sp := fun vs H Q _ => ∃ (z : Str) (ks : List Nat), vs = [.str z] ∧ cs z = Br.rowK ks ∧ Br.Fits ks ∧ ks.sum = ks.length ∧ ks.length ≤ 60 ∧ ∀ p as ts H', Same H H' → H' p = some (.tup (as.map V.ref)) → TupI H' as ts → ts.Perm (Br.aft ks ks.length).2 → ts.Pairwise (· < ·) → Q (.ref p) H'
theorem scParting : FnScope ["row", "free", "blocks", "point", "stretch", "kept"] ["row"] (defScope st_parting_of) := ⟨rfl, rfl, rfl, by decide +kernel, rfl, by decide +kernel, by decide +kernel⟩
theorem few_blocks : ∀ {l : List (List Int)}, (∀ B ∈ l, B ≠ []) → l.length ≤ l.flatten.length
  | [], _ => Nat.le_refl _
  | B :: l, h => by
    have h1 := few_blocks (l := l) fun C hC => h C (List.mem_cons_of_mem _ hC)
    have h2 : B.length ≠ 0 := fun e => h B List.mem_cons_self (List.eq_nil_of_length_eq_zero e)
    rw [List.flatten_cons, List.length_append, List.length_cons]
    omega
theorem nd_blocks : ∀ {l : List (List Int)}, l.flatten.Nodup → (∀ B ∈ l, B ≠ []) → l.Nodup
  | [], _, _ => .nil
  | B :: l, nd, h => by
    rw [List.flatten_cons, List.nodup_append] at nd
    refine List.nodup_cons.mpr ⟨fun hm => ?_, nd_blocks nd.2.1 fun C hC => h C (List.mem_cons_of_mem _ hC)⟩
    obtain ⟨x, hx⟩ := List.exists_mem_of_ne_nil B (h B List.mem_cons_self)
    exact nd.2.2 x hx x (List.mem_flatten.mpr ⟨B, hm, hx⟩) rfl
theorem par40 : Str.ofString "(" = ⟨#[40]⟩ := par_l
theorem cut_from (xs : List V) (k : Nat) (hk : k ≤ xs.length) : cutV xs (some (k : Int)) none = xs.drop k := by
  unfold cutV
  rw [HT.sIx_nat, HT.sIx_none, Nat.min_eq_left hk]
  exact List.take_of_length_le (by rw [List.length_drop]; omega)
theorem cut_to (xs : List V) (k : Nat) (hk : k ≤ xs.length) : cutV xs none (some (k : Int)) = xs.take k := by
  unfold cutV
  rw [HT.sIx_nat, HT.sIx_none, Nat.min_eq_left hk, List.drop_zero, Nat.sub_zero]
theorem TupI_at' {H : Hp} {as : List Addr} {ts : List (List Int)} (T : TupI H as ts) {i : Nat} {x : V} (h : (as.map V.ref)[i]? = some x) : ∃ a t, x = .ref a ∧ ts[i]? = some t ∧ H a = some (.tup (t.map V.int)) := by
  have hi : i < as.length := by have := (List.getElem?_eq_some_iff.mp h).1; rwa [List.length_map] at this
  have g := T.get i hi
  have hl := T.length
  refine ⟨as.getD i 0, ts.getD i [], ?_, ?_, g⟩
  · rw [List.getElem?_map, List.getElem?_eq_getElem hi] at h
    rw [List.getD_eq_getElem?_getD, List.getElem?_eq_getElem hi]
    exact (Option.some.inj h).symm
  · have hi2 : i < ts.length := by omega
    rw [List.getD_eq_getElem?_getD, List.getElem?_eq_getElem hi2]
    rfl
theorem tup_keepL {H : Hp} {as : List Addr} {ts : List (List Int)} {p : Addr} {ys : List V} {o : HO} (T : TupI H as ts) (hp : H p = some (.lst ys)) : TupI (upd H p o) as ts := by
  induction T with
  | nil => exact .nil
  | @cons a t as ts h _ ih =>
    refine .cons ?_ ih
    have n : a ≠ p := fun e => by rw [e, hp] at h; cases h
    rw [upd_ne n]; exact h
theorem upd_none {H : Hp} {a b : Addr} {o : HO} (h : upd H a o b = none) : b ≠ a ∧ H b = none := by
  have n : b ≠ a := fun e => by rw [e, upd_same] at h; cases h
  exact ⟨n, by rw [upd_ne n] at h; exact h⟩
set_option maxHeartbeats 2000000 in
theorem ok_partG (F : Fun K "parting_of" "parting_of" st_parting_of f fd) (ml : mg "len" = none) (mt : mg "tuple" = none) (mso : mg "sorted" = none) (me : mg "enumerate" = none) : FnOk P w K mg base (CX1 P w) 1 f fd ["row"] spPartG := by
  refine F.ok1 scParting (fun vs H Q E h => ?_) (fun cdv A outer s H vs Q E hr h => ?_)
  · obtain ⟨_, _, rfl, _⟩ := h
    rfl
  obtain ⟨z, ks, rfl, hz, hf, hsum, hn, q⟩ := h
  have s1k := small1000 (n := 1000) (by omega)
  have lz : z.length = 2 * ks.length := by rw [← cs_length, hz, Br.rowK_length, hsum]; omega
  obtain ⟨sp1, sp2, sp3⟩ := split_row hz (by omega)
  rw [← par40] at sp1 sp2 sp3
  refine ⟨_, pss_cons (ps_set (i := 1) scParting.nd rfl (Or.inl rfl) (pe_lst pa_nil))
    (pss_cons (ps_set (i := 2) scParting.nd rfl (Or.inl rfl) (pe_lst pa_nil))
    (pss_cons (ps_for PassesOwn.never rfl (pi_enumL rfl me (pa_cons (pe_slice sl_list (pe_bm PySem.F.plainAttrs_str PySem.F.slot_str_split PySem.F.type_str_split mt_split (pv 0) (pa_cons pe_str pa_nil)) (po_some pe_int) po_none) pa_nil))
        (pg_tup rfl (pgs_cons (pg_name (i := 3) scParting.nd rfl (Or.inl rfl)) (pgs_cons (pg_name (i := 4) scParting.nd rfl (Or.inl rfl)) pgs_nil)))
      (pss_cons (ps_expr (pe_bm PySem.F.plainAttrs_list PySem.F.slot_list_append PySem.F.type_list_append mt_append (pv 1) (pa_cons (pv 3) pa_nil)))
      (pss_one (ps_if (pt_cmpR op_ne (pv 4) pe_str (nomark _))
        (pss_cons (ps_set (i := 5) scParting.nd rfl (Or.inl rfl) (pe_op op_sub (pe_callB call_len_seq rfl ml PySem.boot_len (pa_cons (pv 1) pa_nil)) (pe_callB call_len_str rfl ml PySem.boot_len (pa_cons (pv 4) pa_nil))))
        (pss_cons (ps_expr (pe_bm PySem.F.plainAttrs_list PySem.F.slot_list_append PySem.F.type_list_append mt_append (pv 2) (pa_cons (pe_callTy call_tuple_of rfl mt PyProof.Rows.boot_tuple (pa_cons (pe_slice sl_list (pv 1) (po_some (pv 5)) po_none) pa_nil)) pa_nil)))
        (pss_one (ps_set (i := 1) scParting.nd rfl (Or.inl rfl) (pe_slice sl_list (pv 1) po_none (po_some (pv 5))))))) pss_nil))))
    (pss_one (ps_ret (pe_callTy call_tuple_of rfl mt PyProof.Rows.boot_tuple (pa_cons (pe_callB call_sortT rfl mso PyProof.Rows.boot_sorted (pa_cons (pv 2) pa_nil)) pa_nil)))))), ?_⟩
  have hzs : z.length ≤ sizeLine := by omega
  refine ⟨by show 0 ≤ sizeLine; decide, fun p1 f1 => ⟨by show 0 ≤ sizeLine; decide, fun p2 f2 => ?_⟩⟩
  have hy0 : ((Str.ofString "(").length == 0) = false := by decide +kernel
  refine ⟨_, rfl, rfl, z, _, rfl, rfl, hy0, by omega, ?_, fun p3 f3 => ?_⟩
  · have := congrArg List.length sp1
    rw [List.length_map, List.length_drop] at this
    omega
  refine ⟨1, rfl, p3, _, rfl, SqL.of upd_same, fun p4 f4 => ?_⟩
  have s1 := same_new f1 (.lst [])
  have s2 := same_new f2 (.lst [])
  have s3 := same_new f3 (.lst ((Txt.split z (Str.ofString "(")).map V.str))
  have s4 := same_new f4 (.lst (cutV ((Txt.split z (Str.ofString "(")).map V.str) (some 1) none))
  have e4 : cutV ((Txt.split z (Str.ofString "(")).map V.str) (some 1) none = ((Txt.split z (Str.ofString "(")).drop 1).map V.str ∨ Txt.split z (Str.ofString "(") = [] := by
    rcases Nat.lt_or_ge 0 (Txt.split z (Str.ofString "(")).length with h | h
    · left
      have := cut_from ((Txt.split z (Str.ofString "(")).map V.str) 1 (by rw [List.length_map]; omega)
      rw [show ((1 : Nat) : Int) = 1 from rfl] at this
      rw [this, List.map_drop]
    · exact .inr (List.eq_nil_of_length_eq_zero (by omega))
  have e5 : cutV ((Txt.split z (Str.ofString "(")).map V.str) (some 1) none = ((Txt.split z (Str.ofString "(")).drop 1).map V.str := by
    rcases e4 with e | e
    · exact e
    · rw [e]; rfl
  generalize hL : (Txt.split z (Str.ofString "(")).drop 1 = L at e5 sp1
  have hLy : ∀ y ∈ L, y.length ≤ 900 := fun y hy => sp3 y (List.mem_of_mem_drop (by rw [hL]; exact hy))
  have hLl : L.length = ks.length := by rw [← sp1, List.length_map]
  rw [e5] at s4 ⊢
  refine ⟨p4, _, rfl, upd_same, for_enumL (xs := L.map V.str) (fun i σ H' => ∃ (pf pb : Addr) (bs : List Addr) (x3 x4 x5 : Option V), σ = [some (.str z), some (.ref pf), some (.ref pb), x3, x4, x5] ∧ Same H H' ∧ H' p4 = some (.lst (L.map V.str)) ∧ H' pf = some (.lst ((Br.aft ks i).1.map V.int)) ∧
    H' pb = some (.lst (bs.map V.ref)) ∧ TupI H' bs (Br.aft ks i).2 ∧ H pf = none ∧ H pb = none ∧ pf ≠ pb ∧ pf ≠ p4 ∧ pb ≠ p4) ?_ ?_ ?_ ?_⟩
  · have g2 := upd_none f2
    have g3 := upd_none f3
    have g4 := upd_none f4
    have g42 := upd_none g4.2
    have g43 := upd_none g42.2
    exact ⟨p1, p2, [], none, none, none, rfl, ((s1.trans s2).trans s3).trans s4, upd_same, s4 _ _ (s3 _ _ (s2 _ _ upd_same)), s4 _ _ (s3 _ _ upd_same), .nil, f1, g2.2, Ne.symm g2.1, Ne.symm g43.1, Ne.symm g42.1⟩
  · rintro i σ H' ⟨_, _, _, _, _, _, _, _, h, _⟩
    exact h
  · rintro i y σ H1 T hy ⟨pf, pb, bs, x3, x4, x5, rfl, hs, h4, hpf, hpb, Tb, nf, nb, n1, n2, n3⟩ hT
    rw [List.getElem?_map] at hy
    obtain ⟨yy, hyy, rfl⟩ : ∃ yy, L[i]? = some yy ∧ y = .str yy := by
      cases e : L[i]? with
      | none => rw [e] at hy; cases hy
      | some yy => rw [e] at hy; exact ⟨yy, rfl, (Option.some.inj hy).symm⟩
    have hi : i < ks.length := by rw [← hLl]; exact (List.getElem?_eq_some_iff.mp hyy).1
    have hk : ks.getD i 0 = yy.length := by
      rw [← sp1, List.getD_eq_getElem?_getD, List.getElem?_map, hyy]; rfl
    have yl := hLy yy (List.mem_of_getElem? hyy)
    obtain ⟨g, gl⟩ := Br.aft_good hf i (by omega)
    obtain ⟨g', gl'⟩ := Br.aft_good hf (i + 1) (by omega)
    have st2 := Br.aft_succ hi
    have st1 : yy.length ≤ (Br.aft ks i).1.length + 1 := by
      have hs := hf (i + 1) (by omega)
      have e : ks[i]? = some (ks.getD i 0) := by rw [List.getD_eq_getElem?_getD, List.getElem?_eq_getElem hi]; rfl
      rw [List.take_add_one, e, Option.toList_some, List.sum_append, hk] at hs
      simp at hs
      omega
    rw [hk] at st2
    have st3 : (Br.aft ks i).1.length ≤ 60 := by omega
    have st4 : (Br.aft ks i).2.length ≤ 60 := by
      have h1 := few_blocks fun B hB => (g.ups B hB).2
      have h2 := g.perm.length_eq
      rw [List.length_append, List.length_map, List.length_range] at h2
      omega
    refine ⟨T, _, rfl, SqT.of upd_same, rfl, _, _, rfl, _, _, rfl, rfl, ?_⟩
    have sT := same_new hT (.tup [V.int (i : Nat), V.str yy])
    have hpf1 := sT _ _ hpf
    have hpb1 := sT _ _ hpb
    have h41 := sT _ _ h4
    have hs1 := hs.trans sT
    have Tb1 := Tb.same sT
    generalize upd H1 T (.tup [V.int (i : Nat), V.str yy]) = H2 at hpf1 hpb1 h41 hs1 Tb1
    clear sT hpf hpb h4 hs Tb hT
    have fl : ((Br.aft ks i).1.map V.int).length = (Br.aft ks i).1.length := List.length_map ..
    refine ⟨_, rfl, .inl ⟨rfl, _, SqL.of hpf1⟩, _, rfl, pf, _, _, rfl, rfl, hpf1, by omega, ?_⟩
    have m1 : (Br.aft ks i).1.map V.int ++ [V.int (i : Nat)] = ((Br.aft ks i).1 ++ [(i : Int)]).map V.int := by rw [List.map_append]; rfl
    rw [m1]
    have hpb2 : (upd H2 pf (.lst (((Br.aft ks i).1 ++ [(i : Int)]).map V.int))) pb = some (.lst (bs.map V.ref)) := by rw [upd_ne (Ne.symm n1)]; exact hpb1
    have h42 : (upd H2 pf (.lst (((Br.aft ks i).1 ++ [(i : Int)]).map V.int))) p4 = some (.lst (L.map V.str)) := by rw [upd_ne (Ne.symm n2)]; exact h41
    have hs2 : Same H (upd H2 pf (.lst (((Br.aft ks i).1 ++ [(i : Int)]).map V.int))) := same_but hs1 nf _
    have Tb2 := tup_keepL (o := .lst (((Br.aft ks i).1 ++ [(i : Int)]).map V.int)) Tb1 hpf1
    have hpf2 : (upd H2 pf (.lst (((Br.aft ks i).1 ++ [(i : Int)]).map V.int))) pf = some (.lst (((Br.aft ks i).1 ++ [(i : Int)]).map V.int)) := upd_same
    generalize upd H2 pf (.lst (((Br.aft ks i).1 ++ [(i : Int)]).map V.int)) = H3 at hpb2 h42 hs2 Tb2 hpf2 ⊢
    clear hpf1 hpb1 h41 hs1 Tb1
    refine ⟨_, rfl, rfl, _, rfl, ?_⟩
    have c0 : (Str.ofString "").length = 0 := by decide +kernel
    refine ite2 (fun c => ?_) (fun c => ?_)
    · have k0 : 0 < yy.length := by
        rcases Nat.eq_zero_or_pos yy.length with e | e
        · exfalso
          have ey : yy = Str.ofString "" := cs_inj (by
            have h1 : (cs yy).length = 0 := by rw [cs_length]; exact e
            have h2 : cs (Str.ofString "") = [] := by decide +kernel
            rw [h2]; exact List.eq_nil_of_length_eq_zero h1)
          rw [ey, decide_eq_true (rfl : V.str (Str.ofString "") = V.str (Str.ofString ""))] at c
          cases c
        · exact e
      have fl2 : (((Br.aft ks i).1 ++ [(i : Int)]).map V.int).length = (Br.aft ks i).1.length + 1 := by rw [List.length_map, List.length_append]; rfl
      refine ⟨_, rfl, pf, _, rfl, .inl (SqL.of hpf2), _, rfl, yy, rfl, by omega, _, _, rfl, rfl, ?_⟩
      have ek : (fun i j : Int => V.int (i - j)) ((((Br.aft ks i).1 ++ [(i : Int)]).map V.int).length : Nat) (yy.length : Nat) = V.int (((Br.aft ks i).1.length + 1 - yy.length : Nat) : Int) := by
        show V.int (((((Br.aft ks i).1 ++ [(i : Int)]).map V.int).length : Int) - (yy.length : Int)) = _
        rw [fl2]
        congr 1
        omega
      rw [ek]
      have st5 : Br.aft ks (i + 1) = (((Br.aft ks i).1 ++ [(i : Int)]).take ((Br.aft ks i).1.length + 1 - yy.length), (Br.aft ks i).2 ++ [((Br.aft ks i).1 ++ [(i : Int)]).drop ((Br.aft ks i).1.length + 1 - yy.length)]) := by
        rw [st2]
        unfold Br.stp
        rw [if_neg (show ¬ yy.length = 0 by omega)]
      generalize hkk : (Br.aft ks i).1.length + 1 - yy.length = kk at st5
      refine ⟨_, rfl, .inl ⟨rfl, _, SqL.of hpb2⟩, _, rfl, _, rfl, _, rfl, pf, _, rfl, SqL.of hpf2, fun p5 f5 => ⟨p5, _, rfl, .inl ⟨SqL.of upd_same, fun p6 f6 => ?_⟩⟩⟩
      have s5 := same_new f5 (.lst (cutV (((Br.aft ks i).1 ++ [(i : Int)]).map V.int) (some (kk : Int)) none))
      have s6 := same_new f6 (.tup (cutV (((Br.aft ks i).1 ++ [(i : Int)]).map V.int) (some (kk : Int)) none))
      have e6 : cutV (((Br.aft ks i).1 ++ [(i : Int)]).map V.int) (some (kk : Int)) none = (((Br.aft ks i).1 ++ [(i : Int)]).drop kk).map V.int := by rw [cut_from _ _ (by omega), List.map_drop]
      have blen := Tb2.length
      refine ⟨pb, _, _, rfl, rfl, s6 _ _ (s5 _ _ hpb2), by rw [List.length_map, blen]; omega, ?_⟩
      have g6 := upd_none f6
      have hb6 := s6 _ _ (s5 _ _ hpb2)
      have h46 := s6 _ _ (s5 _ _ h42)
      have hf6 := s6 _ _ (s5 _ _ hpf2)
      have ht6 : upd (upd H3 p5 (.lst (cutV (((Br.aft ks i).1 ++ [(i : Int)]).map V.int) (some (kk : Int)) none))) p6 (.tup (cutV (((Br.aft ks i).1 ++ [(i : Int)]).map V.int) (some (kk : Int)) none)) p6 = some (.tup ((((Br.aft ks i).1 ++ [(i : Int)]).drop kk).map V.int)) := by rw [upd_same, e6]
      have T6 := (Tb2.same (s5.trans s6)).append (.cons ht6 .nil)
      have hs6 := hs2.trans (s5.trans s6)
      generalize upd (upd H3 p5 (.lst (cutV (((Br.aft ks i).1 ++ [(i : Int)]).map V.int) (some (kk : Int)) none))) p6 (.tup (cutV (((Br.aft ks i).1 ++ [(i : Int)]).map V.int) (some (kk : Int)) none)) = H6 at hb6 h46 hf6 ht6 T6 hs6 ⊢
      have T7 := tup_keepL (o := .lst (bs.map V.ref ++ [V.ref p6])) T6 hb6
      have hs7 : Same H (upd H6 pb (.lst (bs.map V.ref ++ [V.ref p6]))) := same_but hs6 nb _
      have h47 : upd H6 pb (.lst (bs.map V.ref ++ [V.ref p6])) p4 = some (.lst (L.map V.str)) := by rw [upd_ne (Ne.symm n3)]; exact h46
      have hf7 : upd H6 pb (.lst (bs.map V.ref ++ [V.ref p6])) pf = some (.lst (((Br.aft ks i).1 ++ [(i : Int)]).map V.int)) := by rw [upd_ne n1]; exact hf6
      have hb7 : upd H6 pb (.lst (bs.map V.ref ++ [V.ref p6])) pb = some (.lst ((bs ++ [p6]).map V.ref)) := by rw [upd_same, List.map_append]; rfl
      generalize upd H6 pb (.lst (bs.map V.ref ++ [V.ref p6])) = H7 at T7 hs7 h47 hf7 hb7 ⊢
      refine ⟨_, rfl, _, rfl, _, rfl, pf, _, rfl, SqL.of hf7, fun p7 f7 => ?_⟩
      have s7 := same_new f7 (.lst (cutV (((Br.aft ks i).1 ++ [(i : Int)]).map V.int) none (some (kk : Int))))
      have e7 : cutV (((Br.aft ks i).1 ++ [(i : Int)]).map V.int) none (some (kk : Int)) = (((Br.aft ks i).1 ++ [(i : Int)]).take kk).map V.int := by rw [cut_to _ _ (by omega), List.map_take]
      have n7 : H p7 = none := by
        cases e : H p7 with
        | none => rfl
        | some o => rw [hs7 _ _ e] at f7; cases f7
      refine ⟨p7, pb, bs ++ [p6], _, _, _, rfl, hs7.trans s7, s7 _ _ h47, ?_, s7 _ _ hb7, ?_, n7, nb, fun e => ?_, fun e => ?_, n3⟩
      · rw [upd_same, st5, e7]
      · rw [st5]; exact T7.same s7
      · rw [e, hb7] at f7; cases f7
      · rw [e, h47] at f7; cases f7
    · have k0 : yy.length = 0 := by
        have c' : decide (V.str yy = V.str (Str.ofString "")) = true := by
          cases hd : decide (V.str yy = V.str (Str.ofString "")) with
          | true => rfl
          | false => rw [hd] at c; exact absurd rfl c
        rw [V.str.inj (of_decide_eq_true c')]
        exact c0
      have st5 : Br.aft ks (i + 1) = ((Br.aft ks i).1 ++ [(i : Int)], (Br.aft ks i).2) := by
        rw [st2]
        unfold Br.stp
        rw [if_pos k0]
      exact ⟨pf, pb, bs, _, _, _, rfl, hs2, h42, by rw [st5]; exact hpf2, hpb2, by rw [st5]; exact Tb2, nf, nb, n1, n2, n3⟩
  · rintro σ H1 ⟨pf, pb, bs, x3, x4, x5, rfl, hs, h4, hpf, hpb, Tb, nf, nb, n1, n2, n3⟩
    rw [List.length_map, hLl] at Tb
    obtain ⟨g, gl⟩ := Br.aft_good hf ks.length (Nat.le_refl _)
    have gp := g.perm
    have nd : (Br.aft ks ks.length).2.flatten.Nodup := (List.nodup_append.mp (gp.nodup_iff.mpr (Br.up_nd (Br.pts_up _)))).2.1
    have hne : ∀ B ∈ (Br.aft ks ks.length).2, B ≠ [] := fun B hB => (g.ups B hB).2
    have few := few_blocks hne
    have h2 := gp.length_eq
    rw [List.length_append, List.length_map, List.length_range] at h2
    refine ⟨_, rfl, pb, bs, _, rfl, SqL.of hpb, Tb, by omega, nd_blocks nd hne, hne, fun l as' ts' T' pm so hl => ?_⟩
    refine ⟨l, _, rfl, .inl ⟨SqL.of upd_same, fun l2 h2 => ?_⟩⟩
    exact q l2 as' ts' _ ((hs.trans (same_new hl _)).trans (same_new h2 _)) upd_same (T'.same ((same_new hl _).trans (same_new h2 _))) pm so
inductive El : V → Bool → Prop
  | int (i : Int) : El (.int i) true
  | bl (b : Bool) : El (.bl b) false
  | str (s : Str) : El (.str s) false
inductive Bl (H : Hp) : V → Option (List Int) → Prop
  | good {b : Addr} {t : List Int} : H b = some (.tup (t.map V.int)) → t ≠ [] → Bl H (.ref b) (some t)
  | empty {b : Addr} : H b = some (.tup []) → Bl H (.ref b) none
  | mixed {b : Addr} {xs : List V} {os : List Bool} : H b = some (.tup xs) → Paired El xs os → false ∈ os → xs.length ≤ 5 → Bl H (.ref b) none
  | lst {b : Addr} {xs : List V} : H b = some (.lst xs) → Bl H (.ref b) none
  | int (i : Int) : Bl H (.int i) none
inductive Bls (H : Hp) : List V → List (Option (List Int)) → Prop
  | nil : Bls H [] []
  | cons {x : V} {o : Option (List Int)} {xs : List V} {os : List (Option (List Int))} : Bl H x o → Bls H xs os → Bls H (x :: xs) (o :: os)
inductive Th (H : Hp) : V → Option (List (List Int)) → Prop
  | good {p : Addr} {as : List Addr} {ts : List (List Int)} : H p = some (.tup (as.map V.ref)) → TupI H as ts → (∀ t ∈ ts, t ≠ []) → ts.flatten.length ≤ 60 → Th H (.ref p) (some ts)
  | bad {p : Addr} {xs : List V} {os : List (Option (List Int))} : H p = some (.tup xs) → Bls H xs os → none ∈ os → xs.length ≤ 60 → (os.map fun o => (o.getD []).length).sum ≤ 60 → Th H (.ref p) none
  | non : Th H .non none
  | str (s : Str) : Th H (.str s) none
  | int (i : Int) : Th H (.int i) none
  | lst {p : Addr} {xs : List V} : H p = some (.lst xs) → Th H (.ref p) none
theorem Bl.same {H H' : Hp} {v : V} {o : Option (List Int)} (h : Bl H v o) (s : Same H H') : Bl H' v o := by
  cases h with
  | good h n => exact .good (s _ _ h) n
  | empty h => exact .empty (s _ _ h)
  | mixed h p n l => exact .mixed (s _ _ h) p n l
  | lst h => exact .lst (s _ _ h)
  | int i => exact .int i
theorem Bls.same {H H' : Hp} {xs : List V} {os : List (Option (List Int))} (h : Bls H xs os) (s : Same H H') : Bls H' xs os := by
  induction h with
  | nil => exact .nil
  | cons h _ ih => exact .cons (h.same s) ih
theorem Bls.length {H : Hp} {xs : List V} {os : List (Option (List Int))} (h : Bls H xs os) : xs.length = os.length := by
  induction h with
  | nil => rfl
  | cons _ _ ih => rw [List.length_cons, List.length_cons, ih]
theorem Bls.get {H : Hp} {xs : List V} {os : List (Option (List Int))} (h : Bls H xs os) : ∀ {i : Nat} {x : V}, xs[i]? = some x → ∃ o, os[i]? = some o ∧ Bl H x o := by
  induction h with
  | nil => intro i x e; simp at e
  | cons h _ ih =>
    intro i x e
    cases i with
    | zero => cases e; exact ⟨_, rfl, h⟩
    | succ i => exact ih (i := i) (by simpa using e)
theorem Th.same {H H' : Hp} {v : V} {o : Option (List (List Int))} (h : Th H v o) (s : Same H H') : Th H' v o := by
  cases h with
  | good h T n l => exact .good (s _ _ h) (T.same s) n l
  | bad h b n l l2 => exact .bad (s _ _ h) (b.same s) n l l2
  | non => exact .non
  | str z => exact .str z
  | int i => exact .int i
  | lst h => exact .lst (s _ _ h)
theorem tup_bls {H : Hp} {as : List Addr} {ts : List (List Int)} (T : TupI H as ts) : (∀ t ∈ ts, t ≠ []) → Bls H (as.map V.ref) (ts.map some) := by
  induction T with
  | nil => intro _; exact .nil
  | cons h _ ih => intro hn; exact .cons (.good h (hn _ List.mem_cons_self)) (ih fun t ht => hn t (List.mem_cons_of_mem _ ht))
structure Kits (K : PySem.W.Frag) : Prop where
  ii : PySem.W.kitOne K (.type "int") (.type "int") = some true
  ib : PySem.W.kitOne K (.type "int") (.type "bool") = some false
  bi : PySem.W.kitOne K (.type "bool") (.type "int") = some true
  bb : PySem.W.kitOne K (.type "bool") (.type "bool") = some true
  si : PySem.W.kitOne K (.type "str") (.type "int") = some false
  tt : PySem.W.kitOne K (.type "tuple") (.type "tuple") = some true
  lt : PySem.W.kitOne K (.type "list") (.type "tuple") = some false
  it : PySem.W.kitOne K (.type "int") (.type "tuple") = some false
  st : PySem.W.kitOne K (.type "str") (.type "tuple") = some false
  nt : PySem.W.kitOne K (.type "NoneType") (.type "tuple") = some false
def spPt : Sp := fun vs H Q _ => ∃ (v : V) (b : Bool), vs = [v] ∧ El v b ∧ Q (.bl b) H
theorem scPoint : FnScope ["thing"] ["thing"] (defScope st_is_point) := ⟨rfl, rfl, rfl, by decide +kernel, rfl, by decide +kernel, by decide +kernel⟩
theorem ok_point (F : Fun K "is_point" "is_point" st_is_point f fd) (mi : mg "isinstance" = none) (m1 : mg "int" = none) (m2 : mg "bool" = none) (k : Kits K) : FnOk P w K mg base (CX1 P w) 1 f fd ["thing"] spPt := by
  refine F.ok1 scPoint (fun vs H Q E h => ?_) (fun cdv A outer s H vs Q E hr h => ?_)
  · obtain ⟨_, _, rfl, _⟩ := h
    rfl
  obtain ⟨v, b, rfl, el, q⟩ := h
  refine ⟨_, pss_one (ps_ret (pe_and (pe_callB (call_isinst (.ty "int") (.type "int") fun _ e => e) rfl mi PyProof.Rows.boot_isinstance (pa_cons (pv 0) (pa_cons (pe_bltn (v := .ty "int") rfl m1 PyProof.Rows.boot_int rfl) pa_nil)))
    (pe_one (pe_not (pe_callB (call_isinst (.ty "bool") (.type "bool") fun _ e => e) rfl mi PyProof.Rows.boot_isinstance (pa_cons (pv 0) (pa_cons (pe_bltn (v := .ty "bool") rfl m2 PyProof.Rows.boot_bool rfl) pa_nil))))))), ?_⟩
  cases el with
  | int i =>
    refine ⟨_, rfl, _, _, _, rfl, .int i, k.ii, _, rfl, ?_⟩
    refine iteT ?_
    exact ⟨_, rfl, _, _, _, rfl, .int i, k.ib, _, rfl, q⟩
  | bl b =>
    refine ⟨_, rfl, _, _, _, rfl, .bl b, k.bi, _, rfl, ?_⟩
    refine iteT ?_
    exact ⟨_, rfl, _, _, _, rfl, .bl b, k.bb, _, rfl, q⟩
  | str s =>
    refine ⟨_, rfl, _, _, _, rfl, .str s, k.si, _, rfl, ?_⟩
    exact iteF q
theorem scWhole : FnScope ["_law_found"] ["_law_found"] (defScope st__law_whole) := ⟨rfl, rfl, rfl, by decide +kernel, rfl, by decide +kernel, by decide +kernel⟩
theorem ok_lwh (F : Fun K "_law_whole" "_law_whole" st__law_whole f fd) (mi : mg "isinstance" = none) (m1 : mg "int" = none) (m2 : mg "bool" = none) (k : Kits K) : FnOk P w K mg base (CX1 P w) 1 f fd ["_law_found"] spPt := by
  refine F.ok1 scWhole (fun vs H Q E h => ?_) (fun cdv A outer s H vs Q E hr h => ?_)
  · obtain ⟨_, _, rfl, _⟩ := h
    rfl
  obtain ⟨v, b, rfl, el, q⟩ := h
  refine ⟨_, pss_one (ps_ret (pe_and (pe_callB (call_isinst (.ty "int") (.type "int") fun _ e => e) rfl mi PyProof.Rows.boot_isinstance (pa_cons (pv 0) (pa_cons (pe_bltn (v := .ty "int") rfl m1 PyProof.Rows.boot_int rfl) pa_nil)))
    (pe_one (pe_not (pe_callB (call_isinst (.ty "bool") (.type "bool") fun _ e => e) rfl mi PyProof.Rows.boot_isinstance (pa_cons (pv 0) (pa_cons (pe_bltn (v := .ty "bool") rfl m2 PyProof.Rows.boot_bool rfl) pa_nil))))))), ?_⟩
  cases el with
  | int i =>
    refine ⟨_, rfl, _, _, _, rfl, .int i, k.ii, _, rfl, ?_⟩
    refine iteT ?_
    exact ⟨_, rfl, _, _, _, rfl, .int i, k.ib, _, rfl, q⟩
  | bl b =>
    refine ⟨_, rfl, _, _, _, rfl, .bl b, k.bi, _, rfl, ?_⟩
    refine iteT ?_
    exact ⟨_, rfl, _, _, _, rfl, .bl b, k.bb, _, rfl, q⟩
  | str s =>
    refine ⟨_, rfl, _, _, _, rfl, .str s, k.si, _, rfl, ?_⟩
    exact iteF q
theorem el_ints : ∀ t : List Int, Paired El (t.map V.int) (t.map fun _ => true)
  | [] => .nil
  | x :: t => .cons (.int x) (el_ints t)
theorem el_get {xs : List V} {os : List Bool} (h : Paired El xs os) : ∀ {i : Nat} {x : V}, xs[i]? = some x → ∃ o, os[i]? = some o ∧ El x o := by
  induction h with
  | nil => intro i x e; simp at e
  | cons h _ ih =>
    intro i x e
    cases i with
    | zero => cases e; exact ⟨_, rfl, h⟩
    | succ i => exact ih (i := i) (by simpa using e)
theorem all_trues (t : List Int) : (t.map fun _ => true).all id = true := by
  rw [List.all_eq_true]
  intro x hx
  obtain ⟨_, _, rfl⟩ := List.mem_map.mp hx
  rfl
theorem all_false {os : List Bool} (h : false ∈ os) : os.all id = false := by
  rw [List.all_eq_false]
  exact ⟨false, h, Bool.false_ne_true⟩
theorem Bl.kind {H : Hp} {v : V} {o : Option (List Int)} (bl : Bl H v o) (k : Kits K) : (∃ b xs os, v = .ref b ∧ H b = some (.tup xs) ∧ Paired El xs os ∧ (xs.length ≤ (o.getD []).length ∨ xs.length ≤ 5) ∧ o.isSome = (decide (0 < xs.length) && os.all id)) ∨ ∃ T, TyOf K H v T ∧ PySem.W.kitOne K T (.type "tuple") = some false ∧ o = none := by
  cases bl with
  | @good b t h n =>
    refine .inl ⟨b, _, _, rfl, h, el_ints t, .inl (by rw [List.length_map]; exact Nat.le_refl _), ?_⟩
    have hl : 0 < (t.map V.int).length := by
      rw [List.length_map]
      rcases Nat.eq_zero_or_pos t.length with e | e
      · exact absurd (List.eq_nil_of_length_eq_zero e) n
      · exact e
    rw [decide_eq_true hl, all_trues]; rfl
  | @empty b h => exact .inl ⟨b, [], [], rfl, h, .nil, .inr (Nat.zero_le _), rfl⟩
  | @mixed b xs os h p n l => exact .inl ⟨b, xs, os, rfl, h, p, .inr l, by rw [all_false n, Bool.and_false]; rfl⟩
  | lst h => exact .inr ⟨_, .lst h, k.lt, rfl⟩
  | int i => exact .inr ⟨_, .int i, k.it, rfl⟩
theorem Th.kind {H : Hp} {v : V} {o : Option (List (List Int))} (th : Th H v o) (k : Kits K) : (∃ b xs os, v = .ref b ∧ H b = some (.tup xs) ∧ Bls H xs os ∧ xs.length ≤ 60 ∧ (os.map fun o => (o.getD []).length).sum ≤ 60 ∧ o.isSome = (os.map Option.isSome).all id) ∨ ∃ T, TyOf K H v T ∧ PySem.W.kitOne K T (.type "tuple") = some false ∧ o = none := by
  cases th with
  | @good p as ts h T n l =>
    have few := few_blocks n
    have hs : ((ts.map some).map fun o : Option (List Int) => (o.getD []).length).sum = ts.flatten.length := by
      rw [List.map_map, List.length_flatten]
      rfl
    refine .inl ⟨p, _, _, rfl, h, tup_bls T n, by rw [List.length_map, T.length]; omega, by rw [hs]; exact l, ?_⟩
    rw [List.map_map]
    have : ((ts.map (Option.isSome ∘ some)).all id) = true := by
      rw [List.all_eq_true]
      intro x hx
      obtain ⟨_, _, rfl⟩ := List.mem_map.mp hx
      rfl
    rw [this]; rfl
  | @bad p xs os h b n l l2 =>
    refine .inl ⟨p, xs, os, rfl, h, b, l, l2, ?_⟩
    rw [all_false (List.mem_map.mpr ⟨none, n, rfl⟩)]; rfl
  | non => exact .inr ⟨_, .non, k.nt, rfl⟩
  | str z => exact .inr ⟨_, .str z, k.st, rfl⟩
  | int i => exact .inr ⟨_, .int i, k.it, rfl⟩
  | lst h => exact .inr ⟨_, .lst h, k.lt, rfl⟩
theorem sum_le {os : List (Option (List Int))} {i : Nat} {o : Option (List Int)} (h : os[i]? = some o) (hs : (os.map fun o => (o.getD []).length).sum ≤ 60) : (o.getD []).length ≤ 60 := by
  induction os generalizing i with
  | nil => simp at h
  | cons a os ih =>
    rw [List.map_cons, List.sum_cons] at hs
    cases i with
    | zero => cases h; omega
    | succ i => exact ih (by simpa using h) (by omega)
def spIsBlock : Sp := fun vs H Q _ => ∃ (v : V) (o : Option (List Int)), vs = [v] ∧ Bl H v o ∧ (o.getD []).length ≤ 60 ∧ ∀ H', Same H H' → Q (.bl o.isSome) H'
theorem scIsBlock : FnScope ["thing"] ["thing"] (defScope st_is_block) := ⟨rfl, rfl, rfl, by decide +kernel, rfl, by decide +kernel, by decide +kernel⟩
theorem ok_isblock (F : Fun K "is_block" "is_block" st_is_block f fd) (hPt : Has P w K mg base 1 "is_point" ["thing"] spPt) (mi : mg "isinstance" = none) (mt : mg "tuple" = none) (ml : mg "len" = none) (ma : mg "all" = none) (k : Kits K) : FnOk P w K mg base (CX1 P w) 2 f fd ["thing"] spIsBlock := by
  refine F.ok1 scIsBlock (fun vs H Q E h => ?_) (fun cdv A outer s H vs Q E hr h => ?_)
  · obtain ⟨_, _, rfl, _⟩ := h
    rfl
  obtain ⟨v, o, rfl, bl, hl, q⟩ := h
  have s1k := small1000 (n := 1000) (by omega)
  refine ⟨_, pss_one (ps_ret (pe_and (pe_callB (call_isinst (.ty "tuple") (.type "tuple") fun _ e => e) rfl mi PyProof.Rows.boot_isinstance (pa_cons (pv 0) (pa_cons (pe_bltn (v := .ty "tuple") rfl mt PyProof.Rows.boot_tuple rfl) pa_nil)))
    (pe_and (pe_cmpR op_gt (pe_callB call_len_seq rfl ml PySem.boot_len (pa_cons (pv 0) pa_nil)) pe_int (nomark _))
      (pe_one (pe_callB (call_all rfl) rfl ma (by decide +kernel) (pa_cons
        (pe_comp (esc := defScope st_is_block) (EN := ["thing"]) (N := ["point", "thing"]) ⟨by rfl, by decide +kernel, by decide +kernel, by rfl, by decide +kernel, by rfl, by decide +kernel, by rfl, by decide +kernel⟩ rfl rfl rfl
          (pi_tup (pv 0)) (fun _ _ _ _ _ _ => pifs_nil) (fun _ _ _ _ _ _ => pe_callH hPt hr pass1 (pa_cons (pv 0) pa_nil))) pa_nil)))))), ?_⟩
  rcases bl.kind k with ⟨b, xs, os, rfl, hb, pe, hx, ho⟩ | ⟨T, ty, kt, rfl⟩
  · rw [ho] at q
    have hx2 : xs.length ≤ 60 := by
      rcases hx with h | h
      · omega
      · omega
    refine ⟨_, rfl, _, _, _, rfl, .tup hb, k.tt, _, rfl, ?_⟩
    refine iteT ?_
    refine ⟨_, rfl, b, xs, rfl, .inr (SqT.of hb), _, _, rfl, rfl, _, rfl, ?_⟩
    refine ite2 (fun c => ?_) (fun c => ?_)
    · have c' : 0 < xs.length := by have := of_decide_eq_true c; omega
      rw [decide_eq_true c', Bool.true_and] at q
      refine ⟨_, rfl, b, rfl, ⟨_, SqT.of hb⟩, fun D hD => ?_⟩
      refine comp_tup (xs := xs) (fun i ys H' => Same H H' ∧ ys = (os.take i).map V.bl ∧ H' D = some (.lst ys)) ⟨same_new hD _, rfl, upd_same⟩ ?_ ?_ ?_
      · rintro i ys H' _ ⟨hs, _⟩
        exact SqT.of (hs _ _ hb)
      · rintro i x ys H1 hx1 ⟨hs, rfl, hD1⟩
        obtain ⟨o', ho', el⟩ := el_get pe hx1
        refine ⟨_, rfl, x, o', rfl, el, hD1, ?_, fun c o ec => ?_, ?_, upd_same⟩
        · have := (List.getElem?_eq_some_iff.mp hx1).1
          rw [List.length_map, List.length_take]; omega
        · rw [upd_ne (ne_of_none ec hD)]; exact hs c o ec
        · rw [List.take_add_one, ho', List.map_append]; rfl
      · rintro ys H1 ⟨hs, rfl, hD1⟩
        rw [List.take_of_length_le (by rw [Paired.length pe]; omega)] at hD1
        exact ⟨D, os, rfl, SqL.of hD1, q H1 hs⟩
    · have c' : ¬ 0 < xs.length := fun z => c (decide_eq_true (by omega))
      have := q H (Same.refl _)
      rw [decide_eq_false c', Bool.false_and] at this
      exact this
  · refine ⟨_, rfl, _, _, _, rfl, ty, kt, _, rfl, ?_⟩
    exact iteF (q H (Same.refl _))
def spHas : Sp := fun vs H Q _ => ∃ (v : V) (o : Option (List (List Int))), vs = [v] ∧ Th H v o ∧ ∀ H', Same H H' → Q (.bl o.isSome) H'
theorem scHas : FnScope ["thing"] ["thing"] (defScope st_has_blocks) := ⟨rfl, rfl, rfl, by decide +kernel, rfl, by decide +kernel, by decide +kernel⟩
theorem ok_has (F : Fun K "has_blocks" "has_blocks" st_has_blocks f fd) (hBl : Has P w K mg base 2 "is_block" ["thing"] spIsBlock) (mi : mg "isinstance" = none) (mt : mg "tuple" = none) (ma : mg "all" = none) (k : Kits K) : FnOk P w K mg base (CX1 P w) 3 f fd ["thing"] spHas := by
  refine F.ok1 scHas (fun vs H Q E h => ?_) (fun cdv A outer s H vs Q E hr h => ?_)
  · obtain ⟨_, _, rfl, _⟩ := h
    rfl
  obtain ⟨v, o, rfl, th, q⟩ := h
  have s1k := small1000 (n := 1000) (by omega)
  refine ⟨_, pss_one (ps_ret (pe_and (pe_callB (call_isinst (.ty "tuple") (.type "tuple") fun _ e => e) rfl mi PyProof.Rows.boot_isinstance (pa_cons (pv 0) (pa_cons (pe_bltn (v := .ty "tuple") rfl mt PyProof.Rows.boot_tuple rfl) pa_nil)))
      (pe_one (pe_callB (call_all rfl) rfl ma (by decide +kernel) (pa_cons
        (pe_comp (esc := defScope st_has_blocks) (EN := ["thing"]) (N := ["block", "thing"]) ⟨by rfl, by decide +kernel, by decide +kernel, by rfl, by decide +kernel, by rfl, by decide +kernel, by rfl, by decide +kernel⟩ rfl rfl rfl
          (pi_tup (pv 0)) (fun _ _ _ _ _ _ => pifs_nil) (fun _ _ _ _ _ _ => pe_callH hBl hr pass1 (pa_cons (pv 0) pa_nil))) pa_nil))))), ?_⟩
  rcases th.kind k with ⟨b, xs, os, rfl, hb, bs, hx, hsum, ho⟩ | ⟨T, ty, kt, rfl⟩
  · rw [ho] at q
    refine ⟨_, rfl, _, _, _, rfl, .tup hb, k.tt, _, rfl, ?_⟩
    refine iteT ?_
    refine ⟨_, rfl, b, rfl, ⟨_, SqT.of hb⟩, fun D hD => ?_⟩
    refine comp_tup (xs := xs) (fun i ys H' => Same H H' ∧ ys = ((os.take i).map Option.isSome).map V.bl ∧ H' D = some (.lst ys)) ⟨same_new hD _, rfl, upd_same⟩ ?_ ?_ ?_
    · rintro i ys H' _ ⟨hs, _⟩
      exact SqT.of (hs _ _ hb)
    · rintro i x ys H1 hx1 ⟨hs, rfl, hD1⟩
      obtain ⟨o', ho', bl⟩ := bs.get hx1
      refine ⟨_, rfl, x, o', rfl, bl.same hs, sum_le ho' hsum, fun H2 s2 => ⟨s2 _ _ hD1, ?_, fun c o ec => ?_, ?_, upd_same⟩⟩
      · have := (List.getElem?_eq_some_iff.mp hx1).1
        rw [List.length_map, List.length_map, List.length_take]; omega
      · rw [upd_ne (ne_of_none ec hD)]; exact s2 _ _ (hs c o ec)
      · rw [List.take_add_one, ho', List.map_append, List.map_append]; rfl
    · rintro ys H1 ⟨hs, rfl, hD1⟩
      rw [List.take_of_length_le (by rw [bs.length]; omega)] at hD1
      exact ⟨D, _, rfl, SqL.of hD1, q H1 hs⟩
  · refine ⟨_, rfl, _, _, _, rfl, ty, kt, _, rfl, ?_⟩
    exact iteF (q H (Same.refl _))
theorem room_u {k : Nat} {A : Around} (hr : Room k A) : A.units + 200 < cLine := by have := hr.un; omega
theorem cs_mul41 (k : Nat) : cs (Txt.mul (Str.ofString ")") (k : Int)) = List.replicate k 41 := by
  rw [par_r]
  unfold Txt.mul
  by_cases h0 : (k : Int) < 1
  · have e : k = 0 := by omega
    subst e
    rw [if_pos h0]; rfl
  · rw [if_neg h0]
    by_cases h1 : k = 1
    · subst h1
      rfl
    · have e1 : (((k : Int) == 1) || ((⟨#[41]⟩ : Str).length == 0)) = false := by
        have : ((k : Int) == 1) = false := by simpa using (by omega : ¬ (k : Int) = 1)
        rw [this]; rfl
      rw [if_neg (by rw [e1]; exact Bool.false_ne_true)]
      have ek : ((k : Int)).toNat = k := by omega
      rw [ek]
      show ((List.replicate k #[41]).foldl (· ++ ·) #[]).toList = _
      have key : ∀ (k : Nat) (a : Array Nat), ((List.replicate k #[41]).foldl (· ++ ·) a).toList = a.toList ++ List.replicate k 41 := by
        intro k
        induction k with
        | zero => intro a; simp
        | succ k ih =>
          intro a
          rw [List.replicate_succ, List.foldl_cons, ih, Array.toList_append, List.append_assoc, List.replicate_succ]
          rfl
      rw [key]; rfl
def kvL (ts : List (List Int)) : List (Key × V) := ts.foldl (fun kvs B => putK kvs (.inl (B.getLastD 0)) (.int (B.length : Nat))) []
theorem kvL_snoc (ts : List (List Int)) (B : List Int) : kvL (ts ++ [B]) = putK (kvL ts) (.inl (B.getLastD 0)) (.int (B.length : Nat)) := by unfold kvL; rw [List.foldl_append]; rfl
theorem kvL_len (ts : List (List Int)) : (kvL ts).length ≤ ts.length := by
  have key : ∀ (l : List (List Int)) (kvs : List (Key × V)), (l.foldl (fun kvs B => putK kvs (.inl (B.getLastD 0)) (.int (B.length : Nat))) kvs).length ≤ kvs.length + l.length := by
    intro l
    induction l with
    | nil => intro kvs; exact Nat.le_refl _
    | cons B l ih =>
      intro kvs
      have := ih (putK kvs (.inl (B.getLastD 0)) (V.int (B.length : Nat)))
      have := length_putK kvs (Sum.inl (B.getLastD 0)) (V.int (B.length : Nat))
      rw [List.foldl_cons, List.length_cons]
      omega
  have h := key ts []
  rw [List.length_nil, Nat.zero_add] at h
  exact h
theorem kvL_at (i : Int) : ∀ n (ts : List (List Int)), ts.length = n → (valV (kvL ts) (.inl i)).getD (.int 0) = .int (Br.kfn ts i : Nat)
  | 0, ts, h => by
    have e := List.eq_nil_of_length_eq_zero h
    subst e
    rfl
  | n + 1, ts, h => by
    have hne : ts ≠ [] := fun e => by rw [e] at h; cases h
    have sp := List.dropLast_concat_getLast hne
    rw [← sp, kvL_snoc, valV_put]
    unfold Br.kfn
    rw [List.reverse_append, List.reverse_singleton, List.singleton_append, List.find?_cons]
    by_cases e : (ts.getLast hne).getLastD 0 = i
    · rw [decide_eq_true e, if_pos (by rw [e])]; rfl
    · rw [decide_eq_false e, if_neg (fun z => e (Sum.inl.inj z).symm)]
      have := kvL_at i n ts.dropLast (by rw [List.length_dropLast]; omega)
      rw [this]
      rfl
theorem last_at {t : List Int} (h : t ≠ []) : atI (t.map V.int) (-1) = some (.int (t.getLastD 0)) := by
  have sp := List.dropLast_concat_getLast h
  have e : t.getLastD 0 = t.getLast h := by rw [List.getLastD_eq_getLast?, List.getLast?_eq_some_getLast h]; rfl
  rw [e]
  conv => lhs; rw [← sp]
  rw [List.map_append]
  exact atI_last _ _
def spShut : Sp := fun vs H Q _ => ∃ (p : Addr) (as : List Addr) (ts : List (List Int)), vs = [.ref p] ∧ H p = some (.tup (as.map V.ref)) ∧ TupI H as ts ∧ (∀ t ∈ ts, t ≠ []) ∧ ts.flatten.length ≤ 60 ∧ ∀ z H', Same H H' → cs z = Br.rowK (Br.ksT ts) → Q (.str z) H'
abbrev SHN : List Str := ["blocks", "lengths", "block", "points"]
theorem scShut : FnScope SHN ["blocks"] (defScope st_shut_behind_last_points) := ⟨rfl, rfl, rfl, by decide +kernel, rfl, by decide +kernel, by decide +kernel⟩
theorem kfn_le {ts : List (List Int)} (i : Int) : Br.kfn ts i ≤ ts.flatten.length := by
  unfold Br.kfn
  cases e : ts.reverse.find? fun B => decide (B.getLastD 0 = i) with
  | none => exact Nat.zero_le _
  | some B =>
    have hm := List.mem_reverse.mp (List.mem_of_find?_eq_some e)
    rw [List.length_flatten]
    have : ∀ (l : List (List Int)), B ∈ l → B.length ≤ (l.map List.length).sum := by
      intro l
      induction l with
      | nil => intro h; cases h
      | cons C l ih =>
        intro h
        rw [List.map_cons, List.sum_cons]
        rcases List.mem_cons.mp h with rfl | h
        · omega
        · have := ih h; omega
    exact this ts hm
set_option maxHeartbeats 2000000 in
theorem ok_shut (F : Fun K "shut_behind_last_points" "shut_behind_last_points" st_shut_behind_last_points f fd) (ml : mg "len" = none) (msum : mg "sum" = none) (mr : mg "range" = none) : FnOk P w K mg base (CX1 P w) 1 f fd ["blocks"] spShut := by
  refine F.ok1 scShut (fun vs H Q E h => ?_) (fun cdv A outer s H vs Q E hr h => ?_)
  · obtain ⟨_, _, _, rfl, _⟩ := h
    rfl
  obtain ⟨p, as, ts, rfl, hp, T, hne, h60, q⟩ := h
  have hu := room_u hr
  have hu1 := Nat.lt_of_le_of_lt (Nat.add_le_add_left (show 1 ≤ 200 by decide) _) hu
  have s1k := small1000 (n := 1000) (by omega)
  have few := few_blocks hne
  have tl := T.length
  refine ⟨_, pss_cons (ps_set (i := 1) scShut.nd rfl (Or.inr rfl) pe_dnewK)
    (pss_cons (ps_for PassesOwn.never rfl (pi_tup (pv 0)) (pg_name (i := 2) scShut.nd rfl (Or.inl rfl))
      (pss_one (ps_dput hu1 (pv 1) (pe_ix ix_tup (pv 2) (pe_un un_neg pe_int) (fun _ _ => rfl)) (pe_callB call_len_seq rfl ml PySem.boot_len (pa_cons (pv 2) pa_nil)) rfl)))
    (pss_cons (ps_set (i := 3) scShut.nd rfl (Or.inl rfl) (pe_callB (call_sumL rfl) rfl msum (by decide +kernel) (pa_cons
        (pe_comp (esc := defScope st_shut_behind_last_points) (EN := SHN) (N := ["block", "blocks", "lengths", "#", "points"]) ⟨by rfl, by decide +kernel, by decide +kernel, by rfl, by decide +kernel, by rfl, by decide +kernel, by rfl, by decide +kernel⟩ rfl rfl rfl
          (pi_tup (pv 0)) (fun _ _ _ _ _ _ => pifs_nil) (fun _ _ _ _ _ _ => pe_callB (call_lenK (K := K) rfl) rfl ml PySem.boot_len (pa_cons (pv 0) pa_nil))) pa_nil)))
    (pss_one (ps_ret (pe_bm PySem.F.plainAttrs_str PySem.F.slot_str_join PySem.F.type_str_join mt_join pe_str (pa_cons
        (pe_comp (esc := defScope st_shut_behind_last_points) (EN := SHN) (N := "point" :: SHN) ⟨by rfl, by decide +kernel, by decide +kernel, by rfl, by decide +kernel, by rfl, by decide +kernel, by rfl, by decide +kernel⟩ rfl rfl rfl
          (pi_range1 rfl mr (pa_cons (pv 3) pa_nil)) (fun _ _ _ _ _ _ => pifs_nil)
          (fun _ _ _ _ _ _ => pe_op op_add_str pe_str (pe_op op_repS pe_str (pe_dget2 hu1 (pv 2) (pv 0) pe_int ⟨rfl, rfl, rfl, rfl⟩)))) pa_nil)))))), ?_⟩
  refine fun a fa => ⟨_, rfl, p, rfl, ⟨_, SqT.of (same_new fa _ _ _ hp)⟩, for_tup (xs := as.map V.ref) (fun i σ H' => (∃ x2, σ = [some (.ref p), some (.ref a), x2, none]) ∧ Same H H' ∧ H' a = some (.dK (kvL (ts.take i)))) ⟨⟨none, rfl⟩, same_new fa _, upd_same⟩ ?_ ?_ ?_⟩
  · rintro i σ H1 _ ⟨_, hs1, _⟩
    exact SqT.of (hs1 _ _ hp)
  · rintro i x σ H1 hx ⟨⟨x2, rfl⟩, hs1, ha⟩
    obtain ⟨b, u, rfl, hu2, hb⟩ := TupI_at' T hx
    have hi : i < ts.length := (List.getElem?_eq_some_iff.mp hu2).1
    have hun := hne u (List.mem_of_getElem? hu2)
    have hb1 := hs1 _ _ hb
    have kl := kvL_len (ts.take i)
    rw [List.length_take] at kl
    refine ⟨_, rfl, b, _, rfl, .inr (SqT.of hb1), _, rfl, _, rfl, 1, rfl, b, _, _, _, rfl, rfl, SqT.of hb1, last_at hun, a, _, rfl, DPut.k (k := .inl (u.getLastD 0)) ha (by omega), ⟨_, rfl⟩, same_but hs1 fa _, ?_⟩
    rw [upd_same, List.take_add_one, hu2, Option.toList_some, kvL_snoc, List.length_map]
  · rintro σ H1 ⟨⟨x2, rfl⟩, hs1, ha⟩
    rw [List.length_map, tl, List.take_length] at ha
    have hp1 := hs1 _ _ hp
    have T1 := T.same hs1
    refine ⟨_, rfl, p, rfl, ⟨_, SqT.of hp1⟩, fun D hD => ?_⟩
    refine comp_tup (xs := as.map V.ref) (fun i ys H' => Same H1 H' ∧ ys = ((ts.take i).map fun t => ((t.length : Nat) : Int)).map V.int ∧ H' D = some (.lst ys)) ⟨same_new hD _, rfl, upd_same⟩ ?_ ?_ ?_
    · rintro i ys H2 _ ⟨hs2, _⟩
      exact SqT.of (hs2 _ _ hp1)
    · rintro i x ys H2 hx ⟨hs2, rfl, hD2⟩
      obtain ⟨b, u, rfl, hu2, hb⟩ := TupI_at' T1 hx
      have hi : i < ts.length := (List.getElem?_eq_some_iff.mp hu2).1
      refine ⟨_, rfl, b, _, rfl, .inr (SqT.of (hs2 _ _ hb)), hD2, ?_, fun c o ec => ?_, ?_, upd_same⟩
      · rw [List.length_map, List.length_map, List.length_take]; omega
      · rw [upd_ne (ne_of_none ec hD)]; exact hs2 c o ec
      · rw [List.take_add_one, hu2, Option.toList_some, List.map_append, List.map_append, List.length_map]; rfl
    · rintro ys H2 ⟨hs2, rfl, hD2⟩
      rw [List.length_map, tl, List.take_length] at hD2
      have esum : (ts.map fun t => ((t.length : Nat) : Int)).sum = ((ts.flatten.length : Nat) : Int) := by
        rw [List.length_flatten]
        generalize ts = l
        induction l with
        | nil => rfl
        | cons x l ih => rw [List.map_cons, List.sum_cons, List.map_cons, List.sum_cons, ih, Int.natCast_add]
      refine ⟨D, _, rfl, SqL.of hD2, ?_⟩
      rw [esum]
      have ha2 := hs2 _ _ ha
      refine ⟨rfl, _, rfl, _, rfl, by omega, by omega, fun D2 hDn => ?_⟩
      have en : (((ts.flatten.length : Nat) : Int)).toNat = ts.flatten.length := by omega
      rw [en]
      refine comp_range (fun i ys H' => Same H2 H' ∧ ∃ ss : List Str, ys = ss.map V.str ∧ ss.map cs = ((List.range i).map fun (j : Nat) => 40 :: List.replicate (Br.kfn ts j) 41) ∧ H' D2 = some (.lst ys)) ⟨same_new hDn _, [], rfl, rfl, upd_same⟩ ?_ ?_
      · rintro i ys H3 hi ⟨hs3, ss, rfl, ess, hD3⟩
        have e0 : (0 : Int) + (i : Int) = ((i : Nat) : Int) := by omega
        rw [e0]
        have ha3 := hs3 _ _ ha2
        have kle := kfn_le (ts := ts) (i : Int)
        have kv := kvL_at (i : Int) ts.length ts rfl
        refine ⟨_, rfl, a, rfl, .inl ⟨_, .inl ha3⟩, _, rfl, _, DGet.k (k := .inl (i : Int)) ha3, ?_⟩
        rw [kv]
        have l2 : (Str.ofString ")").length = 1 := by decide +kernel
        have l1 : (Str.ofString "(").length = 1 := by decide +kernel
        have cm := cs_mul41 (Br.kfn ts (i : Int))
        refine ⟨_, _, rfl, rfl, by omega, by omega, by rw [l2]; omega, ?_⟩
        generalize Txt.mul (Str.ofString ")") ((Br.kfn ts (i : Int) : Nat) : Int) = mz at cm
        have lm : mz.length = Br.kfn ts (i : Int) := by rw [← cs_length, cm, List.length_replicate]
        refine ⟨_, _, rfl, rfl, by rw [l1, lm]; omega, hD3, ?_, fun c o ec => ?_, ss ++ [Str.ofString "(" ++ mz], by rw [List.map_append]; rfl, ?_, upd_same⟩
        · have := congrArg List.length ess
          rw [List.length_map, List.length_map, List.length_range] at this
          rw [List.length_map]; omega
        · rw [upd_ne (ne_of_none ec hDn)]; exact hs3 c o ec
        · rw [List.map_append, ess, List.range_succ, List.map_append]
          congr 1
          show [cs (Str.ofString "(" ++ mz)] = [_]
          rw [cs_append, cm, par_l]
          rfl
      · rintro ys H3 ⟨hs3, ss, rfl, ess, hD3⟩
        have l0 : (Str.ofString "").length = 0 := by decide +kernel
        have sl : (ss.map (·.length)).sum + ss.length * (Str.ofString "").length ≤ 16777216 := by
          have b1 : ∀ y ∈ ss, y.length ≤ 61 := fun y hy => by
            have hm : cs y ∈ ss.map cs := List.mem_map_of_mem hy
            rw [ess] at hm
            obtain ⟨j, _, ej⟩ := List.mem_map.mp hm
            have := kfn_le (ts := ts) (j : Int)
            rw [← cs_length, ← ej, List.length_cons, List.length_replicate]
            omega
          have b2 : ss.length = ts.flatten.length := by
            have := congrArg List.length ess
            rw [List.length_map, List.length_map, List.length_range] at this
            exact this
          have b3 : ∀ l : List Str, (∀ y ∈ l, y.length ≤ 61) → (l.map (·.length)).sum ≤ 61 * l.length := by
            intro l
            induction l with
            | nil => intro _; exact Nat.le_refl _
            | cons y l ih =>
              intro h
              have h1 := h y List.mem_cons_self
              have h2 := ih fun z hz => h z (List.mem_cons_of_mem _ hz)
              rw [List.map_cons, List.sum_cons, List.length_cons]
              omega
          have := b3 ss b1
          rw [l0]
          omega
        refine ⟨_, D2, ss, rfl, rfl, SqL.of hD3, sl, q _ H3 ((hs1.trans hs2).trans hs3) ?_⟩
        rw [no_sign, cs_join, ess]
        unfold Br.rowK Br.ksT
        rw [List.flatMap_map]
        rfl
theorem Br.sum_pt (c : Int) (k : Nat) : ∀ n : Nat, ((List.range n).map fun (p : Nat) => if (p : Int) = c then k else 0).sum ≤ (if 0 ≤ c ∧ c < n then k else 0)
  | 0 => by simp
  | n + 1 => by
    rw [List.range_succ, List.map_append, List.sum_append]
    have := Br.sum_pt c k n
    simp only [List.map_cons, List.map_nil, List.sum_cons, List.sum_nil, Nat.add_zero]
    split at this <;> split <;> split <;> omega
theorem Br.kfn_sum (ts : List (List Int)) (n : Nat) : ((List.range n).map fun (p : Nat) => Br.kfn ts p).sum ≤ ts.flatten.length := by
  have key : ∀ rs : List (List Int), ((List.range n).map fun (p : Nat) => match rs.find? fun B => decide (B.getLastD 0 = (p : Int)) with | some B => B.length | none => 0).sum ≤ (rs.map List.length).sum := by
    intro rs
    induction rs with
    | nil =>
      generalize List.range n = l
      induction l with
      | nil => exact Nat.le_refl _
      | cons x l ih =>
        rw [List.map_cons, List.sum_cons]
        exact (Nat.zero_add _).symm ▸ ih
    | cons B rs ih =>
      have h1 := Br.sum_pt (B.getLastD 0) B.length n
      have add : ∀ l : List Nat, (l.map fun (p : Nat) => match (B :: rs).find? fun B => decide (B.getLastD 0 = (p : Int)) with | some B => B.length | none => 0).sum ≤ (l.map fun (p : Nat) => if (p : Int) = B.getLastD 0 then B.length else 0).sum + (l.map fun (p : Nat) => match rs.find? fun B => decide (B.getLastD 0 = (p : Int)) with | some B => B.length | none => 0).sum := by
        intro l
        induction l with
        | nil => simp
        | cons p l il =>
          rw [List.map_cons, List.map_cons, List.map_cons, List.sum_cons, List.sum_cons, List.sum_cons]
          have : (match (B :: rs).find? fun B => decide (B.getLastD 0 = (p : Int)) with | some B => B.length | none => 0) ≤ (if (p : Int) = B.getLastD 0 then B.length else 0) + (match rs.find? fun B => decide (B.getLastD 0 = (p : Int)) with | some B => B.length | none => 0) := by
            rw [List.find?_cons]
            by_cases e : B.getLastD 0 = (p : Int)
            · rw [decide_eq_true e, if_pos e.symm]; simp
            · rw [decide_eq_false e, if_neg (fun h => e h.symm)]; simp
          omega
      have h2 := add (List.range n)
      rw [List.map_cons, List.sum_cons]
      split at h1 <;> omega
  have := key ts.reverse
  rw [List.map_reverse, List.sum_reverse, ← List.length_flatten] at this
  exact this
def IsPart (ts : List (List Int)) : Prop := Br.Part ts (Br.hmI ts)
def iD (ts : List (List Int)) : List PyData := ts.map fun t => PyData.tuple (t.map PyData.int)
theorem ints_dat (H : Hp) : ∀ t : List Int, Dats H (t.map V.int) (t.map PyData.int)
  | [] => .nil
  | x :: t => .cons (.int x) (ints_dat H t)
theorem tups_dat {H : Hp} {as : List Addr} {ts : List (List Int)} (T : TupI H as ts) : Dats H (as.map V.ref) (iD ts) := by
  induction T with
  | nil => exact .nil
  | cons h _ ih => exact .cons (.tup h (ints_dat H _)) ih
theorem ints_lay : ∀ t : List Int, PyData.canLayAll0 (t.map PyData.int) = true
  | [] => rfl
  | x :: t => ints_lay t
theorem iD_lay : ∀ ts : List (List Int), PyData.canLayAll0 (iD ts) = true
  | [] => rfl
  | t :: ts => by
    show (PyData.canLayAll0 (t.map PyData.int) && PyData.canLayAll0 (iD ts)) = true
    rw [ints_lay, iD_lay]; rfl
theorem ints_depth : ∀ t : List Int, PyData.depthAll (t.map PyData.int) = 0
  | [] => rfl
  | x :: t => by
    show max 0 (PyData.depthAll (t.map PyData.int)) = 0
    rw [ints_depth]; rfl
theorem iD_depth : ∀ ts : List (List Int), PyData.depthAll (iD ts) ≤ 1
  | [] => by show 0 ≤ 1; decide
  | t :: ts => by
    show max (PyData.depthAll (t.map PyData.int) + 1) (PyData.depthAll (iD ts)) ≤ 1
    rw [ints_depth]
    have := iD_depth ts
    omega
theorem ints_eqv : ∀ a b : List Int, PyData.eqvAll (a.map PyData.int) (b.map PyData.int) = decide (a = b)
  | [], [] => rfl
  | [], y :: b => by rw [decide_eq_false (fun e => by cases e)]; rfl
  | x :: a, [] => by rw [decide_eq_false (fun e => by cases e)]; rfl
  | x :: a, y :: b => by
    show ((x == y) && PyData.eqvAll (a.map PyData.int) (b.map PyData.int)) = _
    rw [ints_eqv a b]
    by_cases h1 : x = y
    · subst h1
      by_cases h2 : a = b
      · subst h2; simp
      · rw [decide_eq_false h2, decide_eq_false (fun e => h2 (List.cons.inj e).2), Bool.and_false]
    · have : (x == y) = false := by simpa using h1
      rw [this, decide_eq_false (fun e => h1 (List.cons.inj e).1)]; rfl
theorem iD_eqv : ∀ a b : List (List Int), PyData.eqvAll (iD a) (iD b) = decide (a = b)
  | [], [] => rfl
  | [], y :: b => by rw [decide_eq_false (fun e => by cases e)]; rfl
  | x :: a, [] => by rw [decide_eq_false (fun e => by cases e)]; rfl
  | x :: a, y :: b => by
    show (PyData.eqvAll (x.map PyData.int) (y.map PyData.int) && PyData.eqvAll (iD a) (iD b)) = _
    rw [ints_eqv, iD_eqv a b]
    by_cases h1 : x = y
    · subst h1
      by_cases h2 : a = b
      · subst h2; simp
      · rw [decide_eq_false h2, decide_eq_false (fun e => h2 (List.cons.inj e).2), Bool.and_false]
    · rw [decide_eq_false h1, decide_eq_false (fun e => h1 (List.cons.inj e).1)]; rfl
theorem same_sorted {a b : List (List Int)} (p : a.Perm b) (ha : a.Pairwise (· < ·)) (hb : b.Pairwise (· < ·)) : a = b :=
  List.Perm.eq_of_pairwise (fun x y _ _ h1 h2 => absurd h2 (List.lt_asymm h1)) ha hb p
theorem ksT_len (ts : List (List Int)) : (Br.ksT ts).length = ts.flatten.length := by unfold Br.ksT; rw [List.length_map, List.length_range]
open Classical in
def spBack (C : Addr) : Sp := fun vs H Q E => ∃ (v : V) (o : Option (List (List Int))), vs = [v] ∧ Th H v o ∧ (∀ ts, o = some ts → IsPart ts → ∀ z H', Same H H' → cs z = Br.rowK (Br.ksT ts) → Q (.str z) H') ∧
  ((∀ ts, o = some ts → ¬ IsPart ts) → ∀ H', Same H H' → E (.ref C) none H')
theorem scBack : FnScope ["parting", "row"] ["parting"] (defScope st_row_by_parting) := ⟨rfl, rfl, rfl, by decide +kernel, rfl, by decide +kernel, by decide +kernel⟩
theorem ok_back {C : Addr} (F : Fun K "row_by_parting" "row_by_parting" st_row_by_parting f fd) (hHas : Has P w K mg base 3 "has_blocks" ["thing"] spHas) (hSh : Has P w K mg base 1 "shut_behind_last_points" ["blocks"] spShut) (hIsW : Has P w K mg base 3 "is_whole" ["thing"] (spIsW K)) (hPo : Has P w K mg base 1 "parting_of" ["row"] spPartG)
    (mC : mg "NoRow" = some (.ref C)) (xC : XCl K C) : FnOk P w K mg base (CX1 P w) 4 f fd ["parting"] (spBack C) := by
  refine F.okX scBack (fun vs H Q E h => ?_) (fun cdv A outer s H vs Q E hr h => ?_)
  · obtain ⟨_, _, rfl, _⟩ := h
    rfl
  obtain ⟨v, o, rfl, th, q1, q2⟩ := h
  have hr1 := hr.mono (show 1 ≤ 3 by decide)
  have hu := room_u hr
  have s1k := small1000 (n := 1000) (by omega)
  refine ⟨_, pss_cons (ps_if (pt_not (pt_val (pe_callH hHas hr pass1 (pa_cons (pv 0) pa_nil)))) (pss_one (ps_raise rfl mC xC.q)) pss_nil)
    (pss_cons (ps_set (i := 1) scBack.nd rfl (Or.inl rfl) (pe_callH hSh hr1 pass1 (pa_cons (pv 0) pa_nil)))
    (pss_cons (ps_if (PW.pt (pw_or (pt_not (pt_val (pe_callH hIsW hr pass1 (pa_cons (pv 1) pa_nil)))) (pw_or1 (pt_cmpR (op_neD hu) (pe_callH hPo hr1 pass1 (pa_cons (pv 1) pa_nil)) (pv 0) (nomark _))))) (pss_one (ps_raise rfl mC xC.q)) pss_nil)
    (pss_one (ps_ret (pv 1))))), ?_⟩
  refine ⟨_, rfl, v, o, rfl, th, fun H1 s1 => ⟨_, rfl, ?_⟩⟩
  cases o with
  | none => exact q2 (fun _ e => by cases e) H1 s1
  | some ts =>
  obtain ⟨p, as, rfl, hp, T, hn, h60⟩ : ∃ p as, v = .ref p ∧ H p = some (.tup (as.map V.ref)) ∧ TupI H as ts ∧ (∀ t ∈ ts, t ≠ []) ∧ ts.flatten.length ≤ 60 := by
    cases th with
    | good h1 h2 h3 h4 => exact ⟨_, _, rfl, h1, h2, h3, h4⟩
  refine ⟨_, rfl, p, as, ts, rfl, s1 _ _ hp, T.same s1, hn, h60, fun z H2 s2 hz => ?_⟩
  have hs := s1.trans s2
  have kl := ksT_len ts
  have zl : z.length = (Br.ksT ts).length + (Br.ksT ts).sum := by rw [← cs_length, hz, Br.rowK_length]
  have ksum : (Br.ksT ts).sum ≤ ts.flatten.length := Br.kfn_sum ts _
  refine ⟨_, rfl, .inl ⟨z, rfl, by omega, fun H3 s3 => ?_⟩⟩
  rw [decide_eq_true (show z.length ≤ 120 by omega), Bool.true_and]
  have ll : (cs z).length ≤ 998 := by rw [cs_length]; omega
  by_cases hw : Br.Whole (cs z)
  · rw [(Br.lw_whole ll).mpr hw]
    obtain ⟨ks, e1, f, es⟩ := Br.whole_form hw
    obtain rfl : Br.ksT ts = ks := Br.rowK_inj _ _ (hz.symm.trans e1)
    refine ⟨_, rfl, ?_⟩
    refine ⟨_, rfl, z, _, rfl, hz, f, es, by omega, fun p2 as2 ts2 H4 s4 hp2 T2 pm up2 => ?_⟩
    have hs4 := (hs.trans s3).trans s4
    refine ⟨_, rfl, PyData.tuple (iD ts2), PyData.tuple (iD ts), .inl (.tup hp2 (tups_dat T2)), .inl (.tup (hs4 _ _ hp) (tups_dat (T.same hs4))), iD_lay _, iD_lay _, ?_, ?_⟩
    · show PyData.depthAll (iD ts2) + 1 ≤ 150
      have := iD_depth ts2
      omega
    · have ee : (!(PyData.tuple (iD ts2)).eqv (PyData.tuple (iD ts))) = !decide (ts2 = ts) := congrArg (!·) (iD_eqv ts2 ts)
      refine ⟨!decide (ts2 = ts), congrArg V.bl ee, ?_⟩
      by_cases e : ts2 = ts
      · rw [decide_eq_true e]
        exact ⟨_, rfl, q1 ts rfl (e ▸ (Br.of_row f es pm up2).1) z H4 hs4 hz⟩
      · rw [decide_eq_false e]
        exact q2 (fun ts' e' hp' => by cases e'; exact e (same_sorted (pm.trans hp'.back.2.2) up2 hp'.up)) H4 hs4
  · rw [Bool.eq_false_iff.mpr fun h => hw ((Br.lw_whole ll).mp h)]
    exact ⟨_, rfl, q2 (fun ts' e' hp' => by cases e'; exact hw (hz ▸ Br.form_whole hp'.back.1 hp'.back.2.1)) H3 (hs.trans s3)⟩
def spRowBy : Sp := fun vs H Q _ => ∃ (v : V) (o : Option (List (List Int))), vs = [v] ∧ Th H v o ∧ (∀ ts, o = some ts → IsPart ts → ∀ z H', Same H H' → cs z = Br.rowK (Br.ksT ts) → Q (.str z) H') ∧
  ((∀ ts, o = some ts → ¬ IsPart ts) → ∀ H', Same H H' → Q .non H')
theorem scRowBy : FnScope ["_law_thing", "_law_found", "e"] ["_law_thing"] (defScope st__law_row_by) := ⟨rfl, rfl, rfl, by decide +kernel, rfl, by decide +kernel, by decide +kernel⟩
theorem ok_rowby {B C N : Addr} (F : Fun K "_law_row_by" "_law_row_by" st__law_row_by f fd) (hBk : Has P w K mg base 4 "row_by_parting" ["parting"] (spBack C))
    (mB : mg "BracketError" = some (.ref B)) (mC : mg "NoRow" = some (.ref C)) (mN : mg "NoPlace" = some (.ref N))
    (xB : XCl K B) (xC : XCl K C) (mV : mg "ValueError" = none) (mi : mg "isinstance" = none) (kCB : PySem.W.mroIn K C (.ref B) = some true) (kCC : PySem.W.kitOne K (.ref C) (.ref C) = some true) (kCN : PySem.W.kitOne K (.ref C) (.ref N) = some false)
    (kCV : PySem.W.kitOne K (.ref C) (.type "ValueError") = some true) : FnOk P w K mg base (CX1 P w) 5 f fd ["_law_thing"] spRowBy := by
  refine F.ok1 scRowBy (fun vs H Q E h => ?_) (fun cdv A outer s H vs Q E hr h => ?_)
  · obtain ⟨a, b, rfl, _⟩ := h
    rfl
  obtain ⟨v, o, rfl, th, q1, q2⟩ := h
  refine ⟨_, pss_cons (ps_set (i := 1) scRowBy.nd rfl (Or.inl rfl) pe_str)
    (pss_cons (ps_try (K := K) (i := 2) (E := fun c _ Hx => c = .ref C ∧ Same H Hx ∧ ∀ ts, o = some ts → ¬ IsPart ts) rfl scRowBy.nd rfl rfl rfl rfl rfl mB xB (fun C' Hx e => by obtain ⟨e, _⟩ := e; cases e; exact kCB)
      (fun pn => pss_one (ps_set (i := 1) scRowBy.nd rfl (Or.inl rfl) (pe_callH hBk hr (passT rfl rfl) (pa_cons (pv 0) pa_nil))))
      (fun e => pss_one (ps_if (PW.pt (pw_and (pt_val (pe_callB (call_isExc (K := K) rfl (.ref C) (.ref C) fun _ e => e) rfl mi PyProof.Rows.boot_isinstance (pa_cons (pv 2) (pa_cons (pe_glob (v := .ref C) rfl mC rfl) pa_nil))))
          (pw_and (pt_not (pt_val (pe_callB (call_isExc (K := K) rfl (.ref N) (.ref N) fun _ e => e) rfl mi PyProof.Rows.boot_isinstance (pa_cons (pv 2) (pa_cons (pe_glob (v := .ref N) rfl mN rfl) pa_nil)))))
          (pw_and1 (pt_val (pe_callB (call_isExc (K := K) rfl (.ty "ValueError") (.type "ValueError") fun _ e => e) rfl mi PyProof.Rows.boot_isinstance (pa_cons (pv 2) (pa_cons (pe_bltn (v := .ty "ValueError") rfl mV (by decide +kernel) rfl) pa_nil))))))))
          (pss_one (ps_set (i := 1) scRowBy.nd rfl (Or.inl rfl) pe_non)) pss_nil)))
    (pss_one (ps_ret (pv 1)))), ?_⟩
  refine ⟨⟨_, rfl, v, o, rfl, th, fun ts e ip z H' hs hz => ⟨_, rfl, q1 ts e ip z H' hs hz⟩, fun np H' hs => ⟨rfl, hs, np⟩⟩, fun C' Hx x hE hx => ?_⟩
  obtain ⟨e1, e2, np⟩ := hE
  cases e1
  refine ⟨_, rfl, x, C, _, rfl, upd_same, xC, kCC, _, rfl, ?_⟩
  refine iteT ?_
  refine ⟨_, rfl, x, C, _, rfl, upd_same, xC, kCN, _, rfl, ?_⟩
  refine iteT ?_
  exact ⟨_, rfl, x, C, _, rfl, upd_same, xC, kCV, _, rfl, _, rfl, q2 np _ (e2.trans (same_new hx _))⟩
theorem in_flat : ∀ {l : List (List Int)} {B : List Int}, B ∈ l → B.length ≤ l.flatten.length
  | C :: l, B, h => by
    rw [List.flatten_cons, List.length_append]
    rcases List.mem_cons.mp h with e | e
    · rw [e]; omega
    · have := in_flat e
      omega
theorem last_ref {bs : List Addr} (h : 0 < bs.length) : atI (bs.map V.ref) (-1) = some (.ref bs[bs.length - 1]) := by
  have e : ixN (bs.map V.ref).length (-1) = some (bs.length - 1) := by
    unfold ixN
    rw [List.length_map, if_neg (by decide), if_pos (by omega)]
    congr 1
    omega
  unfold atI
  rw [e]
  show (bs.map V.ref)[bs.length - 1]? = _
  rw [List.getElem?_map, List.getElem?_eq_getElem (by omega)]
  rfl
abbrev LPN : List Str := ["_law_row_here", "_law_opened", "_law_blocks", "_law_many", "_law_at", "_law_sign"]
theorem scLPart : FnScope LPN ["_law_row_here"] (defScope st__law_parting) := ⟨rfl, rfl, rfl, by decide +kernel, rfl, by decide +kernel, by decide +kernel⟩
theorem ok_lpart (F : Fun K "_law_parting" "_law_parting" st__law_parting f fd) (mt : mg "tuple" = none) (mso : mg "sorted" = none) (me : mg "enumerate" = none) : FnOk P w K mg base (CX1 P w) 1 f fd ["_law_row_here"] spPartG := by
  refine F.ok1 scLPart (fun vs H Q E h => ?_) (fun cdv A outer s H vs Q E hr h => ?_)
  · obtain ⟨_, _, rfl, _⟩ := h
    rfl
  obtain ⟨z, ks, rfl, hz, hf, hsum, hn, q⟩ := h
  have s1k := small1000 (n := 1000) (by omega)
  have lz : z.length = 2 * ks.length := by rw [← cs_length, hz, Br.rowK_length, hsum]; omega
  have hw : Br.Whole (cs z) := hz ▸ Br.form_whole hf hsum
  refine ⟨_, pss_cons (ps_set (i := 1) scLPart.nd rfl (Or.inl rfl) (pe_lst pa_nil))
    (pss_cons (ps_set (i := 2) scLPart.nd rfl (Or.inl rfl) (pe_lst pa_nil))
    (pss_cons (ps_set (i := 3) scLPart.nd rfl (Or.inl rfl) pe_int)
    (pss_cons (ps_for PassesOwn.never rfl (pi_enum rfl me (pa_cons (pv 0) pa_nil))
        (pg_tup rfl (pgs_cons (pg_name (i := 4) scLPart.nd rfl (Or.inl rfl)) (pgs_cons (pg_name (i := 5) scLPart.nd rfl (Or.inl rfl)) pgs_nil)))
      (pss_one (ps_if (pt_cmpR op_eq (pv 5) pe_str (nomark _))
        (pss_cons (ps_expr (pe_bm PySem.F.plainAttrs_list PySem.F.slot_list_append PySem.F.type_list_append mt_append (pv 1) (pa_cons (pv 3) pa_nil)))
        (pss_one (ps_set (i := 3) scLPart.nd rfl (Or.inl rfl) (pe_op op_add (pv 3) pe_int))))
        (pss_one (ps_if (pt_cmpR op_eq (pe_ix ix_str (pv 0) (pe_op op_sub (pv 4) pe_int) (fun _ _ => rfl)) pe_str (nomark _))
          (pss_one (ps_expr (pe_bm PySem.F.plainAttrs_list PySem.F.slot_list_append PySem.F.type_list_append mt_append (pv 2) (pa_cons (pe_lst (pa_cons (pe_bm0 PySem.F.plainAttrs_list PySem.F.slot_list_pop PySem.F.type_list_pop mt_pop (pv 1)) pa_nil)) pa_nil))))
          (pss_one (ps_expr (pe_bm PySem.F.plainAttrs_list PySem.F.slot_list_append PySem.F.type_list_append mt_append (pe_ix ix_list (pv 2) (pe_un un_neg pe_int) (fun _ _ => rfl)) (pa_cons (pe_bm0 PySem.F.plainAttrs_list PySem.F.slot_list_pop PySem.F.type_list_pop mt_pop (pv 1)) pa_nil)))))))))
    (pss_one (ps_ret (pe_callTy call_tuple_of rfl mt PyProof.Rows.boot_tuple (pa_cons (pe_callB call_sortT rfl mso PyProof.Rows.boot_sorted (pa_cons
      (pe_comp (esc := defScope st__law_parting) (EN := LPN) (N := "_law_block" :: LPN) ⟨by rfl, by decide +kernel, by decide +kernel, by rfl, by decide +kernel, by rfl, by decide +kernel, by rfl, by decide +kernel⟩ rfl rfl rfl
        (pi_list (pv 2)) (fun _ _ _ _ _ _ => pifs_nil) (fun _ _ _ _ _ _ => pe_callTy (call_tupK (K := K) rfl) rfl mt PyProof.Rows.boot_tuple (pa_cons (pe_callB (call_sortIK (K := K) rfl) rfl mso PyProof.Rows.boot_sorted (pa_cons (pv 0) pa_nil)) pa_nil)))
      pa_nil)) pa_nil))))))), ?_⟩
  refine ⟨by show 0 ≤ sizeLine; decide, fun p1 f1 => ⟨by show 0 ≤ sizeLine; decide, fun p2 f2 => ?_⟩⟩
  have s1 := same_new f1 (.lst [])
  have s2 := same_new f2 (.lst [])
  have g2 := upd_none f2
  refine ⟨_, rfl, z, rfl, for_enum (fun i σ H' => ∃ (pf pb : Addr) (bs : List Addr) (x4 x5 : Option V), σ = [some (.str z), some (.ref pf), some (.ref pb), some (.int ((Br.chR ((cs z).take i)).n : Nat)), x4, x5] ∧ Same H H' ∧
    H' pf = some (.lst ((Br.chR ((cs z).take i)).op.map V.int)) ∧ H' pb = some (.lst (bs.map V.ref)) ∧ LstI H' bs (Br.chR ((cs z).take i)).bl ∧ H pf = none ∧ H pb = none ∧ (∀ a ∈ bs, H a = none) ∧ pf ≠ pb ∧ pf ∉ bs ∧ pb ∉ bs) ?_ ?_ ?_⟩
  · exact ⟨p1, p2, [], none, none, rfl, s1.trans s2, s2 _ _ upd_same, upd_same, .nil, f1, g2.2, (fun a h => by cases h), Ne.symm g2.1, (fun h => by cases h), (fun h => by cases h)⟩
  · rintro i c σ H1 T hc ⟨pf, pb, bs, x4, x5, rfl, hs, hpf, hpb, Lb, nf, nb, nbs, n1, n2, n3⟩ hT
    have hi : i < (cs z).length := (List.getElem?_eq_some_iff.mp hc).1
    have hi2 := hi
    rw [cs_length] at hi2
    have ec : (cs z)[i] = c := (List.getElem?_eq_some_iff.mp hc).2
    obtain ⟨a1, a2, a3, a4, a5, a6⟩ := Br.chR_at hw i (by omega)
    have hl := hw.2.1 (i + 1) (by omega)
    rw [Br.lev_take_succ hi] at hl
    replace hl : 0 ≤ Br.lev ((cs z).take i) + Br.rise c := (congrArg (fun x => 0 ≤ Br.lev ((cs z).take i) + Br.rise x) ec).mp hl
    have hbr := hw.1 c (List.mem_of_getElem? hc)
    have st : Br.chR ((cs z).take (i + 1)) = Br.chS (Br.chR ((cs z).take i)) c := by
      rw [Br.take_succ_snoc hi, Br.chR_snoc]
      exact congrArg _ ec
    have ol : (Br.chR ((cs z).take i)).op.length ≤ i := by
      have := Br.lev_le ((cs z).take i)
      rw [List.length_take] at this
      omega
    rw [st]
    generalize Br.chR ((cs z).take i) = S at a1 a2 a3 a4 a5 a6 hpf Lb ol
    refine ⟨T, _, rfl, SqT.of upd_same, rfl, _, _, rfl, _, _, rfl, rfl, ?_⟩
    have sT := same_new hT (.tup [V.int (i : Nat), V.str ⟨#[c]⟩])
    have hpf1 := sT _ _ hpf
    have hpb1 := sT _ _ hpb
    have hs1 := hs.trans sT
    have Lb1 := Lb.same sT
    generalize upd H1 T (.tup [V.int (i : Nat), V.str ⟨#[c]⟩]) = H2 at hpf1 hpb1 hs1 Lb1
    clear sT hpf hpb hs Lb hT
    refine ⟨_, rfl, rfl, _, rfl, ?_⟩
    refine ite2 (fun e => ?_) (fun e => ?_)
    · have c40 : c = 40 := by
        have := of_decide_eq_true e
        rw [par_l] at this
        simpa using this
      subst c40
      unfold Br.chS
      rw [if_pos rfl]
      refine ⟨_, rfl, .inl ⟨rfl, _, SqL.of hpf1⟩, _, rfl, pf, _, _, rfl, rfl, hpf1, by rw [List.length_map]; omega, ?_⟩
      have m1 : S.op.map V.int ++ [V.int (S.n : Nat)] = (S.op ++ [(S.n : Int)]).map V.int := by rw [List.map_append]; rfl
      rw [m1]
      refine ⟨_, rfl, _, _, rfl, rfl, ?_⟩
      exact ⟨pf, pb, bs, _, _, rfl, same_but hs1 nf _, upd_same, by rw [upd_ne (Ne.symm n1)]; exact hpb1, Lb1.keep _ n2, nf, nb, nbs, n1, n2, n3⟩
    · have c41 : c = 41 := by
        rcases hbr with h | h
        · subst h
          rw [par_l] at e
          exact absurd (decide_eq_true rfl) e
        · exact h
      subst c41
      have r41 : Br.rise 41 = -1 := rfl
      rw [r41] at hl
      have i0 : 0 < i := by
        rcases Nat.eq_zero_or_pos i with e0 | e0
        · rw [e0] at hl; exact absurd hl (show ¬ (0 : Int) ≤ 0 + -1 by decide)
        · exact e0
      have op0 : 0 < S.op.length := by omega
      have lst : (S.op.map V.int)[(S.op.map V.int).length - 1]? = some (V.int (S.op.getLastD 0)) := by
        rw [List.length_map, List.getElem?_map, List.getElem?_eq_getElem (by omega), Br.getLastD_eq op0]; rfl
      have drp : (S.op.map V.int).dropLast = S.op.dropLast.map V.int := List.map_dropLast.symm
      have hci : (cs z)[i - 1]? = some (cs z)[i - 1] := List.getElem?_eq_getElem (by omega)
      have a5' := a5 i0
      rw [hci] at a5'
      have hci2 : atI z.cps.toList ((i : Int) - 1) = some (cs z)[i - 1] := atI_of (j := i - 1) (by omega) hci
      refine ⟨_, rfl, _, rfl, _, _, rfl, rfl, z, _, _, rfl, rfl, by omega, hci2, rfl, _, rfl, ?_⟩
      unfold Br.chS
      rw [if_neg (by decide)]
      refine ite2 (fun e' => ?_) (fun e' => ?_)
      · have pv : S.pv = true := by
          have := of_decide_eq_true e'
          rw [par_l] at this
          rw [a5']
          simpa using this
        rw [pv, if_pos rfl]
        refine ⟨_, rfl, .inl ⟨rfl, _, SqL.of hpb1⟩, _, rfl, .inl ⟨rfl, _, SqL.of hpf1⟩, pf, _, _, rfl, rfl, hpf1, lst, by show 1 ≤ sizeLine; decide, fun p5 f5 => ?_⟩
        rw [drp] at f5 ⊢
        have g5 := upd_none f5
        have bl := Lb1.len
        have s5 := same_new f5 (.lst [V.int (S.op.getLastD 0)])
        have hs5 : Same H (upd (upd H2 pf (.lst (S.op.dropLast.map V.int))) p5 (.lst [V.int (S.op.getLastD 0)])) := (same_but hs1 nf _).trans s5
        have hpf5 := s5 _ _ (upd_same (H := H2) (a := pf) (o := .lst (S.op.dropLast.map V.int)))
        have hpb5 := s5 _ _ ((upd_ne (H := H2) (o := .lst (S.op.dropLast.map V.int)) (Ne.symm n1)).trans hpb1)
        have Lb5 := ((Lb1.keep (.lst (S.op.dropLast.map V.int)) n2).same s5).snoc (l := [S.op.getLastD 0]) ((Lb1.keep (.lst (S.op.dropLast.map V.int)) n2).notin f5) upd_same
        have n5 : H p5 = none := by
          cases e5 : H p5 with
          | none => rfl
          | some o => rw [hs1 _ _ e5] at g5; exact absurd g5.2 (by simp)
        have n5b : p5 ≠ pb := fun e5 => by rw [e5, hpb1] at g5; exact absurd g5.2 (by simp)
        refine ⟨pb, _, _, rfl, rfl, hpb5, by rw [List.length_map]; omega, ?_⟩
        refine ⟨pf, pb, bs ++ [p5], _, _, rfl, same_but hs5 nb _, by rw [upd_ne n1]; exact hpf5, by rw [upd_same, List.map_append]; rfl, Lb5.keep _ ?_, nf, nb, ?_, n1, ?_, ?_⟩
        · exact fun h => (List.mem_append.mp h).elim n3 fun h => n5b (List.mem_singleton.mp h).symm
        · exact fun a h => (List.mem_append.mp h).elim (nbs a) fun h => (List.mem_singleton.mp h).symm ▸ n5
        · exact fun h => (List.mem_append.mp h).elim n2 fun h => g5.1 (List.mem_singleton.mp h).symm
        · exact fun h => (List.mem_append.mp h).elim n3 fun h => n5b (List.mem_singleton.mp h).symm
      · have pv : S.pv = false := by
          rw [a5']
          refine decide_eq_false fun h => e' (decide_eq_true ?_)
          rw [par_l, Option.some.inj h]
        rw [pv, if_neg (by simp)]
        have nb0 := a6 i0 pv
        have e1 : S.bl = S.bl.dropLast ++ [S.bl.getLastD []] := by
          have := (List.dropLast_concat_getLast nb0).symm
          rwa [show S.bl.getLast nb0 = S.bl.getLastD [] by rw [List.getLastD_eq_getLast?, List.getLast?_eq_some_getLast nb0]; rfl] at this
        have bl := Lb1.len
        have bl0 : 0 < S.bl.length := by
          rcases Nat.eq_zero_or_pos S.bl.length with e0 | e0
          · exact absurd (List.eq_nil_of_length_eq_zero e0) nb0
          · exact e0
        have hla : S.bl[bs.length - 1]? = some (S.bl.getLastD []) := by
          rw [Br.getLastD_eq bl0, bl, List.getElem?_eq_getElem]
        have hba : bs[bs.length - 1]? = some bs[bs.length - 1] := List.getElem?_eq_getElem (by omega)
        have ha2 := Lb1.at_ _ _ _ hba hla
        have ma : bs[bs.length - 1] ∈ bs := List.getElem_mem _
        have lb : (S.bl.getLastD []).length ≤ i := by
          have f1 : S.bl.flatten.length = S.bl.dropLast.flatten.length + (S.bl.getLastD []).length := by
            rw [congrArg List.flatten e1, List.flatten_append, List.length_append]; simp
          omega
        have esl : S.bl.set (bs.length - 1) (S.bl.getLastD [] ++ [S.op.getLastD 0]) = S.bl.dropLast ++ [S.bl.getLastD [] ++ [S.op.getLastD 0]] := by
          generalize S.bl.getLastD [] = d at e1
          generalize S.bl.dropLast = D at e1
          rw [bl, e1]
          simp
        have lr := last_ref (bs := bs) (by omega)
        generalize bs[bs.length - 1] = a at ha2 ma hba lr
        refine ⟨_, rfl, 1, rfl, pb, _, _, _, rfl, rfl, SqL.of hpb1, lr, .inl ⟨rfl, _, SqL.of ha2⟩, _, rfl, .inl ⟨rfl, _, SqL.of hpf1⟩, pf, _, _, rfl, rfl, hpf1, lst, ?_⟩
        rw [drp]
        have nea : a ≠ pf := fun e => n2 (e ▸ ma)
        have nea2 : pb ≠ a := fun e => n3 (e ▸ ma)
        have L3 := Lb1.keep (.lst (S.op.dropLast.map V.int)) n2
        have L4 := L3.put hba (S.bl.getLastD [] ++ [S.op.getLastD 0])
        rw [esl] at L4
        have em : (S.bl.getLastD []).map V.int ++ [V.int (S.op.getLastD 0)] = (S.bl.getLastD [] ++ [S.op.getLastD 0]).map V.int := by rw [List.map_append]; rfl
        refine ⟨a, _, _, rfl, rfl, by rw [upd_ne nea]; exact ha2, by rw [List.length_map]; omega, ?_⟩
        rw [em]
        refine ⟨pf, pb, bs, _, _, rfl, same_but (same_but hs1 nf _) (nbs a ma) _, by rw [upd_ne (Ne.symm nea)]; exact upd_same, ?_, L4, nf, nb, nbs, n1, n2, n3⟩
        rw [upd_ne nea2, upd_ne (Ne.symm n1)]
        exact hpb1
  · rintro σ H1 ⟨pf, pb, bs, x4, x5, rfl, hs, hpf, hpb, Lb, nf, nb, nbs, n1, n2, n3⟩
    rw [List.take_of_length_le (by rw [cs_length]; exact Nat.le_refl _), hz] at Lb
    obtain ⟨c1, c2, c3⟩ := Br.chR_row ks.length ks rfl hf
    rw [c2] at Lb
    obtain ⟨g, gl⟩ := Br.aft_good hf ks.length (Nat.le_refl _)
    have gp := g.perm
    have nd : (Br.aft ks ks.length).2.flatten.Nodup := (List.nodup_append.mp (gp.nodup_iff.mpr (Br.up_nd (Br.pts_up _)))).2.1
    have hne : ∀ B ∈ (Br.aft ks ks.length).2, B ≠ [] := fun B hB => (g.ups B hB).2
    have few := few_blocks hne
    have h2 := gp.length_eq
    rw [List.length_append, List.length_map, List.length_range] at h2
    refine ⟨_, rfl, _, rfl, ⟨_, SqL.of hpb⟩, fun D hD => ?_⟩
    refine comp_list (xs := bs.map V.ref) (fun i ys H' => ∃ as : List Addr, ys = as.map V.ref ∧ Same H1 H' ∧ TupI H' as ((Br.aft ks ks.length).2.take i) ∧ H' D = some (.lst ys)) ⟨[], rfl, same_new hD _, .nil, upd_same⟩ ?_ ?_ ?_
    · rintro i ys H2 _ ⟨_, _, s2, _⟩
      exact SqL.of (s2 _ _ hpb)
    · rintro i x ys H2 hx ⟨as, rfl, hs2, T2, hD2⟩
      rw [List.getElem?_map] at hx
      obtain ⟨a, ha, rfl⟩ : ∃ a, bs[i]? = some a ∧ x = .ref a := by
        cases e : bs[i]? with
        | none => rw [e] at hx; cases hx
        | some yy => rw [e] at hx; exact ⟨yy, rfl, (Option.some.inj hx).symm⟩
      have hi : i < bs.length := (List.getElem?_eq_some_iff.mp ha).1
      have hi2 : i < (Br.aft ks ks.length).2.length := by have := Lb.len; rw [List.length_map] at this; omega
      obtain ⟨B, hB⟩ : ∃ B, (Br.aft ks ks.length).2[i]? = some B := ⟨_, List.getElem?_eq_getElem hi2⟩
      have mB := List.mem_of_getElem? hB
      have gB := g.ups B mB
      have lB : B.length ≤ 60 := by
        have := in_flat mB
        omega
      have hl := hs2 _ _ (Lb.at_ i a _ ha (by rw [List.getElem?_map, hB]; rfl))
      refine ⟨_, rfl, a, _, rfl, SqL.of hl, by rw [List.length_reverse]; omega, fun ms l pm so hl0 => ?_⟩
      have em : ms = B := List.Perm.eq_of_pairwise (le := (· ≤ ·)) (fun x y _ _ h1 h2 => Int.le_antisymm h1 h2) so (gB.1.imp fun h => by omega) (pm.trans (List.reverse_perm B))
      subst em
      refine ⟨l, _, rfl, .inl ⟨SqL.of upd_same, fun l2 hl2 => ?_⟩⟩
      have s3 := (same_new hl0 (.lst (ms.map V.int))).trans (same_new hl2 (.tup (ms.map V.int)))
      have alen := T2.length
      rw [List.length_take] at alen
      refine ⟨s3 _ _ hD2, by rw [List.length_map]; omega, as ++ [l2], by rw [List.map_append]; rfl, ?_, ?_, upd_same⟩
      · exact same_but (hs2.trans s3) hD _
      · rw [List.take_add_one, hB]
        exact tup_keepL ((T2.same s3).append (.cons upd_same .nil)) (s3 _ _ hD2)
    · rintro ys H2 ⟨as, rfl, hs2, T2, hD2⟩
      rw [List.take_of_length_le (by have := Lb.len; rw [List.length_map] at this ⊢; omega)] at T2
      refine ⟨D, as, _, rfl, SqL.of hD2, T2, by omega, nd_blocks nd hne, hne, fun l as' ts' T' pm so hl => ?_⟩
      refine ⟨l, _, rfl, .inl ⟨SqL.of upd_same, fun l2 h2 => ?_⟩⟩
      exact q l2 as' ts' _ (((hs.trans hs2).trans (same_new hl _)).trans (same_new h2 _)) upd_same (T'.same ((same_new hl _).trans (same_new h2 _))) pm so
abbrev CRN : List Str := ["_law_home", "_law_many", "_law_b", "_law_c", "_law_ahead", "_law_behind"]
theorem scCross : FnScope CRN ["_law_home", "_law_many"] (defScope st__law_crosses) := ⟨rfl, rfl, rfl, by decide +kernel, rfl, by decide +kernel, by decide +kernel⟩
open Classical in
def spCross : Sp := fun vs H Q _ => ∃ (p : Addr) (n : Nat) (kvs : List (Key × V)) (hm : Int → Int), vs = [.ref p, .int (n : Nat)] ∧ n ≤ 60 ∧ H p = some (.dK kvs) ∧ (∀ i : Int, 0 ≤ i → i < n → valV kvs (.inl i) = some (.int (hm i))) ∧
  ∀ H', Same H H' → Q (.bl (decide (Br.Cr hm n))) H'
def XB (hm : Int → Int) (n b c : Nat) : Prop := hm b ≠ hm c ∧ (∃ a : Nat, a < b ∧ hm a = hm c) ∧ ∃ d : Nat, c + 1 + d < n ∧ hm ((c : Int) + 1 + d) = hm b
open Classical in
theorem ok_cross (F : Fun K "_law_crosses" "_law_crosses" st__law_crosses f fd) (mr : mg "range" = none) : FnOk P w K mg base (CX1 P w) 1 f fd ["_law_home", "_law_many"] spCross := by
  refine F.ok1 scCross (fun vs H Q E h => ?_) (fun cdv A outer s H vs Q E hr h => ?_)
  · obtain ⟨_, _, _, _, rfl, _⟩ := h
    rfl
  obtain ⟨p, n, kvs, hm, rfl, hn, hp, hk, q⟩ := h
  have s1k := small1000 (n := 1000) (by omega)
  have hu := room_u hr
  have hu1 : (A.deeper (PyProof.Rows.envOfC "_law_crosses" (defScope st__law_crosses) s.heap.objs.size f cdv)).units + 1 < cLine := by omega
  refine ⟨_, pss_cons (ps_for PassesOwn.never rfl (pi_range1 rfl mr (pa_cons (pv 1) pa_nil)) (pg_name (i := 2) scCross.nd rfl (Or.inr rfl))
      (pss_one (ps_for PassesOwn.never rfl (pi_range2 rfl mr (pa_cons (pe_op op_add (pv 2) pe_int) (pa_cons (pv 1) pa_nil))) (pg_name (i := 3) scCross.nd rfl (Or.inr rfl))
        (pss_one (ps_if (pt_cmpR op_ne (pe_dget hu1 (pv 0) (pv 2) (fun _ _ => rfl)) (pe_dget hu1 (pv 0) (pv 3) (fun _ _ => rfl)) (nomark _))
          (pss_cons (ps_comp (esc := defScope st__law_crosses) (EN := CRN) (N := "_law_a" :: CRN) (i := 4) ⟨by rfl, by decide +kernel, by decide +kernel, by rfl, by decide +kernel, by rfl, by decide +kernel, by rfl, by decide +kernel⟩ rfl rfl rfl
              (pi_range1 rfl mr (pa_cons (pv 2) pa_nil)) (fun _ _ _ _ _ _ => pifs_one (pt_cmpR op_eq (pe_dget hu1 (pv 1) (pv 0) (fun _ _ => rfl)) (pe_dget hu1 (pv 1) (pv 4) (fun _ _ => rfl)) (nomark _))) (fun _ _ _ _ _ _ => pv 0) scCross.nd rfl rfl rfl)
          (pss_cons (ps_comp (esc := defScope st__law_crosses) (EN := CRN) (N := "_law_d" :: CRN) (i := 5) ⟨by rfl, by decide +kernel, by decide +kernel, by rfl, by decide +kernel, by rfl, by decide +kernel, by rfl, by decide +kernel⟩ rfl rfl rfl
              (pi_range2 rfl mr (pa_cons (pe_op op_add (pv 3) pe_int) (pa_cons (pv 1) pa_nil))) (fun _ _ _ _ _ _ => pifs_one (pt_cmpR op_eq (pe_dget hu1 (pv 1) (pv 0) (fun _ _ => rfl)) (pe_dget hu1 (pv 1) (pv 3) (fun _ _ => rfl)) (nomark _))) (fun _ _ _ _ _ _ => pv 0) scCross.nd rfl rfl rfl)
          (pss_one (ps_if (PW.pt (pw_and (pt_truth (pv 4) fun _ => rfl) (pw_and1 (pt_truth (pv 5) fun _ => rfl)))) (pss_one (ps_ret pe_bl)) pss_nil)))) pss_nil)))))
    (pss_one (ps_ret pe_bl)), ?_⟩
  have cr : Br.Cr hm n ↔ ∃ b c : Nat, b < c ∧ c < n ∧ XB hm n b c := ⟨fun ⟨a, b, c, d, h0, h1, h2, h3, h4, e1, e2, e3⟩ => ⟨b.toNat, c.toNat, by omega, by omega, by
      have eb : ((b.toNat : Nat) : Int) = b := by omega
      have ec : ((c.toNat : Nat) : Int) = c := by omega
      unfold XB
      rw [eb, ec]
      exact ⟨e3, ⟨a.toNat, by omega, by rw [show ((a.toNat : Nat) : Int) = a by omega]; exact e1⟩, ⟨(d - c - 1).toNat, by omega, by rw [show c + 1 + (((d - c - 1).toNat : Nat) : Int) = d by omega]; exact e2.symm⟩⟩⟩,
    fun ⟨b, c, h1, h2, e3, ⟨a, ha, e1⟩, ⟨d, hd, e2⟩⟩ => ⟨a, b, c, (c : Int) + 1 + d, by omega, by omega, by omega, by omega, by omega, e1, e2.symm, e3⟩⟩
  refine ⟨_, rfl, _, rfl, by omega, by omega, ?_⟩
  refine for_range (fun i σ H' => Same H H' ∧ (∀ b c : Nat, b < i → b < c → c < n → ¬ XB hm n b c) ∧ ∃ x2 x3 x4 x5, σ = [some (.ref p), some (.int (n : Nat)), x2, x3, x4, x5]) ⟨Same.refl _, fun b c h => by omega, none, none, none, none, rfl⟩ ?_ ?_
  · rintro b σ H1 hb ⟨hs1, no, x2, x3, x4, x5, rfl⟩
    have e0 : (0 : Int) + (b : Int) = ((b : Nat) : Int) := by omega
    rw [e0]
    refine ⟨_, rfl, _, _, rfl, rfl, _, rfl, _, _, rfl, ⟨by omega, by omega, by omega, by omega⟩, ?_⟩
    refine for_range (fun j σ H' => Same H H' ∧ (∀ c : Nat, c < b + 1 + j → b < c → c < n → ¬ XB hm n b c) ∧ ∃ x3 x4 x5, σ = [some (.ref p), some (.int (n : Nat)), some (.int (b : Nat)), x3, x4, x5]) ⟨hs1, fun c h1 h2 => by omega, _, _, _, rfl⟩ ?_ ?_
    · rintro j σ H2 hj ⟨hs2, no2, y3, y4, y5, rfl⟩
      have ej : (b : Int) + 1 + (j : Int) = ((b + 1 + j : Nat) : Int) := by omega
      have hc : b + 1 + j < n := by omega
      rw [ej]
      have nx : ¬ XB hm n b (b + 1 + j) → ∀ c : Nat, c < b + 1 + (j + 1) → b < c → c < n → ¬ XB hm n b c := fun h c h1 h2 h3 => by
        rcases Nat.lt_or_ge c (b + 1 + j) with h4 | h4
        · exact no2 c h4 h2 h3
        · have : c = b + 1 + j := by omega
          subst this; exact h
      have hbc : b < b + 1 + j := by omega
      generalize b + 1 + j = c at hc nx hbc
      have hp2 := hs2 _ _ hp
      have kb := hk b (by omega) (by omega)
      have kc := hk c (by omega) (by omega)
      have gb : DGet H2 p (.int (b : Nat)) (some (.int (hm b))) := kb ▸ DGet.k (k := .inl (b : Int)) hp2
      have gc : DGet H2 p (.int (c : Nat)) (some (.int (hm c))) := kc ▸ DGet.k (k := .inl (c : Int)) hp2
      refine ⟨_, rfl, _, rfl, p, _, rfl, gb, _, rfl, _, rfl, p, _, rfl, gc, rfl, _, rfl, ?_⟩
      refine ite2 (fun e => ?_) (fun e => ?_)
      · have ne : hm b ≠ hm c := fun h => by rw [h, decide_eq_true rfl] at e; cases e
        refine ⟨_, rfl, _, rfl, by omega, by omega, fun D hD => ?_⟩
        refine comp_range (fun i ys H' => Same H2 H' ∧ (ys = [] ↔ ∀ a : Nat, a < i → hm a ≠ hm c) ∧ ys.length ≤ i ∧ H' D = some (.lst ys)) ⟨same_new hD _, ⟨fun _ a h => by omega, fun _ => rfl⟩, Nat.le_refl _, upd_same⟩ ?_ ?_
        · rintro i ys H3 hi ⟨hs3, hy, hl, hD3⟩
          have hi' : i < b := by omega
          have ei : (0 : Int) + (i : Int) = ((i : Nat) : Int) := by omega
          rw [ei]
          have hp3 := hs3 _ _ hp2
          have ka := hk i (by omega) (by omega)
          have ga : DGet H3 p (.int (i : Nat)) (some (.int (hm i))) := ka ▸ DGet.k (k := .inl (i : Int)) hp3
          have gc3 : DGet H3 p (.int (c : Nat)) (some (.int (hm c))) := kc ▸ DGet.k (k := .inl (c : Int)) hp3
          refine ⟨_, rfl, _, rfl, p, _, rfl, ga, _, rfl, _, rfl, p, _, rfl, gc3, rfl, _, rfl, ?_⟩
          refine ite2 (fun e => ?_) (fun e => ?_)
          · have e' : hm i = hm c := V.int.inj (of_decide_eq_true e)
            refine ⟨_, rfl, hD3, by omega, same_but hs3 hD _, ⟨fun h => by simp at h, fun h => absurd e' (h i (by omega))⟩, by rw [List.length_append]; simp; omega, upd_same⟩
          · have e' : hm i ≠ hm c := fun h => e (decide_eq_true (congrArg V.int h))
            refine ⟨hs3, hy.trans ⟨fun h a ha => ?_, fun h a ha => h a (by omega)⟩, by omega, hD3⟩
            rcases Nat.lt_or_ge a i with h1 | h1
            · exact h a h1
            · have : a = i := by omega
              subst this; exact e'
        · rintro ys H3 ⟨hs3, hy, hl, hD3⟩
          refine ⟨_, rfl, _, _, rfl, rfl, _, rfl, _, _, rfl, ⟨by omega, by omega, by omega, by omega⟩, fun D2 hD2 => ?_⟩
          have hn2 : (((n : Nat) : Int) - ((c : Int) + 1)).toNat = n - (c + 1) := by omega
          refine comp_range (fun i zs H' => Same H3 H' ∧ (zs = [] ↔ ∀ d : Nat, d < i → hm ((c : Int) + 1 + d) ≠ hm b) ∧ zs.length ≤ i ∧ H' D2 = some (.lst zs)) ⟨same_new hD2 _, ⟨fun _ a h => by omega, fun _ => rfl⟩, Nat.le_refl _, upd_same⟩ ?_ ?_
          · rintro i zs H4 hi ⟨hs4, hz, hl4, hD4⟩
            have hp4 := hs4 _ _ (hs3 _ _ hp2)
            have ka := hk ((c : Int) + 1 + i) (by omega) (by omega)
            have ga : DGet H4 p (.int ((c : Int) + 1 + i)) (some (.int (hm ((c : Int) + 1 + i)))) := ka ▸ DGet.k (k := .inl ((c : Int) + 1 + i)) hp4
            have gb4 : DGet H4 p (.int (b : Nat)) (some (.int (hm b))) := kb ▸ DGet.k (k := .inl (b : Int)) hp4
            refine ⟨_, rfl, _, rfl, p, _, rfl, ga, _, rfl, _, rfl, p, _, rfl, gb4, rfl, _, rfl, ?_⟩
            refine ite2 (fun e => ?_) (fun e => ?_)
            · have e' : hm ((c : Int) + 1 + i) = hm b := V.int.inj (of_decide_eq_true e)
              refine ⟨_, rfl, hD4, by omega, same_but hs4 hD2 _, ⟨fun h => by simp at h, fun h => absurd e' (h i (by omega))⟩, by rw [List.length_append]; simp; omega, upd_same⟩
            · have e' : hm ((c : Int) + 1 + i) ≠ hm b := fun h => e (decide_eq_true (congrArg V.int h))
              refine ⟨hs4, hz.trans ⟨fun h a ha => ?_, fun h a ha => h a (by omega)⟩, by omega, hD4⟩
              rcases Nat.lt_or_ge a i with h1 | h1
              · exact h a h1
              · have : a = i := by omega
                subst this; exact e'
          · rintro zs H4 ⟨hs4, hz, hl4, hD4⟩
            have hs5 := (hs2.trans hs3).trans hs4
            refine ⟨_, rfl, _, .inl ⟨_, SqL.of (hs4 _ _ hD3), rfl⟩, ?_⟩
            refine ite2 (fun e1 => ?_) (fun e1 => ?_)
            · refine ⟨_, rfl, _, .inl ⟨_, SqL.of hD4, rfl⟩, ?_⟩
              refine ite2 (fun e2 => ?_) (fun e2 => ?_)
              · have n1 : ys ≠ [] := fun h => by rw [h] at e1; cases e1
                have n2 : zs ≠ [] := fun h => by rw [h] at e2; cases e2
                have x : XB hm n b c := by
                  refine ⟨ne, ?_, ?_⟩
                  · refine Classical.byContradiction fun h => n1 (hy.mpr fun a ha e => h ⟨a, by omega, e⟩)
                  · refine Classical.byContradiction fun h => n2 (hz.mpr fun d hd e => h ⟨d, by omega, e⟩)
                have := q H4 hs5
                rw [decide_eq_true (cr.mpr ⟨b, c, hbc, hc, x⟩)] at this
                exact this
              · have n2 : zs = [] := by cases zs with | nil => rfl | cons x l => exact absurd rfl e2
                exact ⟨hs5, nx fun h => by
                  obtain ⟨d, hd, e⟩ := h.2.2
                  exact hz.mp n2 d (by omega) e, _, _, _, rfl⟩
            · have n1 : ys = [] := by cases ys with | nil => rfl | cons x l => exact absurd rfl e1
              exact ⟨hs5, nx fun h => by
                obtain ⟨a, ha, e⟩ := h.2.1
                exact hy.mp n1 a (by omega) e, _, _, _, rfl⟩
      · have eq : hm b = hm c := by
          by_cases h : hm b = hm c
          · exact h
          · rw [decide_eq_false (fun x => h (V.int.inj x))] at e; exact absurd rfl e
        exact ⟨hs2, nx fun h => h.1 eq, _, _, _, rfl⟩
    · rintro σ H2 ⟨hs2, no2, y3, y4, y5, rfl⟩
      refine ⟨hs2, fun b' c h1 h2 h3 => ?_, _, _, _, _, rfl⟩
      rcases Nat.lt_or_ge b' b with h4 | h4
      · exact no b' c h4 h2 h3
      · have : b' = b := by omega
        subst this
        exact no2 c (by omega) h2 h3
  · rintro σ H1 ⟨hs1, no, _⟩
    have := q H1 hs1
    rw [decide_eq_false (fun h => by obtain ⟨b, c, h1, h2, h3⟩ := cr.mp h; exact no b c (by omega) h1 h2 h3)] at this
    exact this
abbrev LIN : List Str := ["_law_thing", "_law_points", "_law_block", "_law_home", "_law_k", "_law_point"]
theorem scLIsp : FnScope LIN ["_law_thing"] (defScope st__law_is_parting) := ⟨rfl, rfl, rfl, by decide +kernel, rfl, by decide +kernel, by decide +kernel⟩
open Classical in
noncomputable def isP (o : Option (List (List Int))) : Bool := match o with
  | some ts => decide (IsPart ts)
  | none => false
noncomputable def spIsP : Sp := fun vs H Q _ => ∃ (v : V) (o : Option (List (List Int))), vs = [v] ∧ Th H v o ∧ ∀ H', Same H H' → Q (.bl (isP o)) H'
structure Flg (H : Hp) (xs : List V) (os : List (Option (List Int))) (cs : List Bool) : Prop where
  yes : ∀ (j : Nat) (x : V), cs[j]? = some true → xs[j]? = some x → ∃ (b : Addr) (zs : List V), x = V.ref b ∧ H b = some (.tup zs) ∧ 0 < zs.length
  no : ∀ j : Nat, cs[j]? = some false → os[j]? = some none
theorem Flg.step {H : Hp} {xs : List V} {os : List (Option (List Int))} {cs : List Bool} {x : V} {o' : Option (List Int)} (F : Flg H xs os cs) (hx : xs[cs.length]? = some x) (ho : os[cs.length]? = some o') (c : Bool)
    (d1 : c = true → ∃ (b : Addr) (zs : List V), x = V.ref b ∧ H b = some (.tup zs) ∧ 0 < zs.length) (d2 : c = false → o' = none) : Flg H xs os (cs ++ [c]) := by
  have at_ : ∀ {j : Nat} {d : Bool}, (cs ++ [c])[j]? = some d → cs[j]? = some d ∨ (j = cs.length ∧ c = d) := fun {j d} hj => by
    rcases Nat.lt_or_ge j cs.length with h | h
    · rw [List.getElem?_append_left h] at hj; exact .inl hj
    · rw [List.getElem?_append_right h] at hj
      cases e : j - cs.length with
      | zero => rw [e] at hj; exact .inr ⟨by omega, Option.some.inj hj⟩
      | succ n => rw [e] at hj; simp at hj
  refine ⟨fun j y hj hy => ?_, fun j hj => ?_⟩
  · rcases at_ hj with h | ⟨rfl, rfl⟩
    · exact F.yes j y h hy
    · rw [hx] at hy; cases hy; exact d1 rfl
  · rcases at_ hj with h | ⟨rfl, rfl⟩
    · exact F.no j h
    · rw [ho, d2 rfl]
theorem Bl.tup {H H' : Hp} {b : Addr} {o : Option (List Int)} {zs : List V} (h : Bl H (.ref b) o) (s : Same H H') (hb : H' b = some (.tup zs)) : H b = some (.tup zs) := by
  cases h with
  | good h _ => have := s _ _ h; rw [hb] at this; cases this; exact h
  | empty h => have := s _ _ h; rw [hb] at this; cases this; exact h
  | mixed h _ _ _ => have := s _ _ h; rw [hb] at this; cases this; exact h
  | lst h => have := s _ _ h; rw [hb] at this; cases this
theorem sum_take : ∀ (l : List Nat) (i : Nat), (l.take i).sum ≤ l.sum
  | [], i => by rw [List.take_nil]; exact Nat.le_refl _
  | a :: l, 0 => Nat.zero_le _
  | a :: l, i + 1 => by
    have := sum_take l i
    rw [List.take_succ_cons, List.sum_cons, List.sum_cons]
    omega
theorem bls_tup {H : Hp} {xs : List V} {os : List (Option (List Int))} (b : Bls H xs os) : ∀ ts : List (List Int), os = ts.map some → ∃ as : List Addr, xs = as.map V.ref ∧ TupI H as ts ∧ ∀ t ∈ ts, t ≠ [] := by
  induction b with
  | nil =>
    intro ts e
    cases ts with
    | nil => exact ⟨[], rfl, .nil, fun t h => by cases h⟩
    | cons t ts => cases e
  | cons h _ ih =>
    intro ts e
    cases ts with
    | nil => cases e
    | cons t ts =>
      rw [List.map_cons] at e
      injection e with e1 e2
      obtain ⟨as, rfl, T, hn⟩ := ih ts e2
      subst e1
      cases h with
      | @good a _ h n => exact ⟨a :: as, rfl, .cons h T, fun u hu => (List.mem_cons.mp hu).elim (fun e => e ▸ n) (hn u)⟩
theorem ints_inj : ∀ {a b : List Int}, a.map V.int = b.map V.int → a = b
  | [], [], _ => rfl
  | [], _ :: _, e => by cases e
  | _ :: _, [], e => by cases e
  | x :: a, y :: b, e => by
    rw [List.map_cons, List.map_cons] at e
    injection e with e1 e2
    rw [V.int.inj e1, ints_inj e2]
theorem refs_inj : ∀ {a b : List Addr}, a.map V.ref = b.map V.ref → a = b
  | [], [], _ => rfl
  | [], _ :: _, e => by cases e
  | _ :: _, [], e => by cases e
  | x :: a, y :: b, e => by
    rw [List.map_cons, List.map_cons] at e
    injection e with e1 e2
    rw [V.ref.inj e1, refs_inj e2]
theorem tup_det {H : Hp} {as : List Addr} {ts : List (List Int)} (T : TupI H as ts) : ∀ {us : List (List Int)}, TupI H as us → ts = us := by
  induction T with
  | nil => intro us U; cases U; rfl
  | cons h _ ih =>
    intro us U
    cases U with
    | cons h' U' =>
      rw [h] at h'
      injection h' with h'
      injection h' with h'
      rw [ints_inj h', ih U']
theorem list_dat {H : Hp} {p : Addr} {ns : List Int} (h : H p = some (.lst (ns.map V.int))) : DatT H (.ref p) (.list (ns.map PyData.int)) := .inr ⟨p, _, _, rfl, h, ints_dat H ns, rfl⟩
theorem ints_depth1 (t : List Int) : (PyData.list (t.map PyData.int)).depth ≤ 150 := by
  show PyData.depthAll (t.map PyData.int) + 1 ≤ 150
  rw [ints_depth]; omega
theorem rng_pts (n : Nat) : ((List.range n).map fun (k : Nat) => V.int (k : Int)) = (Br.pts n).map V.int := by unfold Br.pts; rw [List.map_map]; rfl
theorem le_same {a b : List Int} (p : a.Perm b) (ha : a.Pairwise (· ≤ ·)) (hb : b.Pairwise (· ≤ ·)) : a = b := List.Perm.eq_of_pairwise (le := (· ≤ ·)) (fun _ _ _ _ h1 h2 => Int.le_antisymm h1 h2) ha hb p
open Classical in
theorem ok_lisp (F : Fun K "_law_is_parting" "_law_is_parting" st__law_is_parting f fd) (hWh : Has P w K mg base 1 "_law_whole" ["_law_found"] spPt) (hCr : Has P w K mg base 1 "_law_crosses" ["_law_home", "_law_many"] spCross)
    (mi : mg "isinstance" = none) (mt : mg "tuple" = none) (ml : mg "len" = none) (ma : mg "all" = none) (mli : mg "list" = none) (mr : mg "range" = none) (mso : mg "sorted" = none) (me : mg "enumerate" = none) (k : Kits K) : FnOk P w K mg base (CX1 P w) 2 f fd ["_law_thing"] spIsP := by
  refine F.ok1 scLIsp (fun vs H Q E h => ?_) (fun cdv A outer s H vs Q E hr h => ?_)
  · obtain ⟨_, _, rfl, _⟩ := h
    rfl
  obtain ⟨v, o, rfl, th, q⟩ := h
  have s1k := small1000 (n := 1000) (by omega)
  have hu := room_u hr
  have hu1 : (A.deeper (PyProof.Rows.envOfC "_law_is_parting" (defScope st__law_is_parting) s.heap.objs.size f cdv)).units + 1 < cLine := by omega
  refine ⟨_, pss_cons (ps_if (PW.pt (pw_or (pt_not (pt_val (pe_callB (call_isinst (.ty "tuple") (.type "tuple") fun _ e => e) rfl mi PyProof.Rows.boot_isinstance (pa_cons (pv 0) (pa_cons (pe_bltn (v := .ty "tuple") rfl mt PyProof.Rows.boot_tuple rfl) pa_nil)))))
      (pw_or1 (pt_not (pt_val (pe_callB (call_all rfl) rfl ma (by decide +kernel) (pa_cons
        (pe_comp (esc := defScope st__law_is_parting) (EN := LIN) (N := ["_law_block", "_law_thing", "_law_points", "~", "_law_home", "_law_k", "_law_point"]) ⟨by rfl, by decide +kernel, by decide +kernel, by rfl, by decide +kernel, by rfl, by decide +kernel, by rfl, by decide +kernel⟩ rfl rfl rfl
          (pi_tup (pv 0)) (fun _ _ _ _ _ _ => pifs_nil) (fun _ _ _ _ _ _ => pe_and (pe_callB (call_isinstK (K := K) rfl (.ty "tuple") (.type "tuple") fun _ e => e) rfl mi PyProof.Rows.boot_isinstance (pa_cons (pv 0) (pa_cons (pe_bltn (v := .ty "tuple") rfl mt PyProof.Rows.boot_tuple rfl) pa_nil)))
            (pe_one (pe_cmpR op_gt (pe_callB (call_lenK (K := K) rfl) rfl ml PySem.boot_len (pa_cons (pv 0) pa_nil)) pe_int (nomark _))))) pa_nil))))))) (pss_one (ps_ret pe_bl)) pss_nil)
    (pss_cons (ps_set (i := 1) scLIsp.nd rfl (Or.inl rfl) (pe_lst pa_nil))
    (pss_cons (ps_for PassesOwn.never rfl (pi_tup (pv 0)) (pg_name (i := 2) scLIsp.nd rfl (Or.inl rfl))
      (pss_cons (ps_if (pt_not (pt_val (pe_callB (call_all rfl) rfl ma (by decide +kernel) (pa_cons
        (pe_comp (esc := defScope st__law_is_parting) (EN := LIN) (N := ["_law_point", "_law_thing", "_law_points", "_law_block", "_law_home", "_law_k", "~"]) ⟨by rfl, by decide +kernel, by decide +kernel, by rfl, by decide +kernel, by rfl, by decide +kernel, by rfl, by decide +kernel⟩ rfl rfl rfl
          (pi_tup (pv 2)) (fun _ _ _ _ _ _ => pifs_nil) (fun _ _ _ _ _ _ => pe_callH hWh hr pass1 (pa_cons (pv 0) pa_nil))) pa_nil)))) (pss_one (ps_ret pe_bl)) pss_nil)
      (pss_one (ps_expr (pe_bm PySem.F.plainAttrs_list PySem.F.slot_list_extend PySem.F.type_list_extend mt_extend (pv 1) (pa_cons (pe_callTy call_list_of rfl mli PyProof.Rows.boot_list (pa_cons (pv 2) pa_nil)) pa_nil))))))
    (pss_cons (ps_if (PW.pt (pw_or (pt_cmpR (op_neD hu) (pe_callB call_sortI rfl mso PyProof.Rows.boot_sorted (pa_cons (pv 1) pa_nil)) (pe_listRange rfl rfl mli rfl mr (pa_cons (pe_callB call_len_seq rfl ml PySem.boot_len (pa_cons (pv 1) pa_nil)) pa_nil)) (nomark _))
      (pw_or1 (pt_cmpR (op_neD hu) (pe_callTy call_list_of rfl mli PyProof.Rows.boot_list (pa_cons (pv 0) pa_nil)) (pe_callB call_sortTT rfl mso PyProof.Rows.boot_sorted (pa_cons (pv 0) pa_nil)) (nomark _))))) (pss_one (ps_ret pe_bl)) pss_nil)
    (pss_cons (ps_set (i := 3) scLIsp.nd rfl (Or.inl rfl) pe_dnewK)
    (pss_cons (ps_for PassesOwn.never rfl (pi_enumT rfl me (pa_cons (pv 0) pa_nil)) (pg_tup rfl (pgs_cons (pg_name (i := 4) scLIsp.nd rfl (Or.inl rfl)) (pgs_cons (pg_name (i := 2) scLIsp.nd rfl (Or.inl rfl)) pgs_nil)))
      (pss_cons (ps_if (pt_cmpR (op_neD hu) (pe_callTy call_list_of rfl mli PyProof.Rows.boot_list (pa_cons (pv 2) pa_nil)) (pe_callB call_sortIT rfl mso PyProof.Rows.boot_sorted (pa_cons (pv 2) pa_nil)) (nomark _)) (pss_one (ps_ret pe_bl)) pss_nil)
      (pss_one (ps_for PassesOwn.never rfl (pi_tup (pv 2)) (pg_name (i := 5) scLIsp.nd rfl (Or.inl rfl)) (pss_one (ps_dput hu1 (pv 3) (pv 5) (pv 4) rfl))))))
    (pss_one (ps_ret (pe_not (pe_callH hCr hr pass1 (pa_cons (pv 3) (pa_cons (pe_callB call_len_seq rfl ml PySem.boot_len (pa_cons (pv 1) pa_nil)) pa_nil))))))))))), ?_⟩
  rcases th.kind k with ⟨p, xs, os, rfl, hp, bs, hx, hsum, ho⟩ | ⟨T, ty, kt, rfl⟩
  · have nop : none ∈ os → isP o = false := fun h => by
      cases o with
      | none => rfl
      | some ts =>
        rw [all_false (List.mem_map.mpr ⟨none, h, rfl⟩)] at ho
        cases ho
    have bl := bs.length
    refine ⟨_, rfl, _, _, _, rfl, .tup hp, k.tt, _, rfl, ?_⟩
    refine iteF ?_
    refine ⟨_, rfl, p, rfl, ⟨_, SqT.of hp⟩, fun D hD => ?_⟩
    refine comp_tup (xs := xs) (fun i ys H' => Same H H' ∧ ∃ cs : List Bool, ys = cs.map V.bl ∧ cs.length = i ∧ Flg H xs os cs ∧ H' D = some (.lst ys)) ⟨same_new hD _, [], rfl, rfl, ⟨(fun j x h => by cases h), (fun j h => by cases h)⟩, upd_same⟩ ?_ ?_ ?_
    · rintro i ys H' _ ⟨hs, _⟩
      exact SqT.of (hs _ _ hp)
    · rintro i x ys H1 hx1 ⟨hs, cs, rfl, rfl, F, hD1⟩
      obtain ⟨o', ho', b1⟩ := bs.get hx1
      have hi := (List.getElem?_eq_some_iff.mp hx1).1
      rcases (b1.same hs).kind k with ⟨b, zs, es, rfl, hb1, pe, hz, ho2⟩ | ⟨T, ty, kt, rfl⟩
      · have hb := b1.tup hs hb1
        refine ⟨_, rfl, _, _, _, rfl, .tup (hs _ _ hb), k.tt, _, rfl, ?_⟩
        refine iteT ?_
        have F' := F.step hx1 ho' (decide ((0 : Int) < (zs.length : Nat))) (fun h => ⟨b, zs, rfl, hb, by have := of_decide_eq_true h; omega⟩) (fun h => by
          have := of_decide_eq_false h
          rw [decide_eq_false (by omega), Bool.false_and] at ho2
          cases o' with
          | none => rfl
          | some t => cases ho2)
        exact ⟨_, rfl, b, zs, rfl, .inr (SqT.of (hs _ _ hb)), _, _, rfl, rfl, hD1, by rw [List.length_map]; omega, same_but hs hD _, _, by rw [List.map_append]; rfl, by rw [List.length_append]; rfl, F', upd_same⟩
      · refine ⟨_, rfl, _, _, _, rfl, ty, kt, _, rfl, ?_⟩
        refine iteF ?_
        have F' := F.step hx1 ho' false (fun h => by cases h) (fun _ => rfl)
        exact ⟨hD1, by rw [List.length_map]; omega, same_but hs hD _, _, by rw [List.map_append]; rfl, by rw [List.length_append]; rfl, F', upd_same⟩
    · rintro ys H1 ⟨hs1, cs, rfl, lc, F, hD1⟩
      refine ⟨D, cs, rfl, SqL.of hD1, cs.all id, rfl, ?_⟩
      by_cases e : cs.all id = true
      case neg =>
        rw [Bool.eq_false_iff.mpr e]
        obtain ⟨c, hc1, hc2⟩ := List.all_eq_false.mp (Bool.eq_false_iff.mpr e)
        have c0 : c = false := by cases c with | false => rfl | true => exact absurd rfl hc2
        obtain ⟨j, hj, ej⟩ := List.mem_iff_getElem.mp hc1
        have := q H1 hs1
        rw [nop (List.mem_of_getElem? (F.no j (by rw [List.getElem?_eq_getElem hj, ej, c0])))] at this
        exact this
      case pos =>
      rw [e]
      have yes : ∀ i x, xs[i]? = some x → ∃ (b : Addr) (zs : List V), x = V.ref b ∧ H b = some (.tup zs) ∧ 0 < zs.length := fun i x hx1 => by
        have hi := (List.getElem?_eq_some_iff.mp hx1).1
        refine F.yes i x ?_ hx1
        rw [List.getElem?_eq_getElem (show i < cs.length by omega)]
        exact congrArg some (List.all_eq_true.mp e _ (List.getElem_mem _))
      clear F e hD1 hD lc
      refine ⟨by show 0 ≤ sizeLine; decide, fun pp f1 => ?_⟩
      have npp : H pp = none := by
        cases e5 : H pp with
        | none => rfl
        | some o => rw [hs1 _ _ e5] at f1; cases f1
      refine ⟨_, rfl, p, rfl, ⟨_, SqT.of ((hs1.trans (same_new f1 _)) _ _ hp)⟩, for_tup (xs := xs) (fun i σ H' => Same H H' ∧ ∃ (ts : List (List Int)) (x2 : Option V), σ = [some (.ref p), some (.ref pp), x2, none, none, none] ∧ os.take i = ts.map some ∧ H' pp = some (.lst (ts.flatten.map V.int))) ⟨hs1.trans (same_new f1 _), [], none, rfl, rfl, upd_same⟩ ?_ ?_ ?_⟩
      · rintro i σ H' _ ⟨hs', _⟩
        exact SqT.of (hs' _ _ hp)
      · rintro i x σ H2 hx1 ⟨hs2, ts, x2, rfl, ets, hpp⟩
        obtain ⟨o', ho', b1⟩ := bs.get hx1
        obtain ⟨b, zs, rfl, hb, hz0⟩ := yes i x hx1
        have hlt := sum_le ho' hsum
        obtain ⟨es, pe, hlz, hcase⟩ : ∃ es, Paired El zs es ∧ zs.length ≤ 60 ∧ ((es.all id = true ∧ ∃ t : List Int, zs = t.map V.int ∧ o' = some t) ∨ (es.all id = false ∧ o' = none)) := by
          cases b1 with
          | @good _ t h hne =>
            rw [h] at hb; cases hb
            exact ⟨_, el_ints t, by rw [List.length_map]; exact hlt, .inl ⟨all_trues t, t, rfl, rfl⟩⟩
          | empty h => rw [h] at hb; cases hb; exact absurd hz0 (Nat.lt_irrefl _)
          | mixed h pe hf hl => rw [h] at hb; cases hb; exact ⟨_, pe, by omega, .inr ⟨all_false hf, rfl⟩⟩
          | lst h => rw [h] at hb; cases hb
        have hb2 := hs2 _ _ hb
        refine ⟨_, rfl, b, rfl, ⟨_, SqT.of hb2⟩, fun D hD => ?_⟩
        refine comp_tup (xs := zs) (fun i ys H' => Same H2 H' ∧ ys = (es.take i).map V.bl ∧ H' D = some (.lst ys)) ⟨same_new hD _, rfl, upd_same⟩ ?_ ?_ ?_
        · rintro i ys H' _ ⟨hs, _⟩
          exact SqT.of (hs _ _ hb2)
        · rintro i y ys H3 hy ⟨hs3, rfl, hD3⟩
          obtain ⟨o2, ho2, el⟩ := el_get pe hy
          refine ⟨_, rfl, y, o2, rfl, el, hD3, ?_, same_but hs3 hD _, ?_, upd_same⟩
          · have := (List.getElem?_eq_some_iff.mp hy).1
            rw [List.length_map, List.length_take]; omega
          · rw [List.take_add_one, ho2, List.map_append]; rfl
        · rintro ys H3 ⟨hs3, rfl, hD3⟩
          rw [List.take_of_length_le (by rw [Paired.length pe]; omega)] at hD3
          refine ⟨D, es, rfl, SqL.of hD3, es.all id, rfl, ?_⟩
          rcases hcase with ⟨ea, t, rfl, rfl⟩ | ⟨ea, rfl⟩
          · rw [ea]
            have hpp3 := hs3 _ _ hpp
            have hb3 := hs3 _ _ hb2
            refine ⟨_, rfl, .inl ⟨rfl, _, SqL.of hpp3⟩, _, rfl, b, _, rfl, .inr (SqT.of hb3), fun l hl => ?_⟩
            have s4 := same_new hl (.lst (t.map V.int))
            have lf : ts.flatten.length + t.length ≤ 60 := by
              have h1 : ((os.take (i + 1)).map fun o : Option (List Int) => (o.getD []).length).sum ≤ 60 := Nat.le_trans (by
                rw [List.map_take]
                exact sum_take _ _) hsum
              rw [List.take_add_one, ho', ets] at h1
              rw [List.length_flatten]
              simpa [Function.comp_def] using h1
            refine ⟨pp, l, _, _, rfl, rfl, s4 _ _ hpp3, upd_same, by rw [List.length_map, List.length_map]; omega, ?_⟩
            refine ⟨same_but ((hs2.trans hs3).trans s4) npp _, ts ++ [t], _, rfl, ?_, ?_⟩
            · rw [List.take_add_one, ho', ets, List.map_append]; rfl
            · rw [upd_same, List.flatten_append, List.map_append]; simp
          · rw [ea]
            have := q H3 (hs2.trans hs3)
            rw [nop (List.mem_of_getElem? ho')] at this
            exact this
      · rintro σ H2 ⟨hs2, ts, x2, rfl, ets, hpp⟩
        rw [List.take_of_length_le (by omega)] at ets
        obtain ⟨as, rfl, T, hn⟩ := bls_tup bs ts ets
        have n60 : ts.flatten.length ≤ 60 := by
          rw [ets] at hsum
          rw [List.length_flatten]
          simpa [Function.comp_def] using hsum
        obtain rfl : o = some ts := by
          cases o with
          | none =>
            rw [ets] at ho
            have : ((ts.map some).map Option.isSome).all id = true := by
              rw [List.all_eq_true]
              intro x hx
              obtain ⟨_, h1, rfl⟩ := List.mem_map.mp hx
              obtain ⟨_, _, rfl⟩ := List.mem_map.mp h1
              rfl
            rw [this] at ho; cases ho
          | some us =>
            cases th with
            | good h U _ _ =>
              rw [hp] at h
              injection h with h
              injection h with h
              have ea := refs_inj h
              subst ea
              rw [tup_det T U]
        have few := few_blocks hn
        have fl : (ts.flatten.map V.int).length = ts.flatten.length := List.length_map ..
        clear nop yes ho ets hx bl bs hsum hs1 f1
        have hp2 := hs2 _ _ hp
        refine ⟨_, rfl, pp, _, rfl, SqL.of hpp, by omega, fun ms l pm so hl => ?_⟩
        have s3 := same_new hl (.lst (ms.map V.int))
        refine ⟨_, rfl, pp, _, rfl, .inl (SqL.of (s3 _ _ hpp)), ts.flatten.length, by rw [fl], by omega, fun l2 hl2 => ?_⟩
        have s4 := same_new hl2 (.lst ((List.range ts.flatten.length).map fun (k : Nat) => V.int (k : Int)))
        refine ⟨.list (ms.map .int), .list ((Br.pts ts.flatten.length).map .int), list_dat (s4 _ _ upd_same), list_dat (by rw [upd_same, rng_pts]), ints_lay _, ints_lay _, ints_depth1 _, !decide (ms = Br.pts ts.flatten.length), congrArg (fun b => V.bl !b) (ints_eqv _ _), ?_⟩
        have hs4 := (hs2.trans s3).trans s4
        have hpp4 := s4 _ _ (s3 _ _ hpp)
        have hp4 := s4 _ _ (s3 _ _ hp2)
        by_cases e1 : ms = Br.pts ts.flatten.length
        case neg =>
          rw [decide_eq_false e1]
          have := q _ hs4
          rw [show isP (some ts) = false from decide_eq_false fun ip => e1 (le_same (pm.trans ip.perm) so ((Br.pts_up _).imp fun h => by omega))] at this
          exact this
        case pos =>
        rw [decide_eq_true e1]
        have perm : ts.flatten.Perm (Br.pts ts.flatten.length) := e1 ▸ pm.symm
        have nd : ts.flatten.Nodup := perm.nodup_iff.mpr (Br.up_nd (Br.pts_up _))
        generalize upd (upd H2 l (.lst (ms.map V.int))) l2 (.lst ((List.range ts.flatten.length).map fun (k : Nat) => V.int (k : Int))) = H4 at hs4 hpp4 hp4
        clear s3 s4 hpp hp2 hs2 hl hl2 e1 pm so
        refine ⟨_, rfl, p, _, rfl, .inr (SqT.of hp4), fun l3 hl3 => ?_⟩
        have s5 := same_new hl3 (.lst (as.map V.ref))
        have hs5 := hs4.trans s5
        refine ⟨_, rfl, p, as, ts, rfl, SqT.of (s5 _ _ hp4), T.same hs5, by omega, nd_blocks nd hn, hn, fun l4 as' ts' T' pm' so' hl4 => ?_⟩
        have s6 := same_new hl4 (.lst (as'.map V.ref))
        have hs6 := hs5.trans s6
        refine ⟨.list (iD ts), .list (iD ts'), .inr ⟨l3, _, _, rfl, s6 _ _ upd_same, tups_dat (T.same hs6), rfl⟩, .inr ⟨l4, _, _, rfl, upd_same, tups_dat (T'.same s6), rfl⟩, iD_lay _, iD_lay _, ?_, !decide (ts = ts'), congrArg (fun b => V.bl !b) (iD_eqv _ _), ?_⟩
        · show PyData.depthAll (iD ts) + 1 ≤ 150
          have := iD_depth ts
          omega
        by_cases e1 : ts = ts'
        case neg =>
          rw [decide_eq_false e1]
          have := q _ hs6
          rw [show isP (some ts) = false from decide_eq_false fun ip => e1 (same_sorted pm'.symm ip.up so')] at this
          exact this
        case pos =>
        rw [decide_eq_true e1]
        have up : ts.Pairwise (· < ·) := e1 ▸ so'
        have hpp6 := s6 _ _ (s5 _ _ hpp4)
        have hp6 := s6 _ _ (s5 _ _ hp4)
        generalize upd (upd H4 l3 (.lst (as.map V.ref))) l4 (.lst (as'.map V.ref)) = H6 at hs6 hpp6 hp6
        clear s5 s6 hs5 hl3 hl4 T' pm' so' e1 hpp4 hp4 hs4
        intro ph hph
        have s7 := same_new hph (.dK [])
        have nph : H ph = none := by
          cases e5 : H ph with
          | none => rfl
          | some o => rw [hs6 _ _ e5] at hph; cases hph
        have npp2 : pp ≠ ph := fun e => by rw [← e, hpp6] at hph; cases hph
        refine ⟨_, rfl, p, _, rfl, s7 _ _ hp6, for_enumT (a := p) (xs := as.map V.ref) (fun i σ H' => ∃ (kvs : List (Key × V)) (x2 x4 x5 : Option V), σ = [some (.ref p), some (.ref pp), x2, some (.ref ph), x4, x5] ∧ Same H H' ∧ H' pp = some (.lst (ts.flatten.map V.int)) ∧ H' ph = some (.dK kvs) ∧
          kvs.length ≤ (ts.take i).flatten.length ∧ (∀ B ∈ ts.take i, B.Pairwise (· < ·)) ∧ ∀ (j : Nat) (B : List Int) (x : Int), j < i → ts[j]? = some B → x ∈ B → valV kvs (.inl x) = some (.int (j : Nat))) ?_ ?_ ?_ ?_⟩
        · exact ⟨[], _, none, none, rfl, hs6.trans s7, s7 _ _ hpp6, upd_same, Nat.zero_le _, (fun B h => by cases h), fun j B x h => absurd h (Nat.not_lt_zero _)⟩
        · rintro i σ H' ⟨_, _, _, _, _, hs', _⟩
          exact hs' _ _ hp
        · rintro i y σ H7 Tn hy ⟨kvs, x2, x4, x5, rfl, hs7, hpp7, hph7, lk, ups, vals⟩ hTn
          obtain ⟨a, u, rfl, hu', ha⟩ := TupI_at' T hy
          have mu := List.mem_of_getElem? hu'
          have lu := in_flat mu
          refine ⟨Tn, _, rfl, SqT.of upd_same, rfl, _, _, rfl, _, _, rfl, rfl, ?_⟩
          have sT := same_new hTn (.tup [V.int (i : Nat), V.ref a])
          have hs8 := hs7.trans sT
          have hpp8 := sT _ _ hpp7
          have hph8 := sT _ _ hph7
          generalize upd H7 Tn (.tup [V.int (i : Nat), V.ref a]) = H8 at hs8 hpp8 hph8
          clear sT hs7 hpp7 hph7 hTn
          refine ⟨_, rfl, a, _, rfl, .inr (SqT.of (hs8 _ _ ha)), fun l hl => ?_⟩
          have s9 := same_new hl (.lst (u.map V.int))
          refine ⟨_, rfl, a, u, rfl, SqT.of (s9 _ _ (hs8 _ _ ha)), by omega, fun ms l2 pm so hl2 => ?_⟩
          have s10 := same_new hl2 (.lst (ms.map V.int))
          refine ⟨.list (u.map .int), .list (ms.map .int), list_dat (s10 _ _ upd_same), list_dat upd_same, ints_lay _, ints_lay _, ints_depth1 _, !decide (u = ms), congrArg (fun b => V.bl !b) (ints_eqv _ _), ?_⟩
          have hs10 := (hs8.trans s9).trans s10
          by_cases e1 : u = ms
          case neg =>
            rw [decide_eq_false e1]
            have := q _ hs10
            rw [show isP (some ts) = false from decide_eq_false fun ip => e1 (le_same pm.symm ((ip.ups u mu).1.imp fun h => by omega) so)] at this
            exact this
          case pos =>
          rw [decide_eq_true e1]
          have ule : u.Pairwise (· ≤ ·) := e1 ▸ so
          have und : u.Nodup := (List.pairwise_flatten.mp nd).1 u mu
          have ult : u.Pairwise (· < ·) := List.Pairwise.imp₂ (fun x y h1 h2 => by omega) ule und
          have hpp10 := s10 _ _ (s9 _ _ hpp8)
          have hph10 := s10 _ _ (s9 _ _ hph8)
          generalize upd (upd H8 l (.lst (u.map V.int))) l2 (.lst (ms.map V.int)) = H10 at hs10 hpp10 hph10
          clear s9 s10 hs8 hpp8 hph8 hl hl2 pm so e1
          refine ⟨_, rfl, a, rfl, ⟨_, SqT.of (hs10 _ _ ha)⟩, for_tup (xs := u.map V.int) (fun j σ H' => ∃ (kvs : List (Key × V)) (x5 : Option V), σ = [some (.ref p), some (.ref pp), some (.ref a), some (.ref ph), some (.int (i : Nat)), x5] ∧ Same H H' ∧ H' pp = some (.lst (ts.flatten.map V.int)) ∧ H' ph = some (.dK kvs) ∧
            kvs.length ≤ (ts.take i).flatten.length + j ∧ (∀ (j : Nat) (B : List Int) (x : Int), j < i → ts[j]? = some B → x ∈ B → valV kvs (.inl x) = some (.int (j : Nat))) ∧ ∀ x ∈ u.take j, valV kvs (.inl x) = some (.int (i : Nat))) ?_ ?_ ?_ ?_⟩
          · exact ⟨kvs, _, rfl, hs10, hpp10, hph10, lk, vals, fun x h => by cases h⟩
          · rintro j σ H' _ ⟨_, _, _, hs', _⟩
            exact SqT.of (hs' _ _ ha)
          · rintro j y σ H11 hy2 ⟨kvs, x5, rfl, hs11, hpp11, hph11, lk11, v1, v2⟩
            rw [List.getElem?_map] at hy2
            obtain ⟨x, hx, rfl⟩ : ∃ x, u[j]? = some x ∧ y = .int x := by
              cases e : u[j]? with
              | none => rw [e] at hy2; cases hy2
              | some yy => rw [e] at hy2; exact ⟨yy, rfl, (Option.some.inj hy2).symm⟩
            have mx := List.mem_of_getElem? hx
            have hj := (List.getElem?_eq_some_iff.mp hx).1
            have tk : (ts.take i).flatten.length + u.length ≤ ts.flatten.length := by
              have h1 := sum_take (ts.map List.length) (i + 1)
              rw [← List.map_take, List.take_add_one, hu', ← List.length_flatten, ← List.length_flatten] at h1
              simpa using h1
            refine ⟨_, rfl, _, rfl, _, rfl, ph, _, rfl, DPut.k (k := .inl x) hph11 (by omega), putK kvs (.inl x) (.int (i : Nat)), _, rfl, same_but hs11 nph _, by rw [upd_ne npp2]; exact hpp11, upd_same, ?_, fun j' B x' h1 h2 h3 => ?_, fun x' h3 => ?_⟩
            · have := length_putK kvs (.inl x) (.int (i : Nat))
              omega
            · rw [valV_put]
              rw [if_neg]
              · exact v1 j' B x' h1 h2 h3
              · intro e
                have e' : x' = x := Sum.inl.inj e
                subst e'
                have := Br.one_block nd h2 hu' h3 mx
                omega
            · rw [valV_put]
              by_cases e : (Sum.inl x' : Key) = .inl x
              · rw [if_pos e]
              · rw [if_neg e]
                rw [List.take_add_one, hx] at h3
                rcases List.mem_append.mp h3 with h | h
                · exact v2 x' h
                · have : x' = x := by simpa using h
                  exact absurd (congrArg Sum.inl this) e
          · rintro σ H11 ⟨kvs, x5, rfl, hs11, hpp11, hph11, lk11, v1, v2⟩
            rw [List.length_map] at lk11
            rw [List.length_map, List.take_of_length_le (Nat.le_refl _)] at v2
            refine ⟨kvs, _, _, _, rfl, hs11, hpp11, hph11, ?_, ?_, fun j B x h1 h2 h3 => ?_⟩
            · rw [List.take_add_one, hu', List.flatten_append, List.length_append]
              simpa using lk11
            · rw [List.take_add_one, hu']
              intro B hB
              rcases List.mem_append.mp hB with h | h
              · exact ups B h
              · have : B = u := by simpa using h
                rw [this]; exact ult
            · rcases Nat.lt_or_ge j i with h | h
              · exact v1 j B x h h2 h3
              · have : j = i := by omega
                subst this
                rw [hu'] at h2; cases h2
                exact v2 x h3
        · rintro σ H7 ⟨kvs, x2, x4, x5, rfl, hs7, hpp7, hph7, lk, ups, vals⟩
          have al := T.length
          rw [List.length_map, List.take_of_length_le (by omega)] at ups
          refine ⟨_, rfl, _, rfl, pp, _, rfl, .inl (SqL.of hpp7), ph, ts.flatten.length, kvs, Br.hmI ts, (by rw [fl]; rfl), n60, hph7, fun x h1 h2 => ?_, fun H8 hs8 => ⟨_, rfl, ?_⟩⟩
          · have mx : x ∈ ts.flatten := perm.mem_iff.mpr (Br.mem_pts.mpr ⟨h1, h2⟩)
            obtain ⟨B, hB, hxB⟩ := List.mem_flatten.mp mx
            obtain ⟨j, hj, ej⟩ := List.mem_iff_getElem.mp hB
            have hj' : ts[j]? = some B := by rw [List.getElem?_eq_getElem hj, ej]
            rw [Br.hm_at nd hj' hxB]
            exact vals j B x (by rw [List.length_map, al]; exact hj) hj' hxB
          · have := q H8 (hs7.trans hs8)
            have e : isP (some ts) = !decide (Br.Cr (Br.hmI ts) ts.flatten.length) := by
              show decide (IsPart ts) = _
              by_cases c : Br.Cr (Br.hmI ts) ts.flatten.length
              · rw [decide_eq_true c, decide_eq_false fun ip => ip.cr c]; rfl
              · rw [decide_eq_false c]
                exact decide_eq_true (show IsPart ts from ⟨perm, fun B hB => ⟨ups B hB, hn B hB⟩, up, fun B hB C hC x hx y hy => Br.hm_same nd hB hC hx hy, c⟩)
            rw [e] at this
            exact this
  · refine ⟨_, rfl, _, _, _, rfl, ty, kt, _, rfl, ?_⟩
    exact iteT (q H (Same.refl _))
theorem tup_bls2 {H : Hp} {as : List Addr} {ts : List (List Int)} (T : TupI H as ts) : Bls H (as.map V.ref) (ts.map fun t => if t = [] then none else some t) := by
  induction T with
  | nil => exact .nil
  | @cons a t as ts h _ ih =>
    refine .cons (show Bl H (.ref a) (if t = [] then none else some t) from ?_) ih
    by_cases e : t = []
    · rw [if_pos e]; subst e; exact .empty h
    · rw [if_neg e]; exact .good h e
theorem sum_some (ts : List (List Int)) : ((ts.map fun t => if t = [] then none else some t).map fun o : Option (List Int) => (o.getD []).length).sum = ts.flatten.length := by
  rw [List.map_map, List.length_flatten]
  congr 1
  refine List.map_congr_left fun t _ => ?_
  by_cases e : t = []
  · simp [e]
  · simp [e]
theorem th_any {H : Hp} {p : Addr} {as : List Addr} {ts : List (List Int)} (hp : H p = some (.tup (as.map V.ref))) (T : TupI H as ts) (h1 : ts.length ≤ 60) (h2 : ts.flatten.length ≤ 60) : ∃ o, Th H (.ref p) o := by
  by_cases h : ∀ t ∈ ts, t ≠ []
  · exact ⟨_, .good hp T h h2⟩
  · refine ⟨none, .bad hp (tup_bls2 T) ?_ (by rw [List.length_map, T.length]; exact h1) (by rw [sum_some]; exact h2)⟩
    refine Classical.byContradiction fun g => h fun t ht e => g ?_
    exact List.mem_map.mpr ⟨t, ht, if_pos e⟩
theorem th_more {H : Hp} {p : Addr} {as : List Addr} {ts : List (List Int)} {x : V} (hp : H p = some (.tup (as.map V.ref ++ [x]))) (T : TupI H as ts) (b : Bl H x none) (h1 : ts.length < 60) (h2 : ts.flatten.length ≤ 60) : Th H (.ref p) none := by
  have app : ∀ {xs ys : List V} {os us : List (Option (List Int))}, Bls H xs os → Bls H ys us → Bls H (xs ++ ys) (os ++ us) := fun h g => by
    induction h with
    | nil => exact g
    | cons h _ ih => exact .cons h ih
  refine .bad hp (app (tup_bls2 T) (.cons b .nil)) (List.mem_append_right _ (List.mem_singleton.mpr rfl)) ?_ ?_
  · rw [List.length_append, List.length_map, T.length]; exact h1
  · rw [List.map_append, List.sum_append, sum_some]; exact h2
theorem tup_take {H : Hp} {as : List Addr} {ts : List (List Int)} (T : TupI H as ts) : ∀ i, TupI H (as.take i) (ts.take i) := by
  induction T with
  | nil => intro i; rw [List.take_nil, List.take_nil]; exact .nil
  | cons h _ ih =>
    intro i
    cases i with
    | zero => exact .nil
    | succ i => rw [List.take_succ_cons, List.take_succ_cons]; exact .cons h (ih i)
theorem tup_drop {H : Hp} {as : List Addr} {ts : List (List Int)} (T : TupI H as ts) : ∀ i, TupI H (as.drop i) (ts.drop i) := by
  induction T with
  | nil => intro i; rw [List.drop_nil, List.drop_nil]; exact .nil
  | cons h T ih =>
    intro i
    cases i with
    | zero => exact .cons h T
    | succ i => rw [List.drop_succ_cons, List.drop_succ_cons]; exact ih i
theorem tup_rev {H : Hp} {as : List Addr} {ts : List (List Int)} (T : TupI H as ts) : TupI H as.reverse ts.reverse := by
  induction T with
  | nil => exact .nil
  | cons h _ ih => rw [List.reverse_cons, List.reverse_cons]; exact ih.append (.cons h .nil)
theorem flat_take (ts : List (List Int)) (i : Nat) : (ts.take i).flatten.length ≤ ts.flatten.length := by
  rw [List.length_flatten, List.length_flatten, List.map_take]; exact sum_take _ _
theorem flat_drop : ∀ (ts : List (List Int)) (i : Nat), (ts.drop i).flatten.length ≤ ts.flatten.length
  | [], i => by rw [List.drop_nil]; exact Nat.le_refl _
  | a :: ts, 0 => Nat.le_refl _
  | a :: ts, i + 1 => by
    have := flat_drop ts i
    rw [List.drop_succ_cons, List.flatten_cons, List.length_append]
    omega
theorem flat_rev (ts : List (List Int)) : ts.reverse.flatten.length = ts.flatten.length := by
  rw [List.length_flatten, List.length_flatten, List.map_reverse, List.sum_reverse]
structure Rws (m : Nat) (H₀ H : Hp) (pr : Addr) (bs : List Addr) (ls : List (List Int)) : Prop where
  same : Same H₀ H
  rows : H pr = some (.lst (bs.map V.ref))
  lst : LstI H bs ls
  npr : H₀ pr = none
  nbs : ∀ b ∈ bs, H₀ b = none
  nin : pr ∉ bs
  sum : (ls.map List.length).sum ≤ m
  len : ls.length ≤ 50
theorem none_back {H H' : Hp} {p : Addr} (s : Same H H') (h : H' p = none) : H p = none := by
  cases e : H p with
  | none => rfl
  | some o => rw [s _ _ e] at h; cases h
theorem sum_set : ∀ (ls : List (List Int)) (i : Nat) (l : List Int) (k : Nat), l.length ≤ (ls.getD i []).length + k → ((ls.set i l).map List.length).sum ≤ (ls.map List.length).sum + k
  | [], i, l, k, h => by simp
  | a :: ls, 0, l, k, h => by
    have h' : l.length ≤ a.length + k := h
    rw [List.set_cons_zero, List.map_cons, List.map_cons, List.sum_cons, List.sum_cons]
    omega
  | a :: ls, i + 1, l, k, h => by
    have := sum_set ls i l k h
    rw [List.set_cons_succ, List.map_cons, List.map_cons, List.sum_cons, List.sum_cons]
    omega
theorem Rws.put {m m' : Nat} {H₀ H : Hp} {pr : Addr} {bs : List Addr} {ls : List (List Int)} (R : Rws m H₀ H pr bs ls) {i : Nat} {a : Addr} (h : bs[i]? = some a) (l : List Int) (hs : ((ls.set i l).map List.length).sum ≤ m') : Rws m' H₀ (upd H a (.lst (l.map V.int))) pr bs (ls.set i l) := by
  have ma := List.mem_of_getElem? h
  have ne : pr ≠ a := fun e => R.nin (e ▸ ma)
  exact ⟨same_but R.same (R.nbs a ma) _, by rw [upd_ne ne]; exact R.rows, R.lst.put h l, R.npr, R.nbs, R.nin, hs, by rw [List.length_set]; exact R.len⟩
theorem Rws.new {m : Nat} {H₀ H : Hp} {pr p : Addr} {bs : List Addr} {ls : List (List Int)} (R : Rws m H₀ H pr bs ls) (h : H p = none) (o : HO) : Rws m H₀ (upd H p o) pr bs ls :=
  ⟨R.same.trans (same_new h o), same_new h o _ _ R.rows, R.lst.same (same_new h o), R.npr, R.nbs, R.nin, R.sum, R.len⟩
theorem Rws.get {m : Nat} {H₀ H : Hp} {pr : Addr} {bs : List Addr} {ls : List (List Int)} (R : Rws m H₀ H pr bs ls) {i : Nat} (h : i < bs.length) : ∃ a l, bs[i]? = some a ∧ ls[i]? = some l ∧ H a = some (.lst (l.map V.int)) ∧ atI (bs.map V.ref) (i : Int) = some (.ref a) := by
  have h2 : i < ls.length := by rw [← R.lst.len]; exact h
  have e1 : bs[i]? = some bs[i] := List.getElem?_eq_getElem h
  have e2 : ls[i]? = some ls[i] := List.getElem?_eq_getElem h2
  exact ⟨_, _, e1, e2, R.lst.at_ i _ _ e1 e2, atI_nat (by rw [List.getElem?_map, e1]; rfl)⟩
theorem getD_of {ls : List (List Int)} {i : Nat} {l : List Int} (h : ls[i]? = some l) : ls.getD i [] = l := by rw [List.getD_eq_getElem?_getD, h]; rfl
theorem ix_nat {n i : Nat} (h : i < n) : ixN n (i : Int) = some i := by
  unfold ixN
  rw [if_pos (by omega), if_pos (by omega)]
  simp
theorem ix_last {n : Nat} (h : 0 < n) : ixN n (-1) = some (n - 1) := by
  unfold ixN
  rw [if_neg (by decide), if_pos (by omega)]
  congr 1
  omega
abbrev SPN : List Str := ["_law_parting_here", "_law_cell_here", "_law_rows", "_law_one", "_law_other", "_law_way"]
theorem scSp6 : FnScope SPN ["_law_parting_here", "_law_cell_here"] (defScope st__law_spoilt) := ⟨rfl, rfl, rfl, by decide +kernel, rfl, by decide +kernel, by decide +kernel⟩
abbrev XS6 (P : Program) (w : World) (K : PySem.W.Frag) (mg : Str → Option Value) (base : Heap) (f : Addr) (cdv : Value) (A : Around) (outer : List Env) (s : Shared) (H : Hp) (E : XK) : Cx := (cxOf (CX1 P w) P w K mg base SPN "_law_spoilt" (defScope st__law_spoilt) f cdv A outer s H E).nox
def sp6 (i : Nat) : Stmt := (defBody st__law_spoilt).getD i (.Pass ⟨0, 0, 0, 0⟩)
abbrev stS (p : Addr) (c : Int) (pr : Addr) (one oth : Nat) (way : Int) : St := [some (.ref p), some (.int c), some (.ref pr), some (.int (one : Nat)), some (.int (oth : Nat)), some (.int way)]
section
variable {cdv : Value} {A : Around} {outer : List Env} {s₀ : Shared} {H₀ : Hp} {E : XK} {H₁ : Hp} {m : Nat}
theorem sp_one : PS (XS6 P w K mg base f cdv A outer s₀ H₀ E) (sp6 5) (fun D σ H => ∃ p c pr one oth way bs ls, σ = stS p c pr one oth way ∧ Rws m H₁ H pr bs ls ∧ one < bs.length ∧ oth < bs.length ∧ (∀ l ∈ ls, l ≠ []) ∧ ∀ H' ls', Rws m H₁ H' pr bs ls' → (∀ l ∈ ls', l ≠ []) → D.nx σ H') := by
  refine PS.imp (ps_if (pt_cmpR op_eq (pv 5) pe_int (nomark _))
    (pss_one (ps_asg (pe_tup (pa_cons (pe_ix ix_list (pe_ix ix_list (pv 2) (pv 4) (fun _ _ => rfl)) pe_int (fun _ _ => rfl)) (pa_cons (pe_ix ix_list (pe_ix ix_list (pv 2) (pv 3) (fun _ _ => rfl)) (pe_un un_neg pe_int) (fun _ _ => rfl)) pa_nil)))
      (pg_tup rfl (pgs_cons (pg_sub (pe_ix ix_list (pv 2) (pv 3) (fun _ _ => rfl)) (pe_un un_neg pe_int) set_list) (pgs_cons (pg_sub (pe_ix ix_list (pv 2) (pv 4) (fun _ _ => rfl)) pe_int set_list) pgs_nil))))) pss_nil) fun D σ H h => ?_
  obtain ⟨p, c, pr, one, oth, way, bs, ls, rfl, R, h1, h2, ne, q⟩ := h
  have s1k := small1000 (n := 1000) (by omega)
  refine ⟨_, rfl, rfl, _, rfl, ?_⟩
  refine ite2 (fun e => ?_) (fun e => ?_)
  case refine_2 => exact q H ls R ne
  obtain ⟨a1, l1, b1, g1, c1, d1⟩ := R.get h1
  obtain ⟨a2, l2, b2, g2, c2, d2⟩ := R.get h2
  have n1 := ne l1 (List.mem_of_getElem? g1)
  have n2 := ne l2 (List.mem_of_getElem? g2)
  have z1 : 0 < l1.length := List.length_pos_iff.mpr n1
  have z2 : 0 < l2.length := List.length_pos_iff.mpr n2
  have f2 : atI (l2.map V.int) 0 = some (.int l2[0]) := atI_nat (j := 0) (by rw [List.getElem?_map, List.getElem?_eq_getElem z2]; rfl)
  refine ⟨_, rfl, _, rfl, pr, _, _, _, rfl, rfl, SqL.of R.rows, d2, a2, _, _, _, rfl, rfl, SqL.of c2, f2, ?_⟩
  refine ⟨_, rfl, _, rfl, pr, _, _, _, rfl, rfl, SqL.of R.rows, d1, 1, rfl, a1, _, _, _, rfl, rfl, SqL.of c1, last_at n1, ?_⟩
  refine ⟨by show 2 ≤ sizeLine; decide, fun pt hpt => ⟨pt, _, rfl, SqT.of upd_same, rfl, ?_⟩⟩
  have R1 := R.new hpt (.tup [V.int l2[0], V.int (l1.getLastD 0)])
  obtain ⟨a1', l1', b1', g1', c1', d1'⟩ := R1.get h1
  rw [b1] at b1'; cases b1'
  rw [g1] at g1'; cases g1'
  refine ⟨_, _, rfl, _, rfl, _, rfl, pr, _, _, _, rfl, rfl, SqL.of R1.rows, d1', 1, rfl, a1, _, _, _, rfl, rfl, c1', ix_last (by rw [List.length_map]; exact z1), ?_⟩
  have m1 : (l1.map V.int).set ((l1.map V.int).length - 1) (.int l2[0]) = (l1.set (l1.length - 1) l2[0]).map V.int := by rw [List.map_set, List.length_map]
  rw [m1]
  have R2 := R1.put (m' := m) b1 (l1.set (l1.length - 1) l2[0]) (by
    have := sum_set ls one (l1.set (l1.length - 1) l2[0]) 0 (by rw [getD_of g1, List.length_set]; omega)
    have := R.sum
    omega)
  obtain ⟨a2', l2', b2', g2', c2', d2'⟩ := R2.get h2
  rw [b2] at b2'; cases b2'
  have ne2 : ∀ l ∈ ls.set one (l1.set (l1.length - 1) l2[0]), l ≠ [] := fun l hl => by
    rcases List.mem_or_eq_of_mem_set hl with h | h
    · exact ne l h
    · rw [h]; exact List.length_pos_iff.mp (by rw [List.length_set]; exact z1)
  have n2' := ne2 l2' (List.mem_of_getElem? g2')
  have z2' : 0 < l2'.length := List.length_pos_iff.mpr n2'
  refine ⟨_, _, rfl, _, rfl, _, rfl, pr, _, _, _, rfl, rfl, SqL.of R2.rows, d2', a2, _, _, _, rfl, rfl, c2', ix_nat (i := 0) (by rw [List.length_map]; exact z2'), rfl, ?_⟩
  have m2 : (l2'.map V.int).set 0 (.int (l1.getLastD 0)) = (l2'.set 0 (l1.getLastD 0)).map V.int := by rw [List.map_set]
  rw [m2]
  have R3 := R2.put (m' := m) b2 (l2'.set 0 (l1.getLastD 0)) (by
    have := sum_set (ls.set one (l1.set (l1.length - 1) l2[0])) oth (l2'.set 0 (l1.getLastD 0)) 0 (by rw [getD_of g2', List.length_set]; omega)
    have := R2.sum
    omega)
  refine q _ _ R3 fun l hl => ?_
  rcases List.mem_or_eq_of_mem_set hl with h | h
  · exact ne2 l h
  · rw [h]; exact List.length_pos_iff.mp (by rw [List.length_set]; exact z2')
theorem sp_two : PS (XS6 P w K mg base f cdv A outer s₀ H₀ E) (sp6 6) (fun D σ H => ∃ p c pr one oth way bs ls, σ = stS p c pr one oth way ∧ Rws m H₁ H pr bs ls ∧ one < bs.length ∧ oth < bs.length ∧ (∀ l ∈ ls, l ≠ []) ∧ m ≤ 50 ∧ ∀ H' ls', Rws (m + 1) H₁ H' pr bs ls' → D.nx σ H') := by
  refine PS.imp (ps_if (pt_cmpR op_eq (pv 5) pe_int (nomark _))
    (pss_one (ps_expr (pe_bm PySem.F.plainAttrs_list PySem.F.slot_list_append PySem.F.type_list_append mt_append (pe_ix ix_list (pv 2) (pv 3) (fun _ _ => rfl))
      (pa_cons (pe_bm0 PySem.F.plainAttrs_list PySem.F.slot_list_pop PySem.F.type_list_pop mt_pop (pe_ix ix_list (pv 2) (pv 4) (fun _ _ => rfl))) pa_nil)))) pss_nil) fun D σ H h => ?_
  obtain ⟨p, c, pr, one, oth, way, bs, ls, rfl, R, h1, h2, ne, hm, q⟩ := h
  have s1k := small1000 (n := 1000) (by omega)
  have rs := R.sum
  refine ⟨_, rfl, rfl, _, rfl, ?_⟩
  refine ite2 (fun e => ?_) (fun e => ?_)
  case refine_2 => exact q H ls ⟨R.same, R.rows, R.lst, R.npr, R.nbs, R.nin, by omega, R.len⟩
  obtain ⟨a1, l1, b1, g1, c1, d1⟩ := R.get h1
  obtain ⟨a2, l2, b2, g2, c2, d2⟩ := R.get h2
  have n2 := ne l2 (List.mem_of_getElem? g2)
  have z2 : 0 < l2.length := List.length_pos_iff.mpr n2
  have lst : (l2.map V.int)[(l2.map V.int).length - 1]? = some (V.int (l2.getLastD 0)) := by
    rw [List.length_map, List.getElem?_map, List.getElem?_eq_getElem (by omega), Br.getLastD_eq z2]; rfl
  have drp : (l2.map V.int).dropLast = l2.dropLast.map V.int := List.map_dropLast.symm
  refine ⟨_, rfl, _, rfl, pr, _, _, _, rfl, rfl, SqL.of R.rows, d1, .inl ⟨rfl, _, SqL.of c1⟩, _, rfl, _, rfl, pr, _, _, _, rfl, rfl, SqL.of R.rows, d2, .inl ⟨rfl, _, SqL.of c2⟩, a2, _, _, rfl, rfl, c2, lst, ?_⟩
  rw [drp]
  have R1 := R.put (m' := m) b2 l2.dropLast (by
    have := sum_set ls oth l2.dropLast 0 (by rw [getD_of g2, List.length_dropLast]; omega)
    omega)
  obtain ⟨a1', l1', b1', g1', c1', d1'⟩ := R1.get h1
  rw [b1] at b1'; cases b1'
  have s2 := sum_set (ls.set oth l2.dropLast) one (l1' ++ [l2.getLastD 0]) 1 (by rw [getD_of g1', List.length_append]; exact Nat.le_refl _)
  have l1l : l1'.length ≤ m := by
    have h := in_flat (List.mem_of_getElem? g1')
    rw [List.length_flatten] at h
    exact Nat.le_trans h R1.sum
  refine ⟨a1, _, _, rfl, rfl, c1', by rw [List.length_map]; omega, ?_⟩
  have em : l1'.map V.int ++ [V.int (l2.getLastD 0)] = (l1' ++ [l2.getLastD 0]).map V.int := by rw [List.map_append]; rfl
  rw [em]
  exact q _ _ (R1.put b1 (l1' ++ [l2.getLastD 0]) (by have := R1.sum; omega))
theorem sp_four : PS (XS6 P w K mg base f cdv A outer s₀ H₀ E) (sp6 8) (fun D σ H => ∃ p c pr one oth way bs ls, σ = stS p c pr one oth way ∧ Rws m H₁ H pr bs ls ∧ one < bs.length ∧ ∀ H' bs' ls', Rws m H₁ H' pr bs' ls' → D.nx σ H') := by
  refine PS.imp (ps_if (pt_cmpR op_eq (pv 5) pe_int (nomark _))
    (pss_one (ps_asg (pe_rev (pe_ix ix_list (pv 2) (pv 3) (fun _ _ => rfl)) (po_some (pe_un un_neg pe_int))) (pg_sub (pv 2) (pv 3) set_list))) pss_nil) fun D σ H h => ?_
  obtain ⟨p, c, pr, one, oth, way, bs, ls, rfl, R, h1, q⟩ := h
  refine ⟨_, rfl, rfl, _, rfl, ?_⟩
  refine ite2 (fun e => ?_) (fun e => ?_)
  case refine_2 => exact q H bs ls R
  obtain ⟨a1, l1, b1, g1, c1, d1⟩ := R.get h1
  refine ⟨_, rfl, _, rfl, pr, _, _, _, rfl, rfl, SqL.of R.rows, d1, 1, rfl, _, rfl, rfl, a1, l1, rfl, SqL.of c1, fun l ms hms hl => ?_⟩
  have R1 := R.new hl (.lst (ms.map V.int))
  refine ⟨_, rfl, _, rfl, pr, _, _, _, rfl, rfl, R1.rows, ix_nat (by rw [List.length_map]; exact h1), ?_⟩
  have em : (bs.map V.ref).set one (.ref l) = (bs.set one l).map V.ref := by rw [List.map_set]
  rw [em]
  have nl : l ∉ bs := R.lst.notin hl
  have npl : pr ≠ l := fun e => by rw [← e, R.rows] at hl; cases hl
  have memset : ∀ b ∈ bs.set one l, b ∈ bs ∨ b = l := fun b hb => List.mem_or_eq_of_mem_set hb
  refine q _ _ (ls.set one ms) ⟨same_but R1.same R.npr _, upd_same, ?_, R.npr, fun b hb => ?_, fun hb => ?_, ?_, by rw [List.length_set]; exact R.len⟩
  · refine LstI.keep ?_ _ fun hb => ?_
    · refine ⟨?_, by rw [List.length_set, List.length_set]; exact R.lst.len, fun i a m hi hj => ?_⟩
      · have hnd := R.lst.nd
        rw [List.nodup_iff_pairwise_ne] at *
        rw [List.pairwise_iff_getElem] at *
        intro i j hi hj hij
        rw [List.length_set] at hi hj
        rw [List.getElem_set, List.getElem_set]
        split
        · split
          · omega
          · exact fun e => nl (e ▸ List.getElem_mem _)
        · split
          · exact fun e => nl (e ▸ List.getElem_mem _)
          · exact hnd i j hi hj hij
      · have hil : i < bs.length := by have := (List.getElem?_eq_some_iff.mp hi).1; rwa [List.length_set] at this
        by_cases e1 : one = i
        · subst e1
          rw [List.getElem?_set_self hil] at hi
          rw [List.getElem?_set_self (by rw [← R.lst.len]; exact hil)] at hj
          cases hi; cases hj
          exact upd_same
        · rw [List.getElem?_set_ne e1] at hi hj
          exact R1.lst.at_ i a m hi hj
    · rcases memset _ hb with h | h
      · exact R.nin h
      · exact npl h
  · rcases memset b hb with h | h
    · exact R.nbs b h
    · rw [h]; exact none_back R.same hl
  · rcases memset _ hb with h | h
    · exact R.nin h
    · exact npl h
  · have := sum_set ls one ms 0 (by rw [getD_of g1]; omega)
    have := R.sum
    omega
theorem sp_zero : PS (XS6 P w K mg base f cdv A outer s₀ H₀ E) (sp6 4) (fun D σ H => ∃ p c pr one oth way as ts, σ = stS p c pr one oth way ∧ Same H₁ H ∧ H₁ p = some (.tup (as.map V.ref)) ∧ TupI H₁ as ts ∧ one < as.length ∧ ts.length ≤ 50 ∧ ts.flatten.length ≤ 50 ∧ (∀ v o H', Same H₁ H' → Th H' v o → D.rt v H') ∧ D.nx σ H) := by
  refine PS.imp (ps_if (pt_cmpR op_eq (pv 5) pe_int (nomark _))
    (pss_one (ps_ret (pe_op op_catT2 (pe_slice sl_tup (pv 0) po_none (po_some (pv 3))) (pe_slice sl_tup (pv 0) (po_some (pe_op op_add (pv 3) pe_int)) po_none)))) pss_nil) fun D σ H h => ?_
  obtain ⟨p, c, pr, one, oth, way, as, ts, rfl, hs, hp, T, h1, lt, lf, dn, q⟩ := h
  have s1k := small1000 (n := 1000) (by omega)
  have al := T.length
  refine ⟨_, rfl, rfl, _, rfl, ?_⟩
  refine ite2 (fun e => ?_) (fun e => ?_)
  case refine_2 => exact q
  have hp1 := hs _ _ hp
  have ml : (as.map V.ref).length = as.length := List.length_map ..
  refine ⟨_, rfl, _, rfl, _, rfl, p, _, rfl, SqT.of hp1, ?_, fun p1 f1 => ?_⟩
  · rintro ⟨_, h⟩
    rw [HT.sIx_nat] at h
    omega
  have e1 : cutV (as.map V.ref) none (some (one : Int)) = (as.take one).map V.ref := by rw [cut_to _ _ (by omega), List.map_take]
  rw [e1]
  have s1 := same_new f1 (.tup ((as.take one).map V.ref))
  refine ⟨_, rfl, _, rfl, _, _, rfl, rfl, _, rfl, p, _, rfl, SqT.of (s1 _ _ hp1), ?_, fun p2 f2 => ?_⟩
  · rintro ⟨h, _⟩
    have ei : (one : Int) + 1 = ((one + 1 : Nat) : Int) := by omega
    rw [ei, HT.sIx_nat] at h
    omega
  have ei : (one : Int) + 1 = ((one + 1 : Nat) : Int) := by omega
  have e2 : cutV (as.map V.ref) (some ((one : Int) + 1)) none = (as.drop (one + 1)).map V.ref := by rw [ei, cut_from _ _ (by omega), List.map_drop]
  rw [e2]
  have s2 := same_new f2 (.tup ((as.drop (one + 1)).map V.ref))
  have hs2 := (hs.trans s1).trans s2
  have d2 := tup_drop (T.same hs2) (one + 1)
  have d1 := tup_take (T.same hs2) one
  have lf1 := flat_take ts one
  have lf2 := flat_drop ts (one + 1)
  refine ⟨p1, p2, _, _, rfl, rfl, SqT.of (s2 _ _ upd_same), SqT.of upd_same, ?_, fun _ => ?_, fun _ _ => ?_, fun _ _ p3 f3 => ?_⟩
  · rw [List.length_map, List.length_map, List.length_take, List.length_drop]; omega
  · obtain ⟨o, th⟩ := th_any upd_same d2 (by rw [List.length_drop]; omega) (by omega)
    exact dn _ o _ hs2 th
  · obtain ⟨o, th⟩ := th_any (s2 _ _ upd_same) d1 (by rw [List.length_take]; omega) (by omega)
    exact dn _ o _ hs2 th
  · have s3 := same_new f3 (.tup ((as.take one).map V.ref ++ (as.drop (one + 1)).map V.ref))
    obtain ⟨o, th⟩ := th_any (as := as.take one ++ as.drop (one + 1)) (ts := ts.take one ++ ts.drop (one + 1)) (by rw [List.map_append]; exact upd_same) ((d1.append d2).same s3) (by rw [List.length_append, List.length_take, List.length_drop]; omega) (by
      have h1 : (ts.take one ++ ts.drop (one + 1)).flatten.length ≤ ts.flatten.length := by
        rw [List.flatten_append, List.length_append]
        have h2 := congrArg (fun l : List (List Int) => l.flatten.length) (List.take_append_drop one ts)
        simp only [List.flatten_append, List.length_append] at h2
        have h3 : (ts.drop (one + 1)).flatten.length ≤ (ts.drop one).flatten.length := by
          rw [← List.drop_drop]; exact flat_drop _ 1
        omega
      omega)
    exact dn _ o _ (hs2.trans s3) th
theorem sp_three (mt : mg "tuple" = none) (mrev : mg "reversed" = none) : PS (XS6 P w K mg base f cdv A outer s₀ H₀ E) (sp6 7) (fun D σ H => ∃ p c pr one oth way as ts, σ = stS p c pr one oth way ∧ Same H₁ H ∧ H₁ p = some (.tup (as.map V.ref)) ∧ TupI H₁ as ts ∧ one < as.length ∧ ts.length ≤ 50 ∧ ts.flatten.length ≤ 50 ∧ (∀ v o H', Same H₁ H' → Th H' v o → D.rt v H') ∧ D.nx σ H) := by
  refine PS.imp (ps_if (pt_cmpR op_eq (pv 5) pe_int (nomark _))
    (pss_one (ps_ret (pe_tupRev rfl rfl mt rfl mrev (pa_cons (pv 0) pa_nil)))) pss_nil) fun D σ H h => ?_
  obtain ⟨p, c, pr, one, oth, way, as, ts, rfl, hs, hp, T, h1, lt, lf, dn, q⟩ := h
  refine ⟨_, rfl, rfl, _, rfl, ?_⟩
  refine ite2 (fun e => ?_) (fun e => ?_)
  case refine_2 => exact q
  refine ⟨_, rfl, p, _, rfl, hs _ _ hp, fun e => ?_, fun l hl => ?_⟩
  · have : as.length = 0 := by have := congrArg List.length e; rw [List.length_map] at this; exact this
    omega
  · have s1 := same_new hl (.tup (as.map V.ref).reverse)
    obtain ⟨o, th⟩ := th_any (as := as.reverse) (by rw [List.map_reverse]; exact upd_same) (tup_rev (T.same (hs.trans s1))) (by rw [List.length_reverse]; omega) (by rw [flat_rev]; omega)
    exact dn _ o _ (hs.trans s1) th
theorem sp_five (ml : mg "list" = none) : PS (XS6 P w K mg base f cdv A outer s₀ H₀ E) (sp6 9) (fun D σ H => ∃ p c pr one oth way as ts, σ = stS p c pr one oth way ∧ Same H₁ H ∧ H₁ p = some (.tup (as.map V.ref)) ∧ TupI H₁ as ts ∧ one < as.length ∧ ts.length ≤ 50 ∧ ts.flatten.length ≤ 50 ∧ (∀ v o H', Same H₁ H' → Th H' v o → D.rt v H') ∧ D.nx σ H) := by
  refine PS.imp (ps_if (pt_cmpR op_eq (pv 5) pe_int (nomark _))
    (pss_one (ps_ret (pe_ix ix_list (pe_lst (pa_cons pe_non (pa_cons pe_str (pa_cons (pe_callTy call_list_of rfl ml PyProof.Rows.boot_list (pa_cons (pv 0) pa_nil))
      (pa_cons (pe_op op_catT2 (pv 0) (pe_tup (pa_cons (pe_tup pa_nil) pa_nil)))
      (pa_cons (pe_op op_catT2 (pv 0) (pe_tup (pa_cons (pe_lst (pa_cons pe_int pa_nil)) pa_nil)))
      (pa_cons (pe_op op_catT2 (pv 0) (pe_tup (pa_cons (pe_tup (pa_cons pe_bl pa_nil)) pa_nil))) (pa_cons pe_int pa_nil)))))))) (pe_op op_mod (pv 3) pe_int) (fun _ _ => rfl)))) pss_nil) fun D σ H h => ?_
  obtain ⟨p, c, pr, one, oth, way, as, ts, rfl, hs, hp, T, h1, lt, lf, dn, q⟩ := h
  have s1k := small1000 (n := 1000) (by omega)
  have al := T.length
  have ml : (as.map V.ref).length = as.length := List.length_map ..
  have ne : as.map V.ref ≠ [] := fun e => by
    have : as.length = 0 := by have := congrArg List.length e; rw [List.length_map] at this; exact this
    omega
  refine ⟨_, rfl, rfl, _, rfl, ?_⟩
  refine ite2 (fun e => ?_) (fun e => ?_)
  case refine_2 => exact q
  have hp0 := hs _ _ hp
  refine ⟨_, rfl, p, _, rfl, .inr (SqT.of hp0), fun q1 f1 => ?_⟩
  have s1 := same_new f1 (.lst (as.map V.ref))
  refine ⟨_, rfl, by show 0 ≤ sizeLine; decide, fun q2 f2 => ⟨by show 1 ≤ sizeLine; decide, fun q3 f3 => ?_⟩⟩
  have s2 := same_new f2 (.tup [])
  have s3 := same_new f3 (.tup [V.ref q2])
  refine ⟨p, q3, _, _, rfl, rfl, SqT.of (s3 _ _ (s2 _ _ (s1 _ _ hp0))), SqT.of upd_same, by rw [ml]; show as.length + 1 ≤ sizeLine; omega, fun e => absurd e ne, (fun _ e => by cases e), fun _ _ q4 f4 => ?_⟩
  have s4 := same_new f4 (.tup (as.map V.ref ++ [V.ref q2]))
  refine ⟨_, rfl, by show 1 ≤ sizeLine; decide, fun q5 f5 => ⟨by show 1 ≤ sizeLine; decide, fun q6 f6 => ?_⟩⟩
  have s5 := same_new f5 (.lst [V.int 99])
  have s6 := same_new f6 (.tup [V.ref q5])
  have s16 := ((((s1.trans s2).trans s3).trans s4).trans s5).trans s6
  refine ⟨p, q6, _, _, rfl, rfl, SqT.of (s16 _ _ hp0), SqT.of upd_same, by rw [ml]; show as.length + 1 ≤ sizeLine; omega, fun e => absurd e ne, (fun _ e => by cases e), fun _ _ q7 f7 => ?_⟩
  have s7 := same_new f7 (.tup (as.map V.ref ++ [V.ref q5]))
  refine ⟨_, rfl, by show 1 ≤ sizeLine; decide, fun q8 f8 => ⟨by show 1 ≤ sizeLine; decide, fun q9 f9 => ?_⟩⟩
  have s8 := same_new f8 (.tup [V.bl true])
  have s9 := same_new f9 (.tup [V.ref q8])
  have s19 := ((s16.trans s7).trans s8).trans s9
  refine ⟨p, q9, _, _, rfl, rfl, SqT.of (s19 _ _ hp0), SqT.of upd_same, by rw [ml]; show as.length + 1 ≤ sizeLine; omega, fun e => absurd e ne, (fun _ e => by cases e), fun _ _ q10 f10 => ?_⟩
  have s10 := same_new f10 (.tup (as.map V.ref ++ [V.ref q8]))
  refine ⟨by show 7 ≤ sizeLine; decide, fun q11 f11 => ?_⟩
  refine ⟨_, rfl, _, _, rfl, rfl, (show (0 : Int) < 7 by decide), ?_⟩
  have s11 := same_new f11 (.lst [V.non, V.str (Str.ofString "01"), V.ref q1, V.ref q4, V.ref q7, V.ref q10, V.int 7])
  have hA := s19.trans (s10.trans s11)
  have hAll := hs.trans hA
  have TA := T.same hAll
  have go : ∀ (k : Nat) (v : V) (o : Option (List (List Int))), [V.non, V.str (Str.ofString "01"), V.ref q1, V.ref q4, V.ref q7, V.ref q10, V.int 7][k]? = some v → Th _ v o → one % 7 = k → rIxL K (V.ref q11) (V.int ((one : Int) % 7)) _ D.rt := fun k v o hk th e => by
    have e2 : (one : Int) % 7 = (k : Int) := by omega
    exact ⟨q11, _, _, _, rfl, congrArg V.int e2, SqL.of upd_same, atI_nat hk, dn v o _ hAll th⟩
  have h7 : one % 7 = 0 ∨ one % 7 = 1 ∨ one % 7 = 2 ∨ one % 7 = 3 ∨ one % 7 = 4 ∨ one % 7 = 5 ∨ one % 7 = 6 := by omega
  have b1 := s10.trans s11
  have b2 := (s8.trans s9).trans b1
  have b3 := ((s5.trans s6).trans s7).trans b2
  have k1 := ((s2.trans s3).trans s4).trans b3
  rcases h7 with e | e | e | e | e | e | e
  · exact go 0 _ _ rfl .non e
  · exact go 1 _ _ rfl (.str _) e
  · exact go 2 _ _ rfl (.lst (k1 _ _ upd_same)) e
  · exact go 3 _ _ rfl (th_more (b3 _ _ upd_same) TA (.empty ((s3.trans (s4.trans b3)) _ _ upd_same)) (by omega) (by omega)) e
  · exact go 4 _ _ rfl (th_more (b2 _ _ upd_same) TA (.lst ((s6.trans (s7.trans b2)) _ _ upd_same)) (by omega) (by omega)) e
  · exact go 5 _ _ rfl (th_more (s11 _ _ upd_same) TA (.mixed ((s9.trans b1) _ _ upd_same) (.cons (.bl true) .nil) (List.mem_singleton.mpr rfl) (by decide)) (by omega) (by omega)) e
  · exact go 6 _ _ rfl (.int 7) e
end
section
variable {cdv : Value} {A : Around} {outer : List Env} {s₀ : Shared} {H₀ : Hp} {E : XK} {H₁ : Hp} {m : Nat}
theorem ones_flat : ∀ n : Nat, ((List.range n).map fun (k : Nat) => [(k : Int)]).flatten.length = n
  | 0 => rfl
  | n + 1 => by
    rw [List.range_succ, List.map_append, List.flatten_append, List.length_append, ones_flat n]
    rfl
theorem sp_six (mt : mg "tuple" = none) (mr : mg "range" = none) (msum : mg "sum" = none) (ml : mg "len" = none) : PS (XS6 P w K mg base f cdv A outer s₀ H₀ E) (sp6 10) (fun D σ H => ∃ p c pr one oth way bs ls, σ = stS p c pr one oth way ∧ Rws m H₁ H pr bs ls ∧ m ≤ 50 ∧ (∀ v o H', Same H₁ H' → Th H' v o → D.rt v H') ∧ D.nx σ H) := by
  refine PS.imp (ps_if (pt_cmpR op_eq (pv 5) pe_int (nomark _))
    (pss_one (ps_ret (pe_callTy call_tuple_of rfl mt PyProof.Rows.boot_tuple (pa_cons
      (pe_comp (esc := defScope st__law_spoilt) (EN := SPN) (N := "_law_point" :: SPN) ⟨by rfl, by decide +kernel, by decide +kernel, by rfl, by decide +kernel, by rfl, by decide +kernel, by rfl, by decide +kernel⟩ rfl rfl rfl
        (pi_range1 rfl mr (pa_cons (pe_callB (call_sumL rfl) rfl msum (by decide +kernel) (pa_cons
          (pe_comp (esc := defScope st__law_spoilt) (EN := SPN) (N := "_law_block" :: SPN) ⟨by rfl, by decide +kernel, by decide +kernel, by rfl, by decide +kernel, by rfl, by decide +kernel, by rfl, by decide +kernel⟩ rfl rfl rfl
            (pi_list (pv 2)) (fun _ _ _ _ _ _ => pifs_nil) (fun _ _ _ _ _ _ => pe_callB (call_lenK (K := K) rfl) rfl ml PySem.boot_len (pa_cons (pv 0) pa_nil))) pa_nil)) pa_nil))
        (fun _ _ _ _ _ _ => pifs_nil) (fun _ _ _ _ _ _ => pe_tup (pa_cons (pv 0) pa_nil))) pa_nil)))) pss_nil) fun D σ H h => ?_
  obtain ⟨p, c, pr, one, oth, way, bs, ls, rfl, R, hm, dn, q⟩ := h
  have s1k := small1000 (n := 1000) (by omega)
  have rs := R.sum
  have bl := R.lst.len
  have rl := R.len
  refine ⟨_, rfl, rfl, _, rfl, ?_⟩
  refine ite2 (fun e => ?_) (fun e => ?_)
  case refine_2 => exact q
  refine ⟨_, rfl, pr, rfl, ⟨_, SqL.of R.rows⟩, fun D1 hD1 => ?_⟩
  refine comp_list (xs := bs.map V.ref) (fun i ys H' => Same H H' ∧ ys = ((ls.take i).map fun l => ((l.length : Nat) : Int)).map V.int ∧ H' D1 = some (.lst ys)) ⟨same_new hD1 _, rfl, upd_same⟩ ?_ ?_ ?_
  · rintro i ys H' _ ⟨hs, _⟩
    exact SqL.of (hs _ _ R.rows)
  · rintro i x ys H2 hx ⟨hs2, rfl, hD2⟩
    have hi : i < bs.length := by have := (List.getElem?_eq_some_iff.mp hx).1; rwa [List.length_map] at this
    obtain ⟨a, l, b1, g1, c1, d1⟩ := R.get hi
    rw [List.getElem?_map, b1] at hx
    cases hx
    refine ⟨_, rfl, a, _, rfl, .inl (SqL.of (hs2 _ _ c1)), hD2, ?_, same_but hs2 hD1 _, ?_, upd_same⟩
    · rw [List.length_map, List.length_map, List.length_take]; omega
    · rw [List.take_add_one, g1, List.map_append, List.map_append, List.length_map]; rfl
  · rintro ys H2 ⟨hs2, rfl, hD2⟩
    rw [List.take_of_length_le (by rw [List.length_map]; omega)] at hD2
    have esum : (ls.map fun l => ((l.length : Nat) : Int)).sum = (((ls.map List.length).sum : Nat) : Int) := by
      generalize ls = l
      induction l with
      | nil => rfl
      | cons x l ih => rw [List.map_cons, List.sum_cons, List.map_cons, List.sum_cons, ih, Int.natCast_add]
    refine ⟨D1, _, rfl, SqL.of hD2, ?_⟩
    rw [esum]
    generalize (ls.map List.length).sum = n at rs
    refine ⟨_, rfl, by omega, by omega, fun D2 hE => ?_⟩
    have en : ((n : Nat) : Int).toNat = n := by omega
    rw [en]
    refine comp_range (fun i ys H' => Same H2 H' ∧ ∃ as : List Addr, ys = as.map V.ref ∧ TupI H' as ((List.range i).map fun (k : Nat) => [(k : Int)]) ∧ H' D2 = some (.lst ys)) ⟨same_new hE _, [], rfl, .nil, upd_same⟩ ?_ ?_
    · rintro i ys H3 hi ⟨hs3, as, rfl, T, hD3⟩
      have e0 : (0 : Int) + (i : Int) = ((i : Nat) : Int) := by omega
      rw [e0]
      have al := T.length
      rw [List.length_map, List.length_range] at al
      refine ⟨_, rfl, by show 1 ≤ sizeLine; decide, fun pt hpt => ?_⟩
      have s4 := same_new hpt (.tup [V.int (i : Nat)])
      refine ⟨s4 _ _ hD3, by rw [List.length_map]; omega, same_but (hs3.trans s4) hE _, as ++ [pt], by rw [List.map_append]; rfl, ?_, upd_same⟩
      rw [List.range_succ, List.map_append]
      exact tup_keepL ((T.same s4).append (.cons upd_same .nil)) (s4 _ _ hD3)
    · rintro ys H3 ⟨hs3, as, rfl, T, hD3⟩
      refine ⟨D2, _, rfl, .inl ⟨SqL.of hD3, fun l hl => ?_⟩⟩
      have s5 := same_new hl (.tup (as.map V.ref))
      obtain ⟨o, th⟩ := th_any upd_same (T.same s5) (by rw [List.length_map, List.length_range]; omega) (by rw [ones_flat]; omega)
      exact dn _ o _ (((R.same.trans hs2).trans hs3).trans s5) th
theorem sp_end (mt : mg "tuple" = none) : PS (XS6 P w K mg base f cdv A outer s₀ H₀ E) (sp6 12) (fun D σ H => ∃ p c pr one oth way bs ls, σ = stS p c pr one oth way ∧ Rws m H₁ H pr bs ls ∧ m ≤ 60 ∧ (∀ v o H', Same H₁ H' → Th H' v o → D.rt v H')) := by
  refine PS.imp (ps_ret (pe_callTy call_tuple_of rfl mt PyProof.Rows.boot_tuple (pa_cons
      (pe_comp (esc := defScope st__law_spoilt) (EN := SPN) (N := "_law_block" :: SPN) ⟨by rfl, by decide +kernel, by decide +kernel, by rfl, by decide +kernel, by rfl, by decide +kernel, by rfl, by decide +kernel⟩ rfl rfl rfl
        (pi_list (pv 2)) (fun _ _ _ _ _ _ => pifs_nil) (fun _ _ _ _ _ _ => pe_callTy (call_tupK (K := K) rfl) rfl mt PyProof.Rows.boot_tuple (pa_cons (pv 0) pa_nil))) pa_nil))) fun D σ H h => ?_
  obtain ⟨p, c, pr, one, oth, way, bs, ls, rfl, R, hm, dn⟩ := h
  have s1k := small1000 (n := 1000) (by omega)
  have rs := R.sum
  have bl := R.lst.len
  have rl := R.len
  refine ⟨_, rfl, pr, rfl, ⟨_, SqL.of R.rows⟩, fun D1 hD1 => ?_⟩
  refine comp_list (xs := bs.map V.ref) (fun i ys H' => Same H H' ∧ ∃ as : List Addr, ys = as.map V.ref ∧ TupI H' as (ls.take i) ∧ H' D1 = some (.lst ys)) ⟨same_new hD1 _, [], rfl, .nil, upd_same⟩ ?_ ?_ ?_
  · rintro i ys H' _ ⟨hs, _⟩
    exact SqL.of (hs _ _ R.rows)
  · rintro i x ys H2 hx ⟨hs2, as, rfl, T, hD2⟩
    have hi : i < bs.length := by have := (List.getElem?_eq_some_iff.mp hx).1; rwa [List.length_map] at this
    obtain ⟨a, l, b1, g1, c1, d1⟩ := R.get hi
    rw [List.getElem?_map, b1] at hx
    cases hx
    have al := T.length
    rw [List.length_take] at al
    refine ⟨_, rfl, a, _, rfl, .inl ⟨SqL.of (hs2 _ _ c1), fun pt hpt => ?_⟩⟩
    have s4 := same_new hpt (.tup (l.map V.int))
    refine ⟨s4 _ _ hD2, by rw [List.length_map]; omega, same_but (hs2.trans s4) hD1 _, as ++ [pt], by rw [List.map_append]; rfl, ?_, upd_same⟩
    rw [List.take_add_one, g1]
    exact tup_keepL ((T.same s4).append (.cons upd_same .nil)) (s4 _ _ hD2)
  · rintro ys H2 ⟨hs2, as, rfl, T, hD2⟩
    rw [List.take_of_length_le (by rw [List.length_map]; omega)] at T
    refine ⟨D1, _, rfl, .inl ⟨SqL.of hD2, fun l hl => ?_⟩⟩
    have s5 := same_new hl (.tup (as.map V.ref))
    obtain ⟨o, th⟩ := th_any upd_same (T.same s5) (by omega) (by rw [List.length_flatten]; omega)
    exact dn _ o _ ((R.same.trans hs2).trans s5) th
theorem sp_rows (ml : mg "list" = none) : PS (XS6 P w K mg base f cdv A outer s₀ H₀ E) (sp6 0) (fun D σ H => ∃ p c as ts, σ = [some (.ref p), some (.int c), none, none, none, none] ∧ H p = some (.tup (as.map V.ref)) ∧ TupI H as ts ∧ ts.length ≤ 50 ∧ ts.flatten.length ≤ m ∧ ∀ H' pr bs, Rws m H H' pr bs ts → D.nx [some (.ref p), some (.int c), some (.ref pr), none, none, none] H') := by
  refine PS.imp (ps_comp (esc := defScope st__law_spoilt) (EN := SPN) (N := "_law_block" :: SPN) (i := 2) ⟨by rfl, by decide +kernel, by decide +kernel, by rfl, by decide +kernel, by rfl, by decide +kernel, by rfl, by decide +kernel⟩ rfl rfl rfl
        (pi_tup (pv 0)) (fun _ _ _ _ _ _ => pifs_nil) (fun _ _ _ _ _ _ => pe_callTy (call_lstK (K := K) rfl) rfl ml PyProof.Rows.boot_list (pa_cons (pv 0) pa_nil)) scSp6.nd rfl rfl rfl) fun D σ H h => ?_
  obtain ⟨p, c, as, ts, rfl, hp, T, lt, lf, q⟩ := h
  have s1k := small1000 (n := 1000) (by omega)
  refine ⟨_, rfl, p, rfl, ⟨_, SqT.of hp⟩, fun D1 hD1 => ?_⟩
  refine comp_tup (xs := as.map V.ref) (fun i ys H' => Same H H' ∧ ∃ bs : List Addr, ys = bs.map V.ref ∧ LstI H' bs (ts.take i) ∧ (∀ b ∈ bs, H b = none) ∧ D1 ∉ bs ∧ H' D1 = some (.lst ys)) ⟨same_new hD1 _, [], rfl, .nil, (fun b h => by cases h), (fun h => by cases h), upd_same⟩ ?_ ?_ ?_
  · rintro i ys H' _ ⟨hs, _⟩
    exact SqT.of (hs _ _ hp)
  · rintro i x ys H2 hx ⟨hs2, bs, rfl, L, nbs, nD, hD2⟩
    obtain ⟨a, u, rfl, hu', ha⟩ := TupI_at' T hx
    have hi : i < ts.length := (List.getElem?_eq_some_iff.mp hu').1
    have bl := L.len
    rw [List.length_take] at bl
    refine ⟨_, rfl, a, _, rfl, .inr (SqT.of (hs2 _ _ ha)), fun l hl => ?_⟩
    have s4 := same_new hl (.lst (u.map V.int))
    have nl : D1 ≠ l := fun e => by rw [← e, hD2] at hl; cases hl
    refine ⟨s4 _ _ hD2, by rw [List.length_map]; omega, same_but (hs2.trans s4) hD1 _, bs ++ [l], by rw [List.map_append]; rfl, ?_, fun b hb => ?_, fun hb => ?_, upd_same⟩
    · rw [List.take_add_one, hu']
      exact ((L.same s4).snoc (L.notin hl) upd_same).keep _ fun hb => (List.mem_append.mp hb).elim nD fun h => nl (List.mem_singleton.mp h)
    · rcases List.mem_append.mp hb with h | h
      · exact nbs b h
      · rw [List.mem_singleton.mp h]; exact none_back hs2 hl
    · exact (List.mem_append.mp hb).elim nD fun h => nl (List.mem_singleton.mp h)
  · rintro ys H2 ⟨hs2, bs, rfl, L, nbs, nD, hD2⟩
    have al := T.length
    rw [List.take_of_length_le (by rw [List.length_map]; omega)] at L
    exact q H2 D1 bs ⟨hs2, hD2, L, hD1, nbs, nD, by rw [← List.length_flatten]; exact lf, lt⟩
end
theorem paired_perm {R : Addr → List Int → Prop} {as bs : List Addr} (p : as.Perm bs) : ∀ {ls : List (List Int)}, Paired R bs ls → ∃ ls', ls'.Perm ls ∧ Paired R as ls' := by
  induction p with
  | nil => intro ls h; cases h; exact ⟨[], .refl _, .nil⟩
  | cons x _ ih =>
    intro ls h
    cases h with
    | cons h1 h2 =>
      obtain ⟨ls', p', q'⟩ := ih h2
      exact ⟨_ :: ls', p'.cons _, .cons h1 q'⟩
  | swap x y l =>
    intro ls h
    cases h with
    | cons h1 h2 =>
      cases h2 with
      | cons h3 h4 => exact ⟨_ :: _ :: _, List.Perm.swap _ _ _, .cons h3 (.cons h1 h4)⟩
  | trans _ _ ih1 ih2 =>
    intro ls h
    obtain ⟨l1, p1, q1⟩ := ih2 h
    obtain ⟨l2, p2, q2⟩ := ih1 q1
    exact ⟨l2, p2.trans p1, q2⟩
theorem paired_at {R : Addr → List Int → Prop} {as : List Addr} {ls : List (List Int)} (h : Paired R as ls) : ∀ (i : Nat) (a : Addr) (l : List Int), as[i]? = some a → ls[i]? = some l → R a l := by
  induction h with
  | nil => intro i a l e; simp at e
  | cons h _ ih =>
    intro i a l e1 e2
    cases i with
    | zero => cases e1; cases e2; exact h
    | succ i => exact ih i a l (by simpa using e1) (by simpa using e2)
theorem paired_of {R : Addr → List Int → Prop} : ∀ {as : List Addr} {ls : List (List Int)}, as.length = ls.length → (∀ (i : Nat) (a : Addr) (l : List Int), as[i]? = some a → ls[i]? = some l → R a l) → Paired R as ls
  | [], [], _, _ => .nil
  | a :: as, l :: ls, e, h => .cons (h 0 a l rfl rfl) (paired_of (by simpa using e) fun i a l h1 h2 => h (i + 1) a l (by simpa using h1) (by simpa using h2))
section
variable {cdv : Value} {A : Around} {outer : List Env} {s₀ : Shared} {H₀ : Hp} {E : XK} {H₁ : Hp} {m : Nat}
theorem sp_sort (hu : (XS6 P w K mg base f cdv A outer s₀ H₀ E).A.units + 200 < cLine) (mso : mg "sorted" = none) : PS (XS6 P w K mg base f cdv A outer s₀ H₀ E) (sp6 11) (fun D σ H => ∃ p c pr one oth way bs ls, σ = stS p c pr one oth way ∧ Rws m H₁ H pr bs ls ∧ m ≤ 60 ∧ ∀ H' pr' bs' ls', Rws m H₁ H' pr' bs' ls' → D.nx (stS p c pr' one oth way) H') := by
  refine PS.imp (ps_if (pt_cmpR op_lt (pv 5) pe_int (nomark _))
    (pss_one (ps_set (i := 2) scSp6.nd rfl (Or.inl rfl) (pe_callB (call_sortLL hu) rfl mso PyProof.Rows.boot_sorted (pa_cons
      (pe_comp (esc := defScope st__law_spoilt) (EN := SPN) (N := "_law_block" :: SPN) ⟨by rfl, by decide +kernel, by decide +kernel, by rfl, by decide +kernel, by rfl, by decide +kernel, by rfl, by decide +kernel⟩ rfl rfl rfl
        (pi_list (pv 2)) (fun _ _ _ _ _ _ => pifs_one (pt_tru (K := K) rfl (pv 0) fun _ => rfl)) (fun _ _ _ _ _ _ => pe_callB (call_sortIK (K := K) rfl) rfl mso PyProof.Rows.boot_sorted (pa_cons (pv 0) pa_nil))) pa_nil)))) pss_nil) fun D σ H h => ?_
  obtain ⟨p, c, pr, one, oth, way, bs, ls, rfl, R, hm, q⟩ := h
  have s1k := small1000 (n := 1000) (by omega)
  have rs := R.sum
  have bl := R.lst.len
  have rl := R.len
  refine ⟨_, rfl, _, _, rfl, rfl, _, rfl, ?_⟩
  refine ite2 (fun e => ?_) (fun e => ?_)
  case refine_2 => exact q H pr bs ls R
  refine ⟨_, rfl, pr, rfl, ⟨_, SqL.of R.rows⟩, fun D1 hD1 => ?_⟩
  refine comp_list (xs := bs.map V.ref) (fun i ys H' => Same H H' ∧ ∃ (cs : List Addr) (ks : List (List Int)), ys = cs.map V.ref ∧ LstI H' cs ks ∧ (ks.map List.length).sum ≤ ((ls.take i).map List.length).sum ∧ ks.length ≤ i ∧ (∀ b ∈ cs, H₁ b = none) ∧ D1 ∉ cs ∧ H' D1 = some (.lst ys)) ⟨same_new hD1 _, [], [], rfl, .nil, Nat.le_refl _, Nat.le_refl _, (fun b h => by cases h), (fun h => by cases h), upd_same⟩ ?_ ?_ ?_
  · rintro i ys H' _ ⟨hs, _⟩
    exact SqL.of (hs _ _ R.rows)
  · rintro i x ys H2 hx ⟨hs2, cs, ks, rfl, L, ksum, klen, ncs, nD, hD2⟩
    have hi : i < bs.length := by have := (List.getElem?_eq_some_iff.mp hx).1; rwa [List.length_map] at this
    obtain ⟨a, l, b1, g1, c1, d1⟩ := R.get hi
    rw [List.getElem?_map, b1] at hx
    cases hx
    have c2 := hs2 _ _ c1
    have cl := L.len
    have ll : l.length ≤ m := by
      have h := in_flat (List.mem_of_getElem? g1)
      rw [List.length_flatten] at h
      omega
    have esum : ((ls.take (i + 1)).map List.length).sum = ((ls.take i).map List.length).sum + l.length := by
      rw [List.take_add_one, g1, List.map_append, List.sum_append]; simp
    refine ⟨_, rfl, _, .inl ⟨_, SqL.of c2, rfl⟩, ?_⟩
    refine ite2 (fun e => ?_) (fun e => ?_)
    · refine ⟨_, rfl, a, l, rfl, SqL.of c2, by omega, fun ms l2 pm so hl2 => ?_⟩
      have s4 := same_new hl2 (.lst (ms.map V.int))
      have nl : D1 ≠ l2 := fun e => by rw [← e, hD2] at hl2; cases hl2
      refine ⟨s4 _ _ hD2, by rw [List.length_map]; omega, same_but (hs2.trans s4) hD1 _, cs ++ [l2], ks ++ [ms], by rw [List.map_append]; rfl, ?_, ?_, ?_, fun b hb => ?_, fun hb => ?_, upd_same⟩
      · exact ((L.same s4).snoc (L.notin hl2) upd_same).keep _ fun hb => (List.mem_append.mp hb).elim nD fun h => nl (List.mem_singleton.mp h)
      · rw [esum, List.map_append, List.sum_append]
        have := pm.length_eq
        show (ks.map List.length).sum + (ms.length + 0) ≤ _
        omega
      · rw [List.length_append]; simp; omega
      · rcases List.mem_append.mp hb with h | h
        · exact ncs b h
        · rw [List.mem_singleton.mp h]; exact none_back (R.same.trans hs2) hl2
      · exact (List.mem_append.mp hb).elim nD fun h => nl (List.mem_singleton.mp h)
    · exact ⟨hs2, cs, ks, rfl, L, by rw [esum]; omega, by omega, ncs, nD, hD2⟩
  · rintro ys H2 ⟨hs2, cs, ks, rfl, L, ksum, klen, ncs, nD, hD2⟩
    rw [List.length_map] at klen
    rw [List.take_of_length_le (by rw [List.length_map]; omega)] at ksum
    have pr2 : Paired (fun a t => H2 a = some (.lst (List.map V.int t))) cs ks := paired_of L.len L.at_
    refine ⟨D1, cs, ks, rfl, SqL.of hD2, pr2, by omega, fun l2 cs' pm hl2 => ?_⟩
    obtain ⟨ks', kp, pr3⟩ := paired_perm pm pr2
    have s5 := same_new hl2 (.lst (cs'.map V.ref))
    have ncs' : ∀ b ∈ cs', H₁ b = none := fun b hb => ncs b (pm.mem_iff.mp hb)
    refine q _ l2 cs' ks' ⟨(R.same.trans hs2).trans s5, upd_same, ⟨pm.nodup_iff.mpr L.nd, Paired.length pr3, fun i a l h1 h2 => s5 _ _ (paired_at pr3 i a l h1 h2)⟩, none_back (R.same.trans hs2) hl2, ncs', fun hb => ?_, ?_, ?_⟩
    · exact L.notin hl2 (pm.mem_iff.mp hb)
    · have := (kp.map List.length).sum_nat
      omega
    · have := kp.length_eq
      omega
end
def spSp6 : Sp := fun vs H Q _ => ∃ (p : Addr) (as : List Addr) (ts : List (List Int)) (c : Int), vs = [.ref p, .int c] ∧ H p = some (.tup (as.map V.ref)) ∧ TupI H as ts ∧ ts ≠ [] ∧ (∀ t ∈ ts, t ≠ []) ∧ ts.flatten.length ≤ 40 ∧ ∀ v o H', Same H H' → Th H' v o → Q v H'
theorem ok_spoilt06 (F : Fun K "_law_spoilt" "_law_spoilt" st__law_spoilt f fd) (mt : mg "tuple" = none) (mrev : mg "reversed" = none) (ml : mg "len" = none) (mli : mg "list" = none) (mr : mg "range" = none) (msum : mg "sum" = none) (mso : mg "sorted" = none) :
    FnOk P w K mg base (CX1 P w) 1 f fd ["_law_parting_here", "_law_cell_here"] spSp6 := by
  refine F.ok1 scSp6 (fun vs H Q E h => ?_) (fun cdv A outer s H vs Q E hr h => ?_)
  · obtain ⟨_, _, _, _, rfl, _⟩ := h
    rfl
  obtain ⟨p, as, ts, c, rfl, hp, T, hne, hn, lf, q⟩ := h
  have s1k := small1000 (n := 1000) (by omega)
  have hu := room_u hr
  have few := few_blocks hn
  have al := T.length
  have t0 : 0 < ts.length := List.length_pos_iff.mpr hne
  refine ⟨_, pss_cons (sp_rows (m := 40) mli)
    (pss_cons (ps_set (i := 3) scSp6.nd rfl (Or.inl rfl) (pe_op op_mod (pe_op op_fdiv (pv 1) pe_int) (pe_callB call_len_seq rfl ml PySem.boot_len (pa_cons (pv 2) pa_nil))))
    (pss_cons (ps_set (i := 4) scSp6.nd rfl (Or.inl rfl) (pe_op op_mod (pe_op op_fdiv (pv 1) pe_int) (pe_callB call_len_seq rfl ml PySem.boot_len (pa_cons (pv 2) pa_nil))))
    (pss_cons (ps_set (i := 5) scSp6.nd rfl (Or.inl rfl) (pe_op op_mod (pv 1) pe_int))
    (pss_cons (sp_zero (H₁ := H)) (pss_cons (sp_one (H₁ := H) (m := 40)) (pss_cons (sp_two (H₁ := H) (m := 40)) (pss_cons (sp_three (H₁ := H) mt mrev) (pss_cons (sp_four (H₁ := H) (m := 41)) (pss_cons (sp_five (H₁ := H) mli)
    (pss_cons (sp_six (H₁ := H) (m := 41) mt mr msum ml) (pss_cons (sp_sort (H₁ := H) (m := 41) hu mso) (pss_one (sp_end (H₁ := H) (m := 41) mt))))))))))))), ?_⟩
  refine ⟨p, c, as, ts, rfl, hp, T, by omega, lf, fun H1 pr bs R => ?_⟩
  have bl := R.lst.len
  have ml : (bs.map V.ref).length = bs.length := List.length_map ..
  obtain ⟨one, e1, o1⟩ : ∃ one : Nat, (c / 7) % ((bs.map V.ref).length : Nat) = (one : Int) ∧ one < bs.length := by
    have h1 := Int.emod_nonneg (c / 7) (b := ((bs.map V.ref).length : Int)) (by omega)
    have h2 := Int.emod_lt_of_pos (c / 7) (b := ((bs.map V.ref).length : Int)) (by omega)
    exact ⟨((c / 7) % ((bs.map V.ref).length : Int)).toNat, by omega, by omega⟩
  obtain ⟨oth, e2, o2⟩ : ∃ one : Nat, (c / 97) % ((bs.map V.ref).length : Nat) = (one : Int) ∧ one < bs.length := by
    have h1 := Int.emod_nonneg (c / 97) (b := ((bs.map V.ref).length : Int)) (by omega)
    have h2 := Int.emod_lt_of_pos (c / 97) (b := ((bs.map V.ref).length : Int)) (by omega)
    exact ⟨((c / 97) % ((bs.map V.ref).length : Int)).toNat, by omega, by omega⟩
  refine ⟨_, rfl, _, _, rfl, rfl, (show (0 : Int) < 7 ∧ (7 : Int) < 1073741824 by decide), _, rfl, pr, _, rfl, .inl (SqL.of R.rows), _, _, rfl, rfl, (show (0 : Int) < ((bs.map V.ref).length : Nat) by omega), ?_⟩
  have ek1 : (fun i j : Int => V.int (i % j)) (c / 7) ((bs.map V.ref).length : Nat) = V.int (one : Int) := congrArg V.int e1
  rw [ek1]
  refine ⟨_, rfl, _, _, rfl, rfl, (show (0 : Int) < 97 ∧ (97 : Int) < 1073741824 by decide), _, rfl, pr, _, rfl, .inl (SqL.of R.rows), _, _, rfl, rfl, (show (0 : Int) < ((bs.map V.ref).length : Nat) by omega), ?_⟩
  have ek2 : (fun i j : Int => V.int (i % j)) (c / 97) ((bs.map V.ref).length : Nat) = V.int (oth : Int) := congrArg V.int e2
  rw [ek2]
  refine ⟨_, rfl, _, _, rfl, rfl, (show (0 : Int) < 7 by decide), ?_⟩
  refine ⟨p, c, pr, one, oth, c % 7, as, ts, rfl, R.same, hp, T, by omega, by omega, by omega, q, ?_⟩
  refine ⟨p, c, pr, one, oth, c % 7, bs, ts, rfl, R, o1, o2, hn, fun H2 ls2 R2 ne2 => ?_⟩
  refine ⟨p, c, pr, one, oth, c % 7, bs, ls2, rfl, R2, o1, o2, ne2, by omega, fun H3 ls3 R3 => ?_⟩
  refine ⟨p, c, pr, one, oth, c % 7, as, ts, rfl, R3.same, hp, T, by omega, by omega, by omega, q, ?_⟩
  refine ⟨p, c, pr, one, oth, c % 7, bs, ls3, rfl, R3, o1, fun H4 bs4 ls4 R4 => ?_⟩
  refine ⟨p, c, pr, one, oth, c % 7, as, ts, rfl, R4.same, hp, T, by omega, by omega, by omega, q, ?_⟩
  refine ⟨p, c, pr, one, oth, c % 7, bs4, ls4, rfl, R4, by omega, q, ?_⟩
  refine ⟨p, c, pr, one, oth, c % 7, bs4, ls4, rfl, R4, by omega, fun H5 pr5 bs5 ls5 R5 => ?_⟩
  exact ⟨p, c, pr5, one, oth, c % 7, bs5, ls5, rfl, R5, by omega, q⟩
abbrev LN : List Str := ["_law_script", "_law_cell_here", "_law_row_here", "_law_found", "_law_bad", "_law_told"]
theorem scLaw : FnScope LN ["_law_script"] (defScope st_law) := ⟨rfl, rfl, rfl, by decide +kernel, rfl, by decide +kernel, by decide +kernel⟩
abbrev XL (P : Program) (w : World) (K : PySem.W.Frag) (mg : Str → Option Value) (base : Heap) (f : Addr) (cdv : Value) (A : Around) (outer : List Env) (s : Shared) (H : Hp) (E : XK) : Cx := (cxOf (CX1 P w) P w K mg base LN "law" (defScope st_law) f cdv A outer s H E).nox
def lst (i : Nat) : Stmt := (defBody st_law).getD i (.Pass ⟨0, 0, 0, 0⟩)
def inn (i j : Nat) : Stmt := (forBody (lst i)).getD j (.Pass ⟨0, 0, 0, 0⟩)
open Classical in
theorem isP_of {ts : List (List Int)} (h : IsPart ts) : isP (some ts) = true := decide_eq_true h
structure PtAt (H : Hp) (p : Addr) (z : Str) (ks : List Nat) (ts : List (List Int)) : Prop where
  ex : ∃ as : List Addr, H p = some (.tup (as.map V.ref)) ∧ TupI H as ts
  row : cs z = Br.rowK ks
  fits : Br.Fits ks
  sum : ks.sum = ks.length
  len : ks.length ≤ 20
  pm : ts.Perm (Br.aft ks ks.length).2
  up : ts.Pairwise (· < ·)
theorem PtAt.same {H H' : Hp} {p : Addr} {z : Str} {ks : List Nat} {ts : List (List Int)} (C : PtAt H p z ks ts) (hs : Same H H') : PtAt H' p z ks ts := by
  obtain ⟨as, h1, h2⟩ := C.ex
  exact ⟨⟨as, hs _ _ h1, h2.same hs⟩, C.row, C.fits, C.sum, C.len, C.pm, C.up⟩
theorem PtAt.part {H : Hp} {p : Addr} {z : Str} {ks : List Nat} {ts : List (List Int)} (C : PtAt H p z ks ts) : IsPart ts ∧ ts.flatten.length = ks.length := Br.of_row C.fits C.sum C.pm C.up
theorem PtAt.th {H : Hp} {p : Addr} {z : Str} {ks : List Nat} {ts : List (List Int)} (C : PtAt H p z ks ts) : Th H (.ref p) (some ts) := by
  obtain ⟨as, h1, h2⟩ := C.ex
  have := C.len
  exact .good h1 h2 (fun t ht => (C.part.1.ups t ht).2) (by rw [C.part.2]; omega)
section
variable {cdv : Value} {A : Around} {outer : List Env} {s₀ : Shared} {H₀ : Hp} {E : XK}
theorem w_row (hr : Room 5 (XL P w K mg base f cdv A outer s₀ H₀ E).A) (hMix : Has P w K mg base 1 "_law_mix" ["_law_cell_here", "_law_prime", "_law_many"] spMix) (hRow : Has P w K mg base 2 "_law_row" ["_law_cell_here", "_law_size"] spRow) (mint : mg "int" = none) :
    PS (XL P w K mg base f cdv A outer s₀ H₀ E) (inn 0 0) (fun D σ H => ∃ c, Holds σ 1 (.int c) ∧ ∀ z H', Same H H' → Br.Whole (cs z) → z.length ≤ 40 → D.nx (σ.set 2 (some (.str z))) H') := by
  have hr1 := hr.mono (show 1 ≤ 5 by decide)
  have hr2 := hr.mono (show 2 ≤ 5 by decide)
  refine PS.imp (ps_set (i := 2) scLaw.nd rfl (Or.inl rfl) (pe_callH hRow hr2 pass1 (pa_cons (pv 1) (pa_cons (pe_ix ix_list (pe_lst (pa_cons (pe_callH hMix hr1 pass1 (pa_cons (pv 1) (pa_cons pe_int (pa_cons pe_int pa_nil)))) (pa_cons pe_int pa_nil)))
        (pe_callTy call_int1 rfl mint PyProof.Rows.boot_int (pa_cons (pe_cmpR op_eq (pe_op op_mod (pv 1) pe_int) pe_int (nomark _)) pa_nil)) (fun _ _ => rfl)) pa_nil)))) fun D σ H h => ?_
  obtain ⟨c, h1, q⟩ := h
  refine ⟨_, h1, _, h1, c, 9967, 13, rfl, by decide, by decide, by show 2 ≤ sizeLine; decide, fun p hp => ?_⟩
  have n0 : 0 ≤ c * 48271 % 9967 % 13 := Int.emod_nonneg _ (by decide)
  have n1 : c * 48271 % 9967 % 13 < 13 := Int.emod_lt_of_pos _ (by decide)
  refine ⟨_, h1, _, _, rfl, rfl, (by show (0 : Int) < 9; decide), rfl, .inr ⟨_, rfl, ?_⟩⟩
  have s1 := same_new hp (.lst [.int (c * 48271 % 9967 % 13), .int 20])
  by_cases hd : c % 9 = 0
  · have e : decide (V.int (c % 9) = V.int 0) = true := decide_eq_true (by rw [hd])
    refine ⟨p, _, _, .int 20, rfl, rfl, SqL.of upd_same, ?_, c, 20, rfl, by decide, by decide, fun z H' hs hw hz => q z H' (s1.trans hs) hw (by omega)⟩
    show atI _ (if decide (V.int (c % 9) = V.int 0) = true then 1 else 0) = _
    rw [e]
    rfl
  · have e : decide (V.int (c % 9) = V.int 0) = false := decide_eq_false fun z => hd (V.int.inj z)
    refine ⟨p, _, _, .int (c * 48271 % 9967 % 13), rfl, rfl, SqL.of upd_same, ?_, c, _, rfl, n0, by omega, fun z H' hs hw hz => q z H' (s1.trans hs) hw (by omega)⟩
    show atI _ (if decide (V.int (c % 9) = V.int 0) = true then 1 else 0) = _
    rw [e]
    rfl
theorem w_test {C : Addr} (hr : Room 5 (XL P w K mg base f cdv A outer s₀ H₀ E).A) (hIs : Has P w K mg base 2 "_law_is_parting" ["_law_thing"] spIsP) (hLP : Has P w K mg base 1 "_law_parting" ["_law_row_here"] spPartG) (hBk : Has P w K mg base 4 "row_by_parting" ["parting"] (spBack C)) :
    PS (XL P w K mg base f cdv A outer s₀ H₀ E) (inn 0 2) (fun D σ H => ∃ z ks p ts, Holds σ 2 (.str z) ∧ Holds σ 3 (.ref p) ∧ PtAt H p z ks ts ∧ ∀ H', Same H H' → D.nx σ H') := by
  have hr1 := hr.mono (show 1 ≤ 5 by decide)
  have hr2 := hr.mono (show 2 ≤ 5 by decide)
  have hr4 := hr.mono (show 4 ≤ 5 by decide)
  have hu := room_u hr
  refine PS.imp (ps_if (PW.pt (pw_or (pt_not (pt_val (pe_callH hIs hr2 pass1 (pa_cons (pv 3) pa_nil)))) (pw_or (pt_cmpR (op_neD hu) (pv 3) (pe_callH hLP hr1 pass1 (pa_cons (pv 2) pa_nil)) (nomark _))
      (pw_or1 (pt_cmpR op_ne (pe_callH hBk hr4 pass1 (pa_cons (pv 3) pa_nil)) (pv 2) (nomark _)))))) (pss_one (ps_ret pe_bl)) pss_nil) fun D σ H h => ?_
  obtain ⟨z, ks, p, ts, h2, h3, C1, q⟩ := h
  have ip := C1.part.1
  refine ⟨_, h3, .ref p, some ts, rfl, C1.th, fun H1 s1 => ⟨_, rfl, ?_⟩⟩
  rw [isP_of ip]
  refine iteF ?_
  have C2 := C1.same s1
  have l20 := C1.len
  obtain ⟨as, hp, T⟩ := C2.ex
  refine ⟨_, h3, _, h2, z, ks, rfl, C2.row, C2.fits, C2.sum, by omega, fun p2 as2 ts2 H2 s2 hp2 T2 pm2 up2 => ?_⟩
  obtain rfl : ts2 = ts := same_sorted (pm2.trans C1.pm.symm) up2 C1.up
  refine ⟨.tuple (iD ts2), .tuple (iD ts2), .inl (.tup (s2 _ _ hp) (tups_dat (T.same s2))), .inl (.tup hp2 (tups_dat T2)), iD_lay _, iD_lay _, ?_, false, congrArg (fun b => V.bl !b) ((iD_eqv ts2 ts2).trans (decide_eq_true rfl)), ?_⟩
  · show PyData.depthAll (iD ts2) + 1 ≤ 150
    have := iD_depth ts2
    omega
  refine ⟨_, h3, .ref p, some ts2, rfl, (C2.same s2).th, fun ts' e' ip' z' H3 s3 hz' => ?_, fun np => absurd ip (np ts2 rfl)⟩
  cases e'
  obtain rfl : z' = z := cs_inj (by rw [hz', C1.row, Br.ksT_row C1.fits C1.sum C1.pm C1.up])
  refine ⟨_, h2, rfl, _, rfl, ?_⟩
  have : (!decide (V.str z' = V.str z')) = false := by rw [decide_eq_true rfl]; rfl
  rw [this]
  exact q H3 ((s1.trans s2).trans s3)
end
open Classical in
theorem isP_not {o : Option (List (List Int))} (h : ∀ ts, o = some ts → ¬ IsPart ts) : isP o = false := by
  cases o with
  | none => rfl
  | some ts => exact decide_eq_false (h ts rfl)
theorem PE.imp {X : Cx} {e : Expr} {t t' : TE} (h : PE X e t) (hq : ∀ σ H Q, t' σ H Q → t σ H Q) : PE X e t' := ⟨fun pins s σ H Q I q => h pins s σ H Q I (hq σ H Q q)⟩
theorem not_other {z : Str} {ks : List Nat} (h : cs z = Br.rowK ks) : decide (V.str z = V.str (Str.ofString "other")) = false := by
  refine decide_eq_false fun e => ?_
  have e' : z = Str.ofString "other" := V.str.inj e
  have c : cs (Str.ofString "other") = [111, 116, 104, 101, 114] := by decide +kernel
  have b := Br.rowK_br ks
  rw [← h, e', c] at b
  have := b 111 List.mem_cons_self
  omega
section
variable {cdv : Value} {A : Around} {outer : List Env} {s₀ : Shared} {H₀ : Hp} {E : XK}
theorem w_spoil (hr : Room 5 (XL P w K mg base f cdv A outer s₀ H₀ E).A) (hIs : Has P w K mg base 2 "_law_is_parting" ["_law_thing"] spIsP) (hSp : Has P w K mg base 1 "_law_spoilt" ["_law_parting_here", "_law_cell_here"] spSp6) (hRb : Has P w K mg base 5 "_law_row_by" ["_law_thing"] spRowBy) (hPo : Has P w K mg base 1 "parting_of" ["row"] spPartG) :
    PS (XL P w K mg base f cdv A outer s₀ H₀ E) (inn 0 3) (fun D σ H => ∃ x0 c z ks p ts x4 x5, σ = [x0, some (.int c), some (.str z), some (.ref p), x4, x5] ∧ PtAt H p z ks ts ∧ ∀ H' x4 x5, Same H H' → D.nx [x0, some (.int c), some (.str z), some (.ref p), x4, x5] H') := by
  have hr1 := hr.mono (show 1 ≤ 5 by decide)
  have hr2 := hr.mono (show 2 ≤ 5 by decide)
  have hu := room_u hr
  refine PS.imp (ps_if (pt_tru (K := K) rfl (pv 2) fun _ => rfl)
    (pss_cons (ps_set (i := 4) scLaw.nd rfl (Or.inl rfl) (pe_callH hSp hr1 pass1 (pa_cons (pv 3) (pa_cons (pv 1) pa_nil))))
    (pss_cons (ps_set (i := 5) scLaw.nd rfl (Or.inl rfl) (pe_callH hRb hr pass1 (pa_cons (pv 4) pa_nil)))
    (pss_cons (ps_if (pt_cmpR op_ne (pe_cmpR op_notN (pv 5) pe_non (nomark _)) (pe_callH hIs hr2 pass1 (pa_cons (pv 4) pa_nil)) (nomark _)) (pss_one (ps_ret pe_bl)) pss_nil)
    (pss_one (ps_if (PW.pt (pw_and (pt_cmpR op_notN (pv 5) pe_non (nomark _)) (pw_and1 (PW.pt (pw_or (pt_cmpR op_eq (pv 5) pe_str (nomark _)) (pw_or1 (pt_cmpR (op_neD hu) (pe_callH hPo hr1 pass1 (pa_cons (pv 5) pa_nil)) (pv 4) (nomark _)))))))) (pss_one (ps_ret pe_bl)) pss_nil))))) pss_nil) fun D σ H h => ?_
  obtain ⟨x0, c, z, ks, p, ts, x4, x5, rfl, C, q⟩ := h
  have s1k := small1000 (n := 1000) (by omega)
  have l20 := C.len
  have zl : z.length = 2 * ks.length := by rw [← cs_length, C.row, Br.rowK_length, C.sum]; omega
  refine ⟨_, rfl, _, ⟨by omega, rfl⟩, ?_⟩
  refine ite2 (fun e => ?_) (fun e => ?_)
  case refine_2 => exact q H x4 x5 (Same.refl _)
  have n0 : 0 < ks.length := by
    have e' : ((z.length : Int) != 0) = true := e
    rw [bne_iff_ne] at e'
    omega
  have ip := C.part.1
  have fl := C.part.2
  obtain ⟨as, hp, T⟩ := C.ex
  refine ⟨_, rfl, _, rfl, p, as, ts, c, rfl, hp, T, fun e => ?_, fun t ht => (ip.ups t ht).2, by omega, fun v o H1 s1 th => ?_⟩
  · rw [e] at fl
    have : (0 : Nat) = ks.length := fl
    omega
  refine ⟨_, rfl, v, o, rfl, th, fun ts' e' ip' z' H2 s2 hz' => ?_, fun np H2 s2 => ?_⟩
  · subst e'
    refine ⟨_, rfl, rfl, _, rfl, v, some ts', rfl, th.same s2, fun H3 s3 => ⟨rfl, _, rfl, ?_⟩⟩
    rw [isP_of ip']
    refine iteF ?_
    refine ⟨_, rfl, rfl, _, rfl, ?_⟩
    refine iteT ?_
    refine ⟨_, rfl, rfl, _, rfl, ?_⟩
    rw [not_other hz']
    refine iteF ?_
    obtain ⟨p', as', rfl, hp', T', hn', h60⟩ : ∃ p' as', v = .ref p' ∧ H1 p' = some (.tup (as'.map V.ref)) ∧ TupI H1 as' ts' ∧ (∀ t ∈ ts', t ≠ []) ∧ ts'.flatten.length ≤ 60 := by
      cases th with
      | good h1 h2 h3 h4 => exact ⟨_, _, rfl, h1, h2, h3, h4⟩
    have bk := ip'.back
    have kl := ksT_len ts'
    refine ⟨_, rfl, z', _, rfl, hz', bk.1, bk.2.1, by omega, fun p2 as2 ts2 H4 s4 hp2 T2 pm2 up2 => ?_⟩
    obtain rfl : ts2 = ts' := same_sorted (pm2.trans bk.2.2) up2 ip'.up
    have s14 := (s2.trans s3).trans s4
    refine ⟨_, rfl, .tuple (iD ts2), .tuple (iD ts2), .inl (.tup hp2 (tups_dat T2)), .inl (.tup (s14 _ _ hp') (tups_dat (T'.same s14))), iD_lay _, iD_lay _, ?_, false, congrArg (fun b => V.bl !b) ((iD_eqv ts2 ts2).trans (decide_eq_true rfl)), ?_⟩
    · show PyData.depthAll (iD ts2) + 1 ≤ 150
      have := iD_depth ts2
      omega
    exact q H4 _ _ (s1.trans s14)
  · refine ⟨_, rfl, rfl, _, rfl, v, o, rfl, th.same s2, fun H3 s3 => ⟨rfl, _, rfl, ?_⟩⟩
    rw [isP_not np]
    refine iteF ?_
    refine ⟨_, rfl, rfl, _, rfl, ?_⟩
    exact iteF (q H3 _ _ ((s1.trans s2).trans s3))
def tBad : TE := fun _ H Q => ∀ v H', Same H H' → Th H' v none → Q v H'
theorem w_nine (hr : Room 5 (XL P w K mg base f cdv A outer s₀ H₀ E).A) (hRb : Has P w K mg base 5 "_law_row_by" ["_law_thing"] spRowBy) :
    PS (XL P w K mg base f cdv A outer s₀ H₀ E) (lst 1) (fun D σ H => σ.length = 6 ∧ ∀ σ' H', D.nx σ' H') := by
  have s1k := small1000 (n := 1000) (by omega)
  have one : 1 ≤ sizeLine := by omega
  have two : 2 ≤ sizeLine := by omega
  refine PS.imp (ps_for PassesOwn.never rfl (pi_list (pe_lst
      (pa_cons (PE.imp (t' := tBad) (pe_tup (pa_cons (pe_tup (pa_cons pe_int pa_nil)) (pa_cons (pe_tup (pa_cons pe_bl pa_nil)) pa_nil))) ?b1)
      (pa_cons (PE.imp (t' := tBad) (pe_tup (pa_cons (pe_tup (pa_cons pe_int (pa_cons pe_bl pa_nil))) pa_nil)) ?b2)
      (pa_cons (PE.imp (t' := tBad) (pe_tup (pa_cons (pe_lst (pa_cons pe_int pa_nil)) pa_nil)) ?b3)
      (pa_cons (PE.imp (t' := tBad) (pe_tup (pa_cons (pe_tup (pa_cons pe_int pa_nil)) (pa_cons (pe_lst (pa_cons pe_int pa_nil)) pa_nil))) ?b4)
      (pa_cons (PE.imp (t' := tBad) (pe_tup (pa_cons pe_int pa_nil)) ?b5)
      (pa_cons (PE.imp (t' := tBad) (pe_lst (pa_cons (pe_tup (pa_cons pe_int pa_nil)) pa_nil)) ?b6)
      (pa_cons (PE.imp (t' := tBad) (pe_tup (pa_cons (pe_tup pa_nil) pa_nil)) ?b7)
      (pa_cons (PE.imp (t' := tBad) (pe_tup (pa_cons (pe_tup (pa_cons pe_int pa_nil)) (pa_cons (pe_tup pa_nil) pa_nil))) ?b8)
      (pa_cons (PE.imp (t' := tBad) (pe_tup (pa_cons (pe_tup (pa_cons pe_str pa_nil)) pa_nil)) ?b9) pa_nil)))))))))))
    (pg_name (i := 4) scLaw.nd rfl (Or.inl rfl))
    (pss_one (ps_if (pt_cmpR op_notN (pe_callH hRb hr pass1 (pa_cons (pv 4) pa_nil)) pe_non (nomark _)) (pss_one (ps_ret pe_bl)) pss_nil))) fun D σ H h => ?_
  case b1 =>
    intro σ H Q h
    refine ⟨one, fun p1 f1 => ⟨one, fun p2 f2 => ⟨two, fun p3 f3 => ?_⟩⟩⟩
    have s1 := same_new f1 (.tup [V.int 0]); have s2 := same_new f2 (.tup [V.bl true]); have s3 := same_new f3 (.tup [V.ref p1, V.ref p2])
    exact h _ _ ((s1.trans s2).trans s3) (.bad upd_same (.cons (.good (t := [0]) ((s2.trans s3) _ _ upd_same) (by decide)) (.cons (.mixed (s3 _ _ upd_same) (.cons (.bl true) .nil) (List.mem_singleton.mpr rfl) (by decide)) .nil)) (by simp) (by show 2 ≤ 60; decide) (by decide))
  case b2 =>
    intro σ H Q h
    refine ⟨two, fun p1 f1 => ⟨one, fun p3 f3 => ?_⟩⟩
    have s1 := same_new f1 (.tup [V.int 0, V.bl true]); have s3 := same_new f3 (.tup [V.ref p1])
    exact h _ _ (s1.trans s3) (.bad upd_same (.cons (.mixed (s3 _ _ upd_same) (.cons (.int 0) (.cons (.bl true) .nil)) (by simp) (by decide)) .nil) (by simp) (by show 1 ≤ 60; decide) (by decide))
  case b3 =>
    intro σ H Q h
    refine ⟨one, fun p1 f1 => ⟨one, fun p3 f3 => ?_⟩⟩
    have s1 := same_new f1 (.lst [V.int 0]); have s3 := same_new f3 (.tup [V.ref p1])
    exact h _ _ (s1.trans s3) (.bad upd_same (.cons (.lst (s3 _ _ upd_same)) .nil) (by simp) (by show 1 ≤ 60; decide) (by decide))
  case b4 =>
    intro σ H Q h
    refine ⟨one, fun p1 f1 => ⟨one, fun p2 f2 => ⟨two, fun p3 f3 => ?_⟩⟩⟩
    have s1 := same_new f1 (.tup [V.int 0]); have s2 := same_new f2 (.lst [V.int 1]); have s3 := same_new f3 (.tup [V.ref p1, V.ref p2])
    exact h _ _ ((s1.trans s2).trans s3) (.bad upd_same (.cons (.good (t := [0]) ((s2.trans s3) _ _ upd_same) (by decide)) (.cons (.lst (s3 _ _ upd_same)) .nil)) (by simp) (by show 2 ≤ 60; decide) (by decide))
  case b5 =>
    intro σ H Q h
    refine ⟨one, fun p3 f3 => ?_⟩
    exact h _ _ (same_new f3 _) (.bad upd_same (.cons (.int 0) .nil) (by simp) (by show 1 ≤ 60; decide) (by decide))
  case b6 =>
    intro σ H Q h
    refine ⟨one, fun p1 f1 => ⟨one, fun p3 f3 => ?_⟩⟩
    exact h _ _ ((same_new f1 _).trans (same_new f3 _)) (.lst upd_same)
  case b7 =>
    intro σ H Q h
    refine ⟨by show 0 ≤ sizeLine; decide, fun p1 f1 => ⟨one, fun p3 f3 => ?_⟩⟩
    have s1 := same_new f1 (.tup []); have s3 := same_new f3 (.tup [V.ref p1])
    exact h _ _ (s1.trans s3) (.bad upd_same (.cons (.empty (s3 _ _ upd_same)) .nil) (by simp) (by show 1 ≤ 60; decide) (by decide))
  case b8 =>
    intro σ H Q h
    refine ⟨one, fun p1 f1 => ⟨by show 0 ≤ sizeLine; decide, fun p2 f2 => ⟨two, fun p3 f3 => ?_⟩⟩⟩
    have s1 := same_new f1 (.tup [V.int 0]); have s2 := same_new f2 (.tup []); have s3 := same_new f3 (.tup [V.ref p1, V.ref p2])
    exact h _ _ ((s1.trans s2).trans s3) (.bad upd_same (.cons (.good (t := [0]) ((s2.trans s3) _ _ upd_same) (by decide)) (.cons (.empty (s3 _ _ upd_same)) .nil)) (by simp) (by show 2 ≤ 60; decide) (by decide))
  case b9 =>
    intro σ H Q h
    refine ⟨one, fun p1 f1 => ⟨one, fun p3 f3 => ?_⟩⟩
    have s1 := same_new f1 (.tup [V.str (Str.ofString "0")]); have s3 := same_new f3 (.tup [V.ref p1])
    exact h _ _ (s1.trans s3) (.bad upd_same (.cons (.mixed (s3 _ _ upd_same) (.cons (.str _) .nil) (List.mem_singleton.mpr rfl) (by decide)) .nil) (by simp) (by show 1 ≤ 60; decide) (by decide))
  obtain ⟨l6, q⟩ := h
  intro v1 H1 s1 t1 v2 H2 s2 t2 v3 H3 s3 t3 v4 H4 s4 t4 v5 H5 s5 t5 v6 H6 s6 t6 v7 H7 s7 t7 v8 H8 s8 t8 v9 H9 s9 t9
  refine ⟨by show 9 ≤ sizeLine; omega, fun pl fl => ?_⟩
  have s10 := same_new fl (.lst [v1, v2, v3, v4, v5, v6, v7, v8, v9])
  have all : ∀ x ∈ [v1, v2, v3, v4, v5, v6, v7, v8, v9], Th (upd H9 pl (.lst [v1, v2, v3, v4, v5, v6, v7, v8, v9])) x none := by
    have b9 := s9.trans s10
    have b8 := s8.trans b9
    have b7 := s7.trans b8
    have b6 := s6.trans b7
    have b5 := s5.trans b6
    have b4 := s4.trans b5
    have b3 := s3.trans b4
    have b2 := s2.trans b3
    intro x hx
    simp only [List.mem_cons, List.not_mem_nil, or_false] at hx
    rcases hx with rfl | rfl | rfl | rfl | rfl | rfl | rfl | rfl | rfl
    · exact t1.same b2
    · exact t2.same b3
    · exact t3.same b4
    · exact t4.same b5
    · exact t5.same b6
    · exact t6.same b7
    · exact t7.same b8
    · exact t8.same b9
    · exact t9.same s10
  refine ⟨pl, rfl, ⟨_, SqL.of upd_same⟩, for_list (xs := [v1, v2, v3, v4, v5, v6, v7, v8, v9]) (fun i σ H' => Same (upd H9 pl (.lst [v1, v2, v3, v4, v5, v6, v7, v8, v9])) H' ∧ σ.length = 6) ⟨Same.refl _, l6⟩ ?_ ?_ ?_⟩
  · rintro i σ' H' _ ⟨hs, _⟩
    exact SqL.of (hs _ _ upd_same)
  · rintro i x σ' H' hx ⟨hs, l0⟩
    have th := (all x (List.mem_of_getElem? hx)).same hs
    obtain ⟨x0, x1, x2, x3, x4, x5, rfl⟩ : ∃ x0 x1 x2 x3 x4 x5, σ' = [x0, x1, x2, x3, x4, x5] := by
      match σ', l0 with
      | [x0, x1, x2, x3, x4, x5], _ => exact ⟨_, _, _, _, _, _, rfl⟩
    refine ⟨_, rfl, x, none, rfl, th, (fun ts e => by cases e), fun _ H2 hs2 => ⟨rfl, _, rfl, ?_⟩⟩
    exact iteF ⟨hs.trans hs2, rfl⟩
  · rintro σ' H' _
    exact q σ' H'
end
section
variable {cdv : Value} {A : Around} {outer : List Env} {s₀ : Shared} {H₀ : Hp} {E : XK}
theorem w_main {C : Addr} (hr : Room 5 (XL P w K mg base f cdv A outer s₀ H₀ E).A) (hMix : Has P w K mg base 1 "_law_mix" ["_law_cell_here", "_law_prime", "_law_many"] spMix) (hRow : Has P w K mg base 2 "_law_row" ["_law_cell_here", "_law_size"] spRow) (hPo : Has P w K mg base 1 "parting_of" ["row"] spPartG)
    (hIs : Has P w K mg base 2 "_law_is_parting" ["_law_thing"] spIsP) (hLP : Has P w K mg base 1 "_law_parting" ["_law_row_here"] spPartG) (hBk : Has P w K mg base 4 "row_by_parting" ["parting"] (spBack C))
    (hSp : Has P w K mg base 1 "_law_spoilt" ["_law_parting_here", "_law_cell_here"] spSp6) (hRb : Has P w K mg base 5 "_law_row_by" ["_law_thing"] spRowBy) (mint : mg "int" = none) :
    PS (XL P w K mg base f cdv A outer s₀ H₀ E) (lst 0) (fun D σ H => ∃ (a : Addr) (ns : List Int), Holds σ 0 (.ref a) ∧ SqL K H a (ns.map V.int) ∧ σ.length = 6 ∧ ∀ σ' H', σ'.length = 6 → D.nx σ' H') := by
  have hr1 := hr.mono (show 1 ≤ 5 by decide)
  refine PS.imp (ps_for PassesOwn.never rfl (pi_list (pe_slice sl_list (pv 0) po_none (po_some pe_int))) (pg_name (i := 1) scLaw.nd rfl (Or.inl rfl))
    (pss_cons (w_row hr hMix hRow mint) (pss_cons (ps_set (i := 3) scLaw.nd rfl (Or.inl rfl) (pe_callH hPo hr1 pass1 (pa_cons (pv 2) pa_nil))) (pss_cons (w_test hr hIs hLP hBk) (pss_one (w_spoil hr hIs hSp hRb hPo)))))) fun D σ H h => ?_
  obtain ⟨a, ns, h0, hS, hl, q⟩ := h
  refine ⟨_, h0, 5, rfl, a, _, rfl, hS, fun p hp => ⟨p, rfl, ⟨_, SqL.of upd_same⟩, for_list (xs := cutV (ns.map V.int) none (some 5)) (fun i σ H' => H' p = some (.lst (cutV (ns.map V.int) none (some 5))) ∧ σ.length = 6) ⟨upd_same, hl⟩ ?_ ?_ ?_⟩⟩
  · rintro i σ H1 _ ⟨hp1, _⟩
    exact SqL.of hp1
  · rintro i x σ H1 hx ⟨hp1, l0⟩
    obtain ⟨c, rfl, hc⟩ := cut_int hx
    obtain ⟨x0, x1, x2, x3, x4, x5, rfl⟩ : ∃ x0 x1 x2 x3 x4 x5, σ = [x0, x1, x2, x3, x4, x5] := by
      match σ, l0 with
      | [x0, x1, x2, x3, x4, x5], _ => exact ⟨_, _, _, _, _, _, rfl⟩
    refine ⟨c, rfl, fun z H2 hs2 hw hz => ?_⟩
    obtain ⟨ks, ek, f, es⟩ := Br.whole_form hw
    have kl : ks.length ≤ 20 := by
      have := cs_length z
      rw [ek, Br.rowK_length, es] at this
      omega
    refine ⟨_, rfl, z, ks, rfl, ek, f, es, by omega, fun p3 as ts H3 hs3 hp3 T pm up => ?_⟩
    have P3 : PtAt H3 p3 z ks ts := ⟨⟨as, hp3, T⟩, ek, f, es, kl, pm, up⟩
    refine ⟨z, ks, p3, ts, rfl, rfl, P3, fun H4 hs4 => ?_⟩
    refine ⟨_, c, z, ks, p3, ts, _, _, rfl, P3.same hs4, fun H5 x4' x5' hs5 => ?_⟩
    exact ⟨(((hs2.trans hs3).trans hs4).trans hs5) _ _ hp1, rfl⟩
  · rintro σ' H' ⟨_, l⟩
    exact q σ' H' l
end
def spLaw (K : PySem.W.Frag) : Sp := fun vs H Q _ => ∃ (a : Addr) (ns : List Int), vs = [.ref a] ∧ SqL K H a (ns.map V.int) ∧ ns.length ≤ 63 ∧ (∀ m ∈ ns, Builtin.Int.intBits m ≤ 2 ^ 20) ∧ ∀ H', Q (.bl true) H'
theorem ok_law {C : Addr} (F : Fun K "law" "law" st_law f fd)
    (hMix : Has P w K mg base 1 "_law_mix" ["_law_cell_here", "_law_prime", "_law_many"] spMix) (hRow : Has P w K mg base 2 "_law_row" ["_law_cell_here", "_law_size"] spRow) (hPo : Has P w K mg base 1 "parting_of" ["row"] spPartG)
    (hIs : Has P w K mg base 2 "_law_is_parting" ["_law_thing"] spIsP) (hLP : Has P w K mg base 1 "_law_parting" ["_law_row_here"] spPartG) (hBk : Has P w K mg base 4 "row_by_parting" ["parting"] (spBack C))
    (hSp : Has P w K mg base 1 "_law_spoilt" ["_law_parting_here", "_law_cell_here"] spSp6) (hRb : Has P w K mg base 5 "_law_row_by" ["_law_thing"] spRowBy) (mint : mg "int" = none) :
    FnOk P w K mg base (CX1 P w) 6 f fd ["_law_script"] (spLaw K) := by
  refine F.ok1 scLaw (fun vs H Q E h => ?_) (fun cdv A outer s H vs Q E hr h => ?_)
  · obtain ⟨a, ns, rfl, _⟩ := h
    rfl
  obtain ⟨a, ns, rfl, hS, h63, hb, q⟩ := h
  have hr1 := hr.mono (show 1 ≤ 5 by decide)
  have hr4 := hr.mono (show 4 ≤ 5 by decide)
  have hu := room_u hr
  refine ⟨_, pss_cons (w_main hr hMix hRow hPo hIs hLP hBk hSp hRb mint) (pss_cons (w_nine hr hRb)
    (pss_one (ps_ret (pe_and (pe_cmpR (op_eqD hu) (pe_callH hPo hr1 pass1 (pa_cons pe_str pa_nil)) (pe_tup pa_nil) (nomark _)) (pe_one (pe_cmpR op_eq (pe_callH hBk hr4 pass1 (pa_cons (pe_tup pa_nil) pa_nil)) pe_str (nomark _))))))), ?_⟩
  refine ⟨a, ns, rfl, hS, rfl, fun σ1 H1 l1 => ⟨l1, fun σ' H' => ?_⟩⟩
  have c0 : cs (Str.ofString "") = [] := by decide +kernel
  have F0 : Br.Fits [] := fun i hi => by rw [List.take_nil]; exact Nat.zero_le _
  refine ⟨Str.ofString "", [], rfl, c0, F0, rfl, by decide, fun p1 as ts H2 s2 hp1 T pm so => ⟨by show 0 ≤ sizeLine; decide, fun p2 f2 => ?_⟩⟩
  have et : ts = [] := pm.eq_nil
  subst et
  have ea : as = [] := List.eq_nil_of_length_eq_zero T.length
  subst ea
  refine ⟨.tuple [], .tuple [], .inl (.tup (same_new f2 _ _ _ hp1) .nil), .inl (.tup upd_same .nil), rfl, rfl, by decide, _, rfl, ?_⟩
  refine iteT ?_
  refine ⟨by show 0 ≤ sizeLine; decide, fun p3 f3 => ?_⟩
  have ip : IsPart [] := (Br.of_row F0 rfl (List.Perm.refl _) .nil).1
  refine ⟨.ref p3, some [], rfl, .good (as := []) upd_same .nil (fun t h => by cases h) (by decide), fun ts' e' _ z H4 s4 hz => ?_, fun np => absurd ip (np [] rfl)⟩
  cases e'
  have e : z = Str.ofString "" := cs_inj (hz.trans c0.symm)
  subst e
  refine ⟨rfl, ?_⟩
  have : decide (V.str (Str.ofString "") = V.str (Str.ofString "")) = true := decide_eq_true rfl
  rw [this]
  exact q _
end
theorem all_mk {l : PySem.W.OpenLaw} {w : World} {K : PySem.W.Frag} {h : Heap} {mg : Str → Option Value} {f0 f1 f2 f3 f4 f5 f6 f7 f8 f9 f10 f11 f12 f13 f14 f15 f16 f17 fa : Addr} {od0 an0 od1 an1 od2 an2 od3 an3 od4 an4 od5 an5 od6 an6 od7 an7 od8 an8 od9 an9 od10 an10 od11 an11 od12 an12 od13 an13 od14 an14 od15 an15 od16 an16 od17 an17 : Option Addr} {sl0 sl1 sl2 sl3 sl4 sl5 sl6 sl7 sl8 sl9 sl10 sl11 sl12 sl13 sl14 sl15 sl16 sl17 : Array (Option Value)} {oc0 kV0 dc0 pm0 cd0 ct0 oc1 kV1 dc1 pm1 cd1 ct1 oc2 kV2 dc2 pm2 cd2 ct2 oc3 kV3 dc3 pm3 cd3 ct3 oc4 kV4 dc4 pm4 cd4 ct4 oc5 kV5 dc5 pm5 cd5 ct5 oc6 kV6 dc6 pm6 cd6 ct6 oc7 kV7 dc7 pm7 cd7 ct7 oc8 kV8 dc8 pm8 cd8 ct8 oc9 kV9 dc9 pm9 cd9 ct9 oc10 kV10 dc10 pm10 cd10 ct10 oc11 kV11 dc11 pm11 cd11 ct11 oc12 kV12 dc12 pm12 cd12 ct12 oc13 kV13 dc13 pm13 cd13 ct13 oc14 kV14 dc14 pm14 cd14 ct14 oc15 kV15 dc15 pm15 cd15 ct15 oc16 kV16 dc16 pm16 cd16 ct16 oc17 kV17 dc17 pm17 cd17 ct17 : Value} {e_BracketError e_NoRow : Addr} {e_NoPlace : Addr} {t_LONGEST : Tok} {aT : Addr} (X : K.In h) (G : h.Ns mainGlobals mg) (hfa : mg "law" = some (.ref fa))
    (x_gg : PySem.W.specialIn K (.builtin "object.__class__") "__get__" = some (some (.builtin "getset_descriptor.__get__")))
    (x_tk : PySem.W.takesIn K (.builtin "object.__class__") = some true)
    (x_ns_BracketError : PySem.W.nsIn K mainGlobals "BracketError" = some (some (.ref e_BracketError)))
    (x_q_BracketError : PySem.W.excIn K e_BracketError bmV "ValueError.__new__" = true)
    (x_ga_BracketError : PySem.W.findIn K (.ref e_BracketError) "__getattribute__" = some (some (.builtin "BaseException.__getattribute__")))
    (x_gt_BracketError : PySem.W.findIn K (.ref e_BracketError) "__getattr__" = some none)
    (x_cl_BracketError : PySem.W.findIn K (.ref e_BracketError) "__class__" = some (some (.builtin "object.__class__")))
    (x_mo_BracketError : PySem.W.mroIn K e_BracketError (.type "object") = some true)
    (x_mb_BracketError : PySem.W.mroIn K e_BracketError (.type "BaseException") = some true)
    (x_ct_BracketError : PySem.W.typeIn K (.ref e_BracketError) = some (.type "type"))
    (x_ns_NoRow : PySem.W.nsIn K mainGlobals "NoRow" = some (some (.ref e_NoRow)))
    (x_q_NoRow : PySem.W.excIn K e_NoRow bmV "ValueError.__new__" = true)
    (x_ga_NoRow : PySem.W.findIn K (.ref e_NoRow) "__getattribute__" = some (some (.builtin "BaseException.__getattribute__")))
    (x_gt_NoRow : PySem.W.findIn K (.ref e_NoRow) "__getattr__" = some none)
    (x_cl_NoRow : PySem.W.findIn K (.ref e_NoRow) "__class__" = some (some (.builtin "object.__class__")))
    (x_mo_NoRow : PySem.W.mroIn K e_NoRow (.type "object") = some true)
    (x_mb_NoRow : PySem.W.mroIn K e_NoRow (.type "BaseException") = some true)
    (x_ct_NoRow : PySem.W.typeIn K (.ref e_NoRow) = some (.type "type"))
    (x_ns_NoPlace : PySem.W.nsIn K mainGlobals "NoPlace" = some (some (.ref e_NoPlace)))
    (o_NoRow_BracketError : PySem.W.mroIn K e_NoRow (.ref e_BracketError) = some true)
    (i_NoRow_NoRow : PySem.W.kitOne K (.ref e_NoRow) (.ref e_NoRow) = some true)
    (i_NoRow_NoPlace : PySem.W.kitOne K (.ref e_NoRow) (.ref e_NoPlace) = some false)
    (i_NoRow_ValueError : PySem.W.kitOne K (.ref e_NoRow) (.type "ValueError") = some true)
    (y_str_str : PySem.W.kitOne K (.type "str") (.type "str") = some true)
    (y_int_int : PySem.W.kitOne K (.type "int") (.type "int") = some true)
    (y_int_bool : PySem.W.kitOne K (.type "int") (.type "bool") = some false)
    (y_bool_int : PySem.W.kitOne K (.type "bool") (.type "int") = some true)
    (y_bool_bool : PySem.W.kitOne K (.type "bool") (.type "bool") = some true)
    (y_str_int : PySem.W.kitOne K (.type "str") (.type "int") = some false)
    (y_tuple_tuple : PySem.W.kitOne K (.type "tuple") (.type "tuple") = some true)
    (y_list_tuple : PySem.W.kitOne K (.type "list") (.type "tuple") = some false)
    (y_int_tuple : PySem.W.kitOne K (.type "int") (.type "tuple") = some false)
    (y_str_tuple : PySem.W.kitOne K (.type "str") (.type "tuple") = some false)
    (y_NoneType_tuple : PySem.W.kitOne K (.type "NoneType") (.type "tuple") = some false)
    (g_LONGEST : PySem.W.nsIn K mainGlobals "LONGEST" = some (some (.int 120 t_LONGEST)))
    (g_T : PySem.W.nsIn K mainGlobals "TURNED" = some (some (.ref aT)))
    (g_T2 : PyProof.Rows.KTD.tabLook (PyProof.Rows.KTD.datLooks fun b => K.lookup b) (fun b => K.lookup b) aT (tabV [("(", ")"), (")", "(")]) = true)
    (a0 : PySem.W.nsIn K mainGlobals "rise" = some (some (.ref f0)))
    (l0 : K.lookup f0 = some ⟨oc0, od0, .func (PySem.W.fnOf "rise" "rise" (defArgs st_rise) (defBody st_rise) (defScope st_rise) .none kV0 dc0 pm0 an0 cd0 ct0), sl0⟩)
    (c0 : PySem.W.codeIn K cd0 "rise" = true)
    (k0 : PySem.W.keepIn K (.ref f0) = true)
    (a1 : PySem.W.nsIn K mainGlobals "levels" = some (some (.ref f1)))
    (l1 : K.lookup f1 = some ⟨oc1, od1, .func (PySem.W.fnOf "levels" "levels" (defArgs st_levels) (defBody st_levels) (defScope st_levels) .none kV1 dc1 pm1 an1 cd1 ct1), sl1⟩)
    (c1 : PySem.W.codeIn K cd1 "levels" = true)
    (k1 : PySem.W.keepIn K (.ref f1) = true)
    (a2 : PySem.W.nsIn K mainGlobals "is_whole" = some (some (.ref f2)))
    (l2 : K.lookup f2 = some ⟨oc2, od2, .func (PySem.W.fnOf "is_whole" "is_whole" (defArgs st_is_whole) (defBody st_is_whole) (defScope st_is_whole) .none kV2 dc2 pm2 an2 cd2 ct2), sl2⟩)
    (c2 : PySem.W.codeIn K cd2 "is_whole" = true)
    (k2 : PySem.W.keepIn K (.ref f2) = true)
    (a3 : PySem.W.nsIn K mainGlobals "parting_of" = some (some (.ref f3)))
    (l3 : K.lookup f3 = some ⟨oc3, od3, .func (PySem.W.fnOf "parting_of" "parting_of" (defArgs st_parting_of) (defBody st_parting_of) (defScope st_parting_of) .none kV3 dc3 pm3 an3 cd3 ct3), sl3⟩)
    (c3 : PySem.W.codeIn K cd3 "parting_of" = true)
    (k3 : PySem.W.keepIn K (.ref f3) = true)
    (a4 : PySem.W.nsIn K mainGlobals "is_point" = some (some (.ref f4)))
    (l4 : K.lookup f4 = some ⟨oc4, od4, .func (PySem.W.fnOf "is_point" "is_point" (defArgs st_is_point) (defBody st_is_point) (defScope st_is_point) .none kV4 dc4 pm4 an4 cd4 ct4), sl4⟩)
    (c4 : PySem.W.codeIn K cd4 "is_point" = true)
    (k4 : PySem.W.keepIn K (.ref f4) = true)
    (a5 : PySem.W.nsIn K mainGlobals "is_block" = some (some (.ref f5)))
    (l5 : K.lookup f5 = some ⟨oc5, od5, .func (PySem.W.fnOf "is_block" "is_block" (defArgs st_is_block) (defBody st_is_block) (defScope st_is_block) .none kV5 dc5 pm5 an5 cd5 ct5), sl5⟩)
    (c5 : PySem.W.codeIn K cd5 "is_block" = true)
    (k5 : PySem.W.keepIn K (.ref f5) = true)
    (a6 : PySem.W.nsIn K mainGlobals "has_blocks" = some (some (.ref f6)))
    (l6 : K.lookup f6 = some ⟨oc6, od6, .func (PySem.W.fnOf "has_blocks" "has_blocks" (defArgs st_has_blocks) (defBody st_has_blocks) (defScope st_has_blocks) .none kV6 dc6 pm6 an6 cd6 ct6), sl6⟩)
    (c6 : PySem.W.codeIn K cd6 "has_blocks" = true)
    (k6 : PySem.W.keepIn K (.ref f6) = true)
    (a7 : PySem.W.nsIn K mainGlobals "shut_behind_last_points" = some (some (.ref f7)))
    (l7 : K.lookup f7 = some ⟨oc7, od7, .func (PySem.W.fnOf "shut_behind_last_points" "shut_behind_last_points" (defArgs st_shut_behind_last_points) (defBody st_shut_behind_last_points) (defScope st_shut_behind_last_points) .none kV7 dc7 pm7 an7 cd7 ct7), sl7⟩)
    (c7 : PySem.W.codeIn K cd7 "shut_behind_last_points" = true)
    (k7 : PySem.W.keepIn K (.ref f7) = true)
    (a8 : PySem.W.nsIn K mainGlobals "row_by_parting" = some (some (.ref f8)))
    (l8 : K.lookup f8 = some ⟨oc8, od8, .func (PySem.W.fnOf "row_by_parting" "row_by_parting" (defArgs st_row_by_parting) (defBody st_row_by_parting) (defScope st_row_by_parting) .none kV8 dc8 pm8 an8 cd8 ct8), sl8⟩)
    (c8 : PySem.W.codeIn K cd8 "row_by_parting" = true)
    (k8 : PySem.W.keepIn K (.ref f8) = true)
    (a9 : PySem.W.nsIn K mainGlobals "_law_mix" = some (some (.ref f9)))
    (l9 : K.lookup f9 = some ⟨oc9, od9, .func (PySem.W.fnOf "_law_mix" "_law_mix" (defArgs st__law_mix) (defBody st__law_mix) (defScope st__law_mix) .none kV9 dc9 pm9 an9 cd9 ct9), sl9⟩)
    (c9 : PySem.W.codeIn K cd9 "_law_mix" = true)
    (k9 : PySem.W.keepIn K (.ref f9) = true)
    (a10 : PySem.W.nsIn K mainGlobals "_law_row" = some (some (.ref f10)))
    (l10 : K.lookup f10 = some ⟨oc10, od10, .func (PySem.W.fnOf "_law_row" "_law_row" (defArgs st__law_row) (defBody st__law_row) (defScope st__law_row) .none kV10 dc10 pm10 an10 cd10 ct10), sl10⟩)
    (c10 : PySem.W.codeIn K cd10 "_law_row" = true)
    (k10 : PySem.W.keepIn K (.ref f10) = true)
    (a11 : PySem.W.nsIn K mainGlobals "_law_whole" = some (some (.ref f11)))
    (l11 : K.lookup f11 = some ⟨oc11, od11, .func (PySem.W.fnOf "_law_whole" "_law_whole" (defArgs st__law_whole) (defBody st__law_whole) (defScope st__law_whole) .none kV11 dc11 pm11 an11 cd11 ct11), sl11⟩)
    (c11 : PySem.W.codeIn K cd11 "_law_whole" = true)
    (k11 : PySem.W.keepIn K (.ref f11) = true)
    (a12 : PySem.W.nsIn K mainGlobals "_law_crosses" = some (some (.ref f12)))
    (l12 : K.lookup f12 = some ⟨oc12, od12, .func (PySem.W.fnOf "_law_crosses" "_law_crosses" (defArgs st__law_crosses) (defBody st__law_crosses) (defScope st__law_crosses) .none kV12 dc12 pm12 an12 cd12 ct12), sl12⟩)
    (c12 : PySem.W.codeIn K cd12 "_law_crosses" = true)
    (k12 : PySem.W.keepIn K (.ref f12) = true)
    (a13 : PySem.W.nsIn K mainGlobals "_law_is_parting" = some (some (.ref f13)))
    (l13 : K.lookup f13 = some ⟨oc13, od13, .func (PySem.W.fnOf "_law_is_parting" "_law_is_parting" (defArgs st__law_is_parting) (defBody st__law_is_parting) (defScope st__law_is_parting) .none kV13 dc13 pm13 an13 cd13 ct13), sl13⟩)
    (c13 : PySem.W.codeIn K cd13 "_law_is_parting" = true)
    (k13 : PySem.W.keepIn K (.ref f13) = true)
    (a14 : PySem.W.nsIn K mainGlobals "_law_parting" = some (some (.ref f14)))
    (l14 : K.lookup f14 = some ⟨oc14, od14, .func (PySem.W.fnOf "_law_parting" "_law_parting" (defArgs st__law_parting) (defBody st__law_parting) (defScope st__law_parting) .none kV14 dc14 pm14 an14 cd14 ct14), sl14⟩)
    (c14 : PySem.W.codeIn K cd14 "_law_parting" = true)
    (k14 : PySem.W.keepIn K (.ref f14) = true)
    (a15 : PySem.W.nsIn K mainGlobals "_law_row_by" = some (some (.ref f15)))
    (l15 : K.lookup f15 = some ⟨oc15, od15, .func (PySem.W.fnOf "_law_row_by" "_law_row_by" (defArgs st__law_row_by) (defBody st__law_row_by) (defScope st__law_row_by) .none kV15 dc15 pm15 an15 cd15 ct15), sl15⟩)
    (c15 : PySem.W.codeIn K cd15 "_law_row_by" = true)
    (k15 : PySem.W.keepIn K (.ref f15) = true)
    (a16 : PySem.W.nsIn K mainGlobals "_law_spoilt" = some (some (.ref f16)))
    (l16 : K.lookup f16 = some ⟨oc16, od16, .func (PySem.W.fnOf "_law_spoilt" "_law_spoilt" (defArgs st__law_spoilt) (defBody st__law_spoilt) (defScope st__law_spoilt) .none kV16 dc16 pm16 an16 cd16 ct16), sl16⟩)
    (c16 : PySem.W.codeIn K cd16 "_law_spoilt" = true)
    (k16 : PySem.W.keepIn K (.ref f16) = true)
    (a17 : PySem.W.nsIn K mainGlobals "law" = some (some (.ref f17)))
    (l17 : K.lookup f17 = some ⟨oc17, od17, .func (PySem.W.fnOf "law" "law" (defArgs st_law) (defBody st_law) (defScope st_law) .none kV17 dc17 pm17 an17 cd17 ct17), sl17⟩)
    (c17 : PySem.W.codeIn K cd17 "law" = true)
    (k17 : PySem.W.keepIn K (.ref f17) = true)
    (z_isinstance : PySem.W.nsIn K mainGlobals "isinstance" = some none)
    (z_str : PySem.W.nsIn K mainGlobals "str" = some none)
    (z_len : PySem.W.nsIn K mainGlobals "len" = some none)
    (z_any : PySem.W.nsIn K mainGlobals "any" = some none)
    (z_all : PySem.W.nsIn K mainGlobals "all" = some none)
    (z_min : PySem.W.nsIn K mainGlobals "min" = some none)
    (z_range : PySem.W.nsIn K mainGlobals "range" = some none)
    (z_int : PySem.W.nsIn K mainGlobals "int" = some none)
    (z_bool : PySem.W.nsIn K mainGlobals "bool" = some none)
    (z_ValueError : PySem.W.nsIn K mainGlobals "ValueError" = some none)
    (z_sorted : PySem.W.nsIn K mainGlobals "sorted" = some none)
    (z_tuple : PySem.W.nsIn K mainGlobals "tuple" = some none)
    (z_list : PySem.W.nsIn K mainGlobals "list" = some none)
    (z_enumerate : PySem.W.nsIn K mainGlobals "enumerate" = some none)
    (z_reversed : PySem.W.nsIn K mainGlobals "reversed" = some none)
    (z_sum : PySem.W.nsIn K mainGlobals "sum" = some none)
    : ∃ fd : FuncData, (∀ (s : Shared) (v : Value), BindsTo s fd ⟨[v], []⟩ [("_law_script", v)]) ∧ ∀ base : Heap, K.In base → base.Ns mainGlobals mg → FnOk l.prog w K mg base (CX1 l.prog w) 6 fa fd ["_law_script"] (spLaw K) := by
  have e := hfa.symm.trans (PySem.W.mg_of X G a17)
  cases e
  have m_BracketError := PySem.W.mg_of X G x_ns_BracketError
  have x_BracketError : XCl K e_BracketError := ⟨x_q_BracketError, x_ga_BracketError, x_gt_BracketError, x_cl_BracketError, x_gg, x_tk, x_mo_BracketError, x_mb_BracketError, x_ct_BracketError⟩
  have m_NoRow := PySem.W.mg_of X G x_ns_NoRow
  have x_NoRow : XCl K e_NoRow := ⟨x_q_NoRow, x_ga_NoRow, x_gt_NoRow, x_cl_NoRow, x_gg, x_tk, x_mo_NoRow, x_mb_NoRow, x_ct_NoRow⟩
  have m_NoPlace := PySem.W.mg_of X G x_ns_NoPlace
  have kits : Kits K := ⟨y_int_int, y_int_bool, y_bool_int, y_bool_bool, y_str_int, y_tuple_tuple, y_list_tuple, y_int_tuple, y_str_tuple, y_NoneType_tuple⟩
  have m_LONGEST := PySem.W.mg_of X G g_LONGEST
  have m_T := PySem.W.mg_of X G g_T
  have T : Tab K aT [("(", ")"), (")", "(")] := ⟨g_T2⟩
  have n_isinstance := PySem.W.mg_none_of X G z_isinstance
  have n_str := PySem.W.mg_none_of X G z_str
  have n_len := PySem.W.mg_none_of X G z_len
  have n_any := PySem.W.mg_none_of X G z_any
  have n_all := PySem.W.mg_none_of X G z_all
  have n_min := PySem.W.mg_none_of X G z_min
  have n_range := PySem.W.mg_none_of X G z_range
  have n_int := PySem.W.mg_none_of X G z_int
  have n_bool := PySem.W.mg_none_of X G z_bool
  have n_ValueError := PySem.W.mg_none_of X G z_ValueError
  have n_sorted := PySem.W.mg_none_of X G z_sorted
  have n_tuple := PySem.W.mg_none_of X G z_tuple
  have n_list := PySem.W.mg_none_of X G z_list
  have n_enumerate := PySem.W.mg_none_of X G z_enumerate
  have n_reversed := PySem.W.mg_none_of X G z_reversed
  have n_sum := PySem.W.mg_none_of X G z_sum
  have F0 := fun_mk (st := st_rise) l0 c0 k0
  have F1 := fun_mk (st := st_levels) l1 c1 k1
  have F2 := fun_mk (st := st_is_whole) l2 c2 k2
  have F3 := fun_mk (st := st_parting_of) l3 c3 k3
  have F4 := fun_mk (st := st_is_point) l4 c4 k4
  have F5 := fun_mk (st := st_is_block) l5 c5 k5
  have F6 := fun_mk (st := st_has_blocks) l6 c6 k6
  have F7 := fun_mk (st := st_shut_behind_last_points) l7 c7 k7
  have F8 := fun_mk (st := st_row_by_parting) l8 c8 k8
  have F9 := fun_mk (st := st__law_mix) l9 c9 k9
  have F10 := fun_mk (st := st__law_row) l10 c10 k10
  have F11 := fun_mk (st := st__law_whole) l11 c11 k11
  have F12 := fun_mk (st := st__law_crosses) l12 c12 k12
  have F13 := fun_mk (st := st__law_is_parting) l13 c13 k13
  have F14 := fun_mk (st := st__law_parting) l14 c14 k14
  have F15 := fun_mk (st := st__law_row_by) l15 c15 k15
  have F16 := fun_mk (st := st__law_spoilt) l16 c16 k16
  have F17 := fun_mk (st := st_law) l17 c17 k17
  refine ⟨PySem.W.fnOf "law" "law" (defArgs st_law) (defBody st_law) (defScope st_law) .none kV17 dc17 pm17 an17 cd17 ct17, fun s v => .of_eq rfl, fun base _ _ => ?_⟩
  have h_rise : Has l.prog w K mg base 1 "rise" ["sign"] spRise := ⟨_, _, ok_rise F0, F0.binds (ps := ["sign"]) fun _ _ _ _ _ _ us hl => match us, hl with | [_], _ => rfl, k0, PySem.W.mg_of X G a0⟩
  have h_levels : Has l.prog w K mg base 2 "levels" ["row"] spLevels := ⟨_, _, ok_levels F1 h_rise, F1.binds (ps := ["row"]) fun _ _ _ _ _ _ us hl => match us, hl with | [_], _ => rfl, k1, PySem.W.mg_of X G a1⟩
  have h_is_whole : Has l.prog w K mg base 3 "is_whole" ["thing"] (spIsW K) := ⟨_, _, ok_isW F2 h_levels m_LONGEST m_T T n_isinstance n_str n_len n_any n_min y_str_str, F2.binds (ps := ["thing"]) fun _ _ _ _ _ _ us hl => match us, hl with | [_], _ => rfl, k2, PySem.W.mg_of X G a2⟩
  have h_parting_of : Has l.prog w K mg base 1 "parting_of" ["row"] spPartG := ⟨_, _, ok_partG F3 n_len n_tuple n_sorted n_enumerate, F3.binds (ps := ["row"]) fun _ _ _ _ _ _ us hl => match us, hl with | [_], _ => rfl, k3, PySem.W.mg_of X G a3⟩
  have h_is_point : Has l.prog w K mg base 1 "is_point" ["thing"] spPt := ⟨_, _, ok_point F4 n_isinstance n_int n_bool kits, F4.binds (ps := ["thing"]) fun _ _ _ _ _ _ us hl => match us, hl with | [_], _ => rfl, k4, PySem.W.mg_of X G a4⟩
  have h_is_block : Has l.prog w K mg base 2 "is_block" ["thing"] spIsBlock := ⟨_, _, ok_isblock F5 h_is_point n_isinstance n_tuple n_len n_all kits, F5.binds (ps := ["thing"]) fun _ _ _ _ _ _ us hl => match us, hl with | [_], _ => rfl, k5, PySem.W.mg_of X G a5⟩
  have h_has_blocks : Has l.prog w K mg base 3 "has_blocks" ["thing"] spHas := ⟨_, _, ok_has F6 h_is_block n_isinstance n_tuple n_all kits, F6.binds (ps := ["thing"]) fun _ _ _ _ _ _ us hl => match us, hl with | [_], _ => rfl, k6, PySem.W.mg_of X G a6⟩
  have h_shut_behind_last_points : Has l.prog w K mg base 1 "shut_behind_last_points" ["blocks"] spShut := ⟨_, _, ok_shut F7 n_len n_sum n_range, F7.binds (ps := ["blocks"]) fun _ _ _ _ _ _ us hl => match us, hl with | [_], _ => rfl, k7, PySem.W.mg_of X G a7⟩
  have h_row_by_parting : Has l.prog w K mg base 4 "row_by_parting" ["parting"] (spBack e_NoRow) := ⟨_, _, ok_back F8 h_has_blocks h_shut_behind_last_points h_is_whole h_parting_of m_NoRow x_NoRow, F8.binds (ps := ["parting"]) fun _ _ _ _ _ _ us hl => match us, hl with | [_], _ => rfl, k8, PySem.W.mg_of X G a8⟩
  have h__law_mix : Has l.prog w K mg base 1 "_law_mix" ["_law_cell_here", "_law_prime", "_law_many"] spMix := ⟨_, _, ok_mix F9, F9.binds (ps := ["_law_cell_here", "_law_prime", "_law_many"]) fun _ _ _ _ _ _ us hl => match us, hl with | [_, _, _], _ => rfl, k9, PySem.W.mg_of X G a9⟩
  have h__law_row : Has l.prog w K mg base 2 "_law_row" ["_law_cell_here", "_law_size"] spRow := ⟨_, _, ok_row F10 h__law_mix n_range, F10.binds (ps := ["_law_cell_here", "_law_size"]) fun _ _ _ _ _ _ us hl => match us, hl with | [_, _], _ => rfl, k10, PySem.W.mg_of X G a10⟩
  have h__law_whole : Has l.prog w K mg base 1 "_law_whole" ["_law_found"] spPt := ⟨_, _, ok_lwh F11 n_isinstance n_int n_bool kits, F11.binds (ps := ["_law_found"]) fun _ _ _ _ _ _ us hl => match us, hl with | [_], _ => rfl, k11, PySem.W.mg_of X G a11⟩
  have h__law_crosses : Has l.prog w K mg base 1 "_law_crosses" ["_law_home", "_law_many"] spCross := ⟨_, _, ok_cross F12 n_range, F12.binds (ps := ["_law_home", "_law_many"]) fun _ _ _ _ _ _ us hl => match us, hl with | [_, _], _ => rfl, k12, PySem.W.mg_of X G a12⟩
  have h__law_is_parting : Has l.prog w K mg base 2 "_law_is_parting" ["_law_thing"] spIsP := ⟨_, _, ok_lisp F13 h__law_whole h__law_crosses n_isinstance n_tuple n_len n_all n_list n_range n_sorted n_enumerate kits, F13.binds (ps := ["_law_thing"]) fun _ _ _ _ _ _ us hl => match us, hl with | [_], _ => rfl, k13, PySem.W.mg_of X G a13⟩
  have h__law_parting : Has l.prog w K mg base 1 "_law_parting" ["_law_row_here"] spPartG := ⟨_, _, ok_lpart F14 n_tuple n_sorted n_enumerate, F14.binds (ps := ["_law_row_here"]) fun _ _ _ _ _ _ us hl => match us, hl with | [_], _ => rfl, k14, PySem.W.mg_of X G a14⟩
  have h__law_row_by : Has l.prog w K mg base 5 "_law_row_by" ["_law_thing"] spRowBy := ⟨_, _, ok_rowby F15 h_row_by_parting m_BracketError m_NoRow m_NoPlace x_BracketError x_NoRow n_ValueError n_isinstance o_NoRow_BracketError i_NoRow_NoRow i_NoRow_NoPlace i_NoRow_ValueError, F15.binds (ps := ["_law_thing"]) fun _ _ _ _ _ _ us hl => match us, hl with | [_], _ => rfl, k15, PySem.W.mg_of X G a15⟩
  have h__law_spoilt : Has l.prog w K mg base 1 "_law_spoilt" ["_law_parting_here", "_law_cell_here"] spSp6 := ⟨_, _, ok_spoilt06 F16 n_tuple n_reversed n_len n_list n_range n_sum n_sorted, F16.binds (ps := ["_law_parting_here", "_law_cell_here"]) fun _ _ _ _ _ _ us hl => match us, hl with | [_, _], _ => rfl, k16, PySem.W.mg_of X G a16⟩
  exact ok_law F17 h__law_mix h__law_row h_parting_of h__law_is_parting h__law_parting h_row_by_parting h__law_spoilt h__law_row_by n_int
theorem walk {l : PySem.W.OpenLaw} {q : Program} {loose : List Str} {XP : (Str → Option Value) → Heap → Prop} {YP : World → Heap → Prop} {d : DefRec} {K : Params → PySem.W.Frag} (hn : l.most = some 63) (hdf : d.params.defaults = [])
    (hY : ∀ (w : World) (h : Heap), YP w h → (K w.params).In h)
    (F : ∀ (w : World) (mg : Str → Option Value) (fa : Addr) (h : Heap), (K w.params).In h → h.Ns mainGlobals mg → mg d.name = some (.ref fa) →
      ∃ fd : FuncData, (∀ (s : Shared) (u : Value), BindsTo s fd ⟨[u], []⟩ [("_law_script", u)]) ∧ ∀ base : Heap, (K w.params).In base → base.Ns mainGlobals mg → FnOk l.prog w (K w.params) mg base (CX1 l.prog w) 6 fa fd ["_law_script"] (spLaw (K w.params))) :
    PySem.W.WalkO q loose XP YP l.row.toRowW d [] (fun f vs => PySem.call f vs) :=
  L2.walk_bits (n := 63) (k := 6) (x := "_law_script") (sp := fun w => spLaw (K w.params)) hn (by decide) hdf ⟨rfl, by decide, by decide⟩ hY F (fun _ _ a ns hl hb _ hS => ⟨a, ns, rfl, hS, hl, hb, fun _ => rfl⟩)
end Nk06
open PySem PySem.W PyProof.Rows
set_option maxRecDepth 100000 in
set_option maxHeartbeats 0 in
theorem PySem.Challenge.cw_bracketnumbers_k06_whole_partings_holds : PySem.Challenge.rw_bracketnumbers_k06_whole_partings.Holds := by
  w_on; o_law; k_head; (case hw => w_witness2)
  k_fill
  refine Nk06.walk (l := PySem.Challenge.rw_bracketnumbers_k06_whole_partings) rfl rfl (fun w h Y => PySem.W.kIn_of Y) ?F
  case F =>
    intro w mg fa h KX G hmg
    refine' Nk06.all_mk KX G hmg ?x_gg ?x_tk ?x_ns_BracketError ?x_q_BracketError ?x_ga_BracketError ?x_gt_BracketError ?x_cl_BracketError ?x_mo_BracketError ?x_mb_BracketError ?x_ct_BracketError ?x_ns_NoRow ?x_q_NoRow ?x_ga_NoRow ?x_gt_NoRow ?x_cl_NoRow ?x_mo_NoRow ?x_mb_NoRow ?x_ct_NoRow ?x_ns_NoPlace ?o_NoRow_BracketError ?i_NoRow_NoRow ?i_NoRow_NoPlace ?i_NoRow_ValueError ?y_str_str ?y_int_int ?y_int_bool ?y_bool_int ?y_bool_bool ?y_str_int ?y_tuple_tuple ?y_list_tuple ?y_int_tuple ?y_str_tuple ?y_NoneType_tuple ?g_LONGEST ?g_T ?g_T2 ?a0 ?l0 ?c0 ?k0 ?a1 ?l1 ?c1 ?k1 ?a2 ?l2 ?c2 ?k2 ?a3 ?l3 ?c3 ?k3 ?a4 ?l4 ?c4 ?k4 ?a5 ?l5 ?c5 ?k5 ?a6 ?l6 ?c6 ?k6 ?a7 ?l7 ?c7 ?k7 ?a8 ?l8 ?c8 ?k8 ?a9 ?l9 ?c9 ?k9 ?a10 ?l10 ?c10 ?k10 ?a11 ?l11 ?c11 ?k11 ?a12 ?l12 ?c12 ?k12 ?a13 ?l13 ?c13 ?k13 ?a14 ?l14 ?c14 ?k14 ?a15 ?l15 ?c15 ?k15 ?a16 ?l16 ?c16 ?k16 ?a17 ?l17 ?c17 ?k17 ?z_isinstance ?z_str ?z_len ?z_any ?z_all ?z_min ?z_range ?z_int ?z_bool ?z_ValueError ?z_sorted ?z_tuple ?z_list ?z_enumerate ?z_reversed ?z_sum
    (case x_gg => k_is)
    (case x_tk => k_is)
    (case x_ns_BracketError => k_is)
    (case x_q_BracketError => k_exc)
    (case x_ga_BracketError => k_is)
    (case x_gt_BracketError => k_is)
    (case x_cl_BracketError => k_is)
    (case x_mo_BracketError => k_is)
    (case x_mb_BracketError => k_is)
    (case x_ct_BracketError => k_is)
    (case x_ns_NoRow => k_is)
    (case x_q_NoRow => k_exc)
    (case x_ga_NoRow => k_is)
    (case x_gt_NoRow => k_is)
    (case x_cl_NoRow => k_is)
    (case x_mo_NoRow => k_is)
    (case x_mb_NoRow => k_is)
    (case x_ct_NoRow => k_is)
    (case x_ns_NoPlace => k_is)
    (case o_NoRow_BracketError => k_is)
    (case i_NoRow_NoRow => kit_is)
    (case i_NoRow_NoPlace => kit_is)
    (case i_NoRow_ValueError => kit_is)
    (case y_str_str => kit_is)
    (case y_int_int => kit_is)
    (case y_int_bool => kit_is)
    (case y_bool_int => kit_is)
    (case y_bool_bool => kit_is)
    (case y_str_int => kit_is)
    (case y_tuple_tuple => kit_is)
    (case y_list_tuple => kit_is)
    (case y_int_tuple => kit_is)
    (case y_str_tuple => kit_is)
    (case y_NoneType_tuple => kit_is)
    (case g_LONGEST => k_is)
    (case g_T => k_is)
    (case g_T2 => kernel_rfl)
    (case a0 => k_is)
    (case l0 => k_is)
    (case c0 => k_is)
    (case k0 => k_is)
    (case a1 => k_is)
    (case l1 => k_is)
    (case c1 => k_is)
    (case k1 => k_is)
    (case a2 => k_is)
    (case l2 => k_is)
    (case c2 => k_is)
    (case k2 => k_is)
    (case a3 => k_is)
    (case l3 => k_is)
    (case c3 => k_is)
    (case k3 => k_is)
    (case a4 => k_is)
    (case l4 => k_is)
    (case c4 => k_is)
    (case k4 => k_is)
    (case a5 => k_is)
    (case l5 => k_is)
    (case c5 => k_is)
    (case k5 => k_is)
    (case a6 => k_is)
    (case l6 => k_is)
    (case c6 => k_is)
    (case k6 => k_is)
    (case a7 => k_is)
    (case l7 => k_is)
    (case c7 => k_is)
    (case k7 => k_is)
    (case a8 => k_is)
    (case l8 => k_is)
    (case c8 => k_is)
    (case k8 => k_is)
    (case a9 => k_is)
    (case l9 => k_is)
    (case c9 => k_is)
    (case k9 => k_is)
    (case a10 => k_is)
    (case l10 => k_is)
    (case c10 => k_is)
    (case k10 => k_is)
    (case a11 => k_is)
    (case l11 => k_is)
    (case c11 => k_is)
    (case k11 => k_is)
    (case a12 => k_is)
    (case l12 => k_is)
    (case c12 => k_is)
    (case k12 => k_is)
    (case a13 => k_is)
    (case l13 => k_is)
    (case c13 => k_is)
    (case k13 => k_is)
    (case a14 => k_is)
    (case l14 => k_is)
    (case c14 => k_is)
    (case k14 => k_is)
    (case a15 => k_is)
    (case l15 => k_is)
    (case c15 => k_is)
    (case k15 => k_is)
    (case a16 => k_is)
    (case l16 => k_is)
    (case c16 => k_is)
    (case k16 => k_is)
    (case a17 => k_is)
    (case l17 => k_is)
    (case c17 => k_is)
    (case k17 => k_is)
    (case z_isinstance => k_is)
    (case z_str => k_is)
    (case z_len => k_is)
    (case z_any => k_is)
    (case z_all => k_is)
    (case z_min => k_is)
    (case z_range => k_is)
    (case z_int => k_is)
    (case z_bool => k_is)
    (case z_ValueError => k_is)
    (case z_sorted => k_is)
    (case z_tuple => k_is)
    (case z_list => k_is)
    (case z_enumerate => k_is)
    (case z_reversed => k_is)
    (case z_sum => k_is)
#print axioms PySem.Challenge.cw_bracketnumbers_k06_whole_partings_holds
