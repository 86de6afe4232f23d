import PyProof.Rows.All
import Wide.All
import OpenK.AllK
import Wide.FinOn
import PyProof.EqAt
import PyProof.EqKinds
import PyProof.TupleCall
import Lean
import PySem.Challenge.RW_surewatch_k05_sayings
section
set_option Elab.async false
set_option linter.all false
set_option maxRecDepth 100000
namespace L2
open PySem PySem.Spec PyProof.Rows

abbrev Key := Sum Int Str
def keyIs : Key → Value → Bool
  | .inl k, v => Value.isInt k v
  | .inr x, v => Value.isStrOf x v
def keyH (w : World) : Key → Int
  | .inl k => hashInt k
  | .inr x => hashStr w x
theorem keyIs_shape : ∀ {k : Key} {v : Value}, keyIs k v = true → (∃ i t, k = Sum.inl i ∧ v = Value.int i t) ∨ (∃ x t, k = Sum.inr x ∧ v = Value.str x t)
  | .inl i, v, h => by
    obtain ⟨t, e⟩ := Value.isInt_shape (k := i) (v := v) h
    exact .inl ⟨i, t, rfl, e⟩
  | .inr x, v, h => by
    obtain ⟨t, e⟩ := Value.isStrOf_shape (x := x) (v := v) h
    exact .inr ⟨x, t, rfl, e⟩
theorem keyIs_int (i : Int) (t : Tok) : keyIs (.inl i) (.int i t) = true := by simp [keyIs, Value.isInt]
theorem keyIs_str (x : Str) (t : Tok) : keyIs (.inr x) (.str x t) = true := by simp [keyIs, Value.isStrOf]
theorem key_ll (a b : Int) : decide ((Sum.inl a : Key) = Sum.inl b) = (a == b) := by
  by_cases e : a = b
  · subst e; simp
  · have h : ¬ (Sum.inl a : Key) = Sum.inl b := fun q => e (Sum.inl.inj q)
    rw [decide_eq_false h]
    exact (beq_eq_false_iff_ne.mpr e).symm
theorem key_rr (a b : Str) : decide ((Sum.inr a : Key) = Sum.inr b) = decide (a = b) := by
  by_cases e : a = b
  · subst e; simp
  · have h : ¬ (Sum.inr a : Key) = Sum.inr b := fun q => e (Sum.inr.inj q)
    rw [decide_eq_false h, decide_eq_false e]
theorem key_lr (a : Int) (b : Str) : decide ((Sum.inl a : Key) = Sum.inr b) = false := decide_eq_false (fun q => nomatch q)
theorem key_rl (a : Str) (b : Int) : decide ((Sum.inr a : Key) = Sum.inl b) = false := decide_eq_false (fun q => nomatch q)

def mixKind (prog : Program) (w : World) : PySem.KeyKind prog w Key where
  is := keyIs
  hash := keyH w
  inj := fun v a b ha hb => by
    rcases keyIs_shape ha with ⟨i, t, rfl, rfl⟩ | ⟨x, t, rfl, rfl⟩
    · rcases keyIs_shape hb with ⟨j, u, rfl, e⟩ | ⟨y, u, rfl, e⟩
      · injection e with e1 _; rw [e1]
      · exact nomatch e
    · rcases keyIs_shape hb with ⟨j, u, rfl, e⟩ | ⟨y, u, rfl, e⟩
      · exact nomatch e
      · injection e with e1 _; rw [e1]
  byValue := fun k v h => by
    rcases keyIs_shape h with ⟨i, t, rfl, rfl⟩ | ⟨x, t, rfl, rfl⟩ <;> rfl
  pyHash := fun hv h => by
    rcases keyIs_shape hv with ⟨i, t, rfl, rfl⟩ | ⟨x, t, rfl, rfl⟩
    · exact wpAny_pyHash_int h
    · exact wpAny_pyHash_str h
  eqBool := fun hu hv h => by
    rcases keyIs_shape hu with ⟨i, t, rfl, rfl⟩ | ⟨x, t, rfl, rfl⟩
    · rcases keyIs_shape hv with ⟨j, u, rfl, rfl⟩ | ⟨y, u, rfl, rfl⟩
      · rw [key_ll] at h; exact wpAny_eqBool_int h
      · rw [key_lr] at h; exact SeqAt.EqAt.int_str i t y u _ _ _ _ h
    · rcases keyIs_shape hv with ⟨j, u, rfl, rfl⟩ | ⟨y, u, rfl, rfl⟩
      · rw [key_rl] at h; exact SeqAt.EqAt.str_int x t j u _ _ _ _ h
      · rw [key_rr] at h; exact wpAny_eqBool_str h
  «strs» := fun k x t v h => by
    rcases keyIs_shape h with ⟨i, u, rfl, e⟩ | ⟨y, u, rfl, e⟩
    · exact nomatch e
    · injection e with e1 _
      subst e1
      cases v <;> rfl

theorem mixKind_int (prog : Program) (w : World) (i : Int) (t : Tok) : (mixKind prog w).is (.inl i) (.int i t) = true := keyIs_int i t
theorem mixKind_str (prog : Program) (w : World) (x : Str) (t : Tok) : (mixKind prog w).is (.inr x) (.str x t) = true := keyIs_str x t
end L2

namespace L2
open PySem PySem.Spec PyProof.Rows

inductive V where
  | non | bl (b : Bool) | int (i : Int) | str (x : Str) | byt (b : Array UInt8) | flt (b : UInt64) | ref (a : Addr) | ty (n : String)
  deriving DecidableEq

def RelV : V → Value → Prop
  | .non, u => u = Value.none
  | .bl b, u => u = Value.bool b
  | .int i, u => ∃ t, u = Value.int i t
  | .str x, u => ∃ t, u = Value.str x t
  | .byt b, u => ∃ t, u = Value.bytes b t
  | .flt b, u => ∃ t, u = Value.float b t
  | .ref a, u => u = Value.ref a
  | .ty n, u => u = Value.type n

abbrev Vals : List V → List Value → Prop := Paired RelV
theorem Vals.length {xs : List V} {us : List Value} (r : Vals xs us) : xs.length = us.length := Paired.length r
theorem Vals.get : ∀ {xs : List V} {us : List Value} {i : Nat} {x : V}, Vals xs us → xs[i]? = some x → ∃ u, us[i]? = some u ∧ RelV x u
  | _, _, _, _, .nil, e => by simp at e
  | _, _, 0, _, .cons r _, e => by simp at e; subst e; exact ⟨_, rfl, r⟩
  | _, _, i + 1, x, .cons _ t, e => by
    obtain ⟨u, h1, h2⟩ := Vals.get (i := i) (x := x) t (by simpa using e)
    exact ⟨u, by simpa using h1, h2⟩
theorem Vals.set {x : V} {u : Value} (r : RelV x u) : ∀ {xs : List V} {us : List Value} (i : Nat), Vals xs us → Vals (xs.set i x) (us.set i u)
  | _, _, _, .nil => .nil
  | _, _, 0, .cons _ t => .cons r t
  | _, _, i + 1, .cons q t => .cons q (Vals.set r i t)
theorem Vals.append : ∀ {xs ys : List V} {us ws : List Value}, Vals xs us → Vals ys ws → Vals (xs ++ ys) (us ++ ws)
  | _, _, _, _, .nil, s => s
  | _, _, _, _, .cons r t, s => .cons r (Vals.append t s)
theorem Vals.take : ∀ {xs : List V} {us : List Value} (n : Nat), Vals xs us → Vals (xs.take n) (us.take n)
  | _, _, 0, _ => .nil
  | _, _, _ + 1, .nil => .nil
  | _, _, n + 1, .cons r t => .cons r (Vals.take n t)
theorem Vals.drop : ∀ {xs : List V} {us : List Value} (n : Nat), Vals xs us → Vals (xs.drop n) (us.drop n)
  | _, _, 0, r => r
  | _, _, _ + 1, .nil => .nil
  | _, _, n + 1, .cons _ t => Vals.drop n t
theorem Vals.none_of : ∀ {xs : List V} {us : List Value} {i : Nat}, Vals xs us → xs[i]? = none → us[i]? = none := fun {xs us i} r e => by
  have h1 := r.length
  have h2 : xs.length ≤ i := List.getElem?_eq_none_iff.mp e
  exact List.getElem?_eq_none_iff.mpr (by omega)

def RelO : Option V → Option Value → Prop
  | some v, some u => RelV v u
  | none, none => True
  | _, _ => False
def KV {κ : Type} : List (κ × V) → List (κ × Value) → Prop := Paired fun (p : κ × V) (q : κ × Value) => p.1 = q.1 ∧ RelV p.2 q.2

def kV : Key → V
  | .inl i => .int i
  | .inr x => .str x

inductive HO where
  | lst (xs : List V)
  | tup (xs : List V)
  | dK (kvs : List (Key × V)) | dT (kvs : List (List Key × V))
  | set (S : Int → Bool) (n : Nat)
  | ins (C dx : Addr) (fs : List (Str × V))
  | own (x : Addr)
  | xd (fs : List (Str × V))
  | met (f x : Addr)
  | rng (lo hi : Int)
  | frz (o : Obj) (u : HO)
  | tbl (ps : Array Value)
  | ext (φ : Heap → Prop)

abbrev Hp := Addr → Option HO
def upd (H : Hp) (a : Addr) (o : HO) : Hp := fun b => if b = a then some o else H b
theorem upd_same {H : Hp} {a : Addr} {o : HO} : upd H a o a = some o := by unfold upd; rw [if_pos rfl]
theorem upd_ne {H : Hp} {a b : Addr} {o : HO} (h : b ≠ a) : upd H a o b = H b := by unfold upd; rw [if_neg h]
theorem ne_of {H : Hp} {a b : Addr} {o u : HO} (h : H a = some o) (h' : H b = some u) (d : o ≠ u) : a ≠ b := by
  intro e; subst e; rw [h] at h'; exact d (Option.some.inj h')
theorem ne_of_none {H : Hp} {a b : Addr} {o : HO} (h : H a = some o) (h' : H b = none) : a ≠ b := by
  intro e; subst e; rw [h] at h'; cases h'

section
variable (P : Program) (w : World)
def ObjOk (H : Hp) (h : Heap) (a : Addr) : HO → Prop
  | .lst xs => xs.length ≤ sizeLine ∧ ∃ (its : List Value) (n : Nat), Vals xs its ∧ h.get? a = some { cls := .type "list", data := .seq its.toArray n }
  | .tup xs => xs.length ≤ sizeLine ∧ ∃ its : List Value, Vals xs its ∧ IsTup h a its.toArray
  | .dK kvs => kvs.length ≤ sizeLine ∧ (a == sysModules) = false ∧ ∃ vs, KV kvs vs ∧ h.DictOf (mixKind P w) a vs
  | .dT kvs => kvs.length ≤ sizeLine ∧ (a == sysModules) = false ∧ ∃ xs : List (List Key × Addr × Value),
      Paired (fun (p : List Key × V) (q : List Key × Addr × Value) => p.1 = q.1 ∧ H q.2.1 = some (.tup (p.1.map kV)) ∧ RelV p.2 q.2.2) kvs xs ∧
      ∃ o es ep, h.get? a = some o ∧ o.ExactDict ∧ o.data = .dict es ep ∧ es.toList = xs.map (entryOfKey (tupleKind (mixKind P w))) ∧ (xs.map (·.1)).Nodup
  | .set S n => h.SetOf (intKind P w) a S n
  | .ins C dx fs => H dx = some (.own a) ∧ fs.length ≤ 1000 ∧ dx ≠ a ∧ h.get? a = some (PySem.W.instObj C dx) ∧
      ∃ mA, h.Ns1 dx mA ∧ (∀ f, RelO (fs.lookup f) (mA f)) ∧ PySem.Within mA (fs.map (·.1))
  | .own _ => ∃ o, h.get? a = some o
  | .xd fs => ∃ mA, h.Ns1 a mA ∧ ∀ f, RelO (fs.lookup f) (mA f)
  | .rng lo hi => ∃ t u v, h.get? a = some { cls := .type "range", data := .fields #[.int lo t, .int hi u, .int 1 v] }
  | .frz o u => h.get? a = some o ∧ ObjOk H h a u
  | .tbl ps => h.get? a = some { cls := .none, data := .fields ps }
  | .met f x => h.get? a = some (PySem.W.methodObj (.ref f) (.ref x))
  | .ext φ => φ h ∧ (∃ o, h.get? a = some o) ∧ ∀ h1 h2 : Heap, φ h1 → (∀ o, h1.get? a = some o → h2.get? a = some o) → φ h2
def HOk (H : Hp) (h : Heap) : Prop := ∀ a o, H a = some o → ObjOk P w H h a o
end

section
variable {P : Program} {w : World} {H H' : Hp} {h h' : Heap} {a : Addr} {o : HO}
theorem ObjOk.lt (x : ObjOk P w H h a o) : a < h.objs.size := by
  cases o with
  | lst xs => obtain ⟨_, _, _, _, e⟩ := x; exact Heap.lt_size e
  | tup xs => obtain ⟨_, _, _, p⟩ := x; exact p.lt
  | dK kvs => obtain ⟨_, _, _, _, o, _, _, e, _⟩ := x; exact Heap.lt_size e
  | dT kvs => obtain ⟨_, _, _, _, o, _, _, e, _⟩ := x; exact Heap.lt_size e
  | set S n => obtain ⟨o, _, _, _, e, _⟩ := x; exact Heap.lt_size e
  | ins C dx fs => obtain ⟨_, _, _, e, _⟩ := x; exact Heap.lt_size e
  | own y => obtain ⟨_, e⟩ := x; exact Heap.lt_size e
  | xd fs => obtain ⟨_, ⟨_, _, _, e, _⟩, _⟩ := x; exact Heap.lt_size e
  | rng lo hi => obtain ⟨_, _, _, e⟩ := x; exact Heap.lt_size e
  | frz ob u => obtain ⟨e, _⟩ := x; exact Heap.lt_size e
  | tbl ps => exact Heap.lt_size (show h.get? a = some _ from x)
  | met f y => exact Heap.lt_size (show h.get? a = some _ from x)
  | ext φ => obtain ⟨_, ⟨_, e⟩, _⟩ := x; exact Heap.lt_size e
theorem Paired.mapP {α β : Type} {F G : α → β → Prop} : ∀ {l₁ : List α} {l₂ : List β}, Paired F l₁ l₂ → (∀ a b, F a b → G a b) → Paired G l₁ l₂
  | _, _, .nil, _ => .nil
  | _, _, .cons r t, f => .cons (f _ _ r) (Paired.mapP t f)
theorem ObjOk.stay (x : ObjOk P w H h a o) (k : ∀ b u, (b = a ∨ H b = some (.own a)) → h.get? b = some u → h'.get? b = some u)
    (ho : ∀ b, H b = some (.own a) → H' b = some (.own a)) (ht : ∀ b xs, H b = some (.tup xs) → H' b = some (.tup xs)) : ObjOk P w H' h' a o := by
  induction o with
  | lst xs => obtain ⟨z, its, n, r, e⟩ := x; exact ⟨z, its, n, r, k _ _ (.inl rfl) e⟩
  | tup xs => obtain ⟨z, its, r, ob, e, c⟩ := x; exact ⟨z, its, r, ob, k _ _ (.inl rfl) e, c⟩
  | dK kvs => obtain ⟨z, y, vs, r, ob, es, ep, e, c⟩ := x; exact ⟨z, y, vs, r, ob, es, ep, k _ _ (.inl rfl) e, c⟩
  | dT kvs =>
    obtain ⟨z, y, xs, r, ob, es, ep, e, c⟩ := x
    exact ⟨z, y, xs, Paired.mapP r fun p q z => ⟨z.1, ht _ _ z.2.1, z.2.2⟩, ob, es, ep, k _ _ (.inl rfl) e, c⟩
  | set S n => obtain ⟨ob, es, ep, t, e, c⟩ := x; exact ⟨ob, es, ep, t, k _ _ (.inl rfl) e, c⟩
  | ins C dx fs =>
    obtain ⟨d, z, ne, e, mA, ⟨od, es, ep, e2, c⟩, r⟩ := x
    exact ⟨ho _ d, z, ne, k _ _ (.inl rfl) e, mA, ⟨od, es, ep, k _ _ (.inr d) e2, c⟩, r⟩
  | own y => obtain ⟨ob, e⟩ := x; exact ⟨ob, k _ _ (.inl rfl) e⟩
  | xd fs => obtain ⟨mA, ⟨od, es, ep, e, c⟩, r⟩ := x; exact ⟨mA, ⟨od, es, ep, k _ _ (.inl rfl) e, c⟩, r⟩
  | rng lo hi => obtain ⟨t, u, v, e⟩ := x; exact ⟨t, u, v, k _ _ (.inl rfl) e⟩
  | frz ob u ih => obtain ⟨e, q⟩ := x; exact ⟨k _ _ (.inl rfl) e, ih q⟩
  | tbl ps =>
    have e : h.get? a = some { cls := .none, data := .fields ps } := x
    show h'.get? a = some { cls := .none, data := .fields ps }
    exact k a _ (.inl rfl) e
  | met f y =>
    have e : h.get? a = some (PySem.W.methodObj (.ref f) (.ref y)) := x
    show h'.get? a = some (PySem.W.methodObj (.ref f) (.ref y))
    exact k a _ (.inl rfl) e
  | ext φ => obtain ⟨p, ⟨o, e⟩, st⟩ := x; exact ⟨st _ _ p fun o q => k _ _ (.inl rfl) q, ⟨o, k _ _ (.inl rfl) e⟩, st⟩
theorem HOk.lt (x : HOk P w H h) (e : H a = some o) : a < h.objs.size := (x a o e).lt
theorem HOk.fresh (x : HOk P w H h) (e : h.objs.size ≤ a) : H a = none := by
  cases q : H a with
  | none => rfl
  | some u => exact absurd (Nat.lt_of_lt_of_le (x.lt q) e) (Nat.lt_irrefl _)
theorem HOk.kept (x : HOk P w H h) (k : ∀ b u, h.get? b = some u → h'.get? b = some u) : HOk P w H h' := fun a o e =>
  (x a o e).stay (fun b u _ q => k b u q) (fun _ q => q) fun _ _ q => q
theorem HOk.laid (x : HOk P w H h) (k : ∀ b u, h.get? b = some u → h'.get? b = some u) (hp : h.objs.size ≤ a) (new : ObjOk P w (upd H a o) h' a o) : HOk P w (upd H a o) h' := fun b u e => by
  have hn := x.fresh hp
  by_cases hb : b = a
  · subst hb; rw [upd_same] at e; cases e; exact new
  · rw [upd_ne hb] at e
    exact (x b u e).stay (fun c v _ q => k c v q) (fun c q => by rw [upd_ne (ne_of_none q hn)]; exact q) fun c xs q => by rw [upd_ne (ne_of_none q hn)]; exact q
end

def Rd (H : Hp) (a : Addr) (u : HO) : Prop := H a = some u ∨ ∃ o, H a = some (.frz o u)
theorem Rd.of {H : Hp} {a : Addr} {u : HO} (h : H a = some u) : Rd H a u := .inl h
theorem Rd.ok {P : Program} {w : World} {H : Hp} {h : Heap} {a : Addr} {u : HO} (r : Rd H a u) (x : HOk P w H h) : ObjOk P w H h a u := by
  rcases r with r | ⟨o, r⟩
  · exact x a u r
  · obtain ⟨_, q⟩ := x a _ r
    exact q
def Mut : Option HO → Prop
  | some (.lst _) => True
  | some (.dK _) => True
  | some (.dT _) => True
  | some (.set _ _) => True
  | some (.ins _ _ _) => True
  | some (.ext _) => True
  | _ => False
section
variable {P : Program} {w : World} {H : Hp} {h h' : Heap} {x e : Addr} {o' : HO}
theorem HOk.write (ok : HOk P w H h) (mu : Mut (H x)) (he : e = x ∨ H e = some (.own x)) (k : ∀ b u, b ≠ e → h.get? b = some u → h'.get? b = some u) (heo : ∃ u, h'.get? e = some u)
    (new : ObjOk P w (upd H x o') h' x o') : HOk P w (upd H x o') h' := fun b u q => by
  have nown : ∀ c y, H c = some (.own y) → c ≠ x := fun c y r z => by subst z; rw [r] at mu; exact mu
  have ntup : ∀ c xs, H c = some (.tup xs) → c ≠ x := fun c xs r z => by subst z; rw [r] at mu; exact mu
  by_cases hb : b = x
  · subst hb; rw [upd_same] at q; cases q; exact new
  · rw [upd_ne hb] at q
    by_cases hbe : b = e
    · have q' : H b = some (.own x) := by
        rcases he with z | z
        · exact absurd (hbe.trans z) hb
        · rw [hbe]; exact z
      rw [q] at q'; cases q'
      obtain ⟨v, hv⟩ := heo
      exact ⟨v, by rw [hbe]; exact hv⟩
    · refine (ok b u q).stay (fun c v hc r => k c v ?_ r) (fun c r => by rw [upd_ne (nown c b r)]; exact r) fun c xs r => by rw [upd_ne (ntup c xs r)]; exact r
      rcases hc with rfl | hc
      · exact hbe
      · rintro rfl
        rcases he with z | z
        · exact nown c b hc z
        · rw [hc] at z; cases z; exact hb rfl
end

structure Un (fs ex : List Addr) (H H' : Hp) (h h' : Heap) : Prop where
  keep : ∀ b o, h.get? b = some o → H b = none → b ∉ fs → b ∉ ex → h'.get? b = some o
  slot : ∀ b o, h.get? b = some o → H b = none → b ∈ fs → b ∉ ex → ∃ sl, h'.get? b = some { o with slots := sl }
  free : ∀ b o, h.get? b = some o → H b = none → b ∉ ex → H' b = none
  there : ∀ b o, h.get? b = some o → b ∉ ex → ∃ o', h'.get? b = some o'
  tups : ∀ b xs, H b = some (.tup xs) → H' b = some (.tup xs)
  frzs : ∀ b o u, H b = some (.frz o u) → H' b = some (.frz o u)
  tbls : ∀ b ps, H b = some (.tbl ps) → ∃ more, H' b = some (.tbl (ps ++ more))
section
variable {fs fs' ex ex' : List Addr} {H H1 H2 : Hp} {h h1 h2 h' : Heap} {a x e : Addr} {o : HO}
theorem Un.any (u : Un fs ex H H1 h h1) {b : Addr} {ob : Obj} (q : h.get? b = some ob) (n : H b = none) (hx : b ∉ ex) : ∃ sl, h1.get? b = some { ob with slots := sl } := by
  by_cases hb : b ∈ fs
  · exact u.slot b ob q n hb hx
  · exact ⟨ob.slots, u.keep b ob q n hb hx⟩
theorem Un.trans (a : Un fs ex H H1 h h1) (b : Un fs ex H1 H2 h1 h2) : Un fs ex H H2 h h2 where
  keep := fun c ob q n hc hx => b.keep c ob (a.keep c ob q n hc hx) (a.free c ob q n hx) hc hx
  slot := fun c ob q n hc hx => by
    obtain ⟨sl, e1⟩ := a.slot c ob q n hc hx
    obtain ⟨sl', e2⟩ := b.slot c _ e1 (a.free c ob q n hx) hc hx
    exact ⟨sl', e2⟩
  free := fun c ob q n hx => by
    obtain ⟨o', e1⟩ := a.there c ob q hx
    exact b.free c o' e1 (a.free c ob q n hx) hx
  there := fun c ob q hx => by
    obtain ⟨o', e1⟩ := a.there c ob q hx
    exact b.there c o' e1 hx
  tups := fun c xs q => b.tups c xs (a.tups c xs q)
  frzs := fun c ob xs q => b.frzs c ob xs (a.frzs c ob xs q)
  tbls := fun c ps q => by
    obtain ⟨m1, e1⟩ := a.tbls c ps q
    obtain ⟨m2, e2⟩ := b.tbls c _ e1
    exact ⟨m1 ++ m2, by rw [e2, Array.append_assoc]⟩
theorem Un.kept (k : ∀ b u, h.get? b = some u → h'.get? b = some u) : Un fs ex H H h h' :=
  ⟨fun b ob q _ _ _ => k b ob q, fun b ob q _ _ _ => ⟨ob.slots, k b ob q⟩, fun _ _ _ n _ => n, fun b ob q _ => ⟨ob, k b ob q⟩, fun _ _ q => q, fun _ _ _ q => q, fun _ ps q => ⟨#[], by rw [q]; simp⟩⟩
theorem Un.refl : Un fs ex H H h h := Un.kept fun _ _ q => q
theorem Un.laid (k : ∀ b u, h.get? b = some u → h'.get? b = some u) (hp : h.objs.size ≤ a) (hn : H a = none) : Un fs ex H (upd H a o) h h' where
  keep := fun b u q _ _ _ => k b u q
  slot := fun b u q _ _ _ => ⟨u.slots, k b u q⟩
  free := fun b u q n _ => by rw [upd_ne (Nat.ne_of_lt (Nat.lt_of_lt_of_le (Heap.lt_size q) hp))]; exact n
  there := fun b u q _ => ⟨u, k b u q⟩
  tups := fun b xs q => by rw [upd_ne (ne_of_none q hn)]; exact q
  frzs := fun b u xs q => by rw [upd_ne (ne_of_none q hn)]; exact q
  tbls := fun b ps q => ⟨#[], by rw [upd_ne (ne_of_none q hn), q]; simp⟩
theorem Un.write (mu : Mut (H x)) (he : e = x ∨ H e = some (.own x)) (k : ∀ b u, b ≠ e → h.get? b = some u → h'.get? b = some u) (heo : ∃ u, h'.get? e = some u) : Un fs ex H (upd H x o) h h' := by
  have hx : ∀ b, H b = none → b ≠ x := fun b n z => by subst z; rw [n] at mu; exact mu
  have hb : ∀ b, H b = none → b ≠ e := fun b n z => by
    subst z
    rcases he with r | r
    · exact hx b n r
    · rw [n] at r; cases r
  have hm : ∀ b u, H b = some u → ¬ Mut (some u) → b ≠ x := fun b u q nm z => by subst z; rw [q] at mu; exact nm mu
  refine ⟨fun b u q n _ _ => k b u (hb b n) q, fun b u q n _ _ => ⟨u.slots, k b u (hb b n) q⟩, fun b u q n _ => by rw [upd_ne (hx b n)]; exact n, fun b u q _ => ?_,
    fun b xs q => by rw [upd_ne (hm b _ q fun z => z)]; exact q, fun b u xs q => by rw [upd_ne (hm b _ q fun z => z)]; exact q, fun b ps q => ⟨#[], by rw [upd_ne (hm b _ q fun z => z), q]; simp⟩⟩
  by_cases hbe : b = e
  · subst hbe; exact heo
  · exact ⟨u, k b u hbe q⟩
theorem Un.mono (u : Un fs ex H H1 h h1) (hs : ∀ b ∈ fs, b ∈ fs') (hx : ∀ b ∈ ex, b ∈ ex') : Un fs' ex' H H1 h h1 :=
  ⟨fun b ob q n hb he => u.keep b ob q n (fun z => hb (hs b z)) fun z => he (hx b z), fun _ _ q n _ he => u.any q n fun z => he (hx _ z), fun b ob q n he => u.free b ob q n fun z => he (hx b z), fun b ob q he => u.there b ob q fun z => he (hx b z), u.tups, u.frzs, u.tbls⟩
end

def trk (h : Heap) (H : Hp) : List Addr := (List.range h.objs.size).filter fun a => (H a).isSome
def hidT (h : Heap) (H : Hp) : Heap := PySem.W.hideAll h (trk h H)
theorem hidT_size (h : Heap) (H : Hp) : (hidT h H).objs.size = h.objs.size := PySem.W.hideAll_size _ _
theorem hidT_get {h : Heap} {H : Hp} {b : Addr} {o : Obj} (e : h.get? b = some o) (n : H b = none) : (hidT h H).get? b = some o :=
  PySem.W.hideAll_get _ e fun hm => by
    have q : (H b).isSome = true := (List.mem_filter.mp hm).2
    rw [n] at q; simp at q
theorem of_hidT {h : Heap} {H : Hp} {b : Addr} {o : Obj} (e : (hidT h H).get? b = some o) : h.get? b = some o ∧ H b = none := by
  have e' : h.get? b = some o := PySem.W.of_hideAll (trk h H) e
  refine ⟨e', ?_⟩
  cases q : H b with
  | none => rfl
  | some x =>
    have hm : b ∈ trk h H := List.mem_filter.mpr ⟨List.mem_range.mpr (Heap.lt_size e'), by simp [q]⟩
    have z : (hidT h H).get? b = none := PySem.W.hideAll_none (trk h H) hm
    rw [z] at e; cases e

def allNews (g h : Heap) (L : Addr) : List (Addr × Obj) := (List.range h.objs.size).filterMap fun a => if a = L ∨ (g.get? a).isSome = true then none else (h.get? a).map fun o => (a, o)
def rest (g h : Heap) (L d : Addr) : List (Addr × Obj) := (allNews g h L).filter fun p => decide (p.1 ≠ d)
end L2

namespace L2
open PySem PySem.Spec PyProof.Rows

structure Mod (K : PySem.W.Frag) (mg : Str → Option Value) (base : Heap) : Prop where
  kin : K.In base
  glob : base.Ns mainGlobals mg
  blt : ∃ mb, base.Ns builtinsNs mb ∧ ∀ x : Str, x ≠ "__name__" → mb x = bootBuiltins x
  nolimit : base.NoLimit

/-- the context: a def's body (or a comprehension's block) running. base: fixed through the whole law; s₀, H₀: the entry; outer: the frames whose slots others may change (a def's callers); stack: all frames that run;
   ex: iterators that were made ahead of the entry and are walked here (a comprehension's); fn: the names whose cells were made at the entry (a def: all; a comprehension's block: its own); calm: not within an except suite; pn: pins that every state bears; xe: what is wanted of an exception that leaves the code -/
structure Cx where
  prog : Program
  w : World
  K : PySem.W.Frag
  mg : Str → Option Value
  base : Heap
  A : Around
  N : List Str
  s₀ : Shared
  H₀ : Hp
  env : Env
  outer : List Env
  stack : List Env
  ex : List Addr
  fn : Str → Bool
  calm : Bool
  pn : List (Addr × Obj)
  xe : Value → Shared → Prop
def frs (l : List Env) : List Addr := l.filterMap (·.frame)
abbrev Cx.fs (X : Cx) : List Addr := frs X.outer

def Vis (sc : Scope) (x : Str) : Prop := sc.names.lookup x = some .local ∨ sc.names.lookup x = some .cell ∨ sc.names.lookup x = some .free
def Loc (sc : Scope) (x : Str) : Prop := sc.names.lookup x = some .local ∨ sc.names.lookup x = some .cell
def Look (env : Env) (h : Heap) (m : Str → Option Value) (x : Str) (u : Value) : Prop :=
  (env.kindOf x = some .local ∧ m x = some u) ∨ ((env.kindOf x = some .cell ∨ env.kindOf x = some .free) ∧ ∃ c, env.cells.lookup x = some c ∧ h.IsCell c (some u))

structure Cx.Ok (X : Cx) : Prop where
  mod : Mod X.K X.mg X.base
  kind : X.env.scope.kind = .function
  glob : X.env.globals = mainGlobals
  blt : X.env.builtins = builtinsNs
  above : X.s₀.heap.objs.size ≤ X.env.locals
  inj : ∀ x y c, X.env.cells.lookup x = some c → X.env.cells.lookup y = some c → x = y
  has : ∀ x, (X.env.kindOf x = some .cell ∨ X.env.kindOf x = some .free) → ∃ c, X.env.cells.lookup x = some c
  cab : ∀ x c, X.fn x = true → X.env.cells.lookup x = some c → X.s₀.heap.objs.size ≤ c
  hd : X.calm = true → X.A.handled = none
  frames : X.A.frames = some X.stack
  stk : X.stack = X.outer ∨ (X.stack = X.env :: X.outer ∧ X.env.frame = some X.env.locals)
  exf : ∀ b ∈ X.ex, b ≠ X.env.locals ∧ ∀ x c, X.env.cells.lookup x = some c → c ≠ b
  bs : ∀ b o, X.base.get? b = some o → X.s₀.heap.get? b = some o ∧ X.H₀ b = none
  bsz : X.base.objs.size ≤ X.s₀.heap.objs.size
  noex : ∀ b o, X.base.get? b = some o → b ∉ X.ex
  exfs : ∀ b ∈ X.ex, b ∉ X.fs
  funs : X.s₀.heap.FunFrames X.base X.outer
  frf : ∀ b ∈ X.fs, X.H₀ b = none

structure Inv (X : Cx) (pins : List (Addr × Obj)) (σ : List (Option V)) (H : Hp) (s : Shared) : Prop where
  ok : X.Ok
  os : s.os = X.s₀.os
  bare : AllBare s.gens
  base : Un X.fs X.ex X.H₀ H X.s₀.heap s.heap
  loc : ∃ m, s.heap.Ns X.env.locals m ∧ ∀ (i : Nat) (x : Str) (v : V), X.N[i]? = some x → σ[i]? = some (some v) → Vis X.env.scope x → ∃ u, RelV v u ∧ Look X.env s.heap m x u
  cell : ∀ x c, X.env.cells.lookup x = some c → ∃ v, s.heap.IsCell c v
  free : H X.env.locals = none
  freeC : ∀ x c, X.env.cells.lookup x = some c → H c = none
  pin : ∀ p ∈ X.pn ++ pins, s.heap.get? p.1 = some p.2 ∧ H p.1 = none ∧ p.1 ≠ X.env.locals ∧ p.1 ∉ X.fs ∧ ∀ v, p.2.data ≠ .cell v
  hok : HOk X.prog X.w H s.heap
  len : σ.length = X.N.length

section
variable {X : Cx} {pins : List (Addr × Obj)} {σ : List (Option V)} {H H' : Hp} {s : Shared} {h' : Heap}

theorem Cx.Ok.nofr (ok : X.Ok) {b : Addr} {o : Obj} (e : X.base.get? b = some o) : b ∉ X.fs := fun hb => by
  have := (ok.funs.mem hb).1
  rw [e] at this; cases this
theorem Inv.bs (I : Inv X pins σ H s) : ∀ b o, X.base.get? b = some o → s.heap.get? b = some o ∧ H b = none := fun b o e =>
  ⟨I.base.keep b o (I.ok.bs b o e).1 (I.ok.bs b o e).2 (I.ok.nofr e) (I.ok.noex b o e), I.base.free b o (I.ok.bs b o e).1 (I.ok.bs b o e).2 (I.ok.noex b o e)⟩
theorem Inv.bk (I : Inv X pins σ H s) : ∀ b o, X.base.get? b = some o → s.heap.get? b = some o := fun b o e => (I.bs b o e).1
theorem Inv.mod (I : Inv X pins σ H s) : Mod X.K X.mg X.base := I.ok.mod
theorem Inv.kIn (I : Inv X pins σ H s) : X.K.In s.heap := I.ok.mod.kin.keeps I.bk
theorem Inv.nolimit (I : Inv X pins σ H s) : s.heap.NoLimit := I.ok.mod.nolimit.keeps I.bk
theorem Inv.fr (I : Inv X pins σ H s) : ∃ m, Fr X.base X.env.locals s.heap m :=
  let ⟨m, hn, _⟩ := I.loc
  ⟨m, hn, I.bk, Nat.le_trans I.ok.bsz I.ok.above⟩
theorem Inv.lt (I : Inv X pins σ H s) : X.env.locals < s.heap.objs.size := let ⟨_, hn, _⟩ := I.loc; hn.lt
theorem Inv.sz (I : Inv X pins σ H s) : X.s₀.heap.objs.size ≤ s.heap.objs.size := Nat.le_trans I.ok.above (Nat.le_of_lt I.lt)
theorem Inv.nofs (I : Inv X pins σ H s) {a : Addr} (h : s.heap.objs.size ≤ a) : a ∉ X.fs := fun hb => by
  obtain ⟨_, o, ho, _⟩ := I.ok.funs.mem hb
  exact absurd (Nat.lt_of_lt_of_le (Heap.lt_size ho) (Nat.le_trans I.sz h)) (Nat.lt_irrefl _)
theorem Inv.cne (I : Inv X pins σ H s) : ∀ x c, X.env.cells.lookup x = some c → c ≠ X.env.locals := fun x c e z => by
  obtain ⟨v, o, ho, hd⟩ := I.cell x c e
  obtain ⟨m, ⟨o', es, ep, ho', hd', _⟩, _⟩ := I.loc
  rw [z, ho'] at ho; cases ho; rw [hd'] at hd; cases hd
theorem Inv.funs (I : Inv X pins σ H s) : s.heap.FunFrames X.base X.outer := by
  have all : ∀ (l : List Env), (∀ b ∈ frs l, b ∈ X.fs) → X.s₀.heap.FunFrames X.base l → s.heap.FunFrames X.base l := by
    intro l
    induction l with
    | nil => intro _ _; trivial
    | cons env r ih =>
      intro hs hl
      obtain ⟨hk, ⟨L, o, hf, hn, ho, hd⟩, hr⟩ := hl
      have hL : L ∈ X.fs := hs L (by unfold frs; rw [List.filterMap_cons, hf]; exact List.mem_cons_self)
      obtain ⟨sl, e⟩ := I.base.slot L o ho (I.ok.frf L hL) hL fun z => I.ok.exfs L z hL
      exact ⟨hk, ⟨L, _, hf, hn, e, hd⟩, ih (fun b hb => hs b (by unfold frs; rw [List.filterMap_cons, hf]; exact List.mem_cons_of_mem _ hb)) hr⟩
  exact all X.outer (fun _ hb => hb) I.ok.funs

theorem Inv.stack (I : Inv X pins σ H s) : s.heap.FunFrames X.base X.stack := by
  rcases I.ok.stk with e | ⟨e, hf⟩
  · rw [e]; exact I.funs
  · rw [e]
    obtain ⟨m, hn, _⟩ := I.loc
    refine .cons (by rw [I.ok.kind]; decide) hf hn ?_ I.funs
    exact Heap.get?_none_of_le (Nat.le_trans I.ok.bsz I.ok.above)
theorem Inv.stkSub (I : Inv X pins σ H s) : ∀ b ∈ frs X.stack, b ∈ X.env.locals :: X.fs := fun b hb => by
  rcases I.ok.stk with e | ⟨e, hf⟩
  · rw [e] at hb; exact List.mem_cons_of_mem _ hb
  · rw [e] at hb
    unfold frs at hb
    rw [List.filterMap_cons, hf] at hb
    exact hb
theorem Inv.stkFree (I : Inv X pins σ H s) : ∀ b ∈ frs X.stack, H b = none := fun b hb => by
  rcases List.mem_cons.mp (I.stkSub b hb) with e | hb
  · rw [e]; exact I.free
  · obtain ⟨_, o, ho, _⟩ := I.ok.funs.mem hb
    exact I.base.free b o ho (I.ok.frf b hb) fun z => I.ok.exfs b z hb

theorem Inv.step {g' : Array GenState} {t' : Nat} {d' : Drawn} {ch : List Addr} (I : Inv X pins σ H s)
    (hch : ∀ b ∈ ch, (b ∈ X.ex ∨ X.s₀.heap.objs.size ≤ b) ∧ b ≠ X.env.locals ∧ (∀ x c, X.env.cells.lookup x = some c → c ≠ b) ∧ ∀ p ∈ X.pn ++ pins, p.1 ≠ b)
    (keep : ∀ b o, b ≠ X.env.locals → b ∉ X.fs → b ∉ ch → s.heap.get? b = some o → H b = none → h'.get? b = some o)
    (slot : ∀ b o, b ≠ X.env.locals → b ∈ X.fs → b ∉ ch → s.heap.get? b = some o → H b = none → ∃ sl, h'.get? b = some { o with slots := sl }) (free : ∀ b o, b ∉ ch → s.heap.get? b = some o → H b = none → H' b = none)
    (there : ∀ b o, b ∉ ch → s.heap.get? b = some o → ∃ o', h'.get? b = some o')
    (tups : ∀ b xs, H b = some (.tup xs) → H' b = some (.tup xs)) (frzs : ∀ b o u, H b = some (.frz o u) → H' b = some (.frz o u)) (tbls : ∀ b ps, H b = some (.tbl ps) → ∃ more, H' b = some (.tbl (ps ++ more)))
    (ns : ∀ m, s.heap.Ns X.env.locals m → h'.Ns X.env.locals m) (hok : HOk X.prog X.w H' h') (hg : AllBare g') :
    Inv X pins σ H' { s with heap := h', gens := g', drawn := d', toks := t' } := by
  have neL : ∀ b o, X.s₀.heap.get? b = some o → b ≠ X.env.locals := fun b o e => Nat.ne_of_lt (Nat.lt_of_lt_of_le (Heap.lt_size e) I.ok.above)
  have neC : ∀ b o, X.s₀.heap.get? b = some o → b ∉ X.ex → b ∉ ch := fun b o e hx hb => by
    rcases (hch b hb).1 with z | z
    · exact hx z
    · exact absurd (Nat.lt_of_lt_of_le (Heap.lt_size e) z) (Nat.lt_irrefl _)
  have cellK : ∀ x c, X.env.cells.lookup x = some c → ∀ v, s.heap.IsCell c v → h'.IsCell c v := fun x c e v ⟨o, ho, hd⟩ => by
    have nch : c ∉ ch := fun z => (hch c z).2.2.1 x c e rfl
    by_cases hc : c ∈ X.fs
    · obtain ⟨sl, q⟩ := slot c o (I.cne x c e) hc nch ho (I.freeC x c e)
      exact ⟨_, q, hd⟩
    · exact ⟨o, keep c o (I.cne x c e) hc nch ho (I.freeC x c e), hd⟩
  refine ⟨I.ok, I.os, hg, ⟨fun b o e n hb hx => ?_, fun b o e n hb hx => ?_, fun b o e n hx => ?_, fun b o e hx => ?_, fun b xs e => tups b xs (I.base.tups b xs e), fun b o xs e => frzs b o xs (I.base.frzs b o xs e), fun b ps e => ?_⟩, ?_, fun x c e => ?_, ?_, fun x c e => ?_, fun p hp => ?_, hok, I.len⟩
  · exact keep b o (neL b o e) hb (neC b o e hx) (I.base.keep b o e n hb hx) (I.base.free b o e n hx)
  · obtain ⟨sl, e1⟩ := I.base.slot b o e n hb hx
    obtain ⟨sl', e2⟩ := slot b _ (neL b o e) hb (neC b o e hx) e1 (I.base.free b o e n hx)
    exact ⟨sl', e2⟩
  · obtain ⟨o', e1⟩ := I.base.there b o e hx
    exact free b o' (neC b o e hx) e1 (I.base.free b o e n hx)
  · obtain ⟨o', e1⟩ := I.base.there b o e hx
    exact there b o' (neC b o e hx) e1
  · obtain ⟨m1, e1⟩ := I.base.tbls b ps e
    obtain ⟨m2, e2⟩ := tbls b _ e1
    exact ⟨m1 ++ m2, by rw [e2, Array.append_assoc]⟩
  · obtain ⟨m, hn, hl⟩ := I.loc
    refine ⟨m, ns m hn, fun i x v e1 e2 e3 => ?_⟩
    obtain ⟨u, r, l⟩ := hl i x v e1 e2 e3
    refine ⟨u, r, ?_⟩
    rcases l with l | ⟨k, c, e, z⟩
    · exact .inl l
    · exact .inr ⟨k, c, e, cellK x c e _ z⟩
  · obtain ⟨v, z⟩ := I.cell x c e
    exact ⟨v, cellK x c e v z⟩
  · obtain ⟨m, ⟨o, _, _, ho, _⟩, _⟩ := I.loc
    exact free _ o (fun z => (hch _ z).2.1 rfl) ho I.free
  · obtain ⟨v, o, ho, hd⟩ := I.cell x c e
    exact free c o (fun z => (hch c z).2.2.1 x c e rfl) ho (I.freeC x c e)
  · obtain ⟨e, n, ne, nf, d⟩ := I.pin p hp
    have nch : p.1 ∉ ch := fun z => (hch p.1 z).2.2.2 p hp rfl
    exact ⟨keep p.1 p.2 ne nf nch e n, free p.1 p.2 nch e n, ne, nf, d⟩
theorem Inv.un {t' : Nat} (I : Inv X pins σ H s) (u : Un X.fs [] H H' s.heap h') (hok : HOk X.prog X.w H' h') : Inv X pins σ H' { s with heap := h', toks := t' } := by
  obtain ⟨m, ⟨o, es, ep, ho, r⟩, _⟩ := id I.loc
  obtain ⟨sl, hL⟩ := u.any ho I.free (by simp)
  exact I.step (g' := s.gens) (d' := s.drawn) (ch := []) (fun _ z => nomatch z) (fun b o _ hb _ e n => u.keep b o e n hb (by simp)) (fun b o _ hb _ e n => u.slot b o e n hb (by simp)) (fun b o _ e n => u.free b o e n (by simp)) (fun b o _ e => u.there b o e (by simp)) u.tups u.frzs u.tbls (fun m' hm => by
    obtain ⟨o', es', ep', ho', r'⟩ := hm
    rw [ho] at ho'; cases ho'
    exact ⟨_, es', ep', hL, r'⟩) hok I.bare
theorem Inv.call {g' : Array GenState} {t' : Nat} {d' : Drawn} {ch : List Addr} (I : Inv X pins σ H s) (u : Un (frs X.stack) ch H H' s.heap h') (hok : HOk X.prog X.w H' h') (hg : AllBare g')
    (hch : ∀ b ∈ ch, (b ∈ X.ex ∨ X.s₀.heap.objs.size ≤ b) ∧ b ≠ X.env.locals ∧ (∀ x c, X.env.cells.lookup x = some c → c ≠ b) ∧ ∀ p ∈ X.pn ++ pins, p.1 ≠ b) :
    Inv X pins σ H' { s with heap := h', gens := g', drawn := d', toks := t' } := by
  obtain ⟨m, ⟨o, es, ep, ho, r⟩, _⟩ := id I.loc
  obtain ⟨sl, hL⟩ := u.any ho I.free fun z => (hch _ z).2.1 rfl
  exact I.step (ch := ch) hch (fun b o hL hb hc e n => u.keep b o e n (fun z => (List.mem_cons.mp (I.stkSub b z)).elim hL hb) hc) (fun b o _ _ hc e n => u.any e n hc) (fun b o hc e n => u.free b o e n hc) (fun b o hc e => u.there b o e hc) u.tups u.frzs u.tbls (fun m' hm => by
    obtain ⟨o', es', ep', ho', r'⟩ := hm
    rw [ho] at ho'; cases ho'
    exact ⟨_, es', ep', hL, r'⟩) hok hg
theorem Inv.turned {t' : Nat} {it : Addr} (I : Inv X pins σ H s) (k : ∀ b o, b ≠ it → s.heap.get? b = some o → h'.get? b = some o) (hn : H it = none) (hL : it ≠ X.env.locals)
    (h1 : it ∈ X.ex ∨ X.s₀.heap.objs.size ≤ it) (h2 : ∀ x c, X.env.cells.lookup x = some c → c ≠ it) (h3 : ∀ p ∈ X.pn ++ pins, p.1 ≠ it) : Inv X pins σ H { s with heap := h', toks := t' } := by
  have nit : ∀ b u, H b = some u → b ≠ it := fun b u e z => by rw [z, hn] at e; cases e
  refine I.step (g' := s.gens) (d' := s.drawn) (ch := [it]) (fun b hb => ?_) (fun b o _ _ hc e _ => k b o (fun z => hc (by simp [z])) e) (fun b o _ _ hc e _ => ⟨o.slots, k b o (fun z => hc (by simp [z])) e⟩) (fun _ _ _ _ n => n)
    (fun b o hc e => ⟨o, k b o (fun z => hc (by simp [z])) e⟩) (fun _ _ e => e) (fun _ _ _ e => e) (fun b ps e => ⟨#[], by rw [e]; simp⟩) (fun m hm => ?_) (fun b u e => ?_) I.bare
  · have e : b = it := by simpa using hb
    subst e
    exact ⟨h1, hL, h2, h3⟩
  · obtain ⟨o, es, ep, ho, r⟩ := hm
    exact ⟨o, es, ep, k _ o (Ne.symm hL) ho, r⟩
  · refine (I.hok b u e).stay (fun c v hc q => k c v ?_ q) (fun _ q => q) fun _ _ q => q
    rcases hc with z | z
    · rw [z]; exact nit b u e
    · exact nit c _ z
theorem Inv.tok (I : Inv X pins σ H s) (t : Nat) : Inv X pins σ H { s with toks := t } := I.un (h' := s.heap) (t' := t) Un.refl I.hok
theorem Inv.kept {t' : Nat} (I : Inv X pins σ H s) (k : ∀ b u, s.heap.get? b = some u → h'.get? b = some u) : Inv X pins σ H { s with heap := h', toks := t' } := I.un (Un.kept k) (I.hok.kept k)
theorem Inv.laid {a : Addr} {o : HO} {t' : Nat} (I : Inv X pins σ H s) (k : ∀ b u, s.heap.get? b = some u → h'.get? b = some u) (hp : s.heap.objs.size ≤ a) (new : ObjOk X.prog X.w (upd H a o) h' a o) :
    Inv X pins σ (upd H a o) { s with heap := h', toks := t' } := I.un (Un.laid k hp (I.hok.fresh hp)) (I.hok.laid k hp new)
theorem Inv.write {x e : Addr} {o : HO} {t' : Nat} (I : Inv X pins σ H s) (mu : Mut (H x)) (he : e = x ∨ H e = some (.own x)) (k : ∀ b u, b ≠ e → s.heap.get? b = some u → h'.get? b = some u) (heo : ∃ u, h'.get? e = some u)
    (new : ObjOk X.prog X.w (upd H x o) h' x o) : Inv X pins σ (upd H x o) { s with heap := h', toks := t' } := I.un (Un.write mu he k heo) (I.hok.write mu he k heo new)
theorem Inv.weak {σ' : List (Option V)} (I : Inv X pins σ H s) (hl : σ'.length = σ.length) (w : ∀ (i : Nat) v, σ'[i]? = some (some v) → σ[i]? = some (some v)) : Inv X pins σ' H s :=
  ⟨I.ok, I.os, I.bare, I.base, let ⟨m, hn, hl'⟩ := I.loc; ⟨m, hn, fun i x v e1 e2 e3 => hl' i x v e1 (w i v e2) e3⟩, I.cell, I.free, I.freeC, I.pin, I.hok, hl.trans I.len⟩
theorem Inv.pins_of {pins' : List (Addr × Obj)} (I : Inv X pins σ H s) (h : ∀ p ∈ pins', s.heap.get? p.1 = some p.2 ∧ H p.1 = none ∧ p.1 ≠ X.env.locals ∧ p.1 ∉ X.fs ∧ ∀ v, p.2.data ≠ .cell v) : Inv X pins' σ H s :=
  ⟨I.ok, I.os, I.bare, I.base, I.loc, I.cell, I.free, I.freeC, fun p hp => (List.mem_append.mp hp).elim (fun z => I.pin p (List.mem_append_left _ z)) (h p), I.hok, I.len⟩

theorem nodup_ix {N : List Str} (hN : N.Nodup) {i j : Nat} {x : Str} (a : N[i]? = some x) (b : N[j]? = some x) : i = j := by
  obtain ⟨h1, e1⟩ := List.getElem?_eq_some_iff.mp a
  obtain ⟨h2, e2⟩ := List.getElem?_eq_some_iff.mp b
  exact (List.getElem_inj hN).mp (e1.trans e2.symm)

theorem store_ok2 {M : Model} {A : Around} {E : Value → Shared → Prop} {i : Nat} {x : Str} {v : V} {u : Value} {Q : Unit → Shared → Prop} (I : Inv X pins σ H s) (hN : X.N.Nodup) (hi : X.N[i]? = some x) (hx : Loc X.env.scope x) (r : RelV v u)
    (h : ∀ s', Inv X pins (σ.set i (some v)) H s' → (∃ a, Heap.SameBut a s.heap s'.heap ∧ (a = X.env.locals ∨ X.env.cells.lookup x = some a)) → Q () s') (hf : X.fn x = true ∨ X.env.scope.names.lookup x = some .local := by first | exact .inl rfl | exact .inr rfl | assumption) : wpAny M A (storeName X.env x u) Q E s := by
  obtain ⟨m, hn, hl⟩ := id I.loc
  have hcls : (X.env.scope.kind == .class || (X.env.scope.kind == .module && X.env.locals != X.env.globals)) = false := by rw [I.ok.kind]; rfl
  have hiσ : i < σ.length := by rw [I.len]; exact (List.getElem?_eq_some_iff.mp hi).1
  have cne := I.cne
  have tracked : ∀ {a : Addr} {h' : Heap}, (∃ o, s.heap.get? a = some o ∧ H a = none) → Heap.SameBut a s.heap h' → HOk X.prog X.w H h' := fun {a h'} ha hs b ob e => by
    obtain ⟨_, _, hfree⟩ := ha
    refine (I.hok b ob e).stay (fun c w' hc q => (hs.2 c ?_).trans q) (fun _ q => q) fun _ _ q => q
    rintro rfl
    rcases hc with rfl | hc
    · rw [hfree] at e; cases e
    · rw [hfree] at hc; cases hc
  rcases hx with hk | hk
  · refine wpAny_storeName_local hk hn (fun h' hn' hs => ?_) hcls
    obtain ⟨oL, _, _, hoL, _⟩ := id hn
    refine h _ ⟨I.ok, I.os, I.bare, ⟨fun b o e n hb hx => ?_, fun b o e n hb hx => ?_, I.base.free, fun b o e hx => ?_, I.base.tups, I.base.frzs, I.base.tbls⟩, ⟨_, hn', fun j y v' e1 e2 e3 => ?_⟩, fun y c e => ?_, I.free, I.freeC, fun p hp => ?_, tracked ⟨oL, hoL, I.free⟩ hs, by simpa using I.len⟩ ⟨_, hs, .inl rfl⟩
    · exact (hs.2 b (Nat.ne_of_lt (Nat.lt_of_lt_of_le (Heap.lt_size e) I.ok.above))).trans (I.base.keep b o e n hb hx)
    · obtain ⟨sl, e1⟩ := I.base.slot b o e n hb hx
      exact ⟨sl, (hs.2 b (Nat.ne_of_lt (Nat.lt_of_lt_of_le (Heap.lt_size e) I.ok.above))).trans e1⟩
    · obtain ⟨o', e1⟩ := I.base.there b o e hx
      exact ⟨o', (hs.2 b (Nat.ne_of_lt (Nat.lt_of_lt_of_le (Heap.lt_size e) I.ok.above))).trans e1⟩
    · by_cases hj : j = i
      · subst hj
        rw [hi] at e1; cases e1
        rw [List.getElem?_set_self hiσ] at e2
        cases e2
        exact ⟨u, r, .inl ⟨hk, by simp⟩⟩
      · rw [List.getElem?_set_ne (Ne.symm hj)] at e2
        obtain ⟨u', r', q⟩ := hl j y v' e1 e2 e3
        refine ⟨u', r', ?_⟩
        rcases q with ⟨k, e⟩ | ⟨k, c, e, z⟩
        · refine .inl ⟨k, ?_⟩
          have : y ≠ x := fun e => hj (nodup_ix hN e1 (e ▸ hi))
          simp [this, e]
        · exact .inr ⟨k, c, e, z.sameBut hs (cne y c e)⟩
    · obtain ⟨w', z⟩ := I.cell y c e
      exact ⟨w', z.sameBut hs (cne y c e)⟩
    · obtain ⟨e, n, ne, nf, d⟩ := I.pin p hp
      exact ⟨(hs.2 p.1 ne).trans e, n, ne, nf, d⟩
  · have hfn : X.fn x = true := by
      rcases hf with z | z
      · exact z
      · rw [z] at hk; cases hk
    obtain ⟨c, hc⟩ := I.ok.has x (.inl hk)
    obtain ⟨w', z⟩ := I.cell x c hc
    refine wpAny_storeName_cell I.ok.kind hk hc z (fun h' hc' hs => ?_)
    obtain ⟨oc, hoc, hocd⟩ := id z
    refine h { s with heap := h' } ⟨I.ok, I.os, I.bare, ⟨fun b o e n hb hx => ?_, fun b o e n hb hx => ?_, I.base.free, fun b o e hx => ?_, I.base.tups, I.base.frzs, I.base.tbls⟩, ⟨m, hn.sameBut hs (Ne.symm (cne x c hc)), fun j y v' e1 e2 e3 => ?_⟩, fun y c' e => ?_, I.free, I.freeC, fun p hp => ?_, tracked ⟨oc, hoc, I.freeC x c hc⟩ hs, by simpa using I.len⟩ ⟨c, hs, .inr hc⟩
    · exact (hs.2 b (Nat.ne_of_lt (Nat.lt_of_lt_of_le (Heap.lt_size e) (I.ok.cab x c hfn hc)))).trans (I.base.keep b o e n hb hx)
    · obtain ⟨sl, e1⟩ := I.base.slot b o e n hb hx
      exact ⟨sl, (hs.2 b (Nat.ne_of_lt (Nat.lt_of_lt_of_le (Heap.lt_size e) (I.ok.cab x c hfn hc)))).trans e1⟩
    · obtain ⟨o', e1⟩ := I.base.there b o e hx
      exact ⟨o', (hs.2 b (Nat.ne_of_lt (Nat.lt_of_lt_of_le (Heap.lt_size e) (I.ok.cab x c hfn hc)))).trans e1⟩
    · by_cases hj : j = i
      · subst hj
        rw [hi] at e1; cases e1
        rw [List.getElem?_set_self hiσ] at e2
        cases e2
        exact ⟨u, r, .inr ⟨.inl hk, c, hc, hc'⟩⟩
      · rw [List.getElem?_set_ne (Ne.symm hj)] at e2
        obtain ⟨u', r', q⟩ := hl j y v' e1 e2 e3
        refine ⟨u', r', ?_⟩
        rcases q with q | ⟨k, c', e, z'⟩
        · exact .inl q
        · refine .inr ⟨k, c', e, z'.sameBut hs ?_⟩
          rintro rfl
          exact hj (nodup_ix hN e1 (I.ok.inj _ _ _ e hc ▸ hi))
    · by_cases hcc : c' = c
      · subst hcc; exact ⟨_, hc'⟩
      · obtain ⟨w2, z2⟩ := I.cell y c' e
        exact ⟨w2, z2.sameBut hs hcc⟩
    · obtain ⟨e, n, ne, nf, d⟩ := I.pin p hp
      refine ⟨(hs.2 p.1 ?_).trans e, n, ne, nf, d⟩
      intro q
      rw [q, hoc] at e
      have q' : oc = p.2 := Option.some.inj e
      exact d w' (by rw [← q']; exact hocd)
theorem store_ok {M : Model} {A : Around} {E : Value → Shared → Prop} {i : Nat} {x : Str} {v : V} {u : Value} {Q : Unit → Shared → Prop} (I : Inv X pins σ H s) (hN : X.N.Nodup) (hi : X.N[i]? = some x) (hx : Loc X.env.scope x) (r : RelV v u)
    (h : ∀ s', Inv X pins (σ.set i (some v)) H s' → Q () s') (hf : X.fn x = true ∨ X.env.scope.names.lookup x = some .local := by first | exact .inl rfl | exact .inr rfl | assumption) : wpAny M A (storeName X.env x u) Q E s :=
  store_ok2 I hN hi hx r (fun s' I' _ => h s' I') hf
theorem Inv.call' {s' : Shared} {ch : List Addr} (I : Inv X pins σ H s) (ho : s'.os = s.os) (u : Un (frs X.stack) ch H H' s.heap s'.heap) (hok : HOk X.prog X.w H' s'.heap) (hg : AllBare s'.gens)
    (hch : ∀ b ∈ ch, (b ∈ X.ex ∨ X.s₀.heap.objs.size ≤ b) ∧ b ≠ X.env.locals ∧ (∀ x c, X.env.cells.lookup x = some c → c ≠ b) ∧ ∀ p ∈ X.pn ++ pins, p.1 ≠ b) : Inv X pins σ H' s' := by
  obtain ⟨h', g', d', t', o'⟩ := s'
  have e : o' = s.os := ho
  subst e
  exact I.call (g' := g') (t' := t') (d' := d') u hok hg hch
end

abbrev XK := Value → Option Addr → Hp → Prop
abbrev St := List (Option V)
abbrev VK := V → Hp → Prop
abbrev TE := St → Hp → VK → Prop
abbrev TT := St → Hp → (Bool → Hp → Prop) → Prop
abbrev TA := St → Hp → (List V → Hp → Prop) → Prop
structure Ends where
  nx : St → Hp → Prop
  rt : VK
  bk : St → Hp → Prop := fun _ _ => False
  ct : St → Hp → Prop := fun _ _ => False
abbrev TS := Ends → St → Hp → Prop

def EP (X : Cx) (pins : List (Addr × Obj)) (σ : St) (Q : VK) (u : Value) (s' : Shared) : Prop := ∃ v H', Inv X pins σ H' s' ∧ RelV v u ∧ Q v H'
def TP (X : Cx) (pins : List (Addr × Obj)) (σ : St) (Q : Bool → Hp → Prop) (b : Bool) (s' : Shared) : Prop := ∃ H', Inv X pins σ H' s' ∧ Q b H'
def AP (X : Cx) (pins : List (Addr × Obj)) (σ : St) (Q : List V → Hp → Prop) (us : List Value) (s' : Shared) : Prop := ∃ vs H', Inv X pins σ H' s' ∧ Vals vs us ∧ Q vs H'
def SP (X : Cx) (pins : List (Addr × Obj)) (D : Ends) (f : Flow) (s' : Shared) : Prop :=
  match f with
  | .next => ∃ σ' H', Inv X pins σ' H' s' ∧ D.nx σ' H'
  | .brk => ∃ σ' H', Inv X pins σ' H' s' ∧ D.bk σ' H'
  | .cont => ∃ σ' H', Inv X pins σ' H' s' ∧ D.ct σ' H'
  | .ret u => ∃ v σ' H', Inv X pins σ' H' s' ∧ RelV v u ∧ D.rt v H'

def PE (X : Cx) (e : Expr) (t : TE) : Prop :=
  ∀ (pins : List (Addr × Obj)) (s : Shared) (σ : St) (H : Hp) (Q : VK), Inv X pins σ H s → t σ H Q → wpAny (model X.prog X.w) X.A (eval e X.env) (EP X pins σ Q) X.xe s
def PT (X : Cx) (e : Expr) (t : TT) : Prop :=
  ∀ (pins : List (Addr × Obj)) (s : Shared) (σ : St) (H : Hp) (Q : Bool → Hp → Prop), Inv X pins σ H s → t σ H Q → wpAny (model X.prog X.w) X.A (isTrue e X.env (eval e X.env)) (TP X pins σ Q) X.xe s
def PW (X : Cx) (e : Expr) (t : TT) : Prop :=
  ∀ (whole : Sem Value) (pins : List (Addr × Obj)) (s : Shared) (σ : St) (H : Hp) (Q : Bool → Hp → Prop), Inv X pins σ H s → t σ H Q → wpAny (model X.prog X.w) X.A (isTrue e X.env whole) (TP X pins σ Q) X.xe s
theorem PW.pt {X : Cx} {e : Expr} {t : TT} (h : PW X e t) : PT X e t := h _
def PA (X : Cx) (es : List Expr) (t : TA) : Prop :=
  ∀ (pos : Pos) (pins : List (Addr × Obj)) (s : Shared) (σ : St) (H : Hp) (Q : List V → Hp → Prop), Inv X pins σ H s → t σ H Q → wpAny (model X.prog X.w) X.A (spliced (backTo pos (starEach es X.env))) (AP X pins σ Q) X.xe s
def PS (X : Cx) (st : Stmt) (t : TS) : Prop :=
  ∀ (pins : List (Addr × Obj)) (s : Shared) (σ : St) (H : Hp) (D : Ends), Inv X pins σ H s → t D σ H → wpAny (model X.prog X.w) X.A (exec st X.env) (SP X pins D) X.xe s
def PSs (X : Cx) (st : List Stmt) (t : TS) : Prop :=
  ∀ (pins : List (Addr × Obj)) (s : Shared) (σ : St) (H : Hp) (D : Ends), Inv X pins σ H s → t D σ H → wpAny (model X.prog X.w) X.A (execs st X.env) (SP X pins D) X.xe s
theorem thn {α : Type} {t : Sem α} {Q Q' : α → Shared → Prop} {M : Model} {A : Around} {E : Value → Shared → Prop} {s : Shared} (h : wpAny M A t Q E s) (hQ : ∀ a s, Q a s → Q' a s) : wpAny M A t Q' E s := wpAny_mono h hQ fun _ _ x => x
end L2

namespace L2
open PySem PySem.Spec PyProof.Rows
section
variable {X : Cx}

theorem bin {a b : Expr} {ta tb : TE} (ha : PE X a ta) (hb : PE X b tb) {pins : List (Addr × Obj)} {s : Shared} {σ : St} {H : Hp} {R : V → V → Hp → Prop} (I : Inv X pins σ H s) (h : ta σ H fun x H1 => tb σ H1 fun y H2 => R x y H2)
    {α : Type} {Q : α → Shared → Prop} {f : Value → Value → Sem α}
    (hf : ∀ v u s2 x y H2, Inv X pins σ H2 s2 → RelV x v → RelV y u → R x y H2 → wpAny (model X.prog X.w) X.A (f v u) Q X.xe s2) :
    wpAny (model X.prog X.w) X.A (eval a X.env) (fun v s₁ => wpAny (model X.prog X.w) X.A (eval b X.env) (fun u s₂ => wpAny (model X.prog X.w) X.A (f v u) Q X.xe s₂) X.xe s₁) X.xe s := by
  refine thn (ha pins s σ H _ I h) fun v s1 ⟨x, H1, I1, r1, q1⟩ => ?_
  refine thn (hb pins s1 σ H1 _ I1 q1) fun u s2 ⟨y, H2, I2, r2, q2⟩ => ?_
  exact hf v u s2 x y H2 I2 r1 r2 q2

def tVar (i : Nat) : TE := fun σ H Q => ∃ v, σ[i]? = some (some v) ∧ Q v H
def tC (v : V) : TE := fun _ H Q => Q v H
theorem pe_var {i : Nat} {x : Str} {pos : Pos} (hN : X.N[i]? = some x) (hv : Vis X.env.scope x) (hd : (x == ("__debug__" : Str)) = false := by decide) (hcd : (x == ("__classdict__" : Str)) = false := by decide) : PE X (.Name x pos) (tVar i) := by
  intro pins s σ H Q I h
  obtain ⟨v, e, h⟩ := h
  obtain ⟨m, hn, hl⟩ := I.loc
  obtain ⟨u, r, l⟩ := hl i x v hN e hv
  have fin : EP X pins σ Q u s := ⟨v, H, I, r, h⟩
  rcases l with ⟨hk, hm⟩ | ⟨hk, c, hc, hcell⟩
  · exact wpAny_Name (wpAny_loadName_local I.ok.kind hk hn hm fin) hd
  · rcases hk with hk | hk
    · exact wpAny_Name (wpAny_loadName_cell I.ok.kind hk hc hcell fin) hd
    · exact wpAny_Name (wpAny_loadName_free I.ok.kind hk hc hcell fin hcd) hd
theorem pe_int {i j pos} : PE X (.Constant (.int i) j pos) (tC (.int i)) := fun _ _ _ H _ I h => wpAny_Constant_int ⟨.int i, H, I.tok _, ⟨_, rfl⟩, h⟩
theorem pe_bl {b j pos} : PE X (.Constant (.bool b) j pos) (tC (.bl b)) := fun _ _ _ H _ I h => Constant_bool ⟨.bl b, H, I, rfl, h⟩
theorem pe_non {j pos} : PE X (.Constant .none j pos) (tC .non) := fun _ _ _ H _ I h => Constant_none ⟨.non, H, I, rfl, h⟩
theorem pe_str {x j pos} : PE X (.Constant (.str x) j pos) (tC (.str x)) := fun _ _ _ H _ I h => Calls.Constant_str ⟨.str x, H, I.tok _, ⟨_, rfl⟩, h⟩

def Gl (X : Cx) (x : Str) : Prop := X.env.kindOf x = some .globalImplicit
theorem ld_glob {E : Value → Shared → Prop} {pins : List (Addr × Obj)} {s : Shared} {σ : St} {H : Hp} {x : Str} {u : Value} {pos : Pos} {Q : Value → Shared → Prop} (I : Inv X pins σ H s) (hg : Gl X x) (hm : X.mg x = some u) (h : Q u s)
    (hd : (x == ("__debug__" : Str)) = false := by decide) : wpAny (model X.prog X.w) X.A (eval (.Name x pos) X.env) Q E s :=
  Calls.Name_function_global I.ok.kind hg (Calls.loadGlobal_global (by rw [I.ok.glob]; exact I.mod.glob.keeps I.bk) hm h) hd
theorem ld_blt {E : Value → Shared → Prop} {pins : List (Addr × Obj)} {s : Shared} {σ : St} {H : Hp} {x : Str} {u : Value} {pos : Pos} {Q : Value → Shared → Prop} (I : Inv X pins σ H s) (hg : Gl X x) (hm : X.mg x = none) (hv : bootBuiltins x = some u) (h : Q u s)
    (hn : x ≠ "__name__" := by decide) (hd : (x == ("__debug__" : Str)) = false := by decide) : wpAny (model X.prog X.w) X.A (eval (.Name x pos) X.env) Q E s := by
  obtain ⟨mb, h1, h2⟩ := I.mod.blt
  exact Calls.Name_function_global I.ok.kind hg (Calls.loadGlobal_builtin (by rw [I.ok.glob]; exact I.mod.glob.keeps I.bk) hm (by rw [I.ok.blt]; exact h1.keeps I.bk) ((h2 x hn).trans hv) h) hd
theorem pe_glob {x : Str} {v : V} {u : Value} {pos : Pos} (hg : Gl X x) (hm : X.mg x = some u) (r : RelV v u) (hd : (x == ("__debug__" : Str)) = false := by decide) : PE X (.Name x pos) (tC v) :=
  fun _ _ _ H _ I h => ld_glob I hg hm ⟨v, H, I, r, h⟩ hd
theorem pe_bltn {x : Str} {v : V} {u : Value} {pos : Pos} (hg : Gl X x) (hm : X.mg x = none) (hv : bootBuiltins x = some u) (r : RelV v u) (hn : x ≠ "__name__" := by decide) (hd : (x == ("__debug__" : Str)) = false := by decide) : PE X (.Name x pos) (tC v) :=
  fun _ _ _ H _ I h => ld_blt I hg hm hv ⟨v, H, I, r, h⟩ hn hd

variable {a b : Expr} {ta tb : TE} {pos : Pos}

def PC (X : Cx) (op : CmpOp) (a b : Expr) (t : TE) : Prop :=
  ∀ (pins : List (Addr × Obj)) (s : Shared) (σ : St) (H : Hp) (Q : VK), Inv X pins σ H s → t σ H Q →
    wpAny (model X.prog X.w) X.A (eval a X.env) (fun v s₁ => wpAny (model X.prog X.w) X.A (eval b X.env) (fun u s₂ => wpAny (model X.prog X.w) X.A (compareOp op v u) (EP X pins σ Q) X.xe s₂) X.xe s₁) X.xe s
theorem nobehind (b : Expr) {op : CmpOp} (h : op ≠ .In) (h2 : op ≠ .NotIn) : behindInMarks op b = false := by
  have e1 : (op == CmpOp.In) = false := by cases op <;> first | rfl | exact absurd rfl h
  have e2 : (op == CmpOp.NotIn) = false := by cases op <;> first | rfl | exact absurd rfl h2
  cases b <;> simp [behindInMarks, e1, e2]
def tB (t : TE) : TT := fun σ H Q => t σ H fun x H1 => ∃ c, x = .bl c ∧ Q c H1
theorem pt_cmp {op : CmpOp} {t : TE} (h : PC X op a b t) (h1 : behindInMarks op b = false := by first | exact nobehind _ (by decide) (by decide) | rfl) : PT X (.Compare a [op] [b] pos) (tB t) := by
  intro pins s σ H Q I hw
  refine wpAny_isTrue_Compare1 (thn (h pins s σ H _ I hw) fun v s1 h1 => thn h1 fun u s2 h2 => thn h2 fun c s3 ⟨x, H1, I1, r1, q1⟩ => ?_) h1
  obtain ⟨d, rfl, q⟩ := q1
  cases r1
  exact wpAny_truthy_bool ⟨H1, I1, q⟩
theorem pt_val {e : Expr} {t : TE} (h : PE X e t) (he : ∀ whole, isTrue e X.env whole = (do let v ← whole; standAt e.pos; holding [v] (truthy v)) := by intro _; rfl) : PT X e (tB t) := by
  intro pins s σ H Q I hw
  refine isTrue_plain (thn (h pins s σ H _ I hw) fun v s1 ⟨x, H1, I1, r1, q1⟩ => ?_) (he _)
  obtain ⟨d, rfl, q⟩ := q1
  cases r1
  exact wpAny_truthy_bool ⟨H1, I1, q⟩

variable {tA tB' : TT} {rest : List Expr}
def tAnd (t u : TT) : TT := fun σ H Q => t σ H fun c H1 => if c = true then u σ H1 Q else Q false H1
def tOr (t u : TT) : TT := fun σ H Q => t σ H fun c H1 => if c = true then Q true H1 else u σ H1 Q
def tNot (t : TT) : TT := fun σ H Q => t σ H fun c H1 => Q (!c) H1
theorem pw_and1 (ha : PT X a tA) : PW X (.BoolOp .And [a] pos) tA := by
  intro wh pins s σ H Q I h
  refine isTrue_and (thn (ha pins s σ H Q I h) fun c s1 e => ?_)
  cases c with
  | true => exact isTrue_and_nil e
  | false => exact e
theorem pw_or1 (ha : PT X a tA) : PW X (.BoolOp .Or [a] pos) tA := by
  intro wh pins s σ H Q I h
  refine isTrue_or (thn (ha pins s σ H Q I h) fun c s1 e => ?_)
  cases c with
  | false => exact isTrue_or_nil e
  | true => exact e
theorem pw_and (ha : PT X a tA) (hb : PW X (.BoolOp .And (b :: rest) pos) tB') : PW X (.BoolOp .And (a :: b :: rest) pos) (tAnd tA tB') := by
  intro wh pins s σ H Q I h
  refine isTrue_and (thn (ha pins s σ H _ I h) fun c s1 ⟨H1, I1, q1⟩ => ?_)
  cases c with
  | true => exact hb wh pins s1 σ H1 Q I1 q1
  | false => exact ⟨H1, I1, q1⟩
theorem pw_or (ha : PT X a tA) (hb : PW X (.BoolOp .Or (b :: rest) pos) tB') : PW X (.BoolOp .Or (a :: b :: rest) pos) (tOr tA tB') := by
  intro wh pins s σ H Q I h
  refine isTrue_or (thn (ha pins s σ H _ I h) fun c s1 ⟨H1, I1, q1⟩ => ?_)
  cases c with
  | true => exact ⟨H1, I1, q1⟩
  | false => exact hb wh pins s1 σ H1 Q I1 q1
theorem pt_not (ha : PT X a tA) : PT X (.UnaryOp .Not a pos) (tNot tA) := by
  intro pins s σ H Q I h
  exact isTrue_not (ha pins s σ H (fun c H1 => Q (!c) H1) I h)
def tAndV (ta tb : TE) : TE := fun σ H Q => ta σ H fun x H1 => ∃ c, x = .bl c ∧ if c = true then tb σ H1 Q else Q (.bl false) H1
def tOrV (ta tb : TE) : TE := fun σ H Q => ta σ H fun x H1 => ∃ c, x = .bl c ∧ if c = true then Q (.bl true) H1 else tb σ H1 Q
def tNotV (ta : TE) : TE := fun σ H Q => ta σ H fun x H1 => ∃ c, x = .bl c ∧ Q (.bl (!c)) H1
theorem pe_one {op} {t : TE} (h : PE X a t) : PE X (.BoolOp op [a] pos) t := fun pins s σ H Q I hw => BoolOp_one (h pins s σ H Q I hw)
theorem pe_and (ha : PE X a ta) (hb : PE X (.BoolOp .And (b :: rest) pos) tb) : PE X (.BoolOp .And (a :: b :: rest) pos) (tAndV ta tb) := by
  intro pins s σ H Q I h
  refine BoolOp_and (thn (ha pins s σ H _ I h) fun v s1 ⟨x, H1, I1, r1, q1⟩ => ?_)
  obtain ⟨c, rfl, q1⟩ := q1
  cases r1
  refine wpAny_truthy_bool ?_
  cases c with
  | true => exact hb pins s1 σ H1 Q I1 q1
  | false => exact ⟨.bl false, H1, I1, rfl, q1⟩
theorem pe_or (ha : PE X a ta) (hb : PE X (.BoolOp .Or (b :: rest) pos) tb) : PE X (.BoolOp .Or (a :: b :: rest) pos) (tOrV ta tb) := by
  intro pins s σ H Q I h
  refine BoolOp_or (thn (ha pins s σ H _ I h) fun v s1 ⟨x, H1, I1, r1, q1⟩ => ?_)
  obtain ⟨c, rfl, q1⟩ := q1
  cases r1
  refine wpAny_truthy_bool ?_
  cases c with
  | false => exact hb pins s1 σ H1 Q I1 q1
  | true => exact ⟨.bl true, H1, I1, rfl, q1⟩
theorem pe_not (ha : PE X a ta) : PE X (.UnaryOp .Not a pos) (tNotV ta) := by
  intro pins s σ H Q I h
  refine UnaryOp_ (thn (ha pins s σ H _ I h) fun v s1 ⟨x, H1, I1, r1, q1⟩ => ?_)
  obtain ⟨c, rfl, q1⟩ := q1
  cases r1
  exact not_of (wpAny_truthy_bool ⟨.bl (!c), H1, I1, rfl, q1⟩)
end
end L2

namespace L2
open PySem PySem.Spec PyProof.Rows

def SqL (K : PySem.W.Frag) (H : Hp) (a : Addr) (xs : List V) : Prop :=
  Rd H a (.lst xs) ∨
    ∃ (o : Obj) (its : Array Value) (n : Nat), K.lookup a = some o ∧ o.cls = .type "list" ∧ o.dict = none ∧ o.data = .seq its n ∧ its.size ≤ sizeLine ∧ Vals xs its.toList
def SqT (K : PySem.W.Frag) (H : Hp) (a : Addr) (xs : List V) : Prop :=
  Rd H a (.tup xs) ∨
    ∃ (o : Obj) (its : Array Value) (n : Nat), K.lookup a = some o ∧ o.cls = .type "tuple" ∧ o.data = .seq its n ∧ its.size ≤ sizeLine ∧ Vals xs its.toList
def absV : Value → Option V
  | .none => some .non
  | .bool b => some (.bl b)
  | .int i _ => some (.int i)
  | .str x _ => some (.str x)
  | .bytes b _ => some (.byt b)
  | .float b _ => some (.flt b)
  | .ref a => some (.ref a)
  | .type n => some (.ty n)
  | _ => none
theorem RelV.abs {x : V} {u : Value} (r : RelV x u) : absV u = some x := by
  cases x with
  | non => cases r; rfl
  | bl _ => cases r; rfl
  | int _ => obtain ⟨t, rfl⟩ := r; rfl
  | str _ => obtain ⟨t, rfl⟩ := r; rfl
  | byt _ => obtain ⟨t, rfl⟩ := r; rfl
  | flt _ => obtain ⟨t, rfl⟩ := r; rfl
  | ref _ => cases r; rfl
  | ty _ => cases r; rfl
theorem RelV.inj {x y : V} {u : Value} (r : RelV x u) (q : RelV y u) : x = y := Option.some.inj (r.abs.symm.trans q.abs)
theorem Vals.inj : ∀ {xs ys : List V} {us : List Value}, Vals xs us → Vals ys us → xs = ys
  | _, _, _, .nil, .nil => rfl
  | _, _, _, .cons r t, .cons r' t' => by rw [r.inj r', Vals.inj t t']
section
variable {X : Cx} {pins : List (Addr × Obj)} {σ : St} {H : Hp} {s : Shared} {a : Addr} {xs ys : List V}
theorem SqL.of {K : PySem.W.Frag} (h : H a = some (.lst xs)) : SqL K H a xs := .inl (.inl h)
theorem SqT.of {K : PySem.W.Frag} (h : H a = some (.tup xs)) : SqT K H a xs := .inl (.inl h)
theorem Inv.list (I : Inv X pins σ H s) (h : SqL X.K H a xs) : ∃ its : List Value, Vals xs its ∧ PlainL s.heap a its.toArray ∧ xs.length ≤ sizeLine := by
  rcases h with h | ⟨o, its, n, hk, hc, hd, hs, hz, r⟩
  · obtain ⟨z, its, n, r, e⟩ := h.ok I.hok
    exact ⟨its, r, ⟨_, n, e, rfl, rfl, rfl⟩, z⟩
  · refine ⟨its.toList, r, ⟨o, n, I.kIn a o hk, hc, hd, by simpa using hs⟩, ?_⟩
    have e := r.length
    simp only [Array.length_toList] at e
    omega
theorem Inv.tuple (I : Inv X pins σ H s) (h : SqT X.K H a xs) : ∃ its : List Value, Vals xs its ∧ IsTup s.heap a its.toArray ∧ xs.length ≤ sizeLine := by
  rcases h with h | ⟨o, its, n, hk, hc, hs, hz, r⟩
  · obtain ⟨z, its, r, p⟩ := h.ok I.hok
    exact ⟨its, r, p, z⟩
  · refine ⟨its.toList, r, ⟨o, I.kIn a o hk, hc, n, by simpa using hs⟩, ?_⟩
    have e := r.length
    simp only [Array.length_toList] at e
    omega
theorem Inv.list_inj (I : Inv X pins σ H s) (h : SqL X.K H a xs) (h' : SqL X.K H a ys) : xs = ys := by
  obtain ⟨its, r, ⟨o, n, e, _, _, d⟩, _⟩ := I.list h
  obtain ⟨its', r', ⟨o', n', e', _, _, d'⟩, _⟩ := I.list h'
  rw [e] at e'; cases e'
  rw [d] at d'
  injection d' with d1 _
  have : its = its' := by simpa using congrArg Array.toList d1
  subst this
  exact r.inj r'
theorem Inv.tuple_inj (I : Inv X pins σ H s) (h : SqT X.K H a xs) (h' : SqT X.K H a ys) : xs = ys := by
  obtain ⟨its, r, ⟨o, e, _, n, d⟩, _⟩ := I.tuple h
  obtain ⟨its', r', ⟨o', e', _, n', d'⟩, _⟩ := I.tuple h'
  rw [e] at e'; cases e'
  rw [d] at d'
  injection d' with d1 _
  have : its = its' := by simpa using congrArg Array.toList d1
  subst this
  exact r.inj r'
end

abbrev Cx.wish (X : Cx) (E : Value → Shared → Prop) : Cx := { X with xe := E }
abbrev Cx.nox (X : Cx) : Cx := X.wish fun _ _ => False
theorem Cx.Ok.wish {X : Cx} (ok : X.Ok) (E : Value → Shared → Prop) : (X.wish E).Ok :=
  ⟨ok.mod, ok.kind, ok.glob, ok.blt, ok.above, ok.inj, ok.has, ok.cab, ok.hd, ok.frames, ok.stk, ok.exf, ok.bs, ok.bsz, ok.noex, ok.exfs, ok.funs, ok.frf⟩
theorem Cx.Ok.unwish {X : Cx} {E : Value → Shared → Prop} (ok : (X.wish E).Ok) : X.Ok :=
  ⟨ok.mod, ok.kind, ok.glob, ok.blt, ok.above, ok.inj, ok.has, ok.cab, ok.hd, ok.frames, ok.stk, ok.exf, ok.bs, ok.bsz, ok.noex, ok.exfs, ok.funs, ok.frf⟩
section
variable {X : Cx} {pins : List (Addr × Obj)} {σ : St} {H : Hp} {s : Shared} {E : Value → Shared → Prop}
theorem Inv.wish (I : Inv X pins σ H s) (E : Value → Shared → Prop) : Inv (X.wish E) pins σ H s := ⟨I.ok.wish E, I.os, I.bare, I.base, I.loc, I.cell, I.free, I.freeC, I.pin, I.hok, I.len⟩
theorem Inv.unwish (I : Inv (X.wish E) pins σ H s) : Inv X pins σ H s := ⟨I.ok.unwish, I.os, I.bare, I.base, I.loc, I.cell, I.free, I.freeC, I.pin, I.hok, I.len⟩
theorem SP.unwish {D : Ends} {f : Flow} {s' : Shared} (h : SP (X.wish E) pins D f s') : SP X pins D f s' := by
  cases f with
  | next => obtain ⟨σ', H', I, q⟩ := h; exact ⟨σ', H', I.unwish, q⟩
  | brk => obtain ⟨σ', H', I, q⟩ := h; exact ⟨σ', H', I.unwish, q⟩
  | cont => obtain ⟨σ', H', I, q⟩ := h; exact ⟨σ', H', I.unwish, q⟩
  | ret u => obtain ⟨v, σ', H', I, r, q⟩ := h; exact ⟨v, σ', H', I.unwish, r, q⟩
theorem PE.nox {e : Expr} {t : TE} (h : PE X.nox e t) : PE X e t := fun pins s σ H Q I hw =>
  wpAny_mono (h pins s σ H Q (I.wish _) hw) (fun _ _ ⟨v, H', I', r, q⟩ => ⟨v, H', I'.unwish, r, q⟩) fun _ _ z => False.elim z
theorem PT.nox {e : Expr} {t : TT} (h : PT X.nox e t) : PT X e t := fun pins s σ H Q I hw =>
  wpAny_mono (h pins s σ H Q (I.wish _) hw) (fun _ _ ⟨H', I', q⟩ => ⟨H', I'.unwish, q⟩) fun _ _ z => False.elim z
theorem PSs.nox {st : List Stmt} {t : TS} (h : PSs X.nox st t) : PSs X st t := fun pins s σ H D I hw =>
  wpAny_mono (h pins s σ H D (I.wish _) hw) (fun _ _ q => q.unwish) fun _ _ z => False.elim z
end

section
variable {X : Cx} {st : Stmt} {rest : List Stmt} {t u : TS} {e : Expr} {te : TE} {pos : Pos}
def tNext : TS := fun D σ H => D.nx σ H
def tSeq (t u : TS) : TS := fun D σ H => t { D with nx := u D } σ H
theorem pss_nil : PSs X [] tNext := fun _ _ σ H _ I h => wpAny_execs_nil ⟨σ, H, I, h⟩
theorem pss_cons (h1 : PS X st t) (h2 : PSs X rest u) : PSs X (st :: rest) (tSeq t u) := by
  intro pins s σ H D I h
  refine wpAny_execs_cons (thn (h1 pins s σ H { D with nx := u D } I h) fun f s1 q => ?_)
  cases f with
  | next =>
    obtain ⟨σ', H', I', q⟩ := q
    exact h2 pins s1 σ' H' D I' q
  | ret v => exact q
  | brk => exact q
  | cont => exact q
theorem pss_one (h1 : PS X st t) : PSs X [st] t := by
  intro pins s σ H D I h
  refine wpAny_execs_cons (thn (h1 pins s σ H D I h) fun f s1 q => ?_)
  cases f with
  | next => exact wpAny_execs_nil q
  | ret v => exact q
  | brk => exact q
  | cont => exact q
theorem Inv.quiet {pins : List (Addr × Obj)} {σ : St} {H : Hp} {s : Shared} (I : Inv X pins σ H s) : interactive X.env = false := by simp [interactive, I.ok.kind]
def tDrop (te : TE) : TS := fun D σ H => te σ H fun _ H1 => D.nx σ H1
theorem ps_expr (he : PE X e te) (hs : swapsWith e none pos.line X.env = pure false := by rfl) : PS X (.Expr e pos) (tDrop te) := by
  intro pins s σ H D I h
  exact wpAny_Expr_any (thn (he pins s σ H _ I h) fun v s1 ⟨x, H1, I1, r1, q1⟩ => ⟨σ, H1, I1, q1⟩) I.quiet hs
def tRet (te : TE) : TS := fun D σ H => te σ H D.rt
theorem ps_ret (he : PE X e te) : PS X (.Return (some e) pos) (tRet te) := by
  intro pins s σ H D I h
  exact wpAny_Return_some (thn (he pins s σ H _ I h) fun v s1 ⟨x, H1, I1, r1, q1⟩ => ⟨x, σ, H1, I1, r1, q1⟩)
def tIfS (c : TT) (t u : TS) : TS := fun D σ H => c σ H fun b H1 => if b = true then t D σ H1 else u D σ H1
theorem ps_if {c : Expr} {a b : List Stmt} {tc : TT} (hc : PT X c tc) (ha : PSs X a t) (hb : PSs X b u) : PS X (.If c a b pos) (tIfS tc t u) := by
  intro pins s σ H D I h
  refine wpAny_If (thn (hc pins s σ H _ I h) fun d s1 ⟨H1, I1, q1⟩ => ?_)
  cases d with
  | true => exact ha pins s1 σ H1 D I1 q1
  | false => exact hb pins s1 σ H1 D I1 q1
end

abbrev TG := V → St → Hp → (St → Hp → Prop) → Prop
abbrev TGs := List V → St → Hp → (St → Hp → Prop) → Prop
def PG (X : Cx) (target : Expr) (t : TG) : Prop :=
  ∀ (pins : List (Addr × Obj)) (s : Shared) (σ : St) (H : Hp) (v : V) (u : Value) (Q : St → Hp → Prop), Inv X pins σ H s → RelV v u → t v σ H Q →
    wpAny (model X.prog X.w) X.A (assign target X.env u) (fun _ s' => ∃ σ' H', Inv X pins σ' H' s' ∧ Q σ' H') X.xe s
def PGs (X : Cx) (ts : List Expr) (t : TGs) : Prop :=
  ∀ (pins : List (Addr × Obj)) (s : Shared) (σ : St) (H : Hp) (vs : List V) (us : List Value) (Q : St → Hp → Prop), Inv X pins σ H s → Vals vs us → t vs σ H Q →
    wpAny (model X.prog X.w) X.A (assignInOrder ((assignEach ts X.env).map (·.2)) us) (fun _ s' => ∃ σ' H', Inv X pins σ' H' s' ∧ Q σ' H') X.xe s
abbrev TSet := V → V → V → Hp → (Hp → Prop) → Prop
def PSet (X : Cx) (t : TSet) : Prop :=
  ∀ (pins : List (Addr × Obj)) (s : Shared) (σ : St) (H : Hp) (o i v : V) (ov iv u : Value) (Q : Hp → Prop), Inv X pins σ H s → RelV o ov → RelV i iv → RelV v u → t o i v H Q →
    wpAny (model X.prog X.w) X.A (setItem ov iv u) (fun _ s' => ∃ H', Inv X pins σ H' s' ∧ Q H') X.xe s
section
variable {X : Cx} {pos : Pos}
def gName (i : Nat) : TG := fun v σ H Q => Q (σ.set i (some v)) H
theorem pg_name {i : Nat} {x : Str} (hN : X.N.Nodup) (hi : X.N[i]? = some x) (hx : Loc X.env.scope x) (hf : X.fn x = true ∨ X.env.scope.names.lookup x = some .local := by first | exact .inl rfl | exact .inr rfl | assumption) : PG X (.Name x pos) (gName i) := by
  intro pins s σ H v u Q I r h
  exact wpAny_assign_Name (store_ok I hN hi hx r (fun s' I' => ⟨_, H, I', h⟩) hf)
def gNil : TGs := fun vs σ H Q => vs = [] ∧ Q σ H
def gCons (t : TG) (u : TGs) : TGs := fun vs σ H Q => ∃ v r, vs = v :: r ∧ t v σ H fun σ' H' => u r σ' H' Q
theorem pgs_nil : PGs X [] gNil := by
  intro pins s σ H vs us Q I r h
  obtain ⟨e, h⟩ := h
  subst e
  cases r
  exact assignInOrder_nil ⟨σ, H, I, h⟩
theorem pgs_cons {e : Expr} {es : List Expr} {t : TG} {u : TGs} (h1 : PG X e t) (h2 : PGs X es u)
    (hs : (assignEach (e :: es) X.env).map (·.2) = assign e X.env :: (assignEach es X.env).map (·.2) := by rfl) : PGs X (e :: es) (gCons t u) := by
  intro pins s σ H vs us Q I r h
  obtain ⟨v, vr, e1, h⟩ := h
  subst e1
  cases r with
  | cons r rr =>
    rw [hs]
    refine assignInOrder_cons (thn (h1 pins s σ H _ _ _ I r h) fun _ s1 ⟨σ1, H1, I1, q1⟩ => ?_)
    exact h2 pins s1 σ1 H1 _ _ Q I1 rr q1
def gTup (K : PySem.W.Frag) (n : Nat) (t : TGs) : TG := fun v σ H Q => ∃ a xs, v = .ref a ∧ SqT K H a xs ∧ xs.length = n ∧ t xs σ H Q
theorem pg_tup {es : List Expr} {k : Nat} {t : TGs} {n : Nat} (hc : X.calm = true) (h : PGs X es t)
    (hn : (assignEach es X.env).length = n := by rfl) (hst : (assignEach es X.env).findIdx? (·.1) = none := by rfl) : PG X (.Tuple es k pos) (gTup X.K n t) := by
  intro pins s σ H v u Q I r hw
  obtain ⟨a, xs, e1, hq, hl, hw⟩ := hw
  subst e1
  cases r
  obtain ⟨its, rv, ht, hz⟩ := I.tuple hq
  refine assign_Tuple_tuple (I.ok.hd hc) ht (by simp [hn, ← hl, rv.length]) hst fun h' hx => ?_
  have I1 : Inv X pins σ H { s with heap := h' } := I.kept (t' := s.toks) fun b o e => hx b o (Nat.ne_of_lt (Heap.lt_size e)) e
  exact h pins _ σ H xs _ Q I1 (by simpa using rv) hw
def gSub (to ti : TE) (t : TSet) : TG := fun v σ H Q => to σ H fun o H1 => ti σ H1 fun i H2 => t o i v H2 fun H3 => Q σ H3
theorem pg_sub {o i : Expr} {to ti : TE} {t : TSet} (ho : PE X o to) (hi : PE X i ti) (hs : PSet X t)
    (ha : ∀ v, assign (.Subscript o i pos) X.env v = (do
      let ov ← holding [v] (eval o X.env)
      let iv ← holding [v, ov] (eval i X.env)
      standAt pos
      holding [v, ov, iv] (setItem ov iv v)
      release [v, ov, iv] []) := by intro _; rfl) : PG X (.Subscript o i pos) (gSub to ti t) := by
  intro pins s σ H v u Q I r h
  rw [ha]
  refine wpAny_bind (wpAny_holding (thn (ho pins s σ H _ I h) fun ov s1 ⟨x, H1, I1, r1, q1⟩ => ?_))
  refine wpAny_bind (wpAny_holding (thn (hi pins s1 σ H1 _ I1 q1) fun iv s2 ⟨y, H2, I2, r2, q2⟩ => ?_))
  refine wpAny_bind (wpAny_standAt (wpAny_bind (wpAny_holding (thn (hs pins s2 σ H2 x y v ov iv u _ I2 r1 r2 r q2) fun _ s3 ⟨H3, I3, q3⟩ => ?_))))
  exact wpAny_release ⟨σ, H3, I3, q3⟩
def tAsg (te : TE) (g : TG) : TS := fun D σ H => te σ H fun x H1 => g x σ H1 D.nx
theorem ps_asg {tg e : Expr} {te : TE} {g : TG} (he : PE X e te) (hg : PG X tg g) (hs : swapsWithSole [tg] e pos.line X.env = pure false := by rfl) (hw : swappedStores [tg] e X.env = pure none := by rfl)
    (h1 : (assignEach [tg] X.env).map (·.2) = [assign tg X.env] := by rfl) : PS X (.Assign [tg] e pos) (tAsg te g) := by
  intro pins s σ H D I h
  refine wpAny_Assign_stores (thn (he pins s σ H _ I h) fun v s1 ⟨x, H1, I1, r1, q1⟩ => ?_) hs hw
  rw [h1]
  exact thn (hg pins s1 σ H1 x v _ I1 r1 q1) fun _ s2 q => q
theorem ps_set {i : Nat} {x : Str} {e : Expr} {te : TE} {pos' : Pos} (hN : X.N.Nodup) (hi : X.N[i]? = some x) (hx : Loc X.env.scope x) (he : PE X e te) (hs : swapsWith e (some (.Name x pos')) pos.line X.env = pure false := by rfl) (hf : X.fn x = true ∨ X.env.scope.names.lookup x = some .local := by first | exact .inl rfl | exact .inr rfl | assumption) :
    PS X (.Assign [.Name x pos'] e pos) (tAsg te (gName i)) := by
  intro pins s σ H D I h
  refine wpAny_Assign_Name (thn (he pins s σ H _ I h) fun v s1 ⟨y, H1, I1, r1, q1⟩ => ?_) hs
  exact store_ok I1 hN hi hx r1 (fun s2 I2 => ⟨_, H1, I2, q1⟩) hf
end

section
variable {X : Cx} {pos : Pos}
end

structure It where
  go : Nat → Hp → Prop
  yld : Nat → Hp → V → Hp → Prop
  stop : Nat → Hp → Prop
def FpOk (X : Cx) (pins : List (Addr × Obj)) (H : Hp) (b : Addr) : Prop :=
  H b = none ∧ b ≠ X.env.locals ∧ b ∉ X.fs ∧ (b ∈ X.ex ∨ X.s₀.heap.objs.size ≤ b) ∧ (∀ x c, X.env.cells.lookup x = some c → c ≠ b) ∧ ∀ p ∈ X.pn ++ pins, p.1 ≠ b
theorem Inv.fpOk {X : Cx} {pins : List (Addr × Obj)} {σ : St} {H H' : Hp} {s : Shared} {b : Addr} (I : Inv X pins σ H s) (hb : s.heap.objs.size ≤ b) (hn : H' b = none) : FpOk X pins H' b := by
  refine ⟨hn, Nat.ne_of_gt (Nat.lt_of_lt_of_le I.lt hb), I.nofs hb, .inr (Nat.le_trans I.sz hb), fun x c e z => ?_, fun p hp z => ?_⟩
  · obtain ⟨v, q⟩ := I.cell x c e
    exact absurd (Nat.lt_of_lt_of_le q.lt (by rw [z]; exact hb)) (Nat.lt_irrefl _)
  · exact absurd (Nat.lt_of_lt_of_le (Heap.lt_size (I.pin p hp).1) (by rw [z]; exact hb)) (Nat.lt_irrefl _)
structure Turn (P : Program) (w : World) (K : PySem.W.Frag) (tg : Expr) (J : It) (fp : List Addr) (it : Addr) (tn : Nat → Heap → Prop) : Prop where
  mem : it ∈ fp
  obj : ∀ i h, tn i h → ∀ b ∈ fp, ∃ o, h.get? b = some o ∧ ∀ v, o.data ≠ .cell v
  keep : ∀ i h h', tn i h → (∀ b ∈ fp, ∀ o, h.get? b = some o → h'.get? b = some o) → tn i h'
  item : ∀ (X : Cx), X.prog = P → X.w = w → X.K = K → X.calm = true → ∀ (i : Nat) (pins : List (Addr × Obj)) (s : Shared) (σ : St) (H : Hp) (E : Value → Shared → Prop), Inv X pins σ H s → (∀ b ∈ fp, FpOk X pins H b) → tn i s.heap → J.go i H →
    wpAny (model P w) X.A (pyNext (.ref it)) (fun r s1 => ∃ u, r = some u ∧
      wpAny (model P w) X.A (letOwnedTupleGo tg (.ref it) u) (fun _ s2 => ∃ x H', Inv X pins σ H' s2 ∧ RelV x u ∧ J.yld i H x H' ∧ tn (i + 1) s2.heap ∧ ∀ b ∈ fp, H' b = none) E s1) E s
  done : ∀ (X : Cx), X.prog = P → X.w = w → X.K = K → X.calm = true → ∀ (i : Nat) (pins : List (Addr × Obj)) (s : Shared) (σ : St) (H : Hp) (E : Value → Shared → Prop), Inv X pins σ H s → (∀ b ∈ fp, FpOk X pins H b) → tn i s.heap → J.stop i H →
    wpAny (model P w) X.A (pyNext (.ref it)) (fun r s1 => r = none ∧ Inv X pins σ H s1) E s
  self : ∀ (A : Around) (i : Nat) (s : Shared) (Q : Value → Shared → Prop) (E : Value → Shared → Prop), tn i s.heap → Q (.ref it) s → wpAny (model P w) A (pyIter (.ref it)) Q E s
abbrev TI := St → Hp → (It → Hp → Prop) → Prop
def PIE (X : Cx) (pins : List (Addr × Obj)) (σ : St) (tg : Expr) (R : It → Hp → Prop) (itv : Value) (s2 : Shared) : Prop :=
  ∃ (it : Addr) (fp : List Addr) (tn : Nat → Heap → Prop) (J : It) (H' : Hp), itv = .ref it ∧ Inv X pins σ H' s2 ∧ Turn X.prog X.w X.K tg J fp it tn ∧ tn 0 s2.heap ∧ (∀ b ∈ fp, FpOk X pins H' b) ∧ R J H'
def PI (X : Cx) (tg iter : Expr) (wi : TI) : Prop :=
  ∀ (pins : List (Addr × Obj)) (s : Shared) (σ : St) (H : Hp) (R : It → Hp → Prop), Inv X pins σ H s → wi σ H R →
    wpAny (model X.prog X.w) X.A (eval iter X.env) (fun v s1 => wpAny (model X.prog X.w) X.A (pyIter v) (PIE X pins σ tg R) X.xe s1) X.xe s

theorem go_of {M : Model} {A : Around} {E : Value → Shared → Prop} {s : Shared} {tg : Expr} {it : Addr} {u : Value} {o : Obj} {n : String} {vs : Array Value} {Q : Unit → Shared → Prop} (ho : s.heap.get? it = some o) (hc : o.cls = .type n) (hd : o.data = .fields vs)
    (hn : ["enumerate", "zip", "dict_itemiterator", "dict_reverseitemiterator", "odict_iterator", "itertools.zip_longest", "itertools.pairwise"].contains n = false) (hQ : Q () s) : wpAny M A (letOwnedTupleGo tg (.ref it) u) Q E s := by
  unfold letOwnedTupleGo
  cases tg <;> first
    | exact wpAny_pure hQ
    | (cases u <;> first
        | exact wpAny_pure hQ
        | (refine wpAny_bind (wpAny_load ho ?_)
           rw [hc, hd]
           show wpAny M A (if (["enumerate", "zip", "dict_itemiterator", "dict_reverseitemiterator", "odict_iterator", "itertools.zip_longest", "itertools.pairwise"].contains n && vs[0]? == some (rawInt _)) = true then _ else _) Q E s
           rw [if_neg (by intro h; rw [hn, Bool.false_and] at h; cases h)]
           exact wpAny_pure hQ))

def Itl (K : PySem.W.Frag) (a : Addr) : It :=
  ⟨fun i H => ∃ xs x, SqL K H a xs ∧ xs[i]? = some x, fun i H x H' => H' = H ∧ ∀ xs, SqL K H a xs → xs[i]? = some x, fun i H => ∃ xs, SqL K H a xs ∧ xs.length ≤ i⟩
def Itt (K : PySem.W.Frag) (a : Addr) : It :=
  ⟨fun i H => ∃ xs x, SqT K H a xs ∧ xs[i]? = some x, fun i H x H' => H' = H ∧ ∀ xs, SqT K H a xs → xs[i]? = some x, fun i H => ∃ xs, SqT K H a xs ∧ xs.length ≤ i⟩
def Itr (lo : Int) (n : Nat) : It := ⟨fun i _ => i < n, fun i H x H' => H' = H ∧ x = .int (lo + i), fun i _ => n ≤ i⟩
theorem turn_list {P : Program} {w : World} {K : PySem.W.Frag} {tg : Expr} (a it : Addr) : Turn P w K tg (Itl K a) [it] it (fun i h => h.IsListIter it a i) where
  mem := by simp
  obj := fun i h st b hb => by
    have e : b = it := by simpa using hb
    subst e
    obtain ⟨o, e, c, d⟩ := st
    exact ⟨o, e, fun v z => by rw [d] at z; cases z⟩
  keep := fun i h h' st k => st.at fun o e => k it (by simp) o e
  item := by
    intro X hP hw hK hc i pins s σ H E I hf st hg
    subst hP hw hK
    obtain ⟨xs, x, hq, hx⟩ := hg
    obtain ⟨its, rv, p, hz⟩ := I.list hq
    obtain ⟨u, hu, ru⟩ := rv.get hx
    obtain ⟨f0, f1, f2, f3, f4, f5⟩ := hf it (by simp)
    refine wpAny_pyNext_list_item st p.isList (x := u) (by simpa using hu) fun h' st' sb => ?_
    have I1 : Inv X pins σ H { s with heap := h' } := I.turned (t' := s.toks) (fun b o hb e => (sb.2 b hb).trans e) f0 f1 f3 f4 f5
    obtain ⟨o, e, c, d⟩ := id st'
    exact ⟨u, rfl, go_of (s := { s with heap := h' }) e c d (by decide) ⟨x, H, I1, ru, ⟨rfl, fun ys hy => by rw [I.list_inj hy hq]; exact hx⟩, st', fun b hb => (hf b hb).1⟩⟩
  done := by
    intro X hP hw hK hc i pins s σ H E I hf st hg
    subst hP hw hK
    obtain ⟨xs, hq, hx⟩ := hg
    obtain ⟨its, rv, p, hz⟩ := I.list hq
    obtain ⟨f0, f1, f2, f3, f4, f5⟩ := hf it (by simp)
    have hl := rv.length
    exact wpAny_pyNext_list_end (I.ok.hd hc) st p.isList (by simp; omega) fun h' eb => ⟨rfl, I.turned (t' := s.toks) (fun b o hb e => eb b o hb e) f0 f1 f3 f4 f5⟩
  self := fun _ _ _ _ _ st h => wpAny_pyIter_listiter st h
theorem turn_tuple {P : Program} {w : World} {K : PySem.W.Frag} {tg : Expr} (a it : Addr) : Turn P w K tg (Itt K a) [it] it (fun i h => h.IsTupleIter it a i) where
  mem := by simp
  obj := fun i h st b hb => by
    have e : b = it := by simpa using hb
    subst e
    obtain ⟨o, e, c, d⟩ := st
    exact ⟨o, e, fun v z => by rw [d] at z; cases z⟩
  keep := fun i h h' st k => st.at fun o e => k it (by simp) o e
  item := by
    intro X hP hw hK hc i pins s σ H E I hf st hg
    subst hP hw hK
    obtain ⟨xs, x, hq, hx⟩ := hg
    obtain ⟨its, rv, p, hz⟩ := I.tuple hq
    obtain ⟨u, hu, ru⟩ := rv.get hx
    obtain ⟨f0, f1, f2, f3, f4, f5⟩ := hf it (by simp)
    refine wpAny_pyNext_tuple_item st (show s.heap.IsTuple a its.toArray from p) (x := u) (by simpa using hu) fun h' st' sb => ?_
    have I1 : Inv X pins σ H { s with heap := h' } := I.turned (t' := s.toks) (fun b o hb e => (sb.2 b hb).trans e) f0 f1 f3 f4 f5
    obtain ⟨o, e, c, d⟩ := id st'
    exact ⟨u, rfl, go_of (s := { s with heap := h' }) e c d (by decide) ⟨x, H, I1, ru, ⟨rfl, fun ys hy => by rw [I.tuple_inj hy hq]; exact hx⟩, st', fun b hb => (hf b hb).1⟩⟩
  done := by
    intro X hP hw hK hc i pins s σ H E I hf st hg
    subst hP hw hK
    obtain ⟨xs, hq, hx⟩ := hg
    obtain ⟨its, rv, p, hz⟩ := I.tuple hq
    obtain ⟨f0, f1, f2, f3, f4, f5⟩ := hf it (by simp)
    have hl := rv.length
    exact wpAny_pyNext_tuple_end (I.ok.hd hc) st (show s.heap.IsTuple a its.toArray from p) (by simp; omega) fun h' eb => ⟨rfl, I.turned (t' := s.toks) (fun b o hb e => eb b o hb e) f0 f1 f3 f4 f5⟩
  self := fun _ _ _ _ _ st h => wpAny_pyIter_tupleiter st h
theorem turn_range {P : Program} {w : World} {K : PySem.W.Frag} {tg : Expr} (it : Addr) (lo : Int) (n : Nat) : Turn P w K tg (Itr lo n) [it] it (fun i h => IsRangeIter h it (lo + (i : Nat) * 1) ((n : Int) - (i : Nat)) 1) where
  mem := by simp
  obj := fun i h st b hb => by
    have e : b = it := by simpa using hb
    subst e
    exact ⟨_, st, fun v z => by
      have z' : Data.fields _ = Data.cell v := z
      cases z'⟩
  keep := fun i h h' st k => k it (by simp) _ st
  item := by
    intro X hP hw hK hc i pins s σ H E I hf st hg
    subst hP hw hK
    obtain ⟨f0, f1, f2, f3, f4, f5⟩ := hf it (by simp)
    have W := Walks.range (prog := X.prog) (w := X.w) (I.ok.hd hc) it lo 1 n
    refine W.item i s _ _ hg st fun v h' tk hv st' kk => ?_
    obtain ⟨t, rfl⟩ := hv
    have I1 : Inv X pins σ H { s with heap := h', toks := tk } := I.turned (fun b o hb e => kk b o (by simpa using hb) e) f0 f1 f3 f4 f5
    refine ⟨_, rfl, go_of (s := { s with heap := h', toks := tk }) (n := "range_iterator") st' rfl rfl (by decide) ⟨.int (lo + i), H, I1, ⟨t, ?_⟩, ⟨rfl, rfl⟩, st', fun b hb => (hf b hb).1⟩⟩
    rw [Int.mul_one]
  done := by
    intro X hP hw hK hc i pins s σ H E I hf st hg
    subst hP hw hK
    obtain ⟨f0, f1, f2, f3, f4, f5⟩ := hf it (by simp)
    exact wpAny_pyNext_range_end (I.ok.hd hc) st (by have : n ≤ i := hg; omega) fun h' eb => ⟨rfl, I.turned (t' := s.toks) (fun b o hb e => eb b o hb e) f0 f1 f3 f4 f5⟩
  self := fun _ _ _ _ _ st h => wpAny_pyIter_rangeiter st h
end L2

namespace L2
open PySem PySem.Spec PyProof.Rows
section
variable {X : Cx} {tg : Expr}
def iList (K : PySem.W.Frag) (tl : TE) : TI := fun σ H R => tl σ H fun x H1 => ∃ a, x = .ref a ∧ (∃ xs, SqL K H1 a xs) ∧ R (Itl K a) H1
def iTup (K : PySem.W.Frag) (tl : TE) : TI := fun σ H R => tl σ H fun x H1 => ∃ a, x = .ref a ∧ (∃ xs, SqT K H1 a xs) ∧ R (Itt K a) H1
theorem pi_list {l : Expr} {tl : TE} (hl : PE X l tl) : PI X tg l (iList X.K tl) := by
  intro pins s σ H R I h
  refine thn (hl pins s σ H _ I h) fun v s1 ⟨x, H1, I1, r1, q1⟩ => ?_
  obtain ⟨a, e, ⟨xs, hq⟩, q⟩ := q1
  subst e
  cases r1
  obtain ⟨its, rv, p, hz⟩ := I1.list hq
  refine wpAny_pyIter_list p.isList ?_
  refine ⟨s1.heap.objs.size, [s1.heap.objs.size], _, _, H1, rfl, I1.kept (t' := s1.toks) fun b o e => Heap.get?_push_of_some _ e, turn_list a _, ⟨_, Heap.get?_push_size _ rfl, rfl, rfl⟩, fun b hb => ?_, q⟩
  have e : b = s1.heap.objs.size := by simpa using hb
  subst e
  exact I1.fpOk (Nat.le_refl _) (I1.hok.fresh (Nat.le_refl _))
theorem pi_tup {l : Expr} {tl : TE} (hl : PE X l tl) : PI X tg l (iTup X.K tl) := by
  intro pins s σ H R I h
  refine thn (hl pins s σ H _ I h) fun v s1 ⟨x, H1, I1, r1, q1⟩ => ?_
  obtain ⟨a, e, ⟨xs, hq⟩, q⟩ := q1
  subst e
  cases r1
  obtain ⟨its, rv, p, hz⟩ := I1.tuple hq
  refine wpAny_pyIter_tuple (show s1.heap.IsTuple a its.toArray from p) ?_
  refine ⟨s1.heap.objs.size, [s1.heap.objs.size], _, _, H1, rfl, I1.kept (t' := s1.toks) fun b o e => Heap.get?_push_of_some _ e, turn_tuple a _, ⟨_, Heap.get?_push_size _ rfl, rfl, rfl⟩, fun b hb => ?_, q⟩
  have e : b = s1.heap.objs.size := by simpa using hb
  subst e
  exact I1.fpOk (Nat.le_refl _) (I1.hok.fresh (Nat.le_refl _))
theorem range_it {pins : List (Addr × Obj)} {σ : St} {H : Hp} {s : Shared} {R : It → Hp → Prop} {E : Value → Shared → Prop} {lo hi : Int} {t u v : Tok} {tk : Nat} (I : Inv X pins σ H s) (h1 : -(2 ^ 62) ≤ lo) (h2 : lo < 2 ^ 62) (h3 : -(2 ^ 62) ≤ hi) (h4 : hi < 2 ^ 62)
    (q : R (Itr lo (hi - lo).toNat) H) : wpAny (model X.prog X.w) X.A (pyIter (.ref s.heap.objs.size)) (PIE X pins σ tg R) E { s with heap := s.heap.push { cls := .type "range", data := .fields #[.int lo t, .int hi u, .int 1 v] }, toks := tk } := by
  refine wpAny_pyIter_range (IsRange.new ..) (small_one h1 h2 h3 h4) ?_
  have I1 : Inv X pins σ H { s with heap := s.heap.push { cls := .type "range", data := .fields #[.int lo t, .int hi u, .int 1 v] }, toks := tk } := I.kept fun b o e => Heap.get?_push_of_some _ e
  refine ⟨(s.heap.push { cls := .type "range", data := .fields #[.int lo t, .int hi u, .int 1 v] }).objs.size, [(s.heap.push { cls := .type "range", data := .fields #[.int lo t, .int hi u, .int 1 v] }).objs.size], _, _, H, rfl,
    I1.kept (t' := tk) fun b o e => Heap.get?_push_of_some _ e, turn_range _ lo (hi - lo).toNat, ?_, fun b hb => ?_, q⟩
  · have e1 : lo + ((0 : Nat) : Int) * 1 = lo := by simp
    have e2 : (((hi - lo).toNat : Nat) : Int) - ((0 : Nat) : Int) = Builtin.Range.rangeSize lo hi 1 := by rw [rangeSize_one]; split <;> omega
    show IsRangeIter _ _ (lo + ((0 : Nat) : Int) * 1) ((((hi - lo).toNat : Nat) : Int) - ((0 : Nat) : Int)) 1
    rw [e1, e2]
    exact Heap.get?_push_size _ rfl
  · have e : b = (s.heap.push { cls := .type "range", data := .fields #[.int lo t, .int hi u, .int 1 v] }).objs.size := by simpa using hb
    subst e
    exact I1.fpOk (Nat.le_refl _) (I1.hok.fresh (Nat.le_refl _))
def iRng1 (ta : TA) : TI := fun σ H R => ta σ H fun vs H1 => ∃ j : Int, vs = [.int j] ∧ -(2 ^ 62) ≤ j ∧ j < 2 ^ 62 ∧ R (Itr 0 j.toNat) H1
theorem pi_range1 {a : Expr} {ta : TA} {p pos : Pos} (hg : Gl X "range") (hm : X.mg "range" = none) (ha : PA X [a] ta) (hs : starEach [a] X.env = [(false, eval a X.env)] := by rfl) : PI X tg (.Call (.Name "range" p) [a] [] pos) (iRng1 ta) := by
  intro pins s σ H R I h
  refine Call_ (ld_blt I hg hm boot_range (PyProof.Rows.callWith_type1 (thn (ha pos pins s σ H _ I h) fun us s1 ⟨vs, H1, I1, r1, q1⟩ => ?_) hs rfl))
  obtain ⟨j, e, q1, q2, q⟩ := q1
  subst e
  cases r1 with
  | cons r rr =>
    cases rr
    obtain ⟨t, rfl⟩ := r
    exact call_range_1 (range_it I1 (by omega) (by omega) q1 q2 (by simpa using q))

def tFor (wi : TI) (g : TG) (tb : TS) : TS := fun D σ H => wi σ H fun J H1 => ∃ W : Nat → Nat → St → Hp → Prop, (∃ m, W 0 m σ H1) ∧ ∀ i m σ H, W i m σ H →
  (J.stop i H ∧ D.nx σ H) ∨ (J.go i H ∧ ∃ N : St → Hp → Prop, (∀ σ' H', N σ' H' → ∃ m', m' < m ∧ W (i + 1) m' σ' H') ∧ ∀ x H', J.yld i H x H' → g x σ H' fun σ2 H2 => tb { D with nx := N, ct := N, bk := D.nx } σ2 H2)
def pinsAt (fp : List Addr) (h : Heap) : List (Addr × Obj) := fp.filterMap fun b => (h.get? b).map fun o => (b, o)
theorem mem_pinsAt {fp : List Addr} {h : Heap} {b : Addr} {o : Obj} (hb : b ∈ fp) (e : h.get? b = some o) : (b, o) ∈ pinsAt fp h := List.mem_filterMap.mpr ⟨b, hb, by rw [e]; rfl⟩
theorem of_pinsAt {fp : List Addr} {h : Heap} {p : Addr × Obj} (hp : p ∈ pinsAt fp h) : p.1 ∈ fp ∧ h.get? p.1 = some p.2 := by
  obtain ⟨b, hb, e⟩ := List.mem_filterMap.mp hp
  cases q : h.get? b with
  | none => rw [q] at e; cases e
  | some o =>
    rw [q] at e
    have e' : (b, o) = p := Option.some.inj e
    subst e'
    exact ⟨hb, q⟩
theorem Inv.pinned {pins : List (Addr × Obj)} {σ : St} {H : Hp} {s : Shared} {fp : List Addr} (I : Inv X pins σ H s) (hf : ∀ b ∈ fp, FpOk X pins H b) (ho : ∀ b ∈ fp, ∃ o, s.heap.get? b = some o ∧ ∀ v, o.data ≠ .cell v) : Inv X (pins ++ pinsAt fp s.heap) σ H s :=
  I.pins_of fun p hp => (List.mem_append.mp hp).elim (fun z => I.pin p (List.mem_append_right _ z)) fun z => by
    obtain ⟨hb, e⟩ := of_pinsAt z
    obtain ⟨f0, f1, f2, _⟩ := hf p.1 hb
    obtain ⟨o, e', d⟩ := ho p.1 hb
    rw [e] at e'; cases e'
    exact ⟨e, f0, f1, f2, d⟩
theorem Inv.unpinned {pins pl : List (Addr × Obj)} {σ : St} {H : Hp} {s : Shared} (I : Inv X (pins ++ pl) σ H s) : Inv X pins σ H s := I.pins_of fun p hp => I.pin p (List.mem_append_right _ (List.mem_append_left _ hp))
theorem ps_for {iter : Expr} {body : List Stmt} {wi : TI} {g : TG} {tb : TS} {pos : Pos} (hp : PassesOwn (model X.prog X.w) X.A X.env X.xe) (hc : X.calm = true) (hi : PI X tg iter wi) (hg : PG X tg g) (hb : PSs X body tb)
    (hs : ∀ x, foldedSetIterable iter X.env x = pure x := by intro _; rfl) : PS X (.For tg iter body [] pos) (tFor wi g tb) := by
  intro pins s σ H D I h
  refine wpAny_For (thn (hi pins s σ H _ I h) fun v s1 h1 => thn h1 fun itv s2 h2 => ?_) hs
  obtain ⟨it, fp, tn, J, H2, e, I2, T, st2, f2, W, ⟨m0, w0⟩, turn⟩ := h2
  subst e
  -- what stays true of the iterator's objects through the loop
  have stat : ∀ {H' : Hp}, (∀ b ∈ fp, H' b = none) → ∀ b ∈ fp, FpOk X pins H' b := fun hn b hb => ⟨hn b hb, (f2 b hb).2⟩
  refine codeAny_forLoop_any (fun n s' => ∃ i σ' H', Inv X pins σ' H' s' ∧ tn i s'.heap ∧ (∀ b ∈ fp, H' b = none) ∧ W i n σ' H') ?_ m0 ⟨0, σ, H2, I2, st2, fun b hb => (f2 b hb).1, w0⟩
  rintro n s3 ⟨i, σ3, H3, I3, st3, fr3, w3⟩
  rcases turn i n σ3 H3 w3 with ⟨stop, qn⟩ | ⟨go, N, hN, step⟩
  · refine wpAny_passesOwn hp (thn (T.done X rfl rfl rfl hc i pins s3 σ3 H3 X.xe I3 (stat fr3) st3 stop) fun r s4 ⟨hr, I4⟩ => ?_)
    subst hr
    exact wpAny_execs_nil ⟨σ3, H3, I4, qn⟩
  · refine wpAny_passesOwn hp (thn (T.item X rfl rfl rfl hc i pins s3 σ3 H3 X.xe I3 (stat fr3) st3 go) fun r s4 ⟨u, hr, h4⟩ => ?_)
    subst hr
    refine wpAny_passesOwn hp (thn h4 fun _ s5 ⟨x, H5, I5, r5, y5, st5, fr5⟩ => ?_)
    have I5' := I5.pinned (stat fr5) (T.obj _ _ st5)
    refine wpAny_passesOwn hp (thn (hg _ s5 σ3 H5 x u _ I5' r5 (step x H5 y5)) fun _ s6 ⟨σ6, H6, I6, q6⟩ => ?_)
    refine wpAny_passesOwn hp (thn (hb _ s6 σ6 H6 _ I6 q6) fun f s7 q7 => ?_)
    have again : ∀ {σ7 : St} {H7 : Hp}, Inv X (pins ++ pinsAt fp s5.heap) σ7 H7 s7 → N σ7 H7 → ∃ m, m < n ∧ ∃ i σ' H', Inv X pins σ' H' s7 ∧ tn i s7.heap ∧ (∀ b ∈ fp, H' b = none) ∧ W i m σ' H' := fun {σ7 H7} I7 n7 => by
      obtain ⟨m', hm, w7⟩ := hN σ7 H7 n7
      refine ⟨m', hm, i + 1, σ7, H7, I7.unpinned, T.keep _ _ _ st5 fun b hb o e => (I7.pin (b, o) (List.mem_append_right _ (List.mem_append_right _ (mem_pinsAt hb e)))).1, fun b hb => ?_, w7⟩
      obtain ⟨o, e, d⟩ := T.obj _ _ st5 b hb
      exact (I7.pin (b, o) (List.mem_append_right _ (List.mem_append_right _ (mem_pinsAt hb e)))).2.1
    cases f with
    | next => obtain ⟨σ7, H7, I7, n7⟩ := q7; exact again I7 n7
    | cont => obtain ⟨σ7, H7, I7, n7⟩ := q7; exact again I7 n7
    | brk => obtain ⟨σ7, H7, I7, q7⟩ := q7; exact ⟨σ7, H7, I7.unpinned, q7⟩
    | ret v => obtain ⟨x7, σ7, H7, I7, r7, q7⟩ := q7; exact ⟨x7, σ7, H7, I7.unpinned, r7, q7⟩
end

end L2

namespace L2
open PySem PySem.Spec PyProof.Rows

abbrev R2 := V → V → Hp → VK → Prop
def OpR (X : Cx) (f : Value → Value → Sem Value) (r : R2) : Prop :=
  ∀ (pins : List (Addr × Obj)) (s : Shared) (σ : St) (H : Hp) (x y : V) (v u : Value) (Q : VK), Inv X pins σ H s → RelV x v → RelV y u → r x y H Q →
    wpAny (model X.prog X.w) X.A (f v u) (EP X pins σ Q) X.xe s
def UnR (X : Cx) (f : Value → Sem Value) (r : V → Hp → VK → Prop) : Prop :=
  ∀ (pins : List (Addr × Obj)) (s : Shared) (σ : St) (H : Hp) (x : V) (v : Value) (Q : VK), Inv X pins σ H s → RelV x v → r x H Q →
    wpAny (model X.prog X.w) X.A (f v) (EP X pins σ Q) X.xe s
def CallR (X : Cx) (f : Value) (r : List V → Hp → VK → Prop) : Prop :=
  ∀ (pins : List (Addr × Obj)) (s : Shared) (σ : St) (H : Hp) (xs : List V) (us : List Value) (Q : VK), Inv X pins σ H s → Vals xs us → r xs H Q →
    wpAny (model X.prog X.w) X.A (call f us) (EP X pins σ Q) X.xe s

def tOp (r : R2) (ta tb : TE) : TE := fun σ H Q => ta σ H fun x H1 => tb σ H1 fun y H2 => r x y H2 Q
def tUn (r : V → Hp → VK → Prop) (ta : TE) : TE := fun σ H Q => ta σ H fun x H1 => r x H1 Q
def rI (C : Int → Int → Prop) (g : Int → Int → V) : R2 := fun x y H Q => ∃ i j, x = .int i ∧ y = .int j ∧ C i j ∧ Q (g i j) H
def rI0 (g : Int → Int → V) : R2 := fun x y H Q => ∃ i j, x = .int i ∧ y = .int j ∧ Q (g i j) H
def rU (g : Int → V) : V → Hp → VK → Prop := fun x H Q => ∃ i, x = .int i ∧ Q (g i) H

section
variable {X : Cx} {a b c : Expr} {ta tb tc : TE} {pos : Pos}

theorem binT (ha : PE X a ta) (hb : PE X b tb) {pins : List (Addr × Obj)} {s : Shared} {σ : St} {H : Hp} {R : V → V → Hp → Prop} (I : Inv X pins σ H s)
    (h : ta σ H fun x H1 => tb σ H1 fun y H2 => R x y H2) {Q : Value → Shared → Prop} {f : Value → Value → Sem Value}
    (hf : ∀ v u s2 x y H2, Inv X pins σ H2 s2 → RelV x v → RelV y u → R x y H2 → wpAny (model X.prog X.w) X.A (f v u) Q X.xe s2) :
    wpAny (model X.prog X.w) X.A (eval a X.env) (fun v s₁ => wpAny (model X.prog X.w) X.A (eval b X.env) (fun u s₂ => wpAny (model X.prog X.w) X.A (f v u) Q X.xe s₂) X.xe s₁) X.xe s := by
  refine thn (ha pins s σ H _ I h) fun v s1 ⟨x, H1, I1, r1, q1⟩ => ?_
  refine thn (hb pins s1 σ H1 _ I1 q1) fun u s2 ⟨y, H2, I2, r2, q2⟩ => ?_
  exact hf v u s2 x y H2 I2 r1 r2 q2

theorem pe_op {op : Operator} {r : R2} (ho : OpR X (binaryOp op) r) (ha : PE X a ta) (hb : PE X b tb) : PE X (.BinOp a op b pos) (tOp r ta tb) := by
  intro pins s σ H Q I h
  exact wpAny_BinOp (binT ha hb I h fun v u s2 x y H2 I2 rx ry q => ho pins s2 σ H2 x y v u Q I2 rx ry q)
theorem pe_un {op : UnaryOp} {r : V → Hp → VK → Prop} (ho : UnR X (unaryOp op) r) (ha : PE X a ta) : PE X (.UnaryOp op a pos) (tUn r ta) := by
  intro pins s σ H Q I h
  exact UnaryOp_ (thn (ha pins s σ H _ I h) fun v s1 ⟨x, H1, I1, r1, q1⟩ => ho pins s1 σ H1 x v Q I1 r1 q1)

theorem opI {f : Value → Value → Sem Value} {C : Int → Int → Prop} {g : Int → Int → Int}
    (rule : ∀ (i j : Int) (t u : Tok) (s : Shared) (Q : Value → Shared → Prop) (E : Value → Shared → Prop), C i j → Q (.int (g i j) s.toks) { s with toks := s.toks + 1 } → wpAny (model X.prog X.w) X.A (f (.int i t) (.int j u)) Q E s) :
    OpR X f (rI C fun i j => .int (g i j)) := by
  intro pins s σ H x y v u Q I rx ry h
  obtain ⟨i, j, rfl, rfl, hc, q⟩ := h
  obtain ⟨t, rfl⟩ := rx
  obtain ⟨t', rfl⟩ := ry
  exact rule i j t t' s _ _ hc ⟨.int (g i j), H, I.tok _, ⟨_, rfl⟩, q⟩
theorem opI0 {f : Value → Value → Sem Value} {g : Int → Int → Int}
    (rule : ∀ (i j : Int) (t u : Tok) (s : Shared) (Q : Value → Shared → Prop) (E : Value → Shared → Prop), Q (.int (g i j) s.toks) { s with toks := s.toks + 1 } → wpAny (model X.prog X.w) X.A (f (.int i t) (.int j u)) Q E s) :
    OpR X f (rI0 fun i j => .int (g i j)) := by
  intro pins s σ H x y v u Q I rx ry h
  obtain ⟨i, j, rfl, rfl, q⟩ := h
  obtain ⟨t, rfl⟩ := rx
  obtain ⟨t', rfl⟩ := ry
  exact rule i j t t' s _ _ ⟨.int (g i j), H, I.tok _, ⟨_, rfl⟩, q⟩
theorem opB0 {f : Value → Value → Sem Value} {g : Int → Int → Bool}
    (rule : ∀ (i j : Int) (t u : Tok) (s : Shared) (Q : Value → Shared → Prop) (E : Value → Shared → Prop), Q (.bool (g i j)) s → wpAny (model X.prog X.w) X.A (f (.int i t) (.int j u)) Q E s) :
    OpR X f (rI0 fun i j => .bl (g i j)) := by
  intro pins s σ H x y v u Q I rx ry h
  obtain ⟨i, j, rfl, rfl, q⟩ := h
  obtain ⟨t, rfl⟩ := rx
  obtain ⟨t', rfl⟩ := ry
  exact rule i j t t' s _ _ ⟨.bl (g i j), H, I, rfl, q⟩

def CDiv (i j : Int) : Prop := 0 < j ∧ j < 1073741824
def CPow (i j : Int) : Prop := 0 ≤ j ∧ j ≤ 1000000 ∧ i.natAbs < 2 ^ 64
def CMul (i j : Int) : Prop := (-(2 ^ 64) < i ∧ i < 2 ^ 64) ∨ (-(2 ^ 64) < j ∧ j < 2 ^ 64)
theorem CMul.ok {i j : Int} (h : CMul i j) : IntMulOk i j := by
  rcases h with ⟨h1, h2⟩ | ⟨h1, h2⟩
  · exact .of_left (intBits_le_64 h1 h2)
  · exact .of_right (intBits_le_64 h1 h2)

theorem op_add : OpR X (binaryOp .Add) (rI0 fun i j => .int (i + j)) := opI0 fun _ _ _ _ _ _ _ q => add_int q
theorem op_sub : OpR X (binaryOp .Sub) (rI0 fun i j => .int (i - j)) := opI0 fun _ _ _ _ _ _ _ q => sub_int q
theorem op_mul : OpR X (binaryOp .Mult) (rI CMul fun i j => .int (i * j)) := opI fun _ _ _ _ _ _ _ hc q => mul_int q hc.ok
theorem op_fdiv : OpR X (binaryOp .FloorDiv) (rI CDiv fun i j => .int (i / j)) := opI fun i j _ _ _ _ _ hc q => by
  have h1 : (0 : Int) < j := hc.1
  have h2 : j < 1073741824 := hc.2
  exact floordiv_int (by omega) (by rw [Int.fdiv_eq_ediv_of_nonneg i (by omega)]; exact q) (.inl (PyProof.noPylong_small (by omega)))
theorem op_mod : OpR X (binaryOp .Mod) (rI (fun _ j => 0 < j) fun i j => .int (i % j)) := opI fun i j _ _ _ _ _ hc q => by
  have h1 : (0 : Int) < j := hc
  exact mod_int' (by omega) (by rw [Int.fmod_eq_emod_of_nonneg i (by omega)]; exact q)
theorem op_pow : OpR X (binaryOp .Pow) (rI CPow fun i j => .int (i ^ j.toNat)) := opI fun _ _ _ _ _ _ _ hc q => pow_int_small hc.1 hc.2.1 hc.2.2 q


theorem unI {f : Value → Sem Value} {g : Int → Int}
    (rule : ∀ (i : Int) (t : Tok) (s : Shared) (Q : Value → Shared → Prop) (E : Value → Shared → Prop), Q (.int (g i) s.toks) { s with toks := s.toks + 1 } → wpAny (model X.prog X.w) X.A (f (.int i t)) Q E s) :
    UnR X f (rU fun i => .int (g i)) := by
  intro pins s σ H x v Q I rx h
  obtain ⟨i, rfl, q⟩ := h
  obtain ⟨t, rfl⟩ := rx
  exact rule i t s _ _ ⟨.int (g i), H, I.tok _, ⟨_, rfl⟩, q⟩
theorem un_neg : UnR X (unaryOp .USub) (rU fun i => .int (-i)) := unI fun _ _ _ _ _ q => neg_int q

end



section
variable {X : Cx} {a b c : Expr} {ta tb tc : TE} {pos : Pos}
theorem fin_bl {pins : List (Addr × Obj)} {σ : St} {H : Hp} {s : Shared} {Q : VK} {k k' : Bool} (I : Inv X pins σ H s) (q : Q (.bl k) H) (e : k = k') : EP X pins σ Q (.bool k') s := by
  subst e
  exact ⟨.bl k, H, I, rfl, q⟩

theorem op_lt : OpR X (compareOp .Lt) (rI0 fun i j => .bl (decide (i < j))) := opB0 fun _ _ _ _ _ _ _ q => lt_int q
theorem op_le : OpR X (compareOp .LtE) (rI0 fun i j => .bl (decide (i ≤ j))) := opB0 fun _ _ _ _ _ _ _ q => le_int q
theorem op_gt : OpR X (compareOp .Gt) (rI0 fun i j => .bl (decide (j < i))) := opB0 fun _ _ _ _ _ _ _ q => gt_int q
theorem op_in_str : OpR X (compareOp .In) (fun x y H Q => ∃ i j, x = .str i ∧ y = .str j ∧ Q (.bl (!(Builtin.Str.occurrences j i 0 j.length 1).isEmpty)) H) := by
  intro pins s σ H x y v u Q I rx ry h
  obtain ⟨i, j, rfl, rfl, q⟩ := h
  obtain ⟨t, rfl⟩ := rx
  obtain ⟨t', rfl⟩ := ry
  exact in_str (fin_bl I q rfl)


theorem op_notin_str : OpR X (compareOp .NotIn) (fun x y H Q => ∃ i j, x = .str i ∧ y = .str j ∧ Q (.bl (!(!(Builtin.Str.occurrences j i 0 j.length 1).isEmpty))) H) := by
  intro pins s σ H x y v u Q I rx ry h
  obtain ⟨i, j, rfl, rfl, q⟩ := h
  obtain ⟨t, rfl⟩ := rx
  obtain ⟨t', rfl⟩ := ry
  exact notIn_str (fin_bl I q rfl)

theorem OpR.or {f : Value → Value → Sem Value} {r r' : R2} (h : OpR X f r) (h' : OpR X f r') : OpR X f (fun x y H Q => r x y H Q ∨ r' x y H Q) := by
  intro pins s σ H x y v u Q I rx ry q
  rcases q with q | q
  · exact h pins s σ H x y v u Q I rx ry q
  · exact h' pins s σ H x y v u Q I rx ry q

theorem nomark (b : Expr) {op : CmpOp} (h : op ≠ .In := by decide) (h2 : op ≠ .NotIn := by decide) : behindInMarks op b = false := by
  have e1 : (op == CmpOp.In) = false := by cases op <;> first | rfl | exact absurd rfl h
  have e2 : (op == CmpOp.NotIn) = false := by cases op <;> first | rfl | exact absurd rfl h2
  cases b <;> simp [behindInMarks, e1, e2]
theorem pe_cmpR {op : CmpOp} {r : R2} (ho : OpR X (compareOp op) r) (ha : PE X a ta) (hb : PE X b tb) (hm : behindInMarks op b = false) : PE X (.Compare a [op] [b] pos) (tOp r ta tb) := by
  intro pins s σ H Q I h
  exact wpAny_Compare1 (binT ha hb I h fun v u s2 x y H2 I2 rx ry q => ho pins s2 σ H2 x y v u Q I2 rx ry q) hm
def tTest (t : TE) : TT := fun σ H Q => t σ H fun x H' => ∃ k, x = .bl k ∧ Q k H'
theorem pt_cmpR {op : CmpOp} {r : R2} (ho : OpR X (compareOp op) r) (ha : PE X a ta) (hb : PE X b tb) (hm : behindInMarks op b = false) : PT X (.Compare a [op] [b] pos) (tTest (tOp r ta tb)) := by
  intro pins s σ H Q I h
  refine wpAny_isTrue_Compare1 (thn (ha pins s σ H _ I h) fun v s1 ⟨x, H1, I1, r1, q1⟩ => thn (hb pins s1 σ H1 _ I1 q1) fun u s2 ⟨y, H2, I2, r2, q2⟩ =>
    thn (ho pins s2 σ H2 x y v u _ I2 r1 r2 q2) fun c s3 ⟨z, H3, I3, r3, k, e, q3⟩ => ?_) hm
  subst e
  cases r3
  exact wpAny_truthy_bool ⟨H3, I3, q3⟩
def tChain (r r' : R2) (ta tb tc : TE) : TE := fun σ H Q => ta σ H fun x H1 => tb σ H1 fun y H2 => r x y H2 fun z H3 => ∃ k, z = .bl k ∧
  (if k = true then tc σ H3 fun w' H4 => r' y w' H4 Q else Q (.bl false) H3)
theorem pe_chain {op op' : CmpOp} {r r' : R2} (ho : OpR X (compareOp op) r) (ho' : OpR X (compareOp op') r') (ha : PE X a ta) (hb : PE X b tb) (hc : PE X c tc)
    (hm : lastMarks [op, op'] [b, c] = false := by with_unfolding_all rfl) : PE X (.Compare a [op, op'] [b, c] pos) (tChain r r' ta tb tc) := by
  intro pins s σ H Q I h
  refine Compare_chain (thn (ha pins s σ H _ I h) fun v s1 ⟨x, H1, I1, r1, q1⟩ => chain_link (thn (hb pins s1 σ H1 _ I1 q1) fun u s2 ⟨y, H2, I2, r2, q2⟩ =>
    thn (ho pins s2 σ H2 x y v u _ I2 r1 r2 q2) fun d s3 ⟨z, H3, I3, r3, k, e, q3⟩ => ?_)) hm
  subst e
  cases r3
  refine wpAny_truthy_bool ?_
  cases k with
  | false => exact ite_ff ⟨.bl false, H3, I3, rfl, q3⟩
  | true => exact ite_tt (chain_last (thn (hc pins s3 σ H3 _ I3 q3) fun w' s4 ⟨z', H4, I4, r4, q4⟩ => ho' pins s4 σ H4 y z' u w' Q I4 r2 r4 q4))
theorem pt_chain {op op' : CmpOp} {r r' : R2} (ho : OpR X (compareOp op) r) (ho' : OpR X (compareOp op') r') (ha : PE X a ta) (hb : PE X b tb) (hc : PE X c tc)
    (hm : lastMarks [op, op'] [b, c] = false := by with_unfolding_all rfl) : PT X (.Compare a [op, op'] [b, c] pos) (tTest (tChain r r' ta tb tc)) := by
  intro pins s σ H Q I h
  refine isTrue_chain (thn (ha pins s σ H _ I h) fun v s1 ⟨x, H1, I1, r1, q1⟩ => test_link (thn (hb pins s1 σ H1 _ I1 q1) fun u s2 ⟨y, H2, I2, r2, q2⟩ =>
    thn (ho pins s2 σ H2 x y v u _ I2 r1 r2 q2) fun d s3 ⟨z, H3, I3, r3, k, e, q3⟩ => ?_)) hm
  subst e
  cases r3
  refine wpAny_truthy_bool ?_
  cases k with
  | false =>
    obtain ⟨k', e', q'⟩ := q3
    cases e'
    exact ite_ff ⟨H3, I3, q'⟩
  | true =>
    refine ite_tt (test_last (thn (hc pins s3 σ H3 _ I3 q3) fun w' s4 ⟨z', H4, I4, r4, q4⟩ => thn (ho' pins s4 σ H4 y z' u w' _ I4 r2 r4 q4) fun d' s5 ⟨z2, H5, I5, r5, k2, e2, q5⟩ => ?_))
    subst e2
    cases r5
    exact wpAny_truthy_bool ⟨H5, I5, q5⟩

theorem line63 : (sizeLine : Nat) < 2 ^ 63 := by rw [sizeLine_eq]; decide

theorem op_add_str : OpR X (binaryOp .Add) (fun x y H Q => ∃ i j, x = .str i ∧ y = .str j ∧ i.length + j.length ≤ sizeLine ∧ Q (.str (i ++ j)) H) := by
  intro pins s σ H x y v u Q I rx ry h
  obtain ⟨i, j, rfl, rfl, hz, q⟩ := h
  obtain ⟨t, rfl⟩ := rx
  obtain ⟨t', rfl⟩ := ry
  exact add_str (fun t' tk => ⟨.str (i ++ j), H, I.tok _, ⟨_, rfl⟩, q⟩) hz


theorem vals1 {x : V} {us : List Value} (r : Vals [x] us) : ∃ u, us = [u] ∧ RelV x u := by
  cases r with
  | cons r1 r2 => cases r2; exact ⟨_, rfl, r1⟩
theorem vals2 {x y : V} {us : List Value} (r : Vals [x, y] us) : ∃ u w', us = [u, w'] ∧ RelV x u ∧ RelV y w' := by
  cases r with
  | cons r1 r2 =>
    cases r2 with
    | cons r3 r4 => cases r4; exact ⟨_, _, rfl, r1, r3⟩
theorem call_max2 (hc : X.calm = true) : CallR X (.builtin "max") (fun xs H Q => ∃ i j, xs = [.int i, .int j] ∧ Q (.int (if j > i then j else i)) H) := by
  intro pins s σ H xs us Q I r h
  obtain ⟨i, j, rfl, q⟩ := h
  obtain ⟨u, w', rfl, ⟨t, rfl⟩, ⟨t', rfl⟩⟩ := vals2 r
  refine max_two_ints (I.ok.hd hc) fun h' tk k => ⟨_, H, I.kept k, ?_, q⟩
  by_cases hj : j > i
  · rw [if_pos hj, if_pos hj]; exact ⟨_, rfl⟩
  · rw [if_neg hj, if_neg hj]; exact ⟨_, rfl⟩
end
end L2

namespace L2
open PySem PySem.Spec PyProof.Rows

structure ObjM (h : Heap) (x dx C : Addr) (mA : Str → Option Value) : Prop where
  obj : h.get? x = some (PySem.W.instObj C dx)
  ns : h.Ns1 dx mA
  ne : dx ≠ x

theorem lookIn_ns {h : Heap} {dx : Addr} {mA : Str → Option Value} (n : h.Ns1 dx mA) : ∃ od, h.get? dx = some od ∧ ∀ name, PySem.W.lookIn name od = some (mA name) := by
  obtain ⟨o, es, ep, ho, hd, hk, _, hm⟩ := n
  refine ⟨o, ho, fun name => ?_⟩
  have e := hm name
  unfold nsFind findBy at e
  rw [← Array.find?_toList] at e
  unfold PySem.W.lookIn
  rw [hd]
  dsimp only
  split
  · rename_i y q
    rw [q] at e
    exact congrArg some e
  · rename_i q
    rw [q] at e
    have a : es.toList.any (·.refKey) = false := by
      rw [List.any_eq_false]
      intro y hy
      obtain ⟨z, t, hkey⟩ := hk y (Array.mem_toList_iff.mp hy)
      simp [DictEntry.refKey, hkey]
    have a' : ¬ es.toList.any (·.refKey) = true := by rw [a]; exact Bool.false_ne_true
    rw [if_neg a']
    exact congrArg some e

theorem ObjM.look {h : Heap} {x dx C : Addr} {mA : Str → Option Value} (I : ObjM h x dx C mA) : ∃ od, PySem.W.InstAt h x (PySem.W.instObj C dx) C (some od) ∧ ∀ name, PySem.W.lookIn name od = some (mA name) :=
  let ⟨od, ho, hl⟩ := lookIn_ns I.ns
  ⟨od, ⟨I.obj, rfl, rfl, ho⟩, hl⟩

section
variable {prog : Program} {w : World} {A : Around} {E : Value → Shared → Prop} {s : Shared} {K : PySem.W.Frag} {x dx C f : Addr} {mA : Str → Option Value} {name : Str} {v : Value}





end


theorem RelO.some_of {v : V} {o : Option Value} (r : RelO (some v) o) : ∃ u, o = some u ∧ RelV v u := by
  cases o with
  | none => exact (show False from r).elim
  | some u => exact ⟨u, rfl, r⟩
theorem RelO.none_of {o : Option Value} (r : RelO none o) : o = none := by
  cases o with
  | none => rfl
  | some u => exact (show False from r).elim

section
variable {P : Program} {w : World} {H H' : Hp} {h h' : Heap} {a C dx : Addr} {fs fs' : List (Str × V)}
end

structure Cls (K : PySem.W.Frag) (C : Addr) : Prop where
  pg : PySem.W.plainGet K C Str.empty = true
  hd : PySem.W.hasDictIn K C = true
  po : PySem.W.plainOver K C = true
  sa : PySem.W.findIn K (.ref C) "__setattr__" = some (some (.builtin "object.__setattr__"))
theorem Cls.get {K : PySem.W.Frag} {C : Addr} (c : Cls K C) (f : Str) : PySem.W.plainGet K C f = true := c.pg
structure Con (K : PySem.W.Frag) (C : Addr) (f : Str) (v : V) (u : Value) : Prop where
  at_ : PySem.W.findIn K (.ref C) f = some (some u)
  rel : RelV v u
  get : PySem.W.specialIn K u "__get__" = some none
  cp : PySem.W.copiedNames.contains f = false
structure Meth (K : PySem.W.Frag) (C : Addr) (m : Str) (f : Addr) : Prop where
  at_ : PySem.W.findIn K (.ref C) m = some (some (.ref f))
  fn : PySem.W.isFn K (.ref f) = true
  kp : PySem.W.keepIn K (.ref f) = true

section
variable {X : Cx} {pins : List (Addr × Obj)} {σ : St} {H : Hp} {s : Shared} {a C dx : Addr} {fs : List (Str × V)} {f : Str} {v : V} {A : Around} {E : Value → Shared → Prop}





theorem Inv.made (I : Inv X pins σ H s) : Inv X pins σ (upd (upd H s.heap.objs.size (.own (s.heap.objs.size + 1))) (s.heap.objs.size + 1) (.ins C s.heap.objs.size []))
    { s with heap := (s.heap.push PySem.W.emptyDict).push (PySem.W.instObj C s.heap.objs.size) } := by
  have e1 : (s.heap.push PySem.W.emptyDict).get? s.heap.objs.size = some PySem.W.emptyDict := Heap.get?_push_size s.heap rfl
  have e2 : ((s.heap.push PySem.W.emptyDict).push (PySem.W.instObj C s.heap.objs.size)).get? (s.heap.objs.size + 1) = some (PySem.W.instObj C s.heap.objs.size) := by
    have := Heap.get?_push_size (s.heap.push PySem.W.emptyDict) (o := PySem.W.instObj C s.heap.objs.size) rfl
    rwa [Heap.size_push] at this
  have e3 : (s.heap.push PySem.W.emptyDict).Ns s.heap.objs.size (fun _ => none) := ⟨PySem.W.emptyDict, #[], _, e1, rfl, (fun e he => absurd he (by simp)), fun _ => rfl⟩
  have I1 := I.laid (a := s.heap.objs.size) (o := .own (s.heap.objs.size + 1)) (h' := s.heap.push PySem.W.emptyDict) (t' := s.toks) (fun b u q => Heap.get?_push_of_some _ q) (Nat.le_refl _) ⟨_, e1⟩
  refine I1.laid (a := s.heap.objs.size + 1) (o := .ins C s.heap.objs.size []) (t' := s.toks) (fun b u q => Heap.get?_push_of_some _ q) (Nat.le_of_eq (Heap.size_push _ _)) ?_
  have ne : s.heap.objs.size ≠ s.heap.objs.size + 1 := Nat.ne_of_lt (Nat.lt_succ_self _)
  refine ⟨by rw [upd_ne ne, upd_same], Nat.zero_le _, ne, e2, fun _ => none, (Heap.Ns1.of_empty e3).at fun o q => Heap.get?_push_of_some _ q, fun _ => True.intro, fun y hy => absurd rfl hy⟩

end


section
variable {X : Cx} {o e value : Expr} {f : Str} {pos pos' tpos : Pos} {ta tv : TE}

end

section
variable {X : Cx} {pins : List (Addr × Obj)} {σ : St} {H : Hp} {s : Shared} {A : Around} {E : Value → Shared → Prop} {Q : Value → Shared → Prop} {c : Value} {b : Bool}
inductive TyOf (K : PySem.W.Frag) (H : Hp) : V → Value → Prop where
  | non : TyOf K H .non (.type "NoneType")
  | bl (x : Bool) : TyOf K H (.bl x) (.type "bool")
  | int (i : Int) : TyOf K H (.int i) (.type "int")
  | str (x : Str) : TyOf K H (.str x) (.type "str")
  | flt (x : UInt64) : TyOf K H (.flt x) (.type "float")
  | lst {a : Addr} {xs : List V} (e : H a = some (.lst xs)) : TyOf K H (.ref a) (.type "list")
  | frz {a : Addr} {o : Obj} {xs : List V} (e : H a = some (.frz o (.lst xs))) : TyOf K H (.ref a) (.type "list")
  | tup {a : Addr} {xs : List V} (e : H a = some (.tup xs)) : TyOf K H (.ref a) (.type "tuple")
  | dK {a : Addr} {kvs : List (Key × V)} (e : H a = some (.dK kvs)) : TyOf K H (.ref a) (.type "dict")
  | dT {a : Addr} {kvs : List (List Key × V)} (e : H a = some (.dT kvs)) : TyOf K H (.ref a) (.type "dict")
  | ins {a C dx : Addr} {fs : List (Str × V)} (e : H a = some (.ins C dx fs)) (cl : Cls K C) (ha : PySem.W.findIn K (.ref C) "__class__" = some (some (.builtin "object.__class__")))
      (hn : PySem.W.specialIn K (.builtin "object.__class__") "__get__" = some (some (.builtin "getset_descriptor.__get__"))) (htk : PySem.W.takesIn K (.builtin "object.__class__") = some true)
      (hm : PySem.W.mroIn K C (.type "object") = some true) : TyOf K H (.ref a) (.ref C)
end
end L2

namespace L2
open PySem PySem.Spec PyProof.Rows

structure Room (k : Nat) (A : Around) : Prop where
  hd : A.handled = none
  dp : A.depth + 3 * k + 5 < recursionLimit
  un : A.units + 16 * k + 200 < cLine
  gd : A.guards = some []
theorem Room.mono {j k : Nat} {A : Around} (r : Room k A) (h : j ≤ k) : Room j A := ⟨r.hd, by have := r.dp; omega, by have := r.un; omega, r.gd⟩
theorem Room.deeper {k : Nat} {A : Around} (r : Room (k + 1) A) (env : Env) : Room k (A.deeper env) :=
  ⟨r.hd, by have := r.dp; show A.depth + 1 + 3 * k + 5 < _; omega, by have := r.un; show A.units + 3 + 16 * k + 200 < _; omega, r.gd⟩
theorem Room.in1 {k : Nat} {A : Around} (r : Room (k + 1) A) : Room k A.in1 :=
  ⟨r.hd, by have := r.dp; show A.depth + 3 * k + 5 < _; omega, by have := r.un; show A.units + 1 + 16 * k + 200 < _; omega, r.gd⟩
theorem make_depth {A : Around} {C : Addr} {us : List Value} {kw : List (Str × Value)} : (A.under (.builtin "type.__call__" ⟨.ref C :: us, kw⟩)).depth = A.depth + 1 := by
  first | rfl | simp [Around.under, Code.weight, Code.isCreation, Code.isGuard, Code.isCaller, Code.frames, Code.isFrame, guardIds]
theorem make_units {A : Around} {C : Addr} {us : List Value} {kw : List (Str × Value)} : (A.under (.builtin "type.__call__" ⟨.ref C :: us, kw⟩)).units = A.units + 1 := by
  first | rfl | simp [Around.under, Code.cUnits, Code.frames, Code.isFrame]
theorem Room.make {k : Nat} {A : Around} (r : Room (k + 1) A) (C : Addr) (us : List Value) (kw : List (Str × Value)) : Room k (A.under (.builtin "type.__call__" ⟨.ref C :: us, kw⟩)) :=
  ⟨r.hd, by have := r.dp; rw [make_depth]; omega, by have := r.un; rw [make_units]; omega, r.gd⟩
theorem Room.depth {k : Nat} {A : Around} (r : Room k A) : A.depth < recursionLimit := by have := r.dp; omega
theorem Room.units {k : Nat} {A : Around} (r : Room k A) : A.units + 64 < cLine := by have := r.un; omega

def tNil : TA := fun _ H Q => Q [] H
def tCons (ta : TE) (tr : TA) : TA := fun σ H Q => ta σ H fun x H1 => tr σ H1 fun xs H2 => Q (x :: xs) H2
section
variable {X : Cx} {e : Expr} {es : List Expr} {te : TE} {t : TA} {pos : Pos}
theorem pa_nil : PA X [] tNil := fun _ _ _ _ H Q I h => Calls.spliced_nil ⟨[], H, I, .nil, h⟩
theorem pa_cons (ha : PE X e te) (hr : PA X es t) (hs : starEach (e :: es) X.env = (false, eval e X.env) :: starEach es X.env := by rfl) : PA X (e :: es) (tCons te t) := by
  intro pos pins s σ H Q I h
  rw [hs]
  show wpAny _ _ (spliced ((false, eval e X.env) :: backTo pos (starEach es X.env))) _ _ s
  refine Calls.spliced_cons (thn (ha pins s σ H _ I h) fun u s1 ⟨x, H1, I1, r1, q1⟩ => ?_)
  exact thn (hr pos pins s1 σ H1 _ I1 q1) fun us s2 ⟨xs, H2, I2, r2, q2⟩ => ⟨x :: xs, H2, I2, .cons r1 r2, q2⟩

def tTup (t : TA) : TE := fun σ H Q => t σ H fun xs H1 => xs.length ≤ sizeLine ∧ ∀ p, H1 p = none → Q (.ref p) (upd H1 p (.tup xs))
def tLst (t : TA) : TE := fun σ H Q => t σ H fun xs H1 => xs.length ≤ sizeLine ∧ ∀ p, H1 p = none → Q (.ref p) (upd H1 p (.lst xs))
theorem pe_tup {x1} (h : PA X es t) : PE X (.Tuple es x1 pos) (tTup t) := by
  intro pins s σ H Q I hq
  refine wpAny_Tuple_spliced (thn (h pos pins s σ H _ I hq) fun us s1 ⟨xs, H1, I1, r, z, q⟩ => ⟨by rw [← r.length]; exact z, ?_⟩)
  have hf : H1 s1.heap.objs.size = none := I1.hok.fresh (Nat.le_refl _)
  refine ⟨.ref s1.heap.objs.size, upd H1 s1.heap.objs.size (.tup xs), I1.laid (t' := s1.toks) (fun b u e => Heap.get?_push_of_some _ e) (Nat.le_refl _) ?_, rfl, q _ hf⟩
  exact ⟨z, us, r, ⟨_, Heap.get?_push_size _ rfl, rfl, _, rfl⟩⟩
theorem pe_lst (h : PA X es t) : PE X (.List es pos) (tLst t) := by
  intro pins s σ H Q I hq
  refine wpAny_List_spliced (thn (h pos pins s σ H _ I hq) fun us s1 ⟨xs, H1, I1, r, z, q⟩ => ⟨by rw [← r.length]; exact z, ?_⟩)
  have hf : H1 s1.heap.objs.size = none := I1.hok.fresh (Nat.le_refl _)
  refine ⟨.ref s1.heap.objs.size, upd H1 s1.heap.objs.size (.lst xs), I1.laid (t' := s1.toks) (fun b u e => Heap.get?_push_of_some _ e) (Nat.le_refl _) ?_, rfl, q _ hf⟩
  exact ⟨z, us, 0, r, Heap.get?_push_size _ rfl⟩
end

abbrev Sp := List V → Hp → VK → XK → Prop
abbrev CXT := List Env → Hp → Shared → XK → Value → Shared → Prop

structure Env0 (P : Program) (w : World) (K : PySem.W.Frag) (mg : Str → Option Value) (base : Heap) (A : Around) (outer : List Env) (s : Shared) (H : Hp) : Prop where
  frames : A.frames = some outer
  mod : Mod K mg base
  bs : ∀ b o, base.get? b = some o → s.heap.get? b = some o ∧ H b = none
  bsz : base.objs.size ≤ s.heap.objs.size
  funs : s.heap.FunFrames base outer
  frf : ∀ b ∈ frs outer, H b = none
  hok : HOk P w H s.heap
  bare : AllBare s.gens
def CE (outer : List Env) (P : Program) (w : World) (H : Hp) (s : Shared) (Q : VK) (u : Value) (s' : Shared) : Prop :=
  ∃ v H', s'.os = s.os ∧ AllBare s'.gens ∧ Un (frs outer) [] H H' s.heap s'.heap ∧ HOk P w H' s'.heap ∧ RelV v u ∧ Q v H'
def CR (CX : CXT) (outer : List Env) (P : Program) (w : World) (H : Hp) (s : Shared) (Q : VK) (E : XK) (r : Result) (s' : Shared) : Prop :=
  match r with
  | .ok (.ret u) => CE outer P w H s Q u s'
  | .ok _ => False
  | .error e => CX outer H s E e s'
structure FnOk (P : Program) (w : World) (K : PySem.W.Frag) (mg : Str → Option Value) (base : Heap) (CX : CXT) (k : Nat) (f : Addr) (fd : FuncData) (ps : List Str) (sp : Sp) : Prop where
  len : ∀ vs H Q E, sp vs H Q E → vs.length = ps.length
  run : ∀ (A : Around) (outer : List Env) (s : Shared) (H : Hp) (args : Args) (us : List Value) (vs : List V) (Q : VK) (E : XK), Room k A → Env0 P w K mg base A outer s H → BindsTo s fd args (ps.zip us) → Vals vs us → sp vs H Q E →
    codeAny (model P w) A (.call (.ref f) args) (CR CX outer P w H s Q E) s
theorem FnOk.mono {P : Program} {w : World} {K : PySem.W.Frag} {mg : Str → Option Value} {base : Heap} {CX : CXT} {j k : Nat} {f : Addr} {fd : FuncData} {ps : List Str} {sp : Sp} (F : FnOk P w K mg base CX j f fd ps sp) (h : j ≤ k) :
    FnOk P w K mg base CX k f fd ps sp := ⟨F.len, fun A outer s H args us vs Q E hr => F.run A outer s H args us vs Q E (hr.mono h)⟩
theorem FnOk.imp {P : Program} {w : World} {K : PySem.W.Frag} {mg : Str → Option Value} {base : Heap} {CX : CXT} {k : Nat} {f : Addr} {fd : FuncData} {ps : List Str} {sp sp' : Sp} (F : FnOk P w K mg base CX k f fd ps sp)
    (h : ∀ vs H Q E, sp' vs H Q E → sp vs H Q E) : FnOk P w K mg base CX k f fd ps sp' :=
  ⟨fun vs H Q E q => F.len vs H Q E (h _ _ _ _ q), fun A outer s H args us vs Q E hr he hb hv hs => F.run A outer s H args us vs Q E hr he hb hv (h _ _ _ _ hs)⟩

theorem Env0.make {P : Program} {w : World} {K : PySem.W.Frag} {mg : Str → Option Value} {base : Heap} {A : Around} {outer : List Env} {s : Shared} {H : Hp} (e : Env0 P w K mg base A outer s H) (C : Addr) (us : List Value) (kw : List (Str × Value)) :
    Env0 P w K mg base (A.under (.builtin "type.__call__" ⟨.ref C :: us, kw⟩)) outer s H := ⟨by first | exact e.frames | (simpa [Around.under, Code.envs, Code.isFrame, pushEnvs] using e.frames), e.mod, e.bs, e.bsz, e.funs, e.frf, e.hok, e.bare⟩
theorem Env0.in1 {P : Program} {w : World} {K : PySem.W.Frag} {mg : Str → Option Value} {base : Heap} {A : Around} {outer : List Env} {s : Shared} {H : Hp} (e : Env0 P w K mg base A outer s H) :
    Env0 P w K mg base A.in1 outer s H := ⟨e.frames, e.mod, e.bs, e.bsz, e.funs, e.frf, e.hok, e.bare⟩

section
variable {X : Cx} {pins : List (Addr × Obj)} {σ : St} {H : Hp} {s s' : Shared}
theorem Inv.env0 (I : Inv X pins σ H s) : Env0 X.prog X.w X.K X.mg X.base X.A X.stack s H :=
  ⟨I.ok.frames, I.ok.mod, I.bs, Nat.le_trans I.ok.bsz I.sz, I.stack, I.stkFree, I.hok, I.bare⟩
theorem Inv.after {Q : VK} {u : Value} (I : Inv X pins σ H s) (h : CE X.stack X.prog X.w H s Q u s') : EP X pins σ Q u s' := by
  obtain ⟨v, H', os, bare, un, hok, r, q⟩ := h
  obtain ⟨hh, g, d, t, os'⟩ := s'
  obtain rfl : os' = s.os := os
  exact ⟨v, H', I.call (h' := hh) (g' := g) (d' := d) (t' := t) (ch := []) un hok bare (fun b z => absurd z (by simp)), r, q⟩
end

def tCall (sp : Sp) (dvs : List V) (E : XK) (t : TA) : TE := fun σ H Q => t σ H fun vs H1 => sp (vs ++ dvs) H1 Q E

def Binds (K : PySem.W.Frag) (fd : FuncData) (ps : List Str) (ds : List Value) : Prop :=
  ∀ (s : Shared) (us : List Value), K.In s.heap → (us ++ ds).length = ps.length → BindsTo s fd ⟨us, []⟩ (ps.zip (us ++ ds))
theorem Binds.all {K : PySem.W.Frag} {fd : FuncData} {ps : List Str} (h : ∀ us : List Value, us.length = ps.length → bindArgs fd ⟨us, []⟩ = pure (ps.zip us)) : Binds K fd ps [] := fun s us _ hl => by
  rw [List.append_nil] at hl ⊢
  exact .of_eq (h us hl)

def Passes (CX : CXT) (X : Cx) (E : XK) : Prop := ∀ (pins : List (Addr × Obj)) (σ : St) (H : Hp) (s : Shared) (e : Value) (s' : Shared), Inv X pins σ H s → CX X.stack H s E e s' → X.xe e s'

section
variable {X : Cx} {CX : CXT} {k : Nat} {f C : Addr} {fd : FuncData} {ps : List Str} {sp : Sp} {dvs : List V} {ds : List Value} {E : XK} {x m : Str} {p pos apos : Pos} {e o : Expr} {es : List Expr} {ta : TE} {t : TA}

theorem run_fn {pins : List (Addr × Obj)} {σ : St} {H : Hp} {s : Shared} {Q : VK} {us : List Value} {vs : List V} (F : FnOk X.prog X.w X.K X.mg X.base CX k f fd ps sp) (hr : Room k X.A) (hb : Binds X.K fd ps ds) (hd : Vals dvs ds) (hx : Passes CX X E)
    (I : Inv X pins σ H s) (r : Vals vs us) (h : sp (vs ++ dvs) H Q E) : wpAny (model X.prog X.w) X.A (call (.ref f) us) (EP X pins σ Q) X.xe s := by
  have r2 : Vals (vs ++ dvs) (us ++ ds) := r.append hd
  have hl : (us ++ ds).length = ps.length := by rw [← r2.length]; exact F.len _ _ _ _ h
  refine wpAny_call (codeAny_mono (F.run X.A X.stack s H ⟨us, []⟩ (us ++ ds) (vs ++ dvs) Q E hr I.env0 (hb s us I.kIn hl) r2 h) fun r s' hq => ?_)
  cases r with
  | error e => exact hx pins σ H s e s' I hq
  | ok fl =>
    cases fl with
    | ret u => exact I.after hq
    | next => exact False.elim hq
    | brk => exact False.elim hq
    | cont => exact False.elim hq

theorem pe_call (F : FnOk X.prog X.w X.K X.mg X.base CX k f fd ps sp) (hr : Room k X.A) (hg : Gl X x) (hm : X.mg x = some (.ref f)) (hk : PySem.W.keepIn X.K (.ref f) = true) (hb : Binds X.K fd ps ds) (hd : Vals dvs ds) (hx : Passes CX X E)
    (ha : PA X (e :: es) t) (hdb : (x == ("__debug__" : Str)) = false := by decide) (he : starEach (e :: es) X.env = (false, eval e X.env) :: starEach es X.env := by rfl) (hpl : (backTo pos (starEach es X.env)).any (·.1) = false := by rfl) :
    PE X (.Call (.Name x p) (e :: es) [] pos) (tCall sp dvs E t) := by
  intro pins s σ H Q I h
  refine wpAny_Call_Name_kw (ld_glob I hg hm ?_ hdb)
  refine PySem.W.callWith_K (h₀ := X.base) I.ok.mod.kin hk (thn (ha pos pins s σ H _ I h) fun us s1 ⟨vs, H1, I1, r, q⟩ => ⟨I1.kIn, ?_⟩) he hpl
  exact run_fn F hr hb hd hx I1 r q
theorem pe_call0 (F : FnOk X.prog X.w X.K X.mg X.base CX k f fd ps sp) (hr : Room k X.A) (hg : Gl X x) (hm : X.mg x = some (.ref f)) (hk : PySem.W.keepIn X.K (.ref f) = true) (hb : Binds X.K fd ps ds) (hd : Vals dvs ds) (hx : Passes CX X E)
    (hdb : (x == ("__debug__" : Str)) = false := by decide) : PE X (.Call (.Name x p) [] [] pos) (tCall sp dvs E tNil) := by
  intro pins s σ H Q I h
  refine wpAny_Call_Name_kw (ld_glob I hg hm ?_ hdb)
  exact PySem.W.callWith_K0 I.kIn hk (run_fn (us := []) F hr hb hd hx I .nil h)


structure Mk (K : PySem.W.Frag) (C f : Addr) : Prop where
  makes : PySem.W.makesIn K C = true
  init : PySem.W.findIn K (.ref C) "__init__" = some (some (.ref f))
  fn : PySem.W.isFn K (.ref f) = true
  kp : PySem.W.keepIn K (.ref C) = true

end

section
variable {X : Cx} {CX : CXT} {k : Nat} {f C : Addr} {fd : FuncData} {ps ks : List Str} {sp : Sp} {E : XK} {x m : Str} {p pos apos kpos : Pos} {e o : Expr} {es : List Expr} {kws : List Keyword} {te ta : TE} {t tk : TA} {nm : Option Str}

structure KBinds (K : PySem.W.Frag) (fd : FuncData) (ps ks : List Str) (g : List Value → List Value → List Value) (gV : List V → List V → List V) : Prop where
  to : ∀ (s : Shared) (us ws : List Value), K.In s.heap → (g us ws).length = ps.length → BindsTo s fd ⟨us, ks.zip ws⟩ (ps.zip (g us ws))
  rel : ∀ {vs : List V} {us : List Value} {zs : List V} {ws : List Value}, Vals vs us → Vals zs ws → Vals (gV vs zs) (g us ws)
variable {g : List Value → List Value → List Value} {gV : List V → List V → List V}
end

structure FnScope (N P : List Str) (sc : Scope) : Prop where
  kind : sc.kind = .function
  co : sc.isCoroutine = false
  gen : sc.isGenerator = false
  nd : N.Nodup
  pre : N.take P.length = P
  par : ∀ x ∈ P, sc.names.lookup x = some .local ∨ sc.names.lookup x = some .cell
  nofree : ∀ y ∈ sc.names, y.2 ≠ .free

theorem bindL_out {kindOf : Str → Option NameKind} {x : Str} : ∀ {binds : List (Str × Value)} {m : Str → Option Value}, (∀ v, (x, v) ∉ binds) → bindL kindOf binds m x = m x
  | [], _, _ => rfl
  | (n, v) :: r, m, h => by
    unfold bindL
    rw [bindL_out fun w hw => h w (List.mem_cons_of_mem _ hw)]
    split
    · have : x ≠ n := by rintro rfl; exact h v List.mem_cons_self
      simp [this]
    · rfl
theorem bindC_out {kindOf : Str → Option NameKind} {x : Str} : ∀ {binds : List (Str × Value)} {m : Str → Option Value}, (∀ v, (x, v) ∉ binds) → bindC kindOf binds m x = m x
  | [], _, _ => rfl
  | (n, v) :: r, m, h => by
    unfold bindC
    rw [bindC_out fun w hw => h w (List.mem_cons_of_mem _ hw)]
    split
    · rfl
    · have : x ≠ n := by rintro rfl; exact h v List.mem_cons_self
      simp [this]
theorem bindL_get {kindOf : Str → Option NameKind} {x : Str} {v : Value} : ∀ {P : List Str} {vs : List Value} {i : Nat} {m : Str → Option Value}, P.Nodup → P[i]? = some x → vs[i]? = some v → kindOf x = some .local →
    bindL kindOf (P.zip vs) m x = some v
  | [], _, _, _, _, h, _, _ => by simp at h
  | _ :: _, [], _, _, _, _, h, _ => by simp at h
  | p :: P, w :: vs, 0, m, nd, h1, h2, hk => by
    simp at h1 h2; subst h1; subst h2
    show bindL kindOf ((p, w) :: P.zip vs) m p = _
    unfold bindL
    rw [bindL_out fun v hv => (List.nodup_cons.mp nd).1 (List.of_mem_zip hv).1, if_pos hk]
    simp
  | p :: P, w :: vs, i + 1, m, nd, h1, h2, hk => by
    show bindL kindOf ((p, w) :: P.zip vs) m x = _
    unfold bindL
    exact bindL_get (i := i) (List.nodup_cons.mp nd).2 (by simpa using h1) (by simpa using h2) hk
theorem bindC_get {kindOf : Str → Option NameKind} {x : Str} {v : Value} : ∀ {P : List Str} {vs : List Value} {i : Nat} {m : Str → Option Value}, P.Nodup → P[i]? = some x → vs[i]? = some v → kindOf x ≠ some .local →
    bindC kindOf (P.zip vs) m x = some v
  | [], _, _, _, _, h, _, _ => by simp at h
  | _ :: _, [], _, _, _, _, h, _ => by simp at h
  | p :: P, w :: vs, 0, m, nd, h1, h2, hk => by
    simp at h1 h2; subst h1; subst h2
    show bindC kindOf ((p, w) :: P.zip vs) m p = _
    unfold bindC
    rw [bindC_out fun v hv => (List.nodup_cons.mp nd).1 (List.of_mem_zip hv).1, if_neg hk]
    simp
  | p :: P, w :: vs, i + 1, m, nd, h1, h2, hk => by
    show bindC kindOf ((p, w) :: P.zip vs) m x = _
    unfold bindC
    exact bindC_get (i := i) (List.nodup_cons.mp nd).2 (by simpa using h1) (by simpa using h2) hk

def start (N : List Str) (vs : List V) : St := vs.map some ++ List.replicate (N.length - vs.length) none

def cxOf (CX : CXT) (P : Program) (w : World) (K : PySem.W.Frag) (mg : Str → Option Value) (base : Heap) (N : List Str) (qual : Str) (scope : Scope) (f : Addr) (cd : Value) (A : Around) (outer : List Env) (s : Shared) (H : Hp) (E : XK) : Cx where
  prog := P
  w := w
  K := K
  mg := mg
  base := base
  A := A.deeper (envOfC qual scope s.heap.objs.size f cd)
  N := N
  s₀ := s
  H₀ := H
  env := envOfC qual scope s.heap.objs.size f cd
  outer := outer
  stack := envOfC qual scope s.heap.objs.size f cd :: outer
  ex := []
  calm := true
  fn := fun _ => true
  pn := []
  xe := fun e s' => wpAny (model P w) (A.deeper (envOfC qual scope s.heap.objs.size f cd)) (leaving (envOfC qual scope s.heap.objs.size f cd) e) (fun _ s'' => CX outer H s E e s'') (fun e' s'' => CX outer H s E e' s'') s'

theorem cell_has {sc : Scope} {n : Nat} {x : Str} (h : sc.names.lookup x = some .cell) : ∃ c, (cellsFrom n sc.names []).lookup x = some c := by
  have q := PySem.W.cellsFrom_some sc.names n [] (.inl h)
  exact Option.isSome_iff_exists.mp q

theorem inv_start {CX : CXT} {P : Program} {w : World} {K : PySem.W.Frag} {mg : Str → Option Value} {base : Heap} {N ps : List Str} {qual : Str} {scope : Scope} {f : Addr} {cd : Value} {A : Around} {outer : List Env} {s s1 : Shared} {H : Hp} {E : XK} {us : List Value} {vs : List V}
    (S : FnScope N ps scope) (hd : A.handled = none) (e0 : Env0 P w K mg base A outer s H) (hl : vs.length = ps.length) (r : Vals vs us)
    (x : InCallC s s.heap.objs.size (bindL (envOfC qual scope s.heap.objs.size f cd).kindOf (ps.zip us) fun _ => none) (cellsFrom (s.heap.objs.size + 1) scope.names []) (bindC (envOfC qual scope s.heap.objs.size f cd).kindOf (ps.zip us) fun _ => none) s1) :
    Inv (cxOf CX P w K mg base N qual scope f cd A outer s H E) [] (start N vs) H s1 := by
  have hpl : ps.length ≤ N.length := by have := congrArg List.length S.pre; rw [List.length_take] at this; omega
  obtain ⟨h1, tk, rfl, hk⟩ := x.done
  have noA : ∀ b : Addr, b ∉ (cxOf CX P w K mg base N qual scope f cd A outer s H E).ex := fun b z => absurd (show b ∈ ([] : List Addr) from z) (by simp)
  refine ⟨⟨e0.mod, S.kind, rfl, rfl, Nat.le_refl _, fun y z c h1 h2 => ?_, fun y hy => ?_, fun y c _ h => ?_, fun _ => hd, Around.frames_deeper e0.frames, .inr ⟨rfl, rfl⟩, fun b z => absurd z (noA b), e0.bs, e0.bsz, fun b _ _ => noA b, fun b z => absurd z (noA b), e0.funs, e0.frf⟩,
    rfl, e0.bare, Un.kept hk, ⟨_, x.toInCall.ns, fun i y v h1 h2 h3 => ?_⟩, fun y c h => ⟨_, x.cell y c h⟩, e0.hok.fresh (Nat.le_refl _), fun y c h => ?_, fun p hp => absurd (show p ∈ ([] : List (Addr × Obj)) from hp) (by simp), e0.hok.kept hk, ?_⟩
  · exact name_of_addr x.apart (PySem.mem_of_lookup h1) (PySem.mem_of_lookup h2)
  · have hy : scope.names.lookup y = some .cell ∨ scope.names.lookup y = some .free := hy
    rcases hy with hy | hy
    · exact cell_has hy
    · exact absurd rfl (S.nofree _ (PySem.mem_of_lookup hy))
  · exact Nat.le_of_lt (x.above y c (PySem.mem_of_lookup h))
  · have hi : i < vs.length := by
      unfold start at h2
      by_cases hi : i < vs.length
      · exact hi
      · rw [List.getElem?_append_right (by simpa using hi)] at h2
        rw [List.getElem?_replicate] at h2
        split at h2 <;> cases h2
    have ha : vs[i]? = some v := by
      unfold start at h2
      rw [List.getElem?_append_left (by simpa using hi), List.getElem?_map] at h2
      cases e : vs[i]? with
      | none => rw [e] at h2; cases h2
      | some a => rw [e] at h2; cases h2; rfl
    obtain ⟨u, hu, rv⟩ := r.get ha
    have hp : ps[i]? = some y := by
      rw [← S.pre, List.getElem?_take_of_lt (by omega)]; exact h1
    have ndP : ps.Nodup := by rw [← S.pre]; exact S.nd.sublist (List.take_sublist _ _)
    refine ⟨u, rv, ?_⟩
    rcases S.par y (List.mem_of_getElem? hp) with k | k
    · exact .inl ⟨k, bindL_get ndP hp hu k⟩
    · obtain ⟨c, e⟩ := cell_has (n := s.heap.objs.size + 1) k
      refine .inr ⟨.inl k, c, e, ?_⟩
      have q := x.cell y c e
      rw [bindC_get ndP hp hu (by show scope.names.lookup y ≠ _; rw [k]; decide)] at q
      exact q
  · exact e0.hok.fresh (Nat.le_of_lt (x.above y c (PySem.mem_of_lookup h)))
  · unfold start
    show _ = N.length
    rw [List.length_append, List.length_map, List.length_replicate]
    omega

theorem fn_of {CX : CXT} {P : Program} {w : World} {K : PySem.W.Frag} {mg : Str → Option Value} {base : Heap} {k : Nat} {f : Addr} {name qual : Str} {params : Arguments} {body : List Stmt} {scope : Scope} {dV kV doc pm cdv ct oc : Value} {an od : Option Addr}
    {osl : Array (Option Value)} {N ps : List Str} {sp : Sp} (lk : K.lookup f = some ⟨oc, od, .func (PySem.W.fnOf name qual params body scope dV kV doc pm an cdv ct), osl⟩) (hcd : PySem.W.codeIn K cdv qual = true) (S : FnScope N ps scope)
    (len : ∀ vs H Q E, sp vs H Q E → vs.length = ps.length)
    (hbody : ∀ (A : Around) (outer : List Env) (s : Shared) (H : Hp) (vs : List V) (Q : VK) (E : XK), Room k (A.deeper (envOfC qual scope s.heap.objs.size f cdv)) → sp vs H Q E →
      ∃ t, PSs (cxOf CX P w K mg base N qual scope f cdv A outer s H E) body t ∧ t { nx := fun _ H' => Q .non H', rt := Q } (start N vs) H) :
    FnOk P w K mg base CX (k + 1) f (PySem.W.fnOf name qual params body scope dV kV doc pm an cdv ct) ps sp := by
  refine ⟨len, fun A outer s H args us vs Q E hr e0 hb r hsp => ?_⟩
  have hl := len _ _ _ _ hsp
  have KX : K.In s.heap := e0.mod.kin.keeps fun b o e => (e0.bs b o e).1
  have lim : s.heap.NoLimit := e0.mod.nolimit.keeps fun b o e => (e0.bs b o e).1
  have hkind : ∀ y ∈ ps.zip us, scope.names.lookup y.1 = some .local ∨ (scope.names.lookup y.1 = some .cell ∧ ((cellsFrom (s.heap.objs.size + 1) scope.names []).lookup y.1).isSome = true) := fun ⟨n, v⟩ hy => by
    rcases S.par n (List.of_mem_zip hy).1 with q | q
    · exact .inl q
    · exact .inr ⟨q, PySem.W.cellsFrom_some _ _ _ (.inl q)⟩
  refine codeAny_call_function hr.depth (KX _ _ lk) rfl S.co S.gen rfl (PySem.W.codeRec_of KX hcd) (hb _ _ _ _ ?_)
  refine wpAny_newFunctionEnv_cells S.kind hkind fun env he s1 x => ?_
  subst he
  refine ⟨lim.keeps x.toInCall.keep, codeAny_func ?_⟩
  obtain ⟨t, ht, hq⟩ := hbody A outer s H vs Q E (hr.deeper _) hsp
  have I : Inv (cxOf CX P w K mg base N qual scope f cdv A outer s H E) [] (start N vs) H s1 := inv_start S hr.hd e0 hl r x
  refine wpAny_mono (ht [] s1 (start N vs) H _ I hq) (fun fl s' hs => ?_) fun e s' hs => hs
  have fin : ∀ {σ' : St} {H' : Hp} {v : V} {u : Value}, Inv (cxOf CX P w K mg base N qual scope f cdv A outer s H E) [] σ' H' s' → RelV v u → Q v H' → CE outer P w H s Q u s' :=
    fun {σ' H' v u} J rv q => ⟨v, H', J.os, J.bare, J.base, J.hok, rv, q⟩
  cases fl with
  | ret u =>
    obtain ⟨v, σ', H', J, rv, q⟩ := hs
    exact fin J rv q
  | next =>
    obtain ⟨σ', H', J, q⟩ := hs
    exact fin (v := V.non) (u := Value.none) J rfl q
  | brk =>
    obtain ⟨_, _, _, q⟩ := hs
    exact False.elim q
  | cont =>
    obtain ⟨_, _, _, q⟩ := hs
    exact False.elim q
end L2

namespace L2
open PySem PySem.Spec PyProof.Rows
section
variable {X : Cx} {x : Str} {p pos : Pos} {e : Expr} {es : List Expr} {t : TA} {id T : String} {r : List V → Hp → VK → Prop}

def tCB (r : List V → Hp → VK → Prop) (t : TA) : TE := fun σ H Q => t σ H fun vs H1 => r vs H1 Q
theorem pe_callB (hc : CallR X (.builtin id) r) (hg : Gl X x) (hm : X.mg x = none) (hv : bootBuiltins x = some (.builtin id)) (ha : PA X (e :: es) t) (hn : x ≠ "__name__" := by decide) (hdb : (x == ("__debug__" : Str)) = false := by decide)
    (he : starEach (e :: es) X.env = (false, eval e X.env) :: starEach es X.env := by rfl) (hpl : (backTo pos (starEach es X.env)).any (·.1) = false := by rfl) : PE X (.Call (.Name x p) (e :: es) [] pos) (tCB r t) := by
  intro pins s σ H Q I h
  refine wpAny_Call_Name_kw (ld_blt I hg hm hv ?_ hn hdb)
  exact PyProof.Rows.callWith_builtin1 (thn (ha pos pins s σ H _ I h) fun us s1 ⟨vs, H1, I1, r1, q1⟩ => hc pins s1 σ H1 vs us Q I1 r1 q1) he hpl
theorem pe_callTy (hc : CallR X (.type T) r) (hg : Gl X x) (hm : X.mg x = none) (hv : bootBuiltins x = some (.type T)) (ha : PA X (e :: es) t) (hn : x ≠ "__name__" := by decide) (hdb : (x == ("__debug__" : Str)) = false := by decide)
    (he : starEach (e :: es) X.env = (false, eval e X.env) :: starEach es X.env := by rfl) (hpl : (backTo pos (starEach es X.env)).any (·.1) = false := by rfl) : PE X (.Call (.Name x p) (e :: es) [] pos) (tCB r t) := by
  intro pins s σ H Q I h
  refine wpAny_Call_Name_kw (ld_blt I hg hm hv ?_ hn hdb)
  exact PyProof.Rows.callWith_type1 (thn (ha pos pins s σ H _ I h) fun us s1 ⟨vs, H1, I1, r1, q1⟩ => hc pins s1 σ H1 vs us Q I1 r1 q1) he hpl
end
end L2

namespace L2
open PySem PySem.Spec PyProof.Rows

section
variable {κ : Type} [DecidableEq κ]
def valV (kvs : List (κ × V)) (k : κ) : Option V := (kvs.find? fun kv => decide (kv.1 = k)).map (·.2)
def putK (kvs : List (κ × V)) (k : κ) (v : V) : List (κ × V) :=
  if (kvs.any fun kv => decide (kv.1 = k)) = true then kvs.map (fun kv => if kv.1 = k then (kv.1, v) else kv) else kvs ++ [(k, v)]
def dropK (kvs : List (κ × V)) (k : κ) : List (κ × V) := kvs.filter fun kv => decide (kv.1 ≠ k)

theorem valV_pos {p : κ × V} {r : List (κ × V)} {k : κ} (e : p.1 = k) : valV (p :: r) k = some p.2 := by simp [valV, List.find?_cons, e]
theorem valV_neg {p : κ × V} {r : List (κ × V)} {k : κ} (e : ¬ p.1 = k) : valV (p :: r) k = valV r k := by simp [valV, List.find?_cons, e]
theorem valV_any (k : κ) : ∀ kvs : List (κ × V), (kvs.any fun kv => decide (kv.1 = k)) = (valV kvs k).isSome
  | [] => rfl
  | p :: r => by
    rw [List.any_cons]
    by_cases e : p.1 = k
    · simp only [valV_pos e, decide_eq_true e, Bool.true_or, Option.isSome_some]
    · rw [valV_neg e, decide_eq_false e, Bool.false_or]; exact valV_any k r
theorem length_putK (kvs : List (κ × V)) (k : κ) (v : V) : (putK kvs k v).length ≤ kvs.length + 1 := by
  unfold putK
  split
  · rw [List.length_map]; omega
  · rw [List.length_append, List.length_cons, List.length_nil]; omega

theorem RelO.isSome_eq {o : Option V} {u : Option Value} (r : RelO o u) : o.isSome = u.isSome := by
  cases o with
  | none => cases u with
    | none => rfl
    | some _ => exact (show False from r).elim
  | some _ => cases u with
    | none => exact (show False from r).elim
    | some _ => rfl
theorem RelO.getD {o : Option V} {u : Option Value} {d : V} {d' : Value} (r : RelO o u) (rd : RelV d d') : RelV (o.getD d) (u.getD d') := by
  cases o with
  | none => cases u with
    | none => exact rd
    | some _ => exact (show False from r).elim
  | some _ => cases u with
    | none => exact (show False from r).elim
    | some _ => exact r

theorem KV.val {kvs : List (κ × V)} {vs : List (κ × Value)} (r : KV kvs vs) (k : κ) : RelO (valV kvs k) (valueAt vs k) := by
  unfold KV at r
  induction r with
  | nil => exact True.intro
  | @cons p q ps qs h t ih =>
    obtain ⟨h1, h2⟩ := h
    by_cases e : p.1 = k
    · have e' : q.1 = k := h1.symm.trans e
      have b : valueAt (q :: qs) k = some q.2 := by simp [valueAt, List.find?_cons, e']
      rw [valV_pos e, b]; exact h2
    · have e' : ¬ q.1 = k := fun z => e (h1.trans z)
      have b : valueAt (q :: qs) k = valueAt qs k := by simp [valueAt, List.find?_cons, e']
      rw [valV_neg e, b]; exact ih
theorem KV.any {kvs : List (κ × V)} {vs : List (κ × Value)} (r : KV kvs vs) (k : κ) : (kvs.any fun kv => decide (kv.1 = k)) = vs.any fun kv => decide (kv.1 = k) := by
  unfold KV at r
  induction r with
  | nil => rfl
  | cons h t ih => rw [List.any_cons, List.any_cons, ih, h.1]
theorem KV.repl {kvs : List (κ × V)} {vs : List (κ × Value)} (r : KV kvs vs) (k : κ) {y : V} {u : Value} (ry : RelV y u) :
    KV (kvs.map fun kv => if kv.1 = k then (kv.1, y) else kv) (vs.map fun kv => if kv.1 = k then (kv.1, u) else kv) := by
  unfold KV at r ⊢
  induction r with
  | nil => exact .nil
  | @cons p q ps qs h t ih =>
    rw [List.map_cons, List.map_cons]
    refine .cons ?_ ih
    obtain ⟨h1, h2⟩ := h
    by_cases e : p.1 = k
    · rw [if_pos e, if_pos (h1.symm.trans e)]; exact ⟨h1, ry⟩
    · rw [if_neg e, if_neg (fun z => e (h1.trans z))]; exact ⟨h1, h2⟩
theorem KV.put {kvs : List (κ × V)} {vs : List (κ × Value)} (r : KV kvs vs) (k : κ) {y : V} {u : Value} (ry : RelV y u) : KV (putK kvs k y) (stored vs k u) := by
  unfold putK stored
  rw [r.any k]
  by_cases e : (vs.any fun kv => decide (kv.1 = k)) = true
  · rw [if_pos e, if_pos e]; exact r.repl k ry
  · rw [if_neg e, if_neg e]; exact Paired.snoc r ⟨rfl, ry⟩
theorem KV.drop {kvs : List (κ × V)} {vs : List (κ × Value)} (r : KV kvs vs) (k : κ) : KV (dropK kvs k) (without vs k) := by
  unfold KV at r ⊢
  unfold dropK without
  induction r with
  | nil => exact .nil
  | @cons p q ps qs h t ih =>
    obtain ⟨h1, h2⟩ := h
    rw [List.filter_cons, List.filter_cons]
    by_cases e : p.1 = k
    · have a : ¬ decide (p.1 ≠ k) = true := by simp [e]
      have b : ¬ decide (q.1 ≠ k) = true := by simp [h1.symm.trans e]
      rw [if_neg a, if_neg b]; exact ih
    · have e' : ¬ q.1 = k := fun z => e (h1.trans z)
      have a : decide (p.1 ≠ k) = true := by simp [e]
      have b : decide (q.1 ≠ k) = true := by simp [e']
      rw [if_pos a, if_pos b]; exact .cons ⟨h1, h2⟩ ih
theorem KV.keys {kvs : List (κ × V)} {vs : List (κ × Value)} (r : KV kvs vs) : kvs.map (·.1) = vs.map (·.1) := by
  unfold KV at r
  induction r with
  | nil => rfl
  | cons h t ih => rw [List.map_cons, List.map_cons, ih, h.1]
theorem KV.length {kvs : List (κ × V)} {vs : List (κ × Value)} (r : KV kvs vs) : kvs.length = vs.length := Paired.length r
end


theorem kV_is {P : Program} {w : World} {k : Key} {u : Value} (r : RelV (kV k) u) : (mixKind P w).is k u = true := by
  cases k with
  | inl i => obtain ⟨t, e⟩ := (show ∃ t, u = Value.int i t from r); subst e; exact mixKind_int P w i t
  | inr x => obtain ⟨t, e⟩ := (show ∃ t, u = Value.str x t from r); subst e; exact mixKind_str P w x t
theorem items_are {P : Program} {w : World} : ∀ {ks : List Key} {us : List Value}, Vals (ks.map kV) us → ItemsAre (mixKind P w) ks us
  | [], _, r => by rw [List.map_nil] at r; cases r; exact .nil
  | k :: ks, _, r => by
    rw [List.map_cons] at r
    cases r with
    | cons h t => exact .cons (kV_is h) (items_are t)

abbrev KT (H : Hp) : List (List Key × V) → List (List Key × Addr × Value) → Prop := Paired fun p q => p.1 = q.1 ∧ H q.2.1 = some (.tup (p.1.map kV)) ∧ RelV p.2 q.2.2
theorem KT.val {H : Hp} {kvs : List (List Key × V)} {xs : List (List Key × Addr × Value)} (r : KT H kvs xs) (k : List Key) : RelO (valV kvs k) ((atKey xs k).map (·.2)) := by
  induction r with
  | nil => exact True.intro
  | @cons p q ps qs h t ih =>
    obtain ⟨h1, _, h2⟩ := h
    by_cases e : p.1 = k
    · have e' : q.1 = k := h1.symm.trans e
      have b : atKey (q :: qs) k = some q.2 := by simp [atKey, List.find?_cons, e']
      rw [valV_pos e, b]; exact h2
    · have e' : ¬ q.1 = k := fun z => e (h1.trans z)
      have b : atKey (q :: qs) k = atKey qs k := by simp [atKey, List.find?_cons, e']
      rw [valV_neg e, b]; exact ih
theorem KT.repl {H : Hp} {kvs : List (List Key × V)} {xs : List (List Key × Addr × Value)} (r : KT H kvs xs) (k : List Key) {y : V} {u : Value} (ry : RelV y u) :
    KT H (kvs.map fun kv => if kv.1 = k then (kv.1, y) else kv) (xs.map (putAt k u)) := by
  induction r with
  | nil => exact .nil
  | @cons p q ps qs h t ih =>
    rw [List.map_cons, List.map_cons]
    refine .cons ?_ ih
    obtain ⟨h1, h2, h3⟩ := h
    unfold putAt
    by_cases e : p.1 = k
    · rw [if_pos e, if_pos (h1.symm.trans e)]; exact ⟨h1, h2, ry⟩
    · rw [if_neg e, if_neg (fun z => e (h1.trans z))]; exact ⟨h1, h2, h3⟩
theorem KT.put {H : Hp} {kvs : List (List Key × V)} {xs : List (List Key × Addr × Value)} (r : KT H kvs xs) (k : List Key) {b : Addr} {y : V} {u : Value} (hb : H b = some (.tup (k.map kV))) (ry : RelV y u) :
    KT H (putK kvs k y) (storedH xs k b u) := by
  have e : (kvs.any fun kv => decide (kv.1 = k)) = (atKey xs k).isSome := by
    rw [valV_any, (r.val k).isSome_eq, Option.isSome_map]
  unfold putK storedH
  rw [e]
  by_cases q : (atKey xs k).isSome = true
  · rw [if_pos q, if_pos q]; exact r.repl k ry
  · rw [if_neg q, if_neg q]; exact Paired.snoc r ⟨rfl, hb, ry⟩
theorem KT.keeps {H H' : Hp} {kvs : List (List Key × V)} {xs : List (List Key × Addr × Value)} (r : KT H kvs xs) (ht : ∀ b ys, H b = some (.tup ys) → H' b = some (.tup ys)) : KT H' kvs xs :=
  Paired.mapP r fun _ _ z => ⟨z.1, ht _ _ z.2.1, z.2.2⟩

section
variable {P : Program} {w : World} {H : Hp} {h : Heap} {a : Addr}
theorem rd_of {u : HO} (ok : HOk P w H h) (e : Rd H a u) : ObjOk P w H h a u := e.ok ok
theorem dk_rd {kvs : List (Key × V)} (ok : HOk P w H h) (e : Rd H a (.dK kvs)) : kvs.length ≤ sizeLine ∧ (a == sysModules) = false ∧ ∃ vs, KV kvs vs ∧ h.DictOf (mixKind P w) a vs :=
  show ObjOk P w H h a (.dK kvs) from rd_of ok e
theorem dk_of {kvs : List (Key × V)} (ok : HOk P w H h) (e : H a = some (.dK kvs)) : kvs.length ≤ sizeLine ∧ (a == sysModules) = false ∧ ∃ vs, KV kvs vs ∧ h.DictOf (mixKind P w) a vs := dk_rd ok (.inl e)
theorem key_of {ks : List Key} (ok : HOk P w H h) (e : H a = some (.tup (ks.map kV))) : (tupleKind (mixKind P w)).is h ks a := by
  obtain ⟨_, its, r, o, h1, h2, n, h3⟩ := (show ObjOk P w H h a (.tup (ks.map kV)) from ok a _ e)
  exact ⟨o, its.toArray, n, h1, h2, h3, by simpa using items_are r⟩
theorem dt_rd {kvs : List (List Key × V)} (ok : HOk P w H h) (e : Rd H a (.dT kvs)) : kvs.length ≤ sizeLine ∧ (a == sysModules) = false ∧
    ∃ xs, KT H kvs xs ∧ h.DictOfH (tupleKind (mixKind P w)) a xs := by
  obtain ⟨z, y, xs, r, o, es, ep, h1, h2, h3, h4, h5⟩ := (show ObjOk P w H h a (.dT kvs) from rd_of ok e)
  refine ⟨z, y, xs, r, o, es, ep, h1, h2, h3, h4, fun x hx => ?_, h5⟩
  have all : ∀ {l : List (List Key × V)} {m : List (List Key × Addr × Value)}, KT H l m → ∀ x ∈ m, (tupleKind (mixKind P w)).is h x.1 x.2.1 := by
    intro l m q
    induction q with
    | nil => intro x hx; exact nomatch hx
    | @cons p q ps qs hq t ih =>
      intro x hx
      rcases List.mem_cons.mp hx with e | hx
      · subst e
        exact key_of ok (by rw [← hq.1]; exact hq.2.1)
      · exact ih x hx
  exact all r x hx
theorem dt_of {kvs : List (List Key × V)} (ok : HOk P w H h) (e : H a = some (.dT kvs)) : kvs.length ≤ sizeLine ∧ (a == sysModules) = false ∧
    ∃ xs, KT H kvs xs ∧ h.DictOfH (tupleKind (mixKind P w)) a xs := dt_rd ok (.inl e)
end

def DGet (H : Hp) (a : Addr) (y : V) (r : Option V) : Prop :=
  (∃ kvs k, Rd H a (.dK kvs) ∧ y = kV k ∧ r = valV kvs k) ∨ ∃ kvs k b, Rd H a (.dT kvs) ∧ y = .ref b ∧ H b = some (.tup (k.map kV)) ∧ r = valV kvs k
def DPut (H : Hp) (a : Addr) (y v : V) (H' : Hp) : Prop :=
  (∃ kvs k, H a = some (.dK kvs) ∧ y = kV k ∧ kvs.length < sizeLine ∧ H' = upd H a (.dK (putK kvs k v))) ∨
  ∃ kvs k b, H a = some (.dT kvs) ∧ y = .ref b ∧ H b = some (.tup (k.map kV)) ∧ kvs.length < sizeLine ∧ H' = upd H a (.dT (putK kvs k v))
theorem DGet.k {H : Hp} {a : Addr} {kvs : List (Key × V)} {k : Key} (e : H a = some (.dK kvs)) : DGet H a (kV k) (valV kvs k) := .inl ⟨kvs, k, .inl e, rfl, rfl⟩
theorem DGet.t {H : Hp} {a b : Addr} {kvs : List (List Key × V)} {k : List Key} (e : H a = some (.dT kvs)) (eb : H b = some (.tup (k.map kV))) : DGet H a (.ref b) (valV kvs k) := .inr ⟨kvs, k, b, .inl e, rfl, eb, rfl⟩
theorem DPut.k {H : Hp} {a : Addr} {kvs : List (Key × V)} {k : Key} {v : V} (e : H a = some (.dK kvs)) (hl : kvs.length < sizeLine) : DPut H a (kV k) v (upd H a (.dK (putK kvs k v))) := .inl ⟨kvs, k, e, rfl, hl, rfl⟩
theorem DPut.t {H : Hp} {a b : Addr} {kvs : List (List Key × V)} {k : List Key} {v : V} (e : H a = some (.dT kvs)) (eb : H b = some (.tup (k.map kV))) (hl : kvs.length < sizeLine) :
    DPut H a (.ref b) v (upd H a (.dT (putK kvs k v))) := .inr ⟨kvs, k, b, e, rfl, eb, hl, rfl⟩


section
variable {X : Cx} {pins : List (Addr × Obj)} {σ : St} {H : Hp} {s : Shared} {a : Addr} {y v : V} {u r : Value} {o : Option V} {A : Around} {E : Value → Shared → Prop}

theorem Inv.big (I : Inv X pins σ H s) : sysModules < s.heap.objs.size := by
  have h : mainGlobals < s.heap.objs.size := (I.mod.glob.keeps I.bk).lt
  exact Nat.lt_trans (by decide) h

theorem d_getItem {Q : Value → Shared → Prop} (hu : A.units + 1 < cLine) (I : Inv X pins σ H s) (g : DGet H a y (some v)) (ry : RelV y u) (h : ∀ w' s', Inv X pins σ H s' → RelV v w' → Q w' s') :
    wpAny (model X.prog X.w) A (getItem (.ref a) u) Q E s := by
  rcases g with ⟨kvs, k, e, ey, l⟩ | ⟨kvs, k, b, e, ey, eb, l⟩
  · subst ey
    obtain ⟨z, hd, vs, rel, dd⟩ := dk_rd I.hok e
    obtain ⟨w', hw, rw'⟩ := RelO.some_of (v := v) (o := valueAt vs k) (by rw [l]; exact rel.val k)
    exact wpAny_getItem_of (kV_is ry) dd.mapOf hw (h w' _ (I.tok _) rw')
  · subst ey
    cases (show u = Value.ref b from ry)
    obtain ⟨z, hd, xs, rel, dd⟩ := dt_rd I.hok e
    obtain ⟨w', hw, rw'⟩ := RelO.some_of (v := v) (o := (atKey xs k).map (·.2)) (by rw [l]; exact rel.val k)
    obtain ⟨p, hp, hp2⟩ := Option.map_eq_some_iff.mp hw
    refine wpAny_getItem_heap (tupleKind_room_in1 hu) (key_of I.hok eb) dd hp ?_
    rw [hp2]
    exact h w' _ (I.tok _) rw'
theorem d_write {h' : Heap} {t' : Nat} {ob : HO} (I : Inv X pins σ H s) (mu : Mut (H a)) (hs : Heap.SameBut a s.heap h') (he : ∃ q, h'.get? a = some q) (new : ObjOk X.prog X.w (upd H a ob) h' a ob) :
    Inv X pins σ (upd H a ob) { s with heap := h', toks := t' } :=
  I.write (x := a) (e := a) mu (.inl rfl) (fun b q hb z => (hs.2 b hb).trans z) he new
theorem dk_new {P : Program} {w : World} {H' : Hp} {h' : Heap} {kvs : List (Key × V)} {vs : List (Key × Value)} (z : kvs.length ≤ sizeLine) (hd : (a == sysModules) = false) (rel : KV kvs vs) (dd : h'.DictOf (mixKind P w) a vs) :
    ObjOk P w H' h' a (.dK kvs) := ⟨z, hd, vs, rel, dd⟩
theorem d_setItem {H' : Hp} {Q : Unit → Shared → Prop} (hu : A.units + 1 < cLine) (I : Inv X pins σ H s) (g : DPut H a y v H') (ry : RelV y u) (rv : RelV v r) (h : ∀ s', Inv X pins σ H' s' → Q () s') :
    wpAny (model X.prog X.w) A (setItem (.ref a) u r) Q E s := by
  rcases g with ⟨kvs, k, e, ey, l, eH⟩ | ⟨kvs, k, b, e, ey, eb, l, eH⟩
  · subst ey eH
    obtain ⟨z, hd, vs, rel, dd⟩ := dk_of I.hok e
    have hz : vs.length ≤ sizeLine := by rw [← rel.length]; exact z
    have hl : (putK kvs k v).length ≤ sizeLine := by have := length_putK kvs k v; omega
    refine wpAny_setItem_pairs (hsz := hz) (kV_is ry) dd fun h' dd' hs => h _ ?_
    have he : ∃ q, h'.get? a = some q := let ⟨q, _, _, hq, _⟩ := dd'; ⟨q, hq⟩
    exact d_write I (by rw [e]; exact True.intro) hs he (dk_new hl hd (rel.put k rv) dd')
  · subst ey eH
    cases (show u = Value.ref b from ry)
    obtain ⟨z, hd, xs, rel, dd⟩ := dt_of I.hok e
    have hz : xs.length ≤ sizeLine := by rw [← Paired.length rel]; exact z
    have hl : (putK kvs k v).length ≤ sizeLine := by have := length_putK kvs k v; omega
    refine wpAny_setItem_heap (hsz := hz) (tupleKind_room_in1 hu) (key_of I.hok eb) dd fun h' dd' hs => h _ ?_
    obtain ⟨q, es, ep, hq, h2, h3, h4, _, h5⟩ := dd'
    refine d_write I (by rw [e]; exact True.intro) hs ⟨q, hq⟩ ⟨hl, hd, _, (rel.put k eb rv).keeps fun c ys ec => ?_, q, es, ep, hq, h2, h3, h4, h5⟩
    rw [upd_ne (ne_of ec e (fun z => nomatch z))]
    exact ec
end

section
variable {X : Cx} {pins : List (Addr × Obj)} {σ : St} {H : Hp} {s : Shared} {a : Addr} {kvs : List (Key × V)} {k : Key} {u : Value} {A : Around} {E : Value → Shared → Prop}
theorem d_len {Q : Value → Shared → Prop} (I : Inv X pins σ H s) (e : Rd H a (.dK kvs)) (h : ∀ t s', Inv X pins σ H s' → Q (.int kvs.length t) s') : wpAny (model X.prog X.w) A (call (.builtin "len") [.ref a]) Q E s := by
  obtain ⟨z, hd, vs, rel, dd⟩ := dk_rd I.hok e
  refine call_len_dict hd dd (by rw [← rel.length]; rw [sizeLine_eq] at z; omega) ?_
  rw [← rel.length]
  exact h _ _ (I.tok _)
end


def NoSl (i : Expr) : Prop := ∀ ov iv, subscripted i false ov iv = operate [ov, iv] (getItem ov iv)
theorem subD_of {prog : Program} {w : World} {A : Around} {E : Value → Shared → Prop} {s : Shared} {env : Env} {value slice : Expr} {pos : Pos} {T id : String} {Q : Value → Shared → Prop}
    (hl : typeLookup (.type T) "__getitem__" = pure (some (.builtin id))) (hs : NoSl slice)
    (h : wpAny (model prog w) A (eval value env) (fun o s₁ => wpAny (model prog w) A (eval slice env) (fun i s₂ => s₂.TypeIs o T ∧ wpAny (model prog w) A (getItem o i) Q E s₂) E s₁) E s) :
    wpAny (model prog w) A (eval (.Subscript value slice pos) env) Q E s := by
  refine Subscript_ (wpAny_mono h (fun o s₁ h₁ => wpAny_mono h₁ (fun i s₂ h₂ => ?_) fun _ _ x => x) fun _ _ x => x)
  obtain ⟨hT, h₂⟩ := h₂
  unfold subscriptTail
  refine wpAny_bind ?_
  rw [getitemInPython_of_ne hT.not_modules]
  refine wpAny_bind (wpAny_specialOf hT hl ?_)
  have fin : wpAny (model prog w) A (subscripted slice false o i) (fun r s₃ => wpAny (model prog w) A (letTemporaryGo value o r >>= fun _ => pure r) Q E s₃) E s₂ := by
    rw [hs o i]
    exact wpAny_operating (wpAny_mono h₂ (fun r s₃ h₃ => wpAny_bind (wpAny_letTemporaryGo (wpAny_pure h₃))) fun _ _ x => x)
  first
    | exact wpAny_pure (wpAny_bind fin)
    | exact wpAny_bind (wpAny_pure (wpAny_bind fin))
    | exact wpAny_bind fin

theorem dict_typeIs {X : Cx} {pins : List (Addr × Obj)} {σ : St} {H : Hp} {s : Shared} {a : Addr} {y : V} {o : Option V} (I : Inv X pins σ H s) (g : DGet H a y o) : s.TypeIs (.ref a) "dict" := by
  rcases g with ⟨kvs, k, e, _, _⟩ | ⟨kvs, k, b, e, _, _, _⟩
  · obtain ⟨_, _, vs, _, dd⟩ := dk_rd I.hok e
    exact dd.typeIs
  · obtain ⟨_, _, xs, _, dd⟩ := dt_rd I.hok e
    exact dd.typeIs

def tDGet (td ty : TE) : TE := fun σ H Q => td σ H fun x H1 => ty σ H1 fun y H2 => ∃ a v, x = .ref a ∧ DGet H2 a y (some v) ∧ Q v H2
def sDPut (td ty tv : TE) : TS := fun D σ H => tv σ H fun v H1 => td σ H1 fun x H2 => ty σ H2 fun y H3 => ∃ a H4, x = .ref a ∧ DPut H3 a y v H4 ∧ D.nx σ H4

section
variable {X : Cx} {o i e value : Expr} {pos pos' tpos : Pos} {td ty tv : TE}
theorem pe_dget (hu : X.A.units + 1 < cLine) (ho : PE X o td) (hi : PE X i ty) (hs : NoSl i) : PE X (.Subscript o i pos) (tDGet td ty) := by
  intro pins s σ H Q I h
  refine subD_of PySem.F.slot_dict_getitem.lookup hs (thn (ho pins s σ H _ I h) fun u s1 ⟨x, H1, I1, rx, q1⟩ => thn (hi pins s1 σ H1 _ I1 q1) fun iv s2 ⟨y, H2, I2, ry, a, v, ex, g, q2⟩ => ?_)
  subst ex
  obtain rfl : u = Value.ref a := rx
  exact ⟨dict_typeIs I2 g, d_getItem hu I2 g ry fun w' s3 I3 rw' => ⟨v, H2, I3, rw', q2⟩⟩
theorem ps_dput (hu : X.A.units + 1 < cLine) (ho : PE X o td) (hi : PE X i ty) (hv : PE X value tv) (hs : swapsWith value (some (.Subscript o i pos')) pos.line X.env = pure false) :
    PS X (.Assign [.Subscript o i pos'] value pos) (sDPut td ty tv) := by
  intro pins s σ H D I h
  refine wpAny_Assign_Subscript (thn (hv pins s σ H _ I h) fun r s1 ⟨v, H1, I1, rv, q1⟩ => thn (ho pins s1 σ H1 _ I1 q1) fun u s2 ⟨x, H2, I2, rx, q2⟩ => thn (hi pins s2 σ H2 _ I2 q2) fun iv s3 ⟨y, H3, I3, ry, a, H4, ex, g, q3⟩ => ?_) hs
  subst ex
  obtain rfl : u = Value.ref a := rx
  exact d_setItem hu I3 g ry rv fun s4 I4 => ⟨σ, H4, I4, q3⟩
end


theorem dk_empty {P : Program} {w : World} {H : Hp} (h : Heap) (hb : sysModules < h.objs.size) : ObjOk P w H (h.push { cls := .type "dict", data := .dict #[] }) h.objs.size (.dK []) :=
  ⟨Nat.zero_le _, beq_eq_false_iff_ne.mpr (Ne.symm (Nat.ne_of_lt hb)), [], .nil, Heap.DictOf.new h⟩
section
variable {X : Cx} {pos : Pos}
end

def tPairs : List (TE × TE) → St → Hp → (List (V × V) → Hp → Prop) → Prop
  | [], _, H, Q => Q [] H
  | (tk, tv) :: r, σ, H, Q => tk σ H fun x H1 => tv σ H1 fun y H2 => tPairs r σ H2 fun ps H3 => Q ((x, y) :: ps) H3
abbrev VV : List (V × V) → List (Value × Value) → Prop := Paired fun p q => RelV p.1 q.1 ∧ RelV p.2 q.2
def PPs (X : Cx) (pos : Pos) (keys : List (Option Expr)) (values : List Expr) (trs : List (TE × TE)) : Prop :=
  ∀ (pins : List (Addr × Obj)) (s : Shared) (σ : St) (H : Hp) (Q : List (V × V) → Hp → Prop), Inv X pins σ H s → tPairs trs σ H Q →
    wpAny (model X.prog X.w) X.A (evalPairs (pairTrees keys values X.env pos)) (fun vs s' => ∃ ps H', Inv X pins σ H' s' ∧ VV ps vs ∧ Q ps H') X.xe s
theorem pps_nil {X : Cx} {pos : Pos} : PPs X pos [] [] [] := fun pins s σ H Q I h => pairTrees_nil_walk ⟨[], H, I, .nil, h⟩
theorem pps_cons {X : Cx} {pos : Pos} {k v : Expr} {ks : List (Option Expr)} {vs : List Expr} {tk tv : TE} {trs : List (TE × TE)} (hk : PE X k tk) (hv : PE X v tv) (hr : PPs X pos ks vs trs) :
    PPs X pos (some k :: ks) (v :: vs) ((tk, tv) :: trs) := fun pins s σ H Q I h =>
  pairTrees_cons_walk (thn (hk pins s σ H _ I h) fun u s1 ⟨x, H1, I1, rx, q1⟩ => thn (hv pins s1 σ H1 _ I1 q1) fun w2 s2 ⟨y, H2, I2, ry, q2⟩ =>
    thn (hr pins s2 σ H2 _ I2 q2) fun ws s3 ⟨ps, H3, I3, rel, q3⟩ => ⟨(x, y) :: ps, H3, I3, .cons ⟨rx, ry⟩ rel, q3⟩)

def mergeK (kvs more : List (Key × V)) : List (Key × V) := more.foldl (fun acc kv => putK acc kv.1 kv.2) kvs
theorem KV.merge : ∀ {more : List (Key × V)} {rs : List (Key × Value)} {kvs : List (Key × V)} {vs : List (Key × Value)}, KV more rs → KV kvs vs → KV (mergeK kvs more) (merged vs rs) := by
  intro more rs kvs vs r
  unfold KV at r
  induction r generalizing kvs vs with
  | nil => intro q; exact q
  | @cons p q ps qs h t ih =>
    intro r0
    have e : KV (putK kvs p.1 p.2) (stored vs q.1 q.2) := by
      have := r0.put p.1 h.2
      rw [← h.1]; exact this
    exact ih e
theorem length_mergeK : ∀ (more kvs : List (Key × V)), (mergeK kvs more).length ≤ kvs.length + more.length
  | [], kvs => by show kvs.length ≤ kvs.length + 0; omega
  | p :: r, kvs => by
    have h1 := length_mergeK r (putK kvs p.1 p.2)
    have h2 := length_putK kvs p.1 p.2
    show (mergeK (putK kvs p.1 p.2) r).length ≤ _
    rw [List.length_cons]; omega
theorem carries_of {P : Program} {w : World} : ∀ {kvs : List (Key × V)} {ws : List (Value × Value)}, VV (kvs.map fun kv => (kV kv.1, kv.2)) ws → ∃ rs, Carries (mixKind P w) ws rs ∧ KV kvs rs
  | [], _, r => by rw [List.map_nil] at r; cases r; exact ⟨[], True.intro, .nil⟩
  | p :: kvs, _, r => by
    rw [List.map_cons] at r
    cases r with
    | @cons a b as bs h t =>
      obtain ⟨rs, c, q⟩ := carries_of (P := P) (w := w) t
      obtain ⟨b1, b2⟩ := b
      exact ⟨(p.1, b2) :: rs, ⟨kV_is h.1, rfl, c⟩, .cons ⟨rfl, h.2⟩ q⟩
def tDisp (trs : List (TE × TE)) : TE := fun σ H Q => ∀ p, H p = none → tPairs trs σ (upd H p (.dK [])) fun ps H2 => H2 p = some (.dK []) ∧ ∃ kvs : List (Key × V), ps = kvs.map (fun kv => (kV kv.1, kv.2)) ∧ kvs.length ≤ 15 ∧ Q (.ref p) (upd H2 p (.dK (mergeK [] kvs)))
theorem pe_disp {X : Cx} {pos : Pos} {keys : List (Option Expr)} {values : List Expr} {trs : List (TE × TE)} (h : PPs X pos keys values trs) (hall : keys.all (·.isSome) = true) (hl : keys.length = values.length) (h0 : keys ≠ [])
    (h15 : keys.length ≤ 15) : PE X (.Dict keys values pos) (tDisp trs) := by
  intro pins s σ H Q I q
  have hn := I.hok.fresh (Nat.le_refl s.heap.objs.size)
  have I1 := I.laid (a := s.heap.objs.size) (o := .dK []) (h' := s.heap.push { cls := .type "dict", data := .dict #[] }) (t' := s.toks) (fun _ _ q => Heap.get?_push_of_some _ q) (Nat.le_refl _) (dk_empty s.heap I.big)
  refine wpAny_Dict_walk (knd := mixKind X.prog X.w) hall hl h0 h15 (thn (h pins _ σ _ _ I1 (q _ hn)) fun ws s2 ⟨ps, H2, I2, rel, e, kvs, ep, lk, q2⟩ => ?_)
  subst ep
  obtain ⟨rs, c, rk⟩ := carries_of (P := X.prog) (w := X.w) rel
  obtain ⟨z, hd, vs0, r0, dd⟩ := dk_of I2.hok e
  cases r0
  refine ⟨rs, c, dd, fun h' dd' hs => ⟨.ref s.heap.objs.size, _, ?_, rfl, q2⟩⟩
  have hz : (mergeK [] kvs).length ≤ sizeLine := by
    have h1 := length_mergeK kvs []
    rw [List.length_nil] at h1
    rw [sizeLine_eq]; omega
  have he : ∃ q, h'.get? s.heap.objs.size = some q := let ⟨q, _, _, hq, _⟩ := dd'; ⟨q, hq⟩
  exact d_write I2 (by rw [e]; exact True.intro) hs he (dk_new hz hd (rk.merge .nil) dd')


structure M1 (X : Cx) (o : Expr) (m : Str) (apos : Pos) (e : Expr) (cpos : Pos) : Prop where
  base : attributeBase o m X.env (eval o X.env) = eval o X.env
  few : ((backTo cpos (starEach [e] X.env)).all (fun x => !x.1) && (backToKw cpos (keywordEach [] X.env)).all (fun x => x.1.isSome)
    && decide (([e] : List Expr).length + ([] : List Keyword).length + (if ([] : List Keyword).isEmpty then 0 else 1) < 30)) = true
  line : (apos.endLine == cpos.line) = true
  trees : backTo cpos (starEach [e] X.env) = [(false, eval e X.env)]
structure M2 (X : Cx) (o : Expr) (m : Str) (apos : Pos) (e f : Expr) (cpos : Pos) : Prop where
  base : attributeBase o m X.env (eval o X.env) = eval o X.env
  few : ((backTo cpos (starEach [e, f] X.env)).all (fun x => !x.1) && (backToKw cpos (keywordEach [] X.env)).all (fun x => x.1.isSome)
    && decide (([e, f] : List Expr).length + ([] : List Keyword).length + (if ([] : List Keyword).isEmpty then 0 else 1) < 30)) = true
  line : (apos.endLine == cpos.line) = true
  trees : backTo cpos (starEach [e, f] X.env) = [(false, eval e X.env), (false, eval f X.env)]

def IsD (H : Hp) (a : Addr) : Prop := (∃ kvs, Rd H a (.dK kvs)) ∨ ∃ kvs, Rd H a (.dT kvs)
theorem isD_at {X : Cx} {pins : List (Addr × Obj)} {σ : St} {H : Hp} {s : Shared} {a : Addr} (I : Inv X pins σ H s) (d : IsD H a) :
    s.TypeIs (.ref a) "dict" ∧ (∀ b, Value.ref a = .ref b → ∃ ob, s.heap.get? b = some ob ∧ ob.dict = none) ∧ (a == sysModules) = false := by
  rcases d with ⟨kvs, e⟩ | ⟨kvs, e⟩
  · obtain ⟨_, hd, vs, _, dd⟩ := dk_rd I.hok e
    refine ⟨dd.typeIs, fun b q => ?_, hd⟩
    cases q
    obtain ⟨ob, _, _, h1, h2, _⟩ := dd
    exact ⟨ob, h1, h2.2.1⟩
  · obtain ⟨_, hd, xs, _, dd⟩ := dt_rd I.hok e
    refine ⟨dd.typeIs, fun b q => ?_, hd⟩
    cases q
    obtain ⟨ob, _, _, h1, h2, _⟩ := dd
    exact ⟨ob, h1, h2.2.1⟩

section
variable {X : Cx} {pins : List (Addr × Obj)} {σ : St} {H : Hp} {s : Shared} {a : Addr} {y d : V} {u r : Value} {o : Option V} {A : Around} {E : Value → Shared → Prop}
theorem d_get2 {Q : Value → Shared → Prop} (hu : A.units + 1 < cLine) (I : Inv X pins σ H s) (g : DGet H a y o) (ry : RelV y u) (rd : RelV d r) (h : ∀ w' s', Inv X pins σ H s' → RelV (o.getD d) w' → Q w' s') :
    wpAny (model X.prog X.w) A (call (.builtin "dict.get") [.ref a, u, r]) Q E s := by
  rcases g with ⟨kvs, k, e, ey, l⟩ | ⟨kvs, k, b, e, ey, eb, l⟩
  · subst ey
    obtain ⟨z, hd, vs, rel, dd⟩ := dk_rd I.hok e
    refine call_meetsIn PySem.F.slot_dict_get dd.typeIs PySem.F.entry_dict_get (PySem.F.args_dict_get_3 _ _ _) (meets_dict_get_default (mixKind X.prog X.w) a (kV_is ry) hd r) ⟨_, dd.mapOf, h _ _ (I.tok _) ?_⟩
    rw [l]
    exact (rel.val k).getD rd
  · subst ey
    cases (show u = Value.ref b from ry)
    obtain ⟨z, hd, xs, rel, dd⟩ := dt_rd I.hok e
    refine call_meetsIn PySem.F.slot_dict_get dd.typeIs PySem.F.entry_dict_get (PySem.F.args_dict_get_3 _ _ _) (meetsH_dict_get_default (tupleKind (mixKind X.prog X.w)) a b hd r) ⟨tupleKind_room_in1 hu, k, xs, key_of I.hok eb, dd, h _ _ (I.tok _) ?_⟩
    rw [l]
    exact (rel.val k).getD rd
end

def tDGet2 (td ty tx : TE) : TE := fun σ H Q => td σ H fun x H1 => ∃ a, x = .ref a ∧ IsD H1 a ∧ ty σ H1 fun y H2 => tx σ H2 fun z H3 => ∃ o, DGet H3 a y o ∧ Q (o.getD z) H3
section
variable {X : Cx} {o e f : Expr} {apos cpos : Pos} {td ty tx : TE}
theorem pe_dget2 (hu : X.A.units + 1 < cLine) (ho : PE X o td) (he : PE X e ty) (hf : PE X f tx) (m : M2 X o "get" apos e f cpos) : PE X (.Call (.Attribute o "get" apos) [e, f] [] cpos) (tDGet2 td ty tx) := by
  intro pins s σ H Q I h
  refine wpAny_Call_method m.base m.few m.line PySem.F.plainAttrs_dict PySem.F.slot_dict_get PySem.F.type_dict_get (thn (ho pins s σ H _ I h) fun u s1 ⟨x, H1, I1, rx, a, ex, d, q1⟩ => ?_)
  subst ex
  obtain rfl : u = Value.ref a := rx
  obtain ⟨t1, t2, _⟩ := isD_at I1 d
  refine ⟨t1, t2, ?_⟩
  rw [m.trees]
  refine Calls.callWith_builtin rfl (Calls.evalArgs_plain (Calls.spliced_cons (thn (he pins s1 σ H1 _ I1 q1) fun iv s2 ⟨y, H2, I2, ry, q2⟩ =>
    Calls.spliced_cons (thn (hf pins s2 σ H2 _ I2 q2) fun fv s3 ⟨z, H3, I3, rz, ov, g, q3⟩ => Calls.spliced_nil ?_))))
  exact d_get2 hu I3 g ry rz fun w' s4 I4 rw' => ⟨_, H3, I4, rw', q3⟩
end

section
variable {X : Cx} {pins : List (Addr × Obj)} {σ : St} {H : Hp} {s : Shared} {a : Addr} {kvs : List (Key × V)} {A : Around} {E : Value → Shared → Prop}
end


section
variable {X : Cx} {pins : List (Addr × Obj)} {σ : St} {H : Hp} {s : Shared} {a : Addr} {y : V} {u : Value} {A : Around} {E : Value → Shared → Prop}
end
end L2

namespace HT
open PySem PyProof.Rows



section
open PySem.SeqAt
open PySem.AutoSeq1 (wpAny_loadPart')
open PySem.MeetsSeq PySem.MeetsSeq2 PySem.MeetsSeq3

end

section
variable {prog : Program} {w : World} {A : Around} {E : Value → Shared → Prop} {s : Shared}


theorem cat_tup {t b : Addr} {vs ws : List Value} {Q : Value → Shared → Prop} (ht : IsTup s.heap t vs.toArray) (hb : IsTup s.heap b ws.toArray) (hv : vs ≠ [])
    (h1 : ws = [] → Q (.ref t) s) (h2 : ws ≠ [] → Q (.ref s.heap.objs.size) { s with heap := s.heap.push { cls := .type "tuple", data := .seq (vs ++ ws).toArray } })
    (hsz : vs.length + ws.length ≤ sizeLine) : wpAny (model prog w) A (binaryOp .Add (.ref t) (.ref b)) Q E s := by
  obtain ⟨⟨cls, dd, data, sl⟩, ho, hc, n, hd⟩ := id ht
  obtain ⟨⟨cls2, dd2, data2, sl2⟩, ho2, hc2, n2, hd2⟩ := id hb
  simp only at hc hd hc2 hd2
  subst hc hd hc2 hd2
  have e : vs.toArray ++ ws.toArray = (vs ++ ws).toArray := by simp
  by_cases hw : ws = []
  · exact concat_meets ⟨_, ho, rfl⟩ ⟨_, ho2, rfl⟩ noFill_tuple_add seq_tuple_add PySem.F.slot_tuple_add PySem.F.entry_tuple_add (PySem.F.args_tuple_add_2 _ _)
      (tuple_addW1 t b vs.toArray ws.toArray n n2 dd dd2 sl sl2 (by simpa using hv) (by simp [hw])) ⟨ho, ho2, h1 hw⟩
  · refine concat_meets ⟨_, ho, rfl⟩ ⟨_, ho2, rfl⟩ noFill_tuple_add seq_tuple_add PySem.F.slot_tuple_add PySem.F.entry_tuple_add (PySem.F.args_tuple_add_2 _ _)
      (tuple_addW2 t b vs.toArray ws.toArray n n2 dd dd2 sl sl2 (by simpa using hv) (by simpa using hw) (by rw [List.size_toArray, List.size_toArray]; exact hsz)) ⟨ho, ho2, ?_⟩
    rw [e]
    exact h2 hw

def sIx (n d : Nat) : Option Int → Nat
  | none => d
  | some v => if v < 0 then (v + (n : Int)).toNat else min v.toNat n
theorem sIx_none (n d : Nat) : sIx n d none = d := rfl
theorem sIx_nat (n d k : Nat) : sIx n d (some (k : Int)) = min k n := by
  show (if (k : Int) < 0 then ((k : Int) + (n : Int)).toNat else min (k : Int).toNat n) = min k n
  rw [if_neg (by omega), Int.toNat_natCast]
theorem sIx_le (n d : Nat) (hd : d ≤ n) (o : Option Int) : sIx n d o ≤ n := by
  cases o with
  | none => exact hd
  | some v =>
    show (if v < 0 then (v + (n : Int)).toNat else min v.toNat n) ≤ n
    by_cases hv : v < 0
    · rw [if_pos hv]; omega
    · rw [if_neg hv]; exact Nat.min_le_right _ _
theorem clip_eq (v : Int) (n d : Nat) : (if v < 0 then max (v + (n : Int)) 0 else min v (n : Int)) = ((sIx n d (some v) : Nat) : Int) := by
  show (if v < 0 then max (v + (n : Int)) 0 else min v (n : Int)) = (((if v < 0 then (v + (n : Int)).toNat else min v.toNat n) : Nat) : Int)
  by_cases hv : v < 0
  · simp only [if_pos hv]; omega
  · simp only [if_neg hv]; omega
theorem adjust_gen (lo hi : Option Int) (n : Nat) : Builtin.Slice.sliceAdjust lo hi 1 (n : Int) = (((sIx n 0 lo : Nat) : Int), ((sIx n n hi : Nat) : Int)) := by
  have h1 : ¬ ((1 : Int) < 0) := by omega
  unfold Builtin.Slice.sliceAdjust
  simp only [h1, if_false]
  refine Prod.ext ?_ ?_
  · cases lo with
    | none => rfl
    | some v => exact clip_eq v n 0
  · cases hi with
    | none => rfl
    | some v => exact clip_eq v n n
theorem places_gen (i j : Nat) : Builtin.Slice.slicePlaces (i : Int) (j : Int) 1 = j - i := by
  unfold Builtin.Slice.slicePlaces
  have h1 : (1 : Int) > 0 := by omega
  simp only [h1, if_true, Int.ediv_one]
  split <;> omega
theorem slicePart_ {v : Value} {o : Option Int} {Q : Option Int → Shared → Prop} (p : IsPart v o) (h : Q o s) : wpAny (model prog w) A (Builtin.Slice.slicePartIndex v) Q E s := by
  cases p with
  | none => exact slicePart_none h
  | int i t => exact slicePart_int h
theorem sliceApplied_gen {sl : Addr} {vl vu : Value} {lo hi : Option Int} {n : Nat} {Q : Int × Int × Nat → Shared → Prop} (hs : s.heap.IsSliceOf sl vl vu .none) (pl : IsPart vl lo) (pu : IsPart vu hi)
    (h : Q (((sIx n 0 lo : Nat) : Int), 1, sIx n n hi - sIx n 0 lo) s) : wpAny (model prog w) A (Builtin.Slice.sliceApplied (.ref sl) (pure (n : Int))) Q E s := by
  obtain ⟨os, hos, hcs, hds⟩ := id hs
  unfold Builtin.Slice.sliceApplied Builtin.Slice.sliceFields
  refine wpAny_bind (wpAny_bind (wpAny_field hos hds (x := vl) rfl (wpAny_bind (wpAny_field hos hds (x := vu) rfl (wpAny_bind (wpAny_field hos hds (x := .none) rfl (wpAny_pure ?_)))))))
  refine wpAny_bind (slicePart_none ?_)
  show wpAny _ _ (if ((1 : Int) == 0) = true then _ else _) _ _ s
  rw [if_neg (by decide)]
  refine wpAny_bind (slicePart_ pl (wpAny_bind (slicePart_ pu (wpAny_bind (wpAny_pure ?_)))))
  show wpAny _ _ (match Builtin.Slice.sliceAdjust lo hi 1 (n : Int) with | (lo, hi) => pure (lo, (1 : Int), Builtin.Slice.slicePlaces lo hi 1)) _ _ s
  rw [adjust_gen lo hi n]
  show wpAny _ _ (pure (((sIx n 0 lo : Nat) : Int), (1 : Int), Builtin.Slice.slicePlaces ((sIx n 0 lo : Nat) : Int) ((sIx n n hi : Nat) : Int) 1)) _ _ s
  rw [places_gen]
  exact wpAny_pure h
theorem pick_gen (xs : Array Value) (i k : Nat) : ((List.range k).filterMap fun (m : Nat) => xs[((i : Int) + (m : Int) * 1).toNat]?).toArray = ((xs.toList.drop i).take k).toArray := by
  have e : (fun (m : Nat) => xs[((i : Int) + (m : Int) * 1).toNat]?) = fun m => xs[i + m]? := by
    funext m
    have : ((i : Int) + (m : Int) * 1).toNat = i + m := by omega
    rw [this]
  rw [e]
  have := pick_run xs i k
  rw [List.filterMap_map] at this
  have e2 : ((fun x => xs[x]?) ∘ fun x => i + x) = fun m => xs[i + m]? := rfl
  rw [e2] at this
  rw [this]

theorem getItem_tuple_cut {t sl : Addr} {items : Array Value} {vl vu : Value} {lo hi : Option Int} {Q : Value → Shared → Prop} (ht : IsTup s.heap t items) (hs : s.heap.IsSliceOf sl vl vu .none) (pl : IsPart vl lo) (pu : IsPart vu hi)
    (hw : ¬ (sIx items.size 0 lo = 0 ∧ sIx items.size items.size hi = items.size))
    (h : Q (.ref s.heap.objs.size) { s with heap := s.heap.push { cls := .type "tuple", data := .seq ((items.toList.drop (sIx items.size 0 lo)).take (sIx items.size items.size hi - sIx items.size 0 lo)).toArray } })
    (hsz : items.size ≤ sizeLine) : wpAny (model prog w) A (getItem (.ref t) (.ref sl)) Q E s := by
  have htake : sizeOk (.seq ((items.toList.drop (sIx items.size 0 lo)).take (sIx items.size items.size hi - sIx items.size 0 lo)).toArray) := by
    show ((items.toList.drop (sIx items.size 0 lo)).take (sIx items.size items.size hi - sIx items.size 0 lo)).toArray.size ≤ sizeLine
    rw [List.size_toArray, List.length_take, List.length_drop, Array.length_toList]
    omega
  have hj : sIx items.size items.size hi ≤ items.size := sIx_le _ _ (Nat.le_refl _) hi
  obtain ⟨os, hos, hcs, hds⟩ := id hs
  have hTs : s.TypeIs (.ref sl) "slice" := ⟨os, hos, hcs⟩
  unfold getItem
  try with_reducible refine wpAny_holding ?_
  first | refine wpAny_bind (wpAny_pure ?_) | skip
  refine wpAny_bind (wpAny_sequenceKey ht.typeIs (by decide) ?_)
  refine wpAny_bind (wpAny_callSpecial?_slot (name := Str.ofString "__getitem__") ht.typeIs PyProof.Rows.slot_tuple_getitem
    (wpAny_call_entry PyProof.Rows.slot_tuple_getitem ht.typeIs entry_tuple_getitem ?_ (args_tuple_getitem _ _)))
  show wpAny _ _ (Builtin.Tuple.tupleItemsOf (.ref t) >>= _) _ _ s
  refine wpAny_bind (tupleItemsOf_ ht ?_)
  refine wpAny_bind (wpAny_typeOf hTs ?_)
  rw [if_pos (by decide)]
  refine wpAny_bind (sliceApplied_gen hs pl pu ?_)
  have hno : ¬ ((((sIx items.size 0 lo : Nat) : Int) == 0 && (1 : Int) == 1 && (sIx items.size items.size hi - sIx items.size 0 lo) == items.size) = true) := by
    intro q
    rw [Bool.and_eq_true, Bool.and_eq_true] at q
    have q1 : ((sIx items.size 0 lo : Nat) : Int) = 0 := eq_of_beq q.1.1
    have q2 : sIx items.size items.size hi - sIx items.size 0 lo = items.size := eq_of_beq q.2
    exact hw ⟨by omega, by omega⟩
  show wpAny _ _ (if (((sIx items.size 0 lo : Nat) : Int) == 0 && (1 : Int) == 1 && (sIx items.size items.size hi - sIx items.size 0 lo) == items.size) = true then _ else _) _ _ s
  rw [if_neg hno, pick_gen]
  first
    | exact wpAny_bind (m := Builtin.Tuple.tupleExact _) (wpAny_newObj_type (wpAny_pure ⟨_, rfl, wpAny_pure h⟩) htake)
    | exact wpAny_bind (m := Builtin.Tuple.tupleExact _) (wpAny_newObj_type (wpAny_bind (wpAny_pure (wpAny_pure ⟨_, rfl, wpAny_pure h⟩))) htake)
    | exact wpAny_bind (wpAny_bind (m := Builtin.Tuple.tupleExact _) (wpAny_newObj_type (wpAny_pure (wpAny_pure ⟨_, rfl, wpAny_pure h⟩)) htake))
    | exact wpAny_bind (wpAny_bind (m := Builtin.Tuple.tupleExact _) (wpAny_newObj_type (wpAny_pure ⟨_, rfl, wpAny_pure h⟩) htake))
end
end HT

namespace L2
open PySem PySem.Spec PyProof.Rows

abbrev TO := St → Hp → (Option Int → Hp → Prop) → Prop
def PO (X : Cx) (e : Option Expr) (t : TO) : Prop :=
  ∀ (pins : List (Addr × Obj)) (s : Shared) (σ : St) (H : Hp) (Q : Option Int → Hp → Prop), Inv X pins σ H s → t σ H Q →
    wpAny (model X.prog X.w) X.A (evalPart e X.env) (fun u s' => ∃ o H', Inv X pins σ H' s' ∧ IsPart u o ∧ Q o H') X.xe s
def tNoPart : TO := fun _ H Q => Q none H
def tPart (t : TE) : TO := fun σ H Q => t σ H fun x H1 => ∃ i, x = .int i ∧ Q (some i) H1


section
variable {X : Cx} {e : Expr} {te : TE} {lo hi : Option Expr} {tl th : TO} {pos p2 : Pos}

theorem po_none : PO X none tNoPart := by
  intro pins s σ H Q I h
  rw [evalPart_none]
  exact wpAny_pure ⟨none, H, I, .none, h⟩
theorem po_some (h : PE X e te) : PO X (some e) (tPart te) := by
  intro pins s σ H Q I hw
  rw [evalPart_some]
  refine thn (h pins s σ H _ I hw) fun u s1 ⟨x, H1, I1, r1, q1⟩ => ?_
  obtain ⟨i, rfl, q⟩ := q1
  obtain ⟨t, rfl⟩ := r1
  exact ⟨some i, H1, I1, .int i t, q⟩

def SlR (X : Cx) (r : V → Option Int → Option Int → Hp → VK → Prop) : Prop :=
  ∀ (pins : List (Addr × Obj)) (s : Shared) (σ : St) (H : Hp) (x : V) (v vl vu : Value) (lo hi : Option Int) (sl : Addr) (Q : VK), Inv X pins σ H s → RelV x v → s.heap.IsSliceOf sl vl vu .none → IsPart vl lo → IsPart vu hi → r x lo hi H Q →
    ∃ T id, typeLookup (.type T) "__getitem__" = pure (some (.builtin id)) ∧ s.TypeIs v T ∧ wpAny (model X.prog X.w) X.A (getItem v (.ref sl)) (EP X pins σ Q) X.xe s
theorem SlR.or {r r' : V → Option Int → Option Int → Hp → VK → Prop} (h : SlR X r) (h' : SlR X r') : SlR X (fun x lo hi H Q => r x lo hi H Q ∨ r' x lo hi H Q) := by
  intro pins s σ H x v vl vu lo hi sl Q I rx hs pl pu q
  rcases q with q | q
  · exact h pins s σ H x v vl vu lo hi sl Q I rx hs pl pu q
  · exact h' pins s σ H x v vl vu lo hi sl Q I rx hs pl pu q
def tSl (r : V → Option Int → Option Int → Hp → VK → Prop) (te : TE) (tl th : TO) : TE := fun σ H Q => te σ H fun x H1 => tl σ H1 fun l H2 => th σ H2 fun u H3 => r x l u H3 Q
theorem pe_slice {r : V → Option Int → Option Int → Hp → VK → Prop} (hr : SlR X r) (he : PE X e te) (hl : PO X lo tl) (hu : PO X hi th) : PE X (.Subscript e (.Slice lo hi none p2) pos) (tSl r te tl th) := by
  intro pins s σ H Q I h
  refine Subscript_ (thn (he pins s σ H _ I h) fun v s1 ⟨x, H1, I1, r1, q1⟩ => ?_)
  refine wpAny_Slice (thn (hl pins s1 σ H1 _ I1 q1) fun vl s2 ⟨l, H2, I2, pl, q2⟩ => thn (hu pins s2 σ H2 _ I2 q2) fun vu s3 ⟨u, H3, I3, pu, q3⟩ => ?_)
  rw [evalPart_none]
  refine wpAny_pure ?_
  have I4 : Inv X pins σ H3 { s3 with heap := s3.heap.push { cls := .type "slice", data := .fields #[vl, vu, .none] } } := I3.kept (t' := s3.toks) fun b ob q => Heap.get?_push_of_some _ q
  obtain ⟨T, id, hT, ht, hg⟩ := hr pins { s3 with heap := s3.heap.push { cls := .type "slice", data := .fields #[vl, vu, .none] } } σ H3 x v vl vu l u s3.heap.objs.size Q I4 r1 (Heap.IsSliceOf.new ..) pl pu q3
  show wpAny (model X.prog X.w) X.A (subscriptTail e (.Slice lo hi none p2) v (.ref s3.heap.objs.size)) (EP X pins σ Q) X.xe { s3 with heap := s3.heap.push { cls := .type "slice", data := .fields #[vl, vu, .none] } }
  exact tail_any (ops := [.ref s3.heap.objs.size, v]) ht hT hg (by with_unfolding_all rfl)

def cutV (xs : List V) (lo hi : Option Int) : List V := (xs.drop (HT.sIx xs.length 0 lo)).take (HT.sIx xs.length xs.length hi - HT.sIx xs.length 0 lo)
theorem cutV_length (xs : List V) (lo hi : Option Int) : (cutV xs lo hi).length ≤ xs.length := by
  unfold cutV
  rw [List.length_take, List.length_drop]
  omega
def rSlT (K : PySem.W.Frag) : V → Option Int → Option Int → Hp → VK → Prop := fun x lo hi H Q => ∃ a xs, x = .ref a ∧ SqT K H a xs ∧
  ¬ (HT.sIx xs.length 0 lo = 0 ∧ HT.sIx xs.length xs.length hi = xs.length) ∧ ∀ p, H p = none → Q (.ref p) (upd H p (.tup (cutV xs lo hi)))
theorem sl_tup : SlR X (rSlT X.K) := by
  intro pins s σ H x v vl vu lo hi sl Q I rx hs pl pu h
  obtain ⟨a, xs, rfl, hx, hw, q⟩ := h
  cases rx
  obtain ⟨its, r, ht, hz⟩ := I.tuple hx
  have hlen : its.toArray.size = xs.length := by rw [List.size_toArray]; exact r.length.symm
  refine ⟨"tuple", _, PyProof.Rows.slot_tuple_getitem.lookup, ht.typeIs, ?_⟩
  refine HT.getItem_tuple_cut ht hs pl pu (by rw [hlen]; exact hw) ?_ (by rw [hlen]; exact hz)
  rw [hlen]
  refine ⟨.ref s.heap.objs.size, _, I.laid (t' := s.toks) (o := .tup (cutV xs lo hi)) (fun b ob q => Heap.get?_push_of_some _ q) (Nat.le_refl _) ?_, rfl, q _ (I.hok.fresh (Nat.le_refl _))⟩
  exact ⟨Nat.le_trans (cutV_length xs lo hi) hz, _, (r.drop (HT.sIx xs.length 0 lo)).take (HT.sIx xs.length xs.length hi - HT.sIx xs.length 0 lo), IsTup.new _ _⟩

def rCatT (K : PySem.W.Frag) : R2 := fun x y H Q => ∃ a b xs ys, x = .ref a ∧ y = .ref b ∧ SqT K H a xs ∧ SqT K H b ys ∧ xs ≠ [] ∧ xs.length + ys.length ≤ sizeLine ∧
  (ys = [] → Q (.ref a) H) ∧ (ys ≠ [] → ∀ p, H p = none → Q (.ref p) (upd H p (.tup (xs ++ ys))))
theorem Vals.nil_iff {xs : List V} {us : List Value} (r : Vals xs us) : us = [] ↔ xs = [] := by
  cases r with
  | nil => simp
  | cons _ _ => simp
theorem op_catT : OpR X (binaryOp .Add) (rCatT X.K) := by
  intro pins s σ H x y v u Q I rx ry h
  obtain ⟨a, b, xs, ys, rfl, rfl, ha, hb, hx, hz, q1, q2⟩ := h
  cases rx
  cases ry
  obtain ⟨its, r1, p1, _⟩ := I.tuple ha
  obtain ⟨its2, r2, p2, _⟩ := I.tuple hb
  refine HT.cat_tup p1 p2 (fun z => hx (r1.nil_iff.mp z)) (fun z => ⟨.ref a, H, I, rfl, q1 (r2.nil_iff.mp z)⟩) (fun z => ?_) (by rw [← r1.length, ← r2.length]; exact hz)
  refine ⟨.ref s.heap.objs.size, _, I.laid (t' := s.toks) (o := .tup (xs ++ ys)) (fun b ob q => Heap.get?_push_of_some _ q) (Nat.le_refl _) ?_, rfl, q2 (fun w => z (r2.nil_iff.mpr w)) _ (I.hok.fresh (Nat.le_refl _))⟩
  exact ⟨by rw [List.length_append]; exact hz, _, r1.append r2, IsTup.new _ _⟩
end
end L2

namespace L2
open PySem PySem.Spec PyProof.Rows

def ixN (n : Nat) (i : Int) : Option Nat := if 0 ≤ i then (if i < n then some i.toNat else none) else if -(n : Int) ≤ i then some (i + n).toNat else none
def atI {α : Type} (xs : List α) (i : Int) : Option α := (ixN xs.length i).bind fun j => xs[j]?
theorem ixN_seq {n : Nat} {i : Int} {j : Nat} (h : ixN n i = some j) : seqIndex? i n = some j ∧ j < n ∧ -(n : Int) ≤ i ∧ i < n := by
  unfold ixN at h
  by_cases h0 : 0 ≤ i
  · rw [if_pos h0] at h
    by_cases h1 : i < n
    · rw [if_pos h1] at h
      have e : i.toNat = j := Option.some.inj h
      exact ⟨by rw [seqIndex_of h0 h1, e], by omega, by omega, h1⟩
    · rw [if_neg h1] at h; cases h
  · rw [if_neg h0] at h
    by_cases h1 : -(n : Int) ≤ i
    · rw [if_pos h1] at h
      have e : (i + n).toNat = j := Option.some.inj h
      exact ⟨by rw [seqIndex_neg (by omega) h1, e], by omega, h1, by omega⟩
    · rw [if_neg h1] at h; cases h
theorem atI_get {α : Type} {xs : List α} {i : Int} {v : α} (h : atI xs i = some v) : ∃ j, seqIndex? i xs.length = some j ∧ xs[j]? = some v ∧ j < xs.length ∧ -(xs.length : Int) ≤ i ∧ i < xs.length := by
  unfold atI at h
  cases e : ixN xs.length i with
  | none => rw [e] at h; cases h
  | some j =>
    rw [e] at h
    obtain ⟨h1, h2, h3, h4⟩ := ixN_seq e
    exact ⟨j, h1, h, h2, h3, h4⟩

def PlainIx (b : Expr) : Prop := ∀ o i, subscripted b false o i = operate [o, i] (getItem o i)
def IxR (X : Cx) (r : R2) : Prop :=
  ∀ (value slice : Expr) (pins : List (Addr × Obj)) (s : Shared) (σ : St) (H : Hp) (x y : V) (v u : Value) (Q : VK), Inv X pins σ H s → RelV x v → RelV y u → r x y H Q →
    subscripted slice false v u = operate [v, u] (getItem v u) → wpAny (model X.prog X.w) X.A (subscriptTail value slice v u) (EP X pins σ Q) X.xe s
def MtR (X : Cx) (id : String) (r : V → List V → Hp → VK → Prop) : Prop :=
  ∀ (pins : List (Addr × Obj)) (s : Shared) (σ : St) (H : Hp) (x : V) (xs : List V) (v : Value) (us : List Value) (Q : VK), Inv X pins σ H s → RelV x v → Vals xs us → r x xs H Q →
    wpAny (model X.prog X.w) X.A (call (.builtin id) (v :: us)) (EP X pins σ Q) X.xe s
section
variable {X : Cx} {a b : Expr} {ta tb : TE} {pos : Pos}
theorem IxR.or {r r' : R2} (h : IxR X r) (h' : IxR X r') : IxR X (fun x y H Q => r x y H Q ∨ r' x y H Q) := by
  intro value slice pins s σ H x y v u Q I rx ry q hs
  rcases q with q | q
  · exact h value slice pins s σ H x y v u Q I rx ry q hs
  · exact h' value slice pins s σ H x y v u Q I rx ry q hs
theorem MtR.or {id : String} {r r' : V → List V → Hp → VK → Prop} (h : MtR X id r) (h' : MtR X id r') : MtR X id (fun x xs H Q => r x xs H Q ∨ r' x xs H Q) := by
  intro pins s σ H x xs v us Q I rx rs q
  rcases q with q | q
  · exact h pins s σ H x xs v us Q I rx rs q
  · exact h' pins s σ H x xs v us Q I rx rs q
theorem pe_ix {r : R2} (hr : IxR X r) (ha : PE X a ta) (hb : PE X b tb) (hs : PlainIx b) : PE X (.Subscript a b pos) (tOp r ta tb) := by
  intro pins s σ H Q I h
  exact Subscript_ (binT ha hb I h fun v u s2 x y H2 I2 rx ry q => hr a b pins s2 σ H2 x y v u Q I2 rx ry q (hs _ _))

def rIxL (K : PySem.W.Frag) : R2 := fun x y H Q => ∃ p xs i v, x = .ref p ∧ y = .int i ∧ SqL K H p xs ∧ atI xs i = some v ∧ Q v H
def rIxT (K : PySem.W.Frag) : R2 := fun x y H Q => ∃ p xs i v, x = .ref p ∧ y = .int i ∧ SqT K H p xs ∧ atI xs i = some v ∧ Q v H
def rIxS : R2 := fun x y H Q => ∃ z i c, x = .str z ∧ y = .int i ∧ z.length ≤ sizeLine ∧ atI z.cps.toList i = some c ∧ Q (.str ⟨#[c]⟩) H
theorem ix_list : IxR X (rIxL X.K) := by
  intro value slice pins s σ H x y v u Q I rx ry h hs
  obtain ⟨p, xs, i, z, rfl, rfl, hq, he, q⟩ := h
  cases rx
  obtain ⟨t, rfl⟩ := ry
  obtain ⟨its, r, pl, hz⟩ := I.list hq
  obtain ⟨j, h1, h2, h3, h4, h5⟩ := atI_get he
  obtain ⟨w, ew, rw'⟩ := r.get h2
  have hl := r.length
  have hn := line63
  have fin : EP X pins σ Q w s := ⟨z, H, I, rw', q⟩
  by_cases h0 : 0 ≤ i
  · have hj : i.toNat = j := by
      rw [seqIndex_of h0 h5] at h1
      exact Option.some.inj h1
    exact item_listR pl.isList h0 (by omega) (by rw [hj]; simpa using ew) fin hs
  · have hj : (i + (its.toArray.size : Int)).toNat = j := by
      rw [seqIndex_neg (by omega) h4] at h1
      rw [List.size_toArray, ← hl]
      exact Option.some.inj h1
    exact subscriptTail_builtinR (x := w) pl.isList.typeIs slot_list_getitem.lookup
      (wpAny_getItem_list_neg (Q := fun r s' => r = w ∧ EP X pins σ Q r s') pl.isList (by omega) (by rw [List.size_toArray] <;> omega) (by omega) (by rw [hj]; simpa using ew) ⟨rfl, fin⟩) hs
theorem ix_tup : IxR X (rIxT X.K) := by
  intro value slice pins s σ H x y v u Q I rx ry h hs
  obtain ⟨p, xs, i, z, rfl, rfl, hq, he, q⟩ := h
  cases rx
  obtain ⟨t, rfl⟩ := ry
  obtain ⟨its, r, pl, hz⟩ := I.tuple hq
  obtain ⟨j, h1, h2, h3, h4, h5⟩ := atI_get he
  obtain ⟨w, ew, rw'⟩ := r.get h2
  have hl := r.length
  have hn := line63
  have fin : EP X pins σ Q w s := ⟨z, H, I, rw', q⟩
  exact subscriptTail_builtinR (x := w) pl.typeIs slot_tuple_getitem.lookup
    (getItem_tuple (j := j) (Q := fun r s' => r = w ∧ EP X pins σ Q r s') pl (by omega) (by omega) (by rw [List.size_toArray, ← hl]; exact h1) (by simpa using ew) ⟨rfl, fin⟩) hs
theorem ix_str : IxR X rIxS := by
  intro value slice pins s σ H x y v u Q I rx ry h hs
  obtain ⟨z, i, c, rfl, rfl, hz, he, q⟩ := h
  obtain ⟨t, rfl⟩ := rx
  obtain ⟨t', rfl⟩ := ry
  obtain ⟨j, h1, h2, h3, h4, h5⟩ := atI_get he
  have hl : z.cps.toList.length = z.length := by simp [Str.length]
  rw [hl] at h1 h4 h5
  have hn := line63
  exact tail_any (typeIs_str s z t) slot_str_getitem.lookup (getItem_str (c := c) (by
    have e1 : decide (i < -(2 ^ 63 : Int)) = false := decide_eq_false (by omega)
    have e2 : decide (i ≥ 2 ^ 63) = false := decide_eq_false (by omega)
    rw [e1, e2, Bool.or_false]) (by rw [h1]; simpa using h2) ⟨.str ⟨#[c]⟩, H, I.tok _, ⟨_, rfl⟩, q⟩) hs
def rIx (K : PySem.W.Frag) : R2 := fun x y H Q => rIxL K x y H Q ∨ rIxT K x y H Q ∨ rIxS x y H Q
theorem ix_seq : IxR X (rIx X.K) := ix_list.or (ix_tup.or ix_str)

theorem mapSeq_set (its : List Value) (n j : Nat) (u : Value) : Obj.mapSeq (·.setIfInBounds j u) { cls := .type "list", data := .seq its.toArray n } = { cls := .type "list", data := .seq (its.set j u).toArray n } := by
  simp [Obj.mapSeq]
theorem Inv.lst {pins : List (Addr × Obj)} {σ : St} {H : Hp} {s : Shared} {p : Addr} {xs : List V} (I : Inv X pins σ H s) (h : H p = some (.lst xs)) :
    ∃ (its : List Value) (n : Nat), Vals xs its ∧ s.heap.get? p = some { cls := .type "list", data := .seq its.toArray n } ∧ xs.length ≤ sizeLine := by
  obtain ⟨z, its, n, r, e⟩ := I.hok p _ h
  exact ⟨its, n, r, e, z⟩
theorem Inv.lstUpd {pins : List (Addr × Obj)} {σ : St} {H : Hp} {s : Shared} {p : Addr} {xs ys : List V} {its its' : List Value} {n n' : Nat} {f : Obj → Obj} (I : Inv X pins σ H s) (h : H p = some (.lst xs))
    (ho : s.heap.get? p = some { cls := .type "list", data := .seq its.toArray n }) (hf : f { cls := .type "list", data := .seq its.toArray n } = { cls := .type "list", data := .seq its'.toArray n' }) (r : Vals ys its') (hz : ys.length ≤ sizeLine) (t : Nat) :
    Inv X pins σ (upd H p (.lst ys)) { s with heap := s.heap.update p f, toks := t } := by
  have e : (s.heap.update p f).get? p = some { cls := .type "list", data := .seq its'.toArray n' } := by
    rw [Heap.get?_update_self f ho (by rw [hf] <;> rfl), hf]
  refine I.write (x := p) (e := p) (by rw [h]; trivial) (.inl rfl) (fun b u hb q => (Heap.get?_update_other _ _ (Ne.symm hb)).trans q) ⟨_, e⟩ ?_
  exact ⟨hz, its', n', r, e⟩
def rSetL : V → V → V → Hp → (Hp → Prop) → Prop := fun o i v H Q => ∃ p xs k j, o = .ref p ∧ i = .int k ∧ H p = some (.lst xs) ∧ ixN xs.length k = some j ∧ Q (upd H p (.lst (xs.set j v)))
theorem set_list : PSet X rSetL := by
  intro pins s σ H o i v ov iv u Q I ro ri rv h
  obtain ⟨p, xs, k, j, rfl, rfl, hp, hj, q⟩ := h
  cases ro
  obtain ⟨t, rfl⟩ := ri
  obtain ⟨its, n, r, ho, hz⟩ := I.lst hp
  obtain ⟨h1, h2, h3, h4⟩ := ixN_seq hj
  have hl := r.length
  have hn := line63
  have I' : Inv X pins σ (upd H p (.lst (xs.set j v))) { s with heap := s.heap.update p (Obj.mapSeq (·.setIfInBounds j u)) } :=
    I.lstUpd hp ho (mapSeq_set its n j u) (r.set rv j) (by rw [List.length_set]; exact hz) s.toks
  by_cases h0 : 0 ≤ k
  · have hk : k.toNat = j := by
      rw [seqIndex_of h0 h4] at h1
      exact Option.some.inj h1
    exact PySem.W.ki_setAt ho h0 (by omega) (by rw [List.size_toArray, ← hl]; exact h4) (by rw [hk]; exact ⟨_, I', q⟩)
  · have hk : (k + (its.toArray.size : Int)).toNat = j := by
      rw [seqIndex_neg (by omega) h3] at h1
      rw [List.size_toArray, ← hl]
      exact Option.some.inj h1
    exact PySem.W.ki_setBack ho (by omega) (by rw [List.size_toArray, ← hl]; exact h3) (by omega) (by rw [hk]; exact ⟨_, I', q⟩)

theorem slice_bounds (lo hi : Option Int) (n : Nat) : (sliceBounds lo hi none n).1 = ((HT.sIx n 0 lo : Nat) : Int) ∧ (sliceBounds lo hi none n).2.1 = ((HT.sIx n n hi : Nat) : Int) ∧ (sliceBounds lo hi none n).2.2 = 1 := by
  refine ⟨?_, ?_, rfl⟩
  · cases lo with
    | none => simp [sliceBounds, HT.sIx]
    | some i =>
      simp only [sliceBounds, HT.sIx, Option.getD_none, show (1 : Int) > 0 by decide, if_true]
      by_cases h : i < 0
      · simp only [h, if_true] <;> omega
      · simp only [h, if_false] <;> omega
  · cases hi with
    | none => simp [sliceBounds, HT.sIx]
    | some i =>
      simp only [sliceBounds, HT.sIx, Option.getD_none, show (1 : Int) > 0 by decide, if_true]
      by_cases h : i < 0
      · simp only [h, if_true] <;> omega
      · simp only [h, if_false] <;> omega
theorem slicePick_cut (its : List Value) (lo hi : Option Int) : slicePick its.toArray lo hi none = ((its.drop (HT.sIx its.length 0 lo)).take (HT.sIx its.length its.length hi - HT.sIx its.length 0 lo)).toArray := by
  obtain ⟨h1, h2, h3⟩ := slice_bounds lo hi its.toArray.size
  unfold slicePick
  rw [h1, h2, h3]
  simp only [sliceRange_one, pick_run, List.size_toArray] <;> rfl
def rSlL (K : PySem.W.Frag) : V → Option Int → Option Int → Hp → VK → Prop := fun x lo hi H Q => ∃ a xs, x = .ref a ∧ SqL K H a xs ∧ ∀ p, H p = none → Q (.ref p) (upd H p (.lst (cutV xs lo hi)))
theorem sl_list : SlR X (rSlL X.K) := by
  intro pins s σ H x v vl vu lo hi sl Q I rx hs pl pu h
  obtain ⟨a, xs, rfl, hx, q⟩ := h
  cases rx
  obtain ⟨its, r, ht, hz⟩ := I.list hx
  have hlen := r.length
  refine ⟨"list", _, slot_list_getitem.lookup, ht.isList.typeIs, ?_⟩
  refine wpAny_getItem_list_slice ht.isList hs pl pu .none (by simp) ?_ (by rw [List.size_toArray] <;> omega)
  rw [slicePick_cut, ← hlen]
  refine ⟨.ref s.heap.objs.size, _, I.laid (t' := s.toks) (o := .lst (cutV xs lo hi)) (fun b ob q => Heap.get?_push_of_some _ q) (Nat.le_refl _) ?_, rfl, q _ (I.hok.fresh (Nat.le_refl _))⟩
  exact ⟨Nat.le_trans (cutV_length xs lo hi) hz, _, 0, (r.drop (HT.sIx xs.length 0 lo)).take (HT.sIx xs.length xs.length hi - HT.sIx xs.length 0 lo), Heap.get?_push_size _ rfl⟩


theorem call_len_seq : CallR X (.builtin "len") (fun xs H Q => ∃ p ys, xs = [.ref p] ∧ (SqL X.K H p ys ∨ SqT X.K H p ys) ∧ Q (.int ys.length) H) := by
  intro pins s σ H xs us Q I r h
  obtain ⟨p, ys, rfl, hq, q⟩ := h
  obtain ⟨u, rfl, rx⟩ := vals1 r
  cases rx
  have hn := line63
  rcases hq with hq | hq
  · obtain ⟨its, r', pl, hz⟩ := I.list hq
    have hlen := r'.length
    exact Calls.call_len_list pl.isList (by simp only [List.size_toArray] <;> omega) ⟨.int ys.length, H, I.tok _, ⟨s.toks + 1, by rw [List.size_toArray, hlen]⟩, q⟩
  · obtain ⟨its, r', pl, hz⟩ := I.tuple hq
    have hlen := r'.length
    exact len_tuple pl (by simp only [List.size_toArray] <;> omega) ⟨.int ys.length, H, I.tok _, ⟨s.toks + 1, by rw [List.size_toArray, hlen]⟩, q⟩
theorem call_len_str : CallR X (.builtin "len") (fun xs H Q => ∃ z, xs = [.str z] ∧ z.length ≤ sizeLine ∧ Q (.int z.length) H) := by
  intro pins s σ H xs us Q I r h
  obtain ⟨z, rfl, hz, q⟩ := h
  obtain ⟨u, rfl, t, rfl⟩ := vals1 r
  have hn := line63
  exact len_str (by omega) ⟨.int z.length, H, I.tok _, ⟨_, rfl⟩, q⟩
theorem CallR.or {f : Value} {r r' : List V → Hp → VK → Prop} (h : CallR X f r) (h' : CallR X f r') : CallR X f (fun xs H Q => r xs H Q ∨ r' xs H Q) := by
  intro pins s σ H xs us Q I rs q
  rcases q with q | q
  · exact h pins s σ H xs us Q I rs q
  · exact h' pins s σ H xs us Q I rs q
theorem call_list_of : CallR X (.type "list") (fun xs H Q => ∃ p ys, xs = [.ref p] ∧ (SqL X.K H p ys ∨ SqT X.K H p ys) ∧ ∀ l, H l = none → Q (.ref l) (upd H l (.lst ys))) := by
  intro pins s σ H xs us Q I r h
  obtain ⟨p, ys, rfl, hq, q⟩ := h
  obtain ⟨u, rfl, rx⟩ := vals1 r
  cases rx
  have fin : ∀ (its : List Value), Vals ys its → ys.length ≤ sizeLine → ∀ (h' : Heap) (c' : Nat), (∀ b o', s.heap.get? b = some o' → h'.get? b = some o') →
      h'.get? s.heap.objs.size = some { cls := .type "list", dict := none, data := .seq its.toArray c', slots := #[] } → EP X pins σ Q (.ref s.heap.objs.size) { s with heap := h' } := fun its r' hz h' c' kp e =>
    ⟨.ref s.heap.objs.size, _, I.laid (t' := s.toks) kp (Nat.le_refl _) (show ObjOk X.prog X.w _ h' _ (.lst ys) from ⟨hz, its, c', r', e⟩), rfl, q _ (I.hok.fresh (Nat.le_refl _))⟩
  rcases hq with hq | hq
  · obtain ⟨its, r', pl, hz⟩ := I.list hq
    have hlen := r'.length
    obtain ⟨o, ho, hc, n, hd⟩ := pl.isList
    exact call_list_seq p (.inl rfl) ho hc hd (fun h' c' kp e => fin its r' hz h' c' kp e) (by simp only [List.size_toArray] <;> omega)
  · obtain ⟨its, r', pl, hz⟩ := I.tuple hq
    have hlen := r'.length
    obtain ⟨o, ho, hc, n, hd⟩ := pl
    exact call_list_seq p (.inr rfl) ho hc hd (fun h' c' kp e => fin its r' hz h' c' kp e) (by simp only [List.size_toArray] <;> omega)

def tyV (K : PySem.W.Frag) (T : String) (x : V) (H : Hp) : Prop := match x with
  | .str _ => T = "str"
  | .int _ => T = "int"
  | .ref p => (T = "list" ∧ ∃ xs, SqL K H p xs) ∨ (T = "tuple" ∧ ∃ o, K.lookup p = some o ∧ o.cls = .type "tuple" ∧ o.dict = none) ∨
      (T = "dict" ∧ ((∃ kvs, H p = some (.dK kvs)) ∨ ∃ kvs, H p = some (.dT kvs))) ∨ (T = "set" ∧ ∃ S n, H p = some (.set S n))
  | _ => False
theorem tyV_is {pins : List (Addr × Obj)} {σ : St} {H : Hp} {s : Shared} {T : String} {x : V} {v : Value} (I : Inv X pins σ H s) (r : RelV x v) (ty : tyV X.K T x H) :
    s.TypeIs v T ∧ ∀ a, v = .ref a → ∃ ob, s.heap.get? a = some ob ∧ ob.dict = none := by
  cases x with
  | str z =>
    obtain ⟨t, rfl⟩ := r
    cases (show T = "str" from ty)
    exact ⟨typeIs_str s z t, fun _ e => nomatch e⟩
  | int i =>
    obtain ⟨t, rfl⟩ := r
    cases (show T = "int" from ty)
    exact ⟨typeIs_int s i t, fun _ e => nomatch e⟩
  | ref p =>
    cases r
    rcases ty with ⟨rfl, xs, hq⟩ | ⟨rfl, o, hk, hc, hd⟩ | ⟨rfl, hk⟩ | ⟨rfl, S, n, hk⟩
    · obtain ⟨its, _, pl, _⟩ := I.list hq
      refine ⟨pl.isList.typeIs, fun a e => ?_⟩
      cases e
      obtain ⟨o, n, e, c, hd, _⟩ := pl
      exact ⟨o, e, hd⟩
    · refine ⟨⟨o, I.kIn p o hk, hc⟩, fun a e => ?_⟩
      cases e
      exact ⟨o, I.kIn _ o hk, hd⟩
    · have z : ∃ o, s.heap.get? p = some o ∧ o.ExactDict := by
        rcases hk with ⟨kvs, hk⟩ | ⟨kvs, hk⟩
        · obtain ⟨_, _, _, _, o, _, _, e, ex, _⟩ := I.hok p _ hk
          exact ⟨o, e, ex⟩
        · obtain ⟨_, _, _, _, o, _, _, e, ex, _⟩ := I.hok p _ hk
          exact ⟨o, e, ex⟩
      obtain ⟨o, e, ex⟩ := z
      refine ⟨⟨o, e, ex.1⟩, fun a e2 => ?_⟩
      cases e2
      exact ⟨o, e, ex.2.1⟩
    · obtain ⟨o, _, _, _, e, ex, _⟩ := I.hok p _ hk
      refine ⟨⟨o, e, ex.1⟩, fun a e2 => ?_⟩
      cases e2
      exact ⟨o, e, ex.2.1⟩
  | _ => exact False.elim ty
def tBM (K : PySem.W.Frag) (T : String) (r : V → List V → Hp → VK → Prop) (to : TE) (t : TA) : TE := fun σ H Q => to σ H fun x H1 => tyV K T x H1 ∧ t σ H1 fun xs H2 => r x xs H2 Q
variable {o e : Expr} {es : List Expr} {to : TE} {t : TA} {name : Str} {apos cpos : Pos} {T id : String} {r : V → List V → Hp → VK → Prop}
theorem pe_bm (pa : PlainAttrs T) (slot : Slot T name id) (hty : typeOf (.builtin id) = pure (.type "method_descriptor")) (hm : MtR X id r) (ho : PE X o to) (ha : PA X (e :: es) t)
    (hbase : attributeBase o name X.env (eval o X.env) = eval o X.env := by rfl)
    (hfew : ((backTo cpos (starEach (e :: es) X.env)).all (fun x => !x.1) && (backToKw cpos (keywordEach [] X.env)).all (fun x => x.1.isSome)
      && decide ((e :: es).length + ([] : List Keyword).length + (if ([] : List Keyword).isEmpty then 0 else 1) < 30)) = true := by rfl)
    (hline : (apos.endLine == cpos.line) = true := by rfl) (hs : starEach (e :: es) X.env = (false, eval e X.env) :: starEach es X.env := by rfl) (hplain : (backTo cpos (starEach es X.env)).any (·.1) = false := by rfl) :
    PE X (.Call (.Attribute o name apos) (e :: es) [] cpos) (tBM X.K T r to t) := by
  intro pins s σ H Q I h
  refine wpAny_Call_method_late hbase hfew hline rfl (thn (ho pins s σ H _ I h) fun v s1 ⟨x, H1, I1, r1, ty, q1⟩ => ?_)
  obtain ⟨h1, h2⟩ := tyV_is I1 r1 ty
  refine ⟨T, id, pa, slot, hty, h1, h2, ?_⟩
  have hA := ha cpos pins s1 σ H1 _ I1 q1
  rw [hs] at hA ⊢
  refine Calls.callWith_builtin (by show (false || (backTo cpos (starEach es X.env)).any (·.1)) = false; rw [hplain] <;> rfl) (Calls.evalArgs_plain ?_)
  exact thn hA fun us s2 ⟨vs, H2, I2, r2, q2⟩ => hm pins s2 σ H2 x vs v us Q I2 r1 r2 q2
/- xs.append(e), list.index on a module's tuple .. are MtR facts of 06m -/
end
end L2

namespace L2
open PySem PySem.Spec PyProof.Rows


theorem Vals.one : ∀ {x : V} {us : List Value}, Vals [x] us → ∃ u, us = [u] ∧ RelV x u
  | _, _, .cons r .nil => ⟨_, rfl, r⟩
theorem Vals.zero : ∀ {us : List Value}, Vals [] us → us = []
  | _, .nil => rfl
theorem Vals.dropLast {xs : List V} {us : List Value} (h : Vals xs us) : Vals xs.dropLast us.dropLast := by
  induction h with
  | nil => exact .nil
  | cons r t ih =>
    cases t with
    | nil => exact .nil
    | cons q t' => exact .cons r ih
theorem Vals.eraseIdx : ∀ {xs : List V} {us : List Value} (i : Nat), Vals xs us → Vals (xs.eraseIdx i) (us.eraseIdx i)
  | _, _, _, .nil => .nil
  | _, _, 0, .cons _ t => t
  | _, _, i + 1, .cons r t => .cons r (Vals.eraseIdx i t)
theorem Vals.reverse {xs : List V} {us : List Value} (h : Vals xs us) : Vals xs.reverse us.reverse := by
  induction h with
  | nil => exact .nil
  | cons r t ih => rw [List.reverse_cons, List.reverse_cons]; exact Vals.append ih (.cons r .nil)
theorem Vals.rep {xs : List V} {us : List Value} (h : Vals xs us) : ∀ k : Nat, Vals (List.replicate k xs).flatten (List.replicate k us).flatten
  | 0 => .nil
  | k + 1 => by
    rw [List.replicate_succ, List.replicate_succ, List.flatten_cons, List.flatten_cons]
    exact Vals.append h (Vals.rep h k)

section
variable {X : Cx} {pins : List (Addr × Obj)} {σ : St} {H : Hp} {s : Shared} {l b : Addr} {xs ys zs : List V}

theorem Inv.lset {its its' : List Value} {n : Nat} {f : Array Value → Array Value} {t' : Nat} (I : Inv X pins σ H s) (hH : H l = some (.lst xs))
    (e : s.heap.get? l = some { cls := .type "list", data := .seq its.toArray n }) (hf : f its.toArray = its'.toArray) (hv : Vals ys its') (hz : ys.length ≤ sizeLine) :
    Inv X pins σ (upd H l (.lst ys)) { s with heap := s.heap.update l (Obj.mapSeq f), toks := t' } := by
  have q := PySem.IsL.update e f
  rw [hf] at q
  refine I.write (x := l) (e := l) (by rw [hH]; exact trivial) (.inl rfl) (fun b' u hb hu => (Heap.get?_update_other s.heap (Obj.mapSeq f) (Ne.symm hb)).trans hu) ⟨_, q⟩ ?_
  exact ⟨hz, its', _, hv, q⟩
theorem Inv.lnew {its : List Value} {t' : Nat} (I : Inv X pins σ H s) (hv : Vals ys its) (hz : ys.length ≤ sizeLine) :
    Inv X pins σ (upd H s.heap.objs.size (.lst ys)) { s with heap := s.heap.push { cls := .type "list", data := .seq its.toArray }, toks := t' } :=
  I.laid (fun _ _ q => Heap.get?_push_of_some _ q) (Nat.le_refl _) ⟨hz, its, 0, hv, Heap.get?_push_size _ rfl⟩
theorem Inv.fresh (I : Inv X pins σ H s) : H s.heap.objs.size = none := I.hok.fresh (Nat.le_refl _)
theorem Inv.lstM (I : Inv X pins σ H s) (hH : H l = some (.lst xs)) : xs.length ≤ sizeLine ∧ ∃ (its : List Value) (n : Nat), Vals xs its ∧ xs.length = its.length ∧ s.heap.get? l = some { cls := .type "list", data := .seq its.toArray n } := by
  obtain ⟨z, its, n, r, e⟩ := I.hok l _ hH
  exact ⟨z, its, n, r, r.length, e⟩

theorem notLongL {n : Nat} (h : n ≤ sizeLine) : Builtin.List.listTooLong n = false := by
  unfold Builtin.List.listTooLong
  exact decide_eq_false (by omega)
end

section
variable {X : Cx}








end

section
variable {prog : Program} {w : World} {A : Around} {E : Value → Shared → Prop} {s : Shared}
theorem bounds_run {a c n : Nat} (hac : a ≤ c) (hc : c ≤ n) : sliceBounds (some (a : Int)) (some (c : Int)) none n = ((a : Int), (c : Int), 1) := by
  simp only [sliceBounds, Option.getD_none]
  have h1 : ¬ ((a : Int) < 0) := by omega
  have h2 : ¬ ((c : Int) < 0) := by omega
  simp only [h1, h2, if_false, show (1 : Int) > 0 by decide, if_true]
  congr 1
  · omega
  · congr 1; omega
set_option maxRecDepth 100000 in
theorem setItem_slice {l b sl : Addr} {items new : Array Value} {n n2 : Nat} {vl vu : Value} {a c : Nat} {Q : Unit → Shared → Prop}
    (e : s.heap.get? l = some { cls := .type "list", data := .seq items n }) (e2 : s.heap.get? b = some { cls := .type "list", data := .seq new n2 }) (hne : l ≠ b)
    (hs : s.heap.IsSliceOf sl vl vu .none) (pl : IsPart vl (some (a : Int))) (pu : IsPart vu (some (c : Int))) (hac : a ≤ c) (hc : c ≤ items.size)
    (hsz : items.size + new.size ≤ sizeLine) (h : Q () { s with heap := s.heap.update l (Obj.mapSeq fun xs => xs.extract 0 a ++ new ++ xs.extract c xs.size) }) :
    wpAny (model prog w) A (setItem (.ref l) (.ref sl) (.ref b)) Q E s := by
  have hl : s.heap.IsList l items := PySem.IsL.isList e
  have hb : s.heap.IsList b new := PySem.IsL.isList e2
  obtain ⟨os, hos, hcs, hds⟩ := id hs
  have hTs : s.TypeIs (.ref sl) "slice" := ⟨os, hos, hcs⟩
  have hstep : ¬ ((rawPart none == rawInt 0) = true) := Bool.false_ne_true
  have hsame : Builtin.List.listSameRef (.ref l) (.ref b) = false := by
    unfold Builtin.List.listSameRef
    exact beq_eq_false_iff_ne.mpr hne
  have hmax : (max (a : Int) (c : Int)).toNat = c := by omega
  have hz' : ((fun xs : Array Value => xs.extract 0 a ++ new ++ xs.extract c xs.size) items).size ≤ sizeLine + 1 := by
    simp only [Array.size_append, Array.size_extract]
    omega
  unfold setItem
  try with_reducible refine wpAny_holding ?_
  first | refine wpAny_bind (wpAny_pure ?_) | skip
  refine wpAny_bind (wpAny_sequenceKey hl.typeIs (by decide) ?_)
  refine wpAny_bind (wpAny_callSpecial?_slot (name := Str.ofString "__setitem__") hl.typeIs slot_list_setitem
    (wpAny_call_entry slot_list_setitem hl.typeIs entry_list_setitem ?_ (args_list_setitem _ _ _)))
  show wpAny _ _ (Builtin.List.listSubscript? (.ref sl) >>= _) _ _ s
  refine wpAny_bind ?_
  unfold Builtin.List.listSubscript?
  refine wpAny_bind (wpAny_specialOf hTs slice_no_index ?_)
  simp only [Option.isNone_none, if_true]
  refine wpAny_pure ?_
  show wpAny _ _ (typeOf (.ref sl) >>= _) _ _ s
  refine wpAny_bind (wpAny_typeOf hTs ?_)
  first
    | rw [if_neg (by decide)]
    | refine PySem.W.KFB.if_not (by decide) ?_
  rw [listSliceParts_eq]
  refine wpAny_bind (wpAny_bind (wpAny_field hos hds (x := .none) rfl (wpAny_bind (wpAny_listPart .none ?_))))
  rw [if_neg hstep]
  refine wpAny_bind (wpAny_field hos hds (x := vl) rfl (wpAny_bind (wpAny_listPart pl ?_)))
  refine wpAny_bind (wpAny_field hos hds (x := vu) rfl (wpAny_bind (wpAny_listPart pu (wpAny_pure ?_))))
  first
    | simp only [hsame, Bool.false_eq_true, if_false]
    | refine PySem.W.KFB.if_not hsame ?_
    | (dsimp only
       rw [if_neg (by rw [hsame]; exact Bool.false_ne_true)])
  refine wpAny_bind (m := Builtin.List.listAllItems (.ref b) "must assign iterable to extended slice") ?_
  unfold Builtin.List.listAllItems
  refine wpAny_bind (wpAny_typeOf hb.typeIs ?_)
  first
    | refine PySem.W.KFB.if_so (by decide) ?_
    | rw [if_pos (by decide)]
    | simp only [beq_self_eq_true, Bool.true_or, if_true]
  unfold Builtin.List.listItems
  refine wpAny_bind (wpAny_seqItems e2 rfl (wpAny_pure ?_))
  refine wpAny_bind (wpAny_bind (wpAny_seqItems e rfl (wpAny_pure ?_)))
  refine wpAny_bind (wpAny_of_eq ((sliceIndices_raw (some (a : Int)) (some (c : Int)) none items.size (by simp)).trans (congrArg (pure : Int × Int × Int → Sem (Int × Int × Int)) (bounds_run hac hc))) ?_)
  show wpAny _ _ (if ((1 : Int) == 1) = true then _ else _) _ _ s
  rw [if_pos (by decide)]
  refine wpAny_bind (wpAny_rule ?_)
  first
    | simp only [notLongL hsz, Bool.false_eq_true, if_false]
    | refine PySem.W.KFB.if_not (notLongL hsz) ?_
  first | refine wpAny_bind (wpAny_pure ?_) | skip
  show wpAny _ _ (updateSeq l (fun xs => xs.extract 0 ((a : Int)).toNat ++ new ++ xs.extract (max (a : Int) (c : Int)).toNat xs.size) >>= _) _ _ s
  rw [hmax, Int.toNat_natCast]
  refine wpAny_bind (wpAny_updateSeq (hz := Nat.le_trans (Nat.le_add_right _ _) hsz) (_hz' := hz') e rfl ?_)
  refine wpAny_bind (wpAny_letGo ?_)
  first
    | exact wpAny_bind (wpAny_pure (wpAny_pure ⟨.none, rfl, wpAny_pure h⟩))
    | exact wpAny_pure ⟨.none, rfl, wpAny_pure h⟩
end

section
variable {X : Cx}
end
end L2

namespace Att
open PySem PySem.W PySem.Calls PyProof.Rows

theorem ints_of_wellAll {P : Params} {h : Heap} : ∀ (ns : List Int) (vs : List Value), WellAll P h vs (ns.map WData.int) → IntsAre vs ns := by
  intro ns
  induction ns with
  | nil =>
    intro vs w
    rw [List.map_nil] at w
    cases w
    exact .nil
  | cons n ns ih =>
    intro vs w
    rw [List.map_cons] at w
    cases w with
    | cons a b =>
      cases a
      exact .cons _ _ (ih _ b)

theorem script_of {l : OpenLaw} {n : Nat} (hn : l.most = some n) {P : Params} {h : Heap} {args : List WData} {vals : List Value}
    (hpre : l.row.toRowW.claim.pre args = true) (hwl : WellAll P h vals args) :
    ∃ a vs ns, vals = [Value.ref a] ∧ args = [WData.list (ns.map WData.int)] ∧ h.get? a = some { cls := .type "list", data := .seq vs.toArray } ∧ IntsAre vs ns ∧ ns.length ≤ n := by
  have hsh : WShape.hasAll [] args [.list .int] = true := (pre_splitW hpre).1
  have hc : l.pre.holds [] { args := args } = true := (pre_splitW hpre).2
  obtain ⟨d, r, rfl, h1, h2⟩ := hasAllW_cons hsh
  obtain rfl := hasAllW_nil h2
  obtain ⟨xs, rfl, h3⟩ := hasW_list h1
  obtain ⟨ns, rfl⟩ := items_int h3
  have hlen : ns.length ≤ n := by
    unfold OpenLaw.pre at hc
    have h4 : (WTm.not (.lt (.lit (.int (n : Int))) (.len (.arg 0)))).holds [] { args := [.list (ns.map .int)] } = true := by
      have h4 := (holds_andW hc).1
      rw [hn] at h4
      exact h4
    have h5 := condW_of h4 (w_not (w_lt w_lit (w_len_list (w_arg rfl))))
    rw [List.length_map] at h5
    refine Nat.le_of_not_lt fun q => ?_
    have q' : (n : Int) < ((ns.length : Nat) : Int) := by omega
    first
      | (rw [decide_eq_true q'] at h5; exact absurd h5 (by decide))
      | (simp at h5; omega)
  cases hwl with
  | cons w1 w2 =>
    cases w2
    cases w1 with
    | list ho hall => exact ⟨_, _, ns, rfl, rfl, ho, ints_of_wellAll ns _ hall, hlen⟩

theorem post_true (l : OpenLaw) (args : List WData) : l.row.toRowW.claim.post args (.bool true) args = true :=
  postW_of (r := l.row.toRowW) (X := (true == true))
    (show WShape.has [] (.bool true) .bool = true by first | rfl | decide | simp [WShape.has, WShape.arms, WShape.armsAll])
    (show (WTm.eq .res (.lit (.bool true))).value [] { args := args, res := some (.bool true), after := args } = some (.bool (true == true)) from w_eq_bool (w_res rfl) w_lit) rfl


theorem attach_call {l : OpenLaw} {n : Nat} {q : Program} {loose : List Str} {XP : (Str → Option Value) → Heap → Prop} {YP : World → Heap → Prop} {d : DefRec}
    (hn : l.most = some n) (hdf : d.params.defaults = [])
    (call : ∀ (w : World) (s₀ s₁ : Shared) (mg mb : Str → Option Value) (fa : Addr) (o : Obj) (pm cd doc : Value) (a : Addr) (vs : List Value) (ns : List Int),
      Ground q loose [] XP w s₀ mg mb s₁.heap → YP w s₁.heap →
      s₁.heap.get? fa = some o → o.data = .func (docDef d.name d.params d.body d.scope pm cd doc) → s₁.heap.CodeRec cd d.name → mg d.name = some (.ref fa) →
      s₁.heap.get? a = some { cls := .type "list", data := .seq vs.toArray } → IntsAre vs ns → ns.length ≤ n → s₁.gens = #[] →
      codeAny (model l.prog w) callerA (.call (.ref fa) ⟨[.ref a], []⟩) (fun r s' => r = .ok (.ret (.bool true)) ∧ OldK s₁.heap s'.heap ∧ s'.os = s₁.os ∧ AllBare s'.gens) s₁) :
    WalkO q loose XP YP l.row.toRowW d [] (fun f vs => PySem.call f vs) := by
  intro w s₀ s₁ mg mb G Y fa o pm cd doc dV kV ho hd hcd hD hmg hg args vals as hpre hlay hrd hwl hlo
  obtain rfl : dV = .none := Dflts.none hD hdf
  obtain rfl : kV = .none := Dflts.noKw hD
  obtain ⟨a, vs, ns, rfl, rfl, hobj, hints, hlen⟩ := script_of hn hpre hwl
  refine enter_call (codeAny_mono (call w s₀ s₁ mg mb fa o pm cd doc a vs ns G Y ho (fd_plain hd) hcd hmg hobj hints hlen hg) fun r s' hq => ?_)
  obtain ⟨rfl, h2, h3, h4⟩ := hq
  exact ⟨.inl ⟨.bool true, .bool true, [], rfl, fun _ => rfl, .bool true, post_true l _, fun _ => ⟨List.Pairwise.nil, fun _ hm => (nomatch hm)⟩⟩, h2, h3, h4⟩


section
variable {prog : Program} {w : World} {A : Around} {E : Value → Shared → Prop} {s : Shared} {K : Frag}






end
end Att

namespace L2
open PySem PySem.Spec PyProof.Rows

theorem vals_ints : ∀ {vs : List Value} {ns : List Int}, IntsAre vs ns → Vals (ns.map V.int) vs
  | _, _, .nil => .nil
  | _, _, .cons n t h => .cons ⟨t, rfl⟩ (vals_ints h)

def Only (H : Hp) : Prop := ∀ b, H b = none ∨ ∃ o xs, H b = some (.frz o (.lst xs))

theorem law_call {P : Program} {w : World} {K : PySem.W.Frag} {mg mb : Str → Option Value} {CX : CXT} {k : Nat} {fa a : Addr} {fd : FuncData} {x : Str} {sp : Sp} {s₁ : Shared} {vs : List Value} {ns : List Int}
    (KX : K.In s₁.heap) (hns : s₁.heap.Ns mainGlobals mg) (hb : s₁.heap.Ns builtinsNs mb) (hbb : ∀ x : Str, x ≠ "__name__" → mb x = bootBuiltins x) (hlim : s₁.heap.NoLimit) (hg : s₁.gens = #[])
    (ha : s₁.heap.get? a = some { cls := .type "list", data := .seq vs.toArray }) (hi : IntsAre vs ns) (hl : ns.length ≤ sizeLine) (hr : Room k callerA)
    (F : ∀ base : Heap, K.In base → base.Ns mainGlobals mg → FnOk P w K mg base CX k fa fd [x] sp) (hbind : ∀ (s : Shared) (u : Value), BindsTo s fd ⟨[u], []⟩ [(x, u)])
    (hsp : ∀ H : Hp, Only H → SqL K H a (ns.map V.int) → sp [.ref a] H (fun v _ => v = .bl true) fun _ _ _ => False)
    (hCX : ∀ H e s', CX [] H s₁ (fun _ _ _ => False) e s' → False) :
    codeAny (model P w) callerA (.call (.ref fa) ⟨[.ref a], []⟩) (fun r s' => r = .ok (.ret (.bool true)) ∧ OldK s₁.heap s'.heap ∧ s'.os = s₁.os ∧ AllBare s'.gens) s₁ := by
  have rv := vals_ints hi
  have lenV := hi.length
  -- from an abstract heap in which nothing but the script may be tracked
  have core : ∀ H : Hp, Only H → SqL K H a (ns.map V.int) → HOk P w H s₁.heap → (∀ b, H b ≠ none → b = a) → (H a ≠ none → K.lookup a = none) →
      codeAny (model P w) callerA (.call (.ref fa) ⟨[.ref a], []⟩) (fun r s' => r = .ok (.ret (.bool true)) ∧ OldK s₁.heap s'.heap ∧ s'.os = s₁.os ∧ AllBare s'.gens) s₁ := by
    intro H hO hS hok hA hK
    have base_of : ∀ {b : Addr} {o : Obj}, s₁.heap.get? b = some o → H b = none → (hidT s₁.heap H).get? b = some o := fun e n => hidT_get e n
    have noA : ∀ {b : Addr} {o : Obj} {es : Array DictEntry} {ep : Nat}, s₁.heap.get? b = some o → o.data = .dict es ep → H b = none := fun {b o es ep} e d => by
      cases q : H b with
      | none => rfl
      | some u =>
        have e' : b = a := hA b (by rw [q]; simp)
        subst e'
        rw [ha] at e; cases e
        have d' : Data.seq vs.toArray _ = Data.dict es ep := d
        cases d'
    have nsK : ∀ {b : Addr} {m : Str → Option Value}, s₁.heap.Ns b m → (hidT s₁.heap H).Ns b m := fun {b m} ⟨o, es, ep, e, d, r⟩ => ⟨o, es, ep, base_of e (noA e d), d, r⟩
    have hKb : K.In (hidT s₁.heap H) := fun b o e => base_of (KX b o e) (by
      cases q : H b with
      | none => rfl
      | some u =>
        have e' : b = a := hA b (by rw [q]; simp)
        subst e'
        rw [hK (by rw [q]; simp)] at e; cases e)
    have hM : Mod K mg (hidT s₁.heap H) := ⟨hKb, nsK hns, ⟨mb, nsK hb, hbb⟩, let ⟨mc, h1, h2⟩ := hlim; ⟨mc, nsK h1, h2⟩⟩
    have e0 : Env0 P w K mg (hidT s₁.heap H) callerA [] s₁ H := ⟨rfl, hM, fun b o e => of_hidT e, Nat.le_of_eq (hidT_size _ _), trivial, fun b hb => absurd (show b ∈ ([] : List Addr) from hb) (by simp), hok, .of_eq hg⟩
    refine codeAny_mono ((F _ hKb (nsK hns)).run callerA [] s₁ H ⟨[.ref a], []⟩ [.ref a] [.ref a] _ _ hr e0 (hbind s₁ (.ref a)) (.cons rfl .nil) (hsp H hO hS)) fun r s' h => ?_
    cases r with
    | error e => exact (hCX H e s' h).elim
    | ok fl =>
      cases fl with
      | next => exact False.elim h
      | brk => exact False.elim h
      | cont => exact False.elim h
      | ret u =>
        obtain ⟨v, H', os, bare, un, hok', r', q⟩ := h
        have q' : v = .bl true := q
        subst q'
        obtain rfl : u = Value.bool true := r'
        refine ⟨rfl, OldK.of_keep fun b o e => ?_, os, bare⟩
        cases q : H b with
        | none => exact un.keep b o e q (by intro z; exact absurd (show b ∈ ([] : List Addr) from z) (by simp)) (by simp)
        | some u =>
          rcases hO b with z | ⟨ob, xs, z⟩
          · rw [q] at z; cases z
          · have z2 := un.frzs b ob _ z
            obtain ⟨e1, _⟩ := hok b _ z
            obtain ⟨e2, _⟩ := hok' b _ z2
            rw [e] at e1; cases e1
            exact e2
  cases hk : K.lookup a with
  | some o =>
    -- the script is one of the module's own objects
    have e := KX a o hk
    rw [ha] at e
    cases e
    refine core (fun _ => none) (fun _ => .inl rfl) (.inr ⟨_, vs.toArray, _, hk, rfl, rfl, rfl, by rw [List.size_toArray, lenV]; exact hl, by simpa using rv⟩) (fun b u z => by have z' : (none : Option HO) = some u := z; cases z') (fun b z => absurd rfl z) fun z => absurd rfl z
  | none =>
    refine core (fun b => if b = a then some (.frz { cls := .type "list", data := .seq vs.toArray } (.lst (ns.map V.int))) else none) (fun b => ?_) (.inl (.inr ⟨{ cls := .type "list", data := .seq vs.toArray }, if_pos rfl⟩)) (fun b u z => ?_) (fun b z => ?_) fun _ => hk
    · by_cases hb : b = a
      · exact .inr ⟨_, _, if_pos hb⟩
      · exact .inl (if_neg hb)
    · by_cases hb : b = a
      · have z' := (if_pos hb).symm.trans z
        cases z'
        subst hb
        exact ⟨ha, by rw [List.length_map]; exact hl, vs, _, rv, ha⟩
      · have z' := (if_neg hb).symm.trans z
        cases z'
    · by_cases hb : b = a
      · exact hb
      · exact absurd (if_neg hb) z
end L2

namespace L2
open PySem PySem.Spec PyProof.Rows

abbrev KOf {K : PySem.W.Frag} {h : Heap} (_ : K.In h) : PySem.W.Frag := K

theorem walk_of {l : PySem.W.OpenLaw} {n k : Nat} {q : Program} {loose : List Str} {XP : (Str → Option Value) → Heap → Prop} {YP : World → Heap → Prop} {d : DefRec} {K : Params → PySem.W.Frag} {CX : World → CXT} {sp : World → Sp} {x : Str}
    (hn : l.most = some n) (hn2 : n ≤ sizeLine) (hdf : d.params.defaults = []) (hr : Room k callerA)
    (hY : ∀ (w : World) (h : Heap), YP w h → (K w.params).In h)
    (F : ∀ (w : World) (mg : Str → Option Value) (fa : Addr) (h : Heap), (K w.params).In h → h.Ns mainGlobals mg → mg d.name = some (.ref fa) →
      ∃ fd : FuncData, (∀ (s : Shared) (u : Value), BindsTo s fd ⟨[u], []⟩ [(x, u)]) ∧
        ∀ base : Heap, (K w.params).In base → base.Ns mainGlobals mg → FnOk l.prog w (K w.params) mg base (CX w) k fa fd [x] (sp w))
    (hsp : ∀ (w : World) (H : Hp) (a : Addr) (ns : List Int), ns.length ≤ n → Only H → SqL (K w.params) H a (ns.map V.int) → sp w [.ref a] H (fun v _ => v = .bl true) fun _ _ _ => False)
    (hCX : ∀ (w : World) (H : Hp) (s : Shared) (e : Value) (s' : Shared), CX w [] H s (fun _ _ _ => False) e s' → False) :
    PySem.W.WalkO q loose XP YP l.row.toRowW d [] (fun f vs => PySem.call f vs) := by
  refine Att.attach_call hn hdf fun w s₀ s₁ mg mb fa o pm cd doc a vs ns G Y ho hd hcd hmg hobj hints hlen hg => ?_
  have KX := hY w _ Y
  obtain ⟨fd, hb, hF⟩ := F w mg fa _ KX G.T.g hmg
  exact law_call KX G.T.g G.T.b G.T.builtins G.T.nolimit hg hobj hints (Nat.le_trans hlen hn2) hr hF hb (fun H hO hS => hsp w H a ns hlen hO hS) fun H e s' => hCX w H s₁ e s'
end L2

/- THE LAST THEOREM (shape; LID, My.* are yours):
   My.Adr: a structure of the addresses that your layer names (classes, functions); My.Txt K t: a structure (Prop) of the equations over K;
   My.txt_mk : {K} {implicit addresses ..} (e1 : nsIn K mainGlobals "law" = some (some (.ref f))) (e2 : K.lookup f = some ⟨oc, od, .func (fnOf "law" "law" params body scope dV kV doc pm an cdv ct), sl⟩) (e3 : codeIn K cdv "law" = true) .. : ∃ t, My.Txt K t

set_option maxRecDepth 100000 in
set_option maxHeartbeats 0 in
theorem PySem.Challenge.cw_LID_holds : PySem.Challenge.rw_LID.Holds := by
  w_on; o_law; k_head; (case hw => w_witness2)
  k_fill
  refine L2.walk_of (l := PySem.Challenge.rw_LID) (n := 63) (k := 40) (x := "script") (CX := fun w => ..) (sp := fun _ => My.sp_law) rfl (by decide) rfl ⟨rfl, by decide, by decide⟩ (fun w h Y => PySem.W.kIn_of Y) ?F ?S ?C
  case F =>
    intro w mg fa h KX G hmg
    have T : ∃ t, My.Txt (L2.KOf KX) t := by
      dsimp only [L2.KOf]                          -- K must stand as «<heap const> w.params» for k_is
      refine' My.txt_mk ?e1 ?e2 ?e3 ..
      (case e1 => PySem.W.k_is)                    -- in the order: a name -> its address -> its object -> its parts
      (case e2 => PySem.W.k_is)
      ..
    obtain ⟨t, T⟩ := T
    have e0 := hmg.symm.trans (PySem.W.mg_of KX G T.law)
    cases e0                                       -- fa is the law's own address
    exact ⟨_, fun s u => .of_eq rfl, fun base kb nb => My.law_fn T kb nb⟩     -- if «.of_eq rfl» comes too early: refine' ⟨_, ?b, fun base kb nb => My.law_fn T kb nb⟩; exact fun s u => .of_eq rfl
  case S => exact fun w H a ns hl hO hS => ..
  case C => exact ..
(the tactic k_is has no namespace: write k_is) -/

namespace L2
open PySem PySem.Spec PyProof.Rows

def defArgs (s : Stmt) : Arguments := match s with
  | .FunctionDef _ a _ _ _ _ _ _ _ _ => a
  | _ => { posonlyargs := [], args := [], vararg := none, kwonlyargs := [], kw_defaults := [], kwarg := none, defaults := [] }
def defBody (s : Stmt) : List Stmt := match s with
  | .FunctionDef _ _ b _ _ _ _ _ _ _ => b
  | _ => []
def defScope (s : Stmt) : Scope := match s with
  | .FunctionDef _ _ _ _ _ _ sc _ _ _ => sc
  | _ => { kind := .function, names := [], isGenerator := false, isCoroutine := false }

abbrev CX0 : CXT := fun _ _ _ _ _ _ => False
abbrev E0 : XK := fun _ _ _ => False
theorem pass0 {X : Cx} : Passes CX0 X E0 := fun _ _ _ _ _ _ _ h => h.elim

structure Fun (K : PySem.W.Frag) (x qual : Str) (st : Stmt) (f : Addr) (fd : FuncData) : Prop where
  ex : ∃ (oc : Value) (od : Option Addr) (kV doc pm : Value) (an : Option Addr) (cdv ct : Value) (osl : Array (Option Value)),
    fd = PySem.W.fnOf x qual (defArgs st) (defBody st) (defScope st) .none kV doc pm an cdv ct ∧ K.lookup f = some ⟨oc, od, .func fd, osl⟩ ∧ PySem.W.codeIn K cdv qual = true
  kp : PySem.W.keepIn K (.ref f) = true
section
variable {P : Program} {w : World} {K : PySem.W.Frag} {mg : Str → Option Value} {base : Heap}
theorem Fun.ok {x qual : Str} {st : Stmt} {f : Addr} {fd : FuncData} {N ps : List Str} {k : Nat} {sp : Sp} (F : Fun K x qual st f fd) (S : FnScope N ps (defScope st)) (len : ∀ vs H Q E, sp vs H Q E → vs.length = ps.length)
    (hbody : ∀ (cdv : Value) (A : Around) (outer : List Env) (s : Shared) (H : Hp) (vs : List V) (Q : VK) (E : XK), Room k (A.deeper (envOfC qual (defScope st) s.heap.objs.size f cdv)) → sp vs H Q E →
      ∃ t, PSs (cxOf CX0 P w K mg base N qual (defScope st) f cdv A outer s H E).nox (defBody st) t ∧ t { nx := fun _ H' => Q .non H', rt := Q } (start N vs) H) : FnOk P w K mg base CX0 (k + 1) f fd ps sp := by
  obtain ⟨oc, od, kV, doc, pm, an, cdv, ct, osl, rfl, lk, hcd⟩ := F.ex
  refine fn_of lk hcd S len fun A outer s H vs Q E hr hsp => ?_
  obtain ⟨t, h, q⟩ := hbody cdv A outer s H vs Q E hr hsp
  exact ⟨t, h.nox, q⟩
theorem Fun.binds {x qual : Str} {st : Stmt} {f : Addr} {fd : FuncData} {ps : List Str} (F : Fun K x qual st f fd)
    (h : ∀ (kV doc pm : Value) (an : Option Addr) (cdv ct : Value) (us : List Value), us.length = ps.length → bindArgs (PySem.W.fnOf x qual (defArgs st) (defBody st) (defScope st) .none kV doc pm an cdv ct) ⟨us, []⟩ = pure (ps.zip us)) : Binds K fd ps [] := by
  obtain ⟨oc, od, kV, doc, pm, an, cdv, ct, osl, rfl, lk, hcd⟩ := F.ex
  exact .all (h kV doc pm an cdv ct)
theorem fun_mk {x qual : Str} {st : Stmt} {f : Addr} {oc : Value} {od an : Option Addr} {osl : Array (Option Value)} {kV doc pm cdv ct : Value} (l : K.lookup f = some ⟨oc, od, .func (PySem.W.fnOf x qual (defArgs st) (defBody st) (defScope st) .none kV doc pm an cdv ct), osl⟩)
    (c : PySem.W.codeIn K cdv qual = true) (k : PySem.W.keepIn K (.ref f) = true) : Fun K x qual st f (PySem.W.fnOf x qual (defArgs st) (defBody st) (defScope st) .none kV doc pm an cdv ct) := ⟨⟨oc, od, kV, doc, pm, an, cdv, ct, osl, rfl, l, c⟩, k⟩
end
theorem hu_of {A : Around} {k : Nat} (hr : Room k A) : A.units + 1 < cLine := Nat.lt_of_le_of_lt (Nat.add_le_add_left (by decide : 1 ≤ 64) _) hr.units

section
variable {X : Cx}
theorem call_lenD : CallR X (.builtin "len") (fun xs H Q => ∃ a kvs, xs = [V.ref a] ∧ H a = some (.dK kvs) ∧ Q (.int kvs.length) H) := by
  intro pins s σ H xs us Q I r h
  obtain ⟨a, kvs, rfl, ha, q⟩ := h
  obtain ⟨u, rfl, ru⟩ := vals1 r
  cases ru
  exact d_len I (.inl ha) fun t s' I' => ⟨.int kvs.length, H, I', ⟨t, rfl⟩, q⟩
end

theorem iteF {A B : Prop} (h : B) : if false = true then A else B := by
  rw [if_neg Bool.false_ne_true]
  exact h
theorem iteT {A B : Prop} (h : A) : if true = true then A else B := by
  rw [if_pos rfl]
  exact h

def Same (H H' : Hp) : Prop := ∀ b o, H b = some o → H' b = some o
theorem Same.refl (H : Hp) : Same H H := fun _ _ h => h
theorem Same.trans {H H1 H2 : Hp} (a : Same H H1) (b : Same H1 H2) : Same H H2 := fun c o h => b c o (a c o h)
theorem Same.free {H H' : Hp} (e : Same H H') {l : Addr} (h : H' l = Option.none) : H l = Option.none := by
  cases q : H l with
  | none => rfl
  | some o =>
    rw [e l o q] at h
    cases h
theorem Same.seq {K : PySem.W.Frag} {H H' : Hp} {a : Addr} {xs : List V} (e : Same H H') (h : SqL K H a xs) : SqL K H' a xs := by
  rcases h with (h | ⟨o, h⟩) | h
  · exact .inl (.inl (e _ _ h))
  · exact .inl (.inr ⟨o, e _ _ h⟩)
  · exact .inr h

section
variable {κ : Type} [DecidableEq κ]
end
end L2
end
section
set_option Elab.async false
set_option linter.all false
set_option maxRecDepth 100000
namespace L2
open PySem PySem.Spec PyProof.Rows
theorem HOk.track {P : Program} {w : World} {H : Hp} {h : Heap} {a : Addr} {o : HO} (x : HOk P w H h) (hn : H a = none) (new : ObjOk P w (upd H a o) h a o) : HOk P w (upd H a o) h := fun b u e => by
  by_cases hb : b = a
  · subst hb; rw [upd_same] at e; cases e; exact new
  · rw [upd_ne hb] at e
    exact (x b u e).stay (fun c v _ q => q) (fun c q => by rw [upd_ne (ne_of_none q hn)]; exact q) fun c xs q => by rw [upd_ne (ne_of_none q hn)]; exact q
def compCx (X : Cx) (N' : List Str) (scope : Scope) (cl : List (Str × Addr)) (C : Addr) (s : Shared) (H : Hp) (fp : List Addr) : Cx :=
  { X with N := N', s₀ := s, H₀ := H, env := compEnvC scope cl C X.env, outer := X.stack, stack := X.stack, ex := fp, fn := fun _ => false, pn := [], xe := fun _ _ => False }
def capOf (cap : List Nat) (σ : St) : St := cap.map fun i => (σ[i]?).join
structure CompTxt (X : Cx) (x : Str) (capN : List Str) (cap : List Nat) (scope : Scope) (cl : List (Str × Addr)) : Prop where
  clos : closureFor scope X.env = pure cl
  nocell : ∀ y ∈ scope.names, y.2 ≠ .cell
  kind : scope.kind = .function
  names : ∀ y ∈ scope.names, y.2 = .local → scope.names.lookup y.1 = some .local
  loc : scope.names.lookup x = some .local
  cells : ∀ n c, cl.lookup n = some c → X.env.cells.lookup n = some c
  has : ∀ n, ((relabel scope X.env).names.lookup n = some .cell ∨ (relabel scope X.env).names.lookup n = some .free) → ∃ c, cl.lookup n = some c
  nd : (x :: capN).Nodup
  len : cap.length = capN.length
  slot : ∀ (j : Nat) n, capN[j]? = some n → ∃ i : Nat, cap[j]? = some i ∧ X.N[i]? = some n ∧ Vis X.env.scope n
  vis : ∀ n, n ∈ capN → ((relabel scope X.env).names.lookup n = some .cell ∨ (relabel scope X.env).names.lookup n = some .free) ∧ (∃ c, cl.lookup n = some c) ∧ X.env.scope.names.lookup n ≠ some .local
def tLC (wi : TI) (cap : List Nat) (tc : TT) (te : TE) : TE := fun σ H Q => wi σ H fun J H1 => ∃ W : Nat → Nat → List V → Hp → Prop, (∃ m, W 0 m [] H1) ∧ ∀ i m ys H, W i m ys H → ys.length < sizeLine ∧
  ((J.stop i H ∧ ∀ p, H p = none → Q (.ref p) (upd H p (.lst ys))) ∨
   (J.go i H ∧ ∀ x H', J.yld i H x H' → tc (some x :: capOf cap σ) H' fun b H2 => if b = true then te (some x :: capOf cap σ) H2 fun y H3 => ∃ m', m' < m ∧ W (i + 1) m' (ys ++ [y]) H3 else ∃ m', m' < m ∧ W (i + 1) m' ys H2))
def tAll : TT := fun _ H Q => Q true H
def PTs (X : Cx) (ifs : List Expr) (tc : TT) : Prop :=
  ∀ (pins : List (Addr × Obj)) (s : Shared) (σ : St) (H : Hp) (Q : Bool → Hp → Prop), Inv X pins σ H s → tc σ H Q →
    wpAny (model X.prog X.w) X.A (forIn ifs true fun c r => if r = true then do let ok ← isTrue c X.env (eval c X.env); pure (ForInStep.yield ok) else pure (ForInStep.yield r)) (TP X pins σ Q) X.xe s
theorem pts_nil {X : Cx} : PTs X [] tAll := fun pins s σ H Q I h => wpAny_tests_nil ⟨H, I, h⟩
theorem pts_one {X : Cx} {c : Expr} {tc : TT} (h : PT X c tc) : PTs X [c] tc := fun pins s σ H Q I q => wpAny_tests_one (h pins s σ H Q I q)

theorem lst_eq (ys : List Value) (y : Value) : ({ cls := .type "list", data := .seq (ys.toArray.push y) (ys.length + 1) } : Obj) = { cls := .type "list", data := .seq (ys ++ [y]).toArray (ys ++ [y]).length } := by
  rw [List.length_append, List.length_singleton, List.push_toArray]

theorem inv_comp {X : Cx} {pins : List (Addr × Obj)} {σ : St} {H : Hp} {s s4 : Shared} {x : Str} {capN : List Str} {cap : List Nat} {scope : Scope} {cl : List (Str × Addr)} {C : Addr} {fp : List Addr} {m' : Str → Option Value}
    (I : Inv X pins σ H s) (T : CompTxt X x capN cap scope cl) (hfp : ∀ b ∈ fp, FpOk X pins H b) (hfo : ∀ b ∈ fp, ∃ o, s.heap.get? b = some o)
    (hC : s.heap.objs.size ≤ C) (hns : s4.heap.Ns C m') (hos : s4.os = s.os) (hg : s4.gens = s.gens)
    (kept : ∀ b o, s.heap.get? b = some o → s4.heap.get? b = some o) :
    Inv (compCx X (x :: capN) scope cl C s H fp) [] (none :: capOf cap σ) H s4 := by
  have fr : ∀ b, s.heap.objs.size ≤ b → H b = none := fun b hb => I.hok.fresh hb
  refine ⟨⟨I.ok.mod, T.kind, I.ok.glob, I.ok.blt, hC, fun y z c h1 h2 => I.ok.inj y z c (T.cells _ _ h1) (T.cells _ _ h2), fun y hy => T.has y hy, fun y c h => (by cases h), I.ok.hd, I.ok.frames, .inl rfl, fun b hb => ⟨?_, fun y c e z => ?_⟩, I.bs, Nat.le_trans I.ok.bsz I.sz, fun b o e hb => ?_, fun b hb z => ?_, I.stack, I.stkFree⟩,
    hos, by rw [hg]; exact I.bare, Un.kept kept, ⟨m', hns, fun i y v h1 h2 h3 => ?_⟩, fun y c h => ?_, fr C hC, fun y c h => I.freeC y c (T.cells _ _ h), fun p hp => ?_, I.hok.kept kept, ?_⟩
  · obtain ⟨o, e⟩ := hfo b hb
    exact Nat.ne_of_lt (Nat.lt_of_lt_of_le (Heap.lt_size e) hC)
  · exact (hfp b hb).2.2.2.2.1 y c (T.cells _ _ e) z
  · rcases (hfp b hb).2.2.2.1 with z | z
    · exact I.ok.noex b o e z
    · exact absurd (Nat.lt_of_lt_of_le (Heap.lt_size e) (Nat.le_trans I.ok.bsz z)) (Nat.lt_irrefl _)
  · rcases List.mem_cons.mp (I.stkSub b z) with q | q
    · exact (hfp b hb).2.1 q
    · exact (hfp b hb).2.2.1 q
  · cases i with
    | zero => cases h2
    | succ j =>
      have h1 : capN[j]? = some y := by simpa [compCx] using h1
      have h2 : (capOf cap σ)[j]? = some (some v) := by simpa using h2
      obtain ⟨i, e1, e2, e3⟩ := T.slot j y h1
      have e4 : σ[i]? = some (some v) := by
        unfold capOf at h2
        rw [List.getElem?_map, e1] at h2
        have h2 : some ((σ[i]?).join) = some (some v) := h2
        have h2 := Option.some.inj h2
        cases q : σ[i]? with
        | none => rw [q] at h2; cases h2
        | some o => rw [q] at h2; cases h2; rfl
      obtain ⟨m, hn, hl⟩ := I.loc
      obtain ⟨u, r, l⟩ := hl i y v e2 e4 e3
      obtain ⟨k1, ⟨c, hc⟩, k3⟩ := T.vis y (List.mem_of_getElem? h1)
      refine ⟨u, r, .inr ⟨k1, c, hc, ?_⟩⟩
      rcases l with ⟨hk, _⟩ | ⟨hk, c', hc', z⟩
      · exact absurd hk k3
      · rw [T.cells _ _ hc] at hc'
        cases hc'
        obtain ⟨o, ho, hd⟩ := z
        exact ⟨o, kept _ _ ho, hd⟩
  · obtain ⟨v, o, ho, hd⟩ := I.cell y c (T.cells _ _ h)
    exact ⟨v, o, kept _ _ ho, hd⟩
  · exact absurd (show p ∈ ([] : List (Addr × Obj)) from hp) (by simp)
  · show (none :: capOf cap σ).length = (x :: capN).length
    simp [capOf, T.len]
end L2

end
section
set_option Elab.async false
set_option linter.all false
set_option maxRecDepth 100000
namespace L2
open PySem PySem.Spec PyProof.Rows
theorem use_pure {α : Type} {M : Model} {A : Around} {E E' : Value → Shared → Prop} {s : Shared} {t : Sem α} {Q : Unit → Shared → Prop} {Q' : α → Shared → Prop} (h : wpAny M A (pure () : Sem Unit) Q E s) (k : Q () s → wpAny M A t Q' E' s) : wpAny M A t Q' E' s :=
  fun Γ p hΓ => k (h Γ p hΓ) Γ p hΓ
theorem lcomp_core {X : Cx} {elt iter : Expr} {ifs : List Expr} {x : Str} {px pos : Pos} {scope : Scope} {cl : List (Str × Addr)} {capN : List Str} {cap : List Nat} {wi : TI} {tc : TT} {te : TE} {pins : List (Addr × Obj)} {s : Shared} {σ : St} {H : Hp} {Q : VK} {use : Option (Value → Sem Unit)} {Qf : Value → Shared → Prop} {pos2 : Pos}
    (T : CompTxt X x capN cap scope cl) (hc : X.calm = true) (hi : PI X (.Name x px) iter wi)
    (ht : ∀ C s H fp, PTs (compCx X (x :: capN) scope cl C s H fp) ifs tc) (he : ∀ C s H fp, PE (compCx X (x :: capN) scope cl C s H fp) elt te)
    (hs : ∀ x, foldedSetIterable iter X.env x = pure x) (I : Inv X pins σ H s) (h : tLC wi cap tc te σ H Q)
    (hend : ∀ (D C : Addr) (s7 : Shared) (H6 : Hp) (ys : List V), Inv X pins σ (upd H6 D (.lst ys)) s7 → (∃ m, s7.heap.Ns C m) → FpOk X pins (upd H6 D (.lst ys)) C → Q (.ref D) (upd H6 D (.lst ys)) → compPost (model X.prog X.w) X.A X.xe use Qf (.ref D) C (.ok .next) s7) :
    wpAny (model X.prog X.w) X.A (comprehension (.ListComp elt [⟨.Name x px, iter, ifs, 0⟩] scope pos) scope X.env pos2 (newList []) false (eval iter X.env) use) Qf X.xe s := by
  refine wpAny_comprehension_free (use := use) rfl hs T.clos T.kind T.names (thn (hi pins s σ H _ I h) fun v s1 h1 => thn h1 fun itv s2 h2 => ?_)
  obtain ⟨it, fp, tn, J, H2, rfl, I2, TT', st2, f2, W, ⟨m0, w0⟩, turn⟩ := h2
  refine wpAny_newObj_type (wpAny_newFunctionEnv T.nocell (by intro y hy; simp at hy) (fun h4 hns4 hsb4 => ?_) T.kind)
  dsimp only at hns4 hsb4 ⊢
  generalize hH3 : s2.heap.push { cls := .type "list", dict := none, data := .seq ([] : List Value).toArray } = H3 at hns4 hsb4 ⊢
  have eC : H3.objs.size = s2.heap.objs.size + 1 := by rw [← hH3, Heap.size_push]
  generalize eC' : H3.objs.size = C at eC hns4 hsb4 ⊢
  generalize eD : s2.heap.objs.size = D at eC ⊢
  have eC'' : C = D + 1 := eC
  have hDC : D ≠ C := by rw [eC'']; exact Nat.ne_of_lt (Nat.lt_succ_self D)
  have hC : s2.heap.objs.size ≤ C := by rw [eD, eC'']; exact Nat.le_succ D
  have hD : s2.heap.objs.size ≤ D := by rw [eD]; exact Nat.le_refl D
  have kept : ∀ b o, s2.heap.get? b = some o → h4.get? b = some o := fun b o e => hsb4.extBut b o (Nat.ne_of_lt (Nat.lt_of_lt_of_le (Heap.lt_size e) hC)) (Heap.get?_push_of_some _ (hH3 ▸ Heap.get?_push_of_some _ e))
  have hacc : h4.get? D = some { cls := .type "list", data := .seq ([] : List Value).toArray ([] : List Value).length } := hsb4.extBut _ _ hDC (Heap.get?_push_of_some _ (hH3 ▸ eD ▸ Heap.get?_push_size _ rfl))
  have fo2 : ∀ b ∈ fp, ∃ o, s2.heap.get? b = some o := fun b hb => let ⟨o, e, _⟩ := TT'.obj _ _ st2 b hb; ⟨o, e⟩
  have hDf : D ∉ fp := fun hb => by
    obtain ⟨o, e⟩ := fo2 D hb
    exact absurd (Nat.lt_of_lt_of_le (Heap.lt_size e) hD) (Nat.lt_irrefl _)
  have st4 : tn 0 h4 := TT'.keep _ _ _ st2 fun b _ o e => kept b o e
  have key : ∀ s5 : Shared, s5 = { s2 with heap := h4, toks := s2.toks + ([] : List (Str × Value)).length } →
      codeAny (model X.prog X.w) X.A (.compLoop (.ListComp elt [⟨.Name x px, iter, ifs, 0⟩] scope pos) 0 (.ref it) (.ref D) (compEnvC scope cl C X.env)) (compPost (model X.prog X.w) X.A X.xe use Qf (.ref D) C) s5 := by
    rintro s5 rfl
    have I4 : Inv (compCx X (x :: capN) scope cl C s2 H2 fp) [] (none :: capOf cap σ) H2 { s2 with heap := h4, toks := s2.toks + ([] : List (Str × Value)).length } :=
      inv_comp (s4 := { s2 with heap := h4, toks := s2.toks + ([] : List (Str × Value)).length }) I2 T f2 fo2 hC hns4 rfl rfl kept
    generalize hY : compCx X (x :: capN) scope cl C s2 H2 fp = Y at I4
    have fD : ∀ {H' : Hp}, H' D = none → FpOk Y [] H' D := fun {H'} hn => by
      subst hY
      refine ⟨hn, hDC, fun z => (List.mem_cons.mp (I2.stkSub D z)).elim (fun q => absurd (Nat.lt_of_lt_of_le (q ▸ I2.lt) hD) (Nat.lt_irrefl _)) fun q => I2.nofs hD q, .inr hD, fun y c e z => ?_, fun p hp => absurd (show p ∈ ([] : List (Addr × Obj)) from hp) (by simp)⟩
      obtain ⟨v, q⟩ := I2.cell y c (T.cells _ _ e)
      exact absurd (Nat.lt_of_lt_of_le q.lt (by rw [z]; exact hD)) (Nat.lt_irrefl _)
    have fF : ∀ {H' : Hp}, (∀ b ∈ fp, H' b = none) → ∀ b ∈ fp, FpOk Y [] H' b := fun {H'} hn b hb => by
      have q := I4.ok.exf b (by subst hY; exact hb)
      exact ⟨hn b hb, fun z => q.1 z, I4.ok.exfs b (by subst hY; exact hb), .inl (by subst hY; exact hb), fun y c e z => q.2 y c e z, fun p hp => absurd (show p ∈ ([] : List (Addr × Obj)) from (by subst hY; exact hp)) (by simp)⟩
    have eA : Y.A = X.A := by subst hY; rfl
    have eP : Y.prog = X.prog := by subst hY; rfl
    have eW : Y.w = X.w := by subst hY; rfl
    have eK : Y.K = X.K := by subst hY; rfl
    have eE : Y.env = compEnvC scope cl C X.env := by subst hY; rfl
    have eX : Y.xe = fun _ _ => False := by subst hY; rfl
    have eN : Y.N = x :: capN := by subst hY; rfl
    have hcY : Y.calm = true := by subst hY; exact hc
    have htY : PTs Y ifs tc := by subst hY; exact ht _ _ _ _
    have heY : PE Y elt te := by subst hY; exact he _ _ _ _
    have hgY : PG Y (.Name x px) (gName 0) := pg_name (by rw [eN]; exact T.nd) (by rw [eN]; rfl) (by rw [eE]; exact .inl (lookup_relabel_local T.loc)) (.inr (by rw [eE]; exact lookup_relabel_local T.loc))
    have nofail : ∀ (E' : Value → Shared → Prop) (e : Value) (s' : Shared), Y.xe e s' → E' e s' := fun E' e s' z => by rw [eX] at z; exact z.elim
    refine codeAny_compLoop_tests (fun n s' => ∃ i ys us H' o, Inv Y [] (o :: capOf cap σ) H' s' ∧ tn i s'.heap ∧ (∀ b ∈ fp, H' b = none) ∧ H' D = none ∧ s'.heap.get? D = some { cls := .type "list", data := .seq us.toArray us.length } ∧ Vals ys us ∧ W i n ys H') ?_ m0
      ⟨0, [], [], H2, none, I4, st4, fun b hb => (f2 b hb).1, I2.hok.fresh hD, hacc, .nil, w0⟩
    rintro n s6 ⟨i, ys, us, H6, o6, I6, st6, fr6, d6, a6, v6, w6⟩
    have hul : us.length = ys.length := v6.length.symm
    obtain ⟨hz, turn6⟩ := turn i n ys H6 w6
    rcases turn6 with ⟨stop, qn⟩ | ⟨go, step⟩
    · have q := TT'.done Y eP eW eK hcY i [] s6 (o6 :: capOf cap σ) H6 (notedBy (model X.prog X.w) X.A (compEnvC scope cl C X.env) fun e s' => compPost (model X.prog X.w) X.A X.xe use Qf (.ref D) C (.error e) s') I6 (fF fr6) st6 stop
      rw [eA] at q
      have I6p := I6.pinned (fp := [D]) (fun b hb => by rw [List.mem_singleton.mp hb]; exact fD d6) (fun b hb => by rw [List.mem_singleton.mp hb]; exact ⟨_, a6, fun v z => by cases z⟩)
      have q := TT'.done Y eP eW eK hcY i _ s6 (o6 :: capOf cap σ) H6 (notedBy (model X.prog X.w) X.A (compEnvC scope cl C X.env) fun e s' => compPost (model X.prog X.w) X.A X.xe use Qf (.ref D) C (.error e) s') I6p (fun b hb => ?_) st6 stop
      · rw [eA] at q
        refine thn q fun r s7 ⟨hr, I7⟩ => ?_
        subst hr
        have a7 : s7.heap.get? D = _ := (I7.pin (D, { cls := .type "list", data := .seq us.toArray us.length }) (List.mem_append_right _ (List.mem_append_right _ (mem_pinsAt (List.mem_singleton.mpr rfl) a6)))).1
        obtain ⟨m7, hn7, _⟩ := I7.loc
        rw [eE] at hn7
        have hDn : H6 D = none := d6
        have hCn : H6 C = none := by have := I7.free; rw [eE] at this; exact this
        have hok8 : HOk X.prog X.w H6 s7.heap := by have q := I7.hok; rw [eP, eW] at q; exact q
        have new : ObjOk X.prog X.w (upd H6 D (.lst ys)) s7.heap D (.lst ys) := ⟨Nat.le_of_lt hz, us, us.length, v6, a7⟩
        have u7 : Un (frs X.stack) fp H2 H6 s2.heap s7.heap := by have := I7.base; subst hY; exact this
        have neD : ∀ b o, s2.heap.get? b = some o → b ≠ D := fun b o e => Nat.ne_of_lt (Nat.lt_of_lt_of_le (Heap.lt_size e) hD)
        have u8 : Un (frs X.stack) fp H2 (upd H6 D (.lst ys)) s2.heap s7.heap :=
          ⟨u7.keep, u7.slot, fun b o e n hx => by rw [upd_ne (neD b o e)]; exact u7.free b o e n hx, u7.there,
           fun b xs e => by have z := u7.tups b xs e; rw [upd_ne (ne_of_none z hDn)]; exact z, fun b o u e => by have z := u7.frzs b o u e; rw [upd_ne (ne_of_none z hDn)]; exact z,
           fun b ps e => by obtain ⟨more, z⟩ := u7.tbls b ps e; exact ⟨more, by rw [upd_ne (ne_of_none z hDn)]; exact z⟩⟩
        have os7 : s7.os = s2.os := by have := I7.os; subst hY; exact this
        have I9 : Inv X pins σ (upd H6 D (.lst ys)) s7 := I2.call' (ch := fp) os7 u8 (hok8.track hDn new) I7.bare fun b hb => ⟨(f2 b hb).2.2.2.1, (f2 b hb).2.1, (f2 b hb).2.2.2.2.1, (f2 b hb).2.2.2.2.2⟩
        exact hend D C s7 H6 ys I9 ⟨m7, hn7⟩ (I2.fpOk hC (by rw [upd_ne (Ne.symm hDC)]; exact hCn)) (qn D hDn)
      · obtain ⟨f0, f1, f2', f3, f4, f5⟩ := fF fr6 b hb
        refine ⟨f0, f1, f2', f3, f4, fun p hp z => ?_⟩
        rcases List.mem_append.mp hp with q' | q'
        · exact f5 p (List.mem_append_left _ q') z
        · rcases List.mem_append.mp q' with q' | q'
          · exact absurd q' (by simp)
          · have := (of_pinsAt q').1
            rw [List.mem_singleton.mp this] at z
            exact hDf (z ▸ hb)
    · have I6p := I6.pinned (fp := [D]) (fun b hb => by rw [List.mem_singleton.mp hb]; exact fD d6) (fun b hb => by rw [List.mem_singleton.mp hb]; exact ⟨_, a6, fun v z => by cases z⟩)
      have fF' : ∀ {H' : Hp}, (∀ b ∈ fp, H' b = none) → ∀ b ∈ fp, FpOk Y ([] ++ pinsAt [D] s6.heap) H' b := fun {H'} hn b hb => by
        obtain ⟨f0, f1, f2', f3, f4, f5⟩ := fF hn b hb
        refine ⟨f0, f1, f2', f3, f4, fun p hp z => ?_⟩
        rcases List.mem_append.mp hp with q' | q'
        · exact f5 p (List.mem_append_left _ q') z
        · rcases List.mem_append.mp q' with q' | q'
          · exact absurd q' (by simp)
          · have := (of_pinsAt q').1
            rw [List.mem_singleton.mp this] at z
            exact hDf (z ▸ hb)
      have q := TT'.item Y eP eW eK hcY i _ s6 (o6 :: capOf cap σ) H6 (notedBy (model X.prog X.w) X.A (compEnvC scope cl C X.env) fun e s' => compPost (model X.prog X.w) X.A X.xe use Qf (.ref D) C (.error e) s') I6p (fF' fr6) st6 go
      rw [eA] at q
      refine thn q fun r s7 ⟨u, hr, h7⟩ => ?_
      subst hr
      refine use_pure h7 fun ⟨xv, H8, I8, r8, y8, st8, fr8⟩ => ?_
      have I8' := I8.pinned (fF' fr8) (TT'.obj _ _ st8)
      have qa := hgY _ s7 (o6 :: capOf cap σ) H8 xv u _ I8' r8 (show gName 0 xv (o6 :: capOf cap σ) H8 (fun σ' H' => σ' = some xv :: capOf cap σ ∧ H' = H8) from ⟨rfl, rfl⟩)
      rw [eP, eW, eA, eE] at qa
      refine wpAny_mono qa (fun _ s9 h9 => ?_) (nofail _)
      obtain ⟨σ9, H9, I9, e9, e9'⟩ := h9
      subst e9 e9'
      have qt := htY _ s9 _ _ _ I9 (step xv _ y8)
      rw [eP, eW, eA, eE] at qt
      refine wpAny_mono qt (fun ok s10 h10 => ?_) (nofail _)
      obtain ⟨H10, I10, q10⟩ := h10
      have back : ∀ {s' : Shared} {H' : Hp}, Inv Y (([] ++ pinsAt [D] s6.heap) ++ pinsAt fp s7.heap) (some xv :: capOf cap σ) H' s' → Inv Y [] (some xv :: capOf cap σ) H' s' ∧ tn (i + 1) s'.heap ∧ (∀ b ∈ fp, H' b = none) ∧ H' D = none ∧ s'.heap.get? D = some { cls := .type "list", data := .seq us.toArray us.length } := fun {s' H'} J => by
        refine ⟨J.unpinned.unpinned, TT'.keep _ _ _ st8 fun b hb o e => (J.pin (b, o) (List.mem_append_right _ (List.mem_append_right _ (mem_pinsAt hb e)))).1, fun b hb => ?_, ?_, ?_⟩
        · obtain ⟨o, e, d⟩ := TT'.obj _ _ st8 b hb
          exact (J.pin (b, o) (List.mem_append_right _ (List.mem_append_right _ (mem_pinsAt hb e)))).2.1
        · exact (J.pin (D, _) (List.mem_append_right _ (List.mem_append_left _ (List.mem_append_right _ (mem_pinsAt (List.mem_singleton.mpr rfl) a6))))).2.1
        · exact (J.pin (D, _) (List.mem_append_right _ (List.mem_append_left _ (List.mem_append_right _ (mem_pinsAt (List.mem_singleton.mpr rfl) a6))))).1
      cases ok with
      | false =>
        rw [if_neg (by decide)] at q10 ⊢
        obtain ⟨m', hm, w10⟩ := q10
        obtain ⟨b1, b2, b3, b4, b5⟩ := back I10
        exact ⟨m', hm, i + 1, ys, us, H10, some xv, b1, b2, b3, b4, b5, v6, w10⟩
      | true =>
        rw [if_pos rfl] at q10 ⊢
        have qe := heY _ s10 _ _ _ I10 q10
        rw [eP, eW, eA, eE] at qe
        refine wpAny_mono qe (fun y s11 h11 => ?_) (nofail _)
        obtain ⟨yv, H11, I11, r11, m', hm, w11⟩ := h11
        obtain ⟨b1, b2, b3, b4, b5⟩ := back I11
        refine append_at (hsz := by rw [List.size_toArray, hul]; exact Nat.le_of_lt hz) b5 fun h12 hs12 hD12 => ?_
        have k12 : ∀ b o, b ≠ D → s11.heap.get? b = some o → h12.get? b = some o := fun b o hb e => hs12.extBut b o hb e
        obtain ⟨g0, g1, g2, g3, g4, g5⟩ := fD b4
        have I12 : Inv Y [] (some xv :: capOf cap σ) H11 { s11 with heap := h12 } := b1.turned (t' := s11.toks) k12 g0 g1 g3 g4 g5
        refine ⟨m', hm, i + 1, ys ++ [yv], us ++ [y], H11, some xv, I12, TT'.keep _ _ _ b2 fun b hb o e => k12 b o (fun z => hDf (z ▸ hb)) e, b3, b4, hD12.trans (congrArg some (lst_eq us y)), v6.append (.cons r11 .nil), w11⟩
  exact codeAny_compStart_list (key _ rfl) (TT'.self _ 0 _ _ _ st4 (key _ rfl))
theorem pe_lcomp {X : Cx} {elt iter : Expr} {ifs : List Expr} {x : Str} {px pos : Pos} {scope : Scope} {cl : List (Str × Addr)} {capN : List Str} {cap : List Nat} {wi : TI} {tc : TT} {te : TE}
    (T : CompTxt X x capN cap scope cl) (hc : X.calm = true) (hi : PI X (.Name x px) iter wi)
    (ht : ∀ C s H fp, PTs (compCx X (x :: capN) scope cl C s H fp) ifs tc) (he : ∀ C s H fp, PE (compCx X (x :: capN) scope cl C s H fp) elt te)
    (hs : ∀ x, foldedSetIterable iter X.env x = pure x := by intro _; rfl) :
    PE X (.ListComp elt [⟨.Name x px, iter, ifs, 0⟩] scope pos) (tLC wi cap tc te) := by
  intro pins s σ H Q I h
  rw [eval_ListComp]
  refine lcomp_core T hc hi ht he hs I h ?_
  rintro p C s7 H6 ys I9 ⟨m7, hn7⟩ ⟨g0, g1, g2, g3, g4, g5⟩ q
  exact ⟨m7, hn7, fun h' hs' => ⟨.ref p, _, I9.turned (t' := s7.toks) (fun b o hb e => hs'.extBut b o hb e) g0 g1 g3 g4 g5, rfl, q⟩⟩
end L2

end
section
set_option Elab.async false
set_option linter.all false
set_option maxRecDepth 100000
namespace L2
open PySem PySem.Spec PyProof.Rows
def Its (z : Str) : It := ⟨fun i _ => i < z.cps.size, fun i H x H' => H' = H ∧ ∃ c, z.cps[i]? = some c ∧ x = .str ⟨#[c]⟩, fun i _ => z.cps.size ≤ i⟩
theorem turn_str {P : Program} {w : World} {K : PySem.W.Frag} {x : Str} {px : Pos} (z : Str) (it : Addr) (t : Tok) (ty : String) (hW : ∀ A' : Around, A'.handled = none → Walks P w A' it [it] [it] z.cps.size (SignAt z) fun i h => h.IsStrIter it ty z t i)
    (hself : ∀ (A : Around) (i : Nat) (s : Shared) (Q : Value → Shared → Prop) (E : Value → Shared → Prop), s.heap.IsStrIter it ty z t i → Q (.ref it) s → wpAny (model P w) A (pyIter (.ref it)) Q E s) :
    Turn P w K (.Name x px) (Its z) [it] it (fun i h => i ≤ z.cps.size ∧ h.IsStrIter it ty z t i) where
  mem := by simp
  obj := fun i h st b hb => by
    obtain rfl : b = it := by simpa using hb
    obtain ⟨o, e, c, d⟩ := st.2
    exact ⟨o, e, fun v q => by rw [d] at q; cases q⟩
  keep := fun i h h' st k => by
    obtain ⟨o, e, r⟩ := st.2
    exact ⟨st.1, o, k it (by simp) o e, r⟩
  item := by
    intro X hP hw hK hc i pins s σ H E I hf st hg
    subst hP hw hK
    obtain ⟨f0, f1, f2, f3, f4, f5⟩ := hf it (by simp)
    refine (hW X.A (I.ok.hd hc)).item i s _ _ hg st.2 fun v h' tk hv st' kk => ?_
    obtain ⟨c, u, hc', rfl⟩ := hv
    exact ⟨_, rfl, wpAny_pure ⟨.str ⟨#[c]⟩, H, I.turned (fun b o hb e => kk b o (by simpa using hb) e) f0 f1 f3 f4 f5, ⟨u, rfl⟩, ⟨rfl, c, hc', rfl⟩, ⟨hg, st'⟩, fun b hb => (hf b hb).1⟩⟩
  done := by
    intro X hP hw hK hc i pins s σ H E I hf st hg
    subst hP hw hK
    obtain ⟨f0, f1, f2, f3, f4, f5⟩ := hf it (by simp)
    obtain ⟨s1, s2⟩ := st
    have e : i = z.cps.size := Nat.le_antisymm s1 hg
    subst e
    exact (hW X.A (I.ok.hd hc)).done s _ _ s2 fun h' tk kk => ⟨rfl, I.turned (fun b o hb e => kk b o (by simpa using hb) e) f0 f1 f3 f4 f5⟩
  self := fun A i s Q E st h => hself A i s Q E st.2 h
def iStr (tl : TE) : TI := fun σ H R => tl σ H fun x H1 => ∃ z, x = .str z ∧ R (Its z) H1
theorem pi_str {X : Cx} {x : Str} {px : Pos} {l : Expr} {tl : TE} (hl : PE X l tl) : PI X (.Name x px) l (iStr tl) := by
  intro pins s σ H R I h
  refine thn (hl pins s σ H _ I h) fun v s1 ⟨y, H1, I1, r1, q1⟩ => ?_
  obtain ⟨z, rfl, q⟩ := q1
  obtain ⟨t, rfl⟩ := r1
  refine wpAny_pyIter_strU ?_
  have hst : ∀ ty, strIterType z = ty → (s1.heap.push { cls := .type (strIterType z), data := .fields #[.str z t, .int 0 0] }).IsStrIter s1.heap.objs.size ty z t 0 := fun ty e => ⟨_, Heap.get?_push_size _ rfl, by rw [← e], rfl⟩
  have go : ∀ ty, strIterType z = ty → (∀ A' : Around, A'.handled = none → Walks X.prog X.w A' s1.heap.objs.size [s1.heap.objs.size] [s1.heap.objs.size] z.cps.size (SignAt z) fun i h => h.IsStrIter s1.heap.objs.size ty z t i) →
      (∀ (A : Around) (i : Nat) (s : Shared) (Q : Value → Shared → Prop) (E : Value → Shared → Prop), s.heap.IsStrIter s1.heap.objs.size ty z t i → Q (.ref s1.heap.objs.size) s → wpAny (model X.prog X.w) A (pyIter (.ref s1.heap.objs.size)) Q E s) →
      PIE X pins σ (.Name x px) R (.ref s1.heap.objs.size) { s1 with heap := s1.heap.push { cls := .type (strIterType z), data := .fields #[.str z t, .int 0 0] } } := fun ty e hW hself => by
    refine ⟨s1.heap.objs.size, [s1.heap.objs.size], _, _, H1, rfl, I1.kept (t' := s1.toks) fun b o e => Heap.get?_push_of_some _ e, turn_str z _ t ty hW hself, ⟨Nat.zero_le _, hst ty e⟩, fun b hb => ?_, q⟩
    obtain rfl : b = s1.heap.objs.size := by simpa using hb
    exact I1.fpOk (Nat.le_refl _) (I1.hok.fresh (Nat.le_refl _))
  cases ha : z.cps.all (· < 128)
  · exact go "str_iterator" (by simp [strIterType, ha]) (fun A' hA => Walks.strWide hA _ z t) fun A i s Q E st h => wpAny_pyIter_striter_wide st h
  · exact go "str_ascii_iterator" (by simp [strIterType, ha]) (fun A' hA => Walks.strAscii hA _ z t) fun A i s Q E st h => wpAny_pyIter_striter_ascii st h
theorem bools_of {bs : List Bool} : ∀ {us : List Value}, Vals (bs.map V.bl) us → us = bs.map Value.bool := by
  induction bs with
  | nil => intro us r; cases r; rfl
  | cons b bs ih =>
    intro us r
    cases r with
    | cons r1 r2 =>
      cases r1
      rw [ih r2]
      rfl
theorem range_allB (bs : List Bool) : ((List.range bs.length).all fun i => (bs[i]?).getD true) = bs.all id := by
  rw [Bool.eq_iff_iff, List.all_eq_true, List.all_eq_true]
  constructor
  · intro h b hb
    obtain ⟨i, hi, rfl⟩ := List.mem_iff_getElem.mp hb
    have := h i (List.mem_range.mpr hi)
    simpa [hi] using this
  · intro h i hi
    have hi := List.mem_range.mp hi
    simp only [List.getElem?_eq_getElem hi, Option.getD_some]
    exact h _ (List.getElem_mem hi)
theorem call_allL {X : Cx} (hc : X.calm = true) : CallR X (.builtin "all") (fun xs H Q => ∃ (p : Addr) (bs : List Bool), xs = [.ref p] ∧ SqL X.K H p (bs.map V.bl) ∧ Q (.bl (bs.all id)) H) := by
  intro pins s σ H xs us Q I r h
  obtain ⟨p, bs, rfl, hp, q⟩ := h
  obtain ⟨u, rfl, ru⟩ := vals1 r
  cases ru
  obtain ⟨its, rv, pl, hz⟩ := I.list hp
  obtain rfl := bools_of rv
  have hlt : p < s.heap.objs.size := by obtain ⟨_, e, _⟩ := pl.isList; exact Heap.lt_size e
  refine call_all_walk (wpAny_pyIter_list pl.isList ?_)
  refine ⟨s.heap.objs.size, [s.heap.objs.size, p], [s.heap.objs.size], _, _, _, fun i => (bs[i]?).getD true, rfl, Walks.list (A := X.A.in1) (I.ok.hd hc) _ p (Nat.ne_of_lt hlt) _,
    ⟨⟨_, Heap.get?_push_size _ rfl, rfl, rfl⟩, pl.isList.push _⟩, fun i v s' Q' E' hP hQ => ?_, fun h' tk hk => ?_⟩
  · have hP : (bs.map Value.bool)[i]? = some v := by simpa using hP
    rw [List.getElem?_map] at hP
    cases e : bs[i]? with
    | none => rw [e] at hP; cases hP
    | some b =>
      rw [e] at hP
      cases hP
      simp only [e, Option.getD_some] at hQ
      exact wpAny_truthy_bool hQ
  · have e : ((List.range (bs.map Value.bool).toArray.size).all fun i => (bs[i]?).getD true) = bs.all id := by
      rw [List.size_toArray, List.length_map]; exact range_allB bs
    rw [e]
    exact ⟨.bl (bs.all id), H, I.kept (t' := tk) fun b o e => hk b o (fun hm => by rw [List.mem_singleton.mp hm] at e; exact Nat.lt_irrefl _ (Heap.lt_size e)) (Heap.get?_push_of_some _ e), rfl, q⟩
def rSlS : V → Option Int → Option Int → Hp → VK → Prop := fun x lo hi H Q => ∃ z, x = .str z ∧ z.length ≤ sizeLine ∧ ((Txt.slice z lo hi).length ≤ z.length → Q (.str (Txt.slice z lo hi)) H)
theorem sl_str {X : Cx} : SlR X rSlS := by
  intro pins s σ H x v vl vu lo hi sl Q I rx hs pl pu h
  obtain ⟨z, rfl, hz, q⟩ := h
  obtain ⟨t, rfl⟩ := rx
  have q := q (Txt.slice_le z _ _)
  refine ⟨"str", _, F.slot_str_getitem.lookup, typeIs_str _ _ _, ?_⟩
  cases pl with
  | none =>
    cases pu with
    | none => exact wpAny_getItem_str_slice (l := none) (u := none) (st := none) hs rfl (post_val_or_str ⟨Nat.le_trans (Txt.slice_le z _ _) hz, fun t' k => ⟨V.str (Txt.slice z none none), H, I.tok k, ⟨t', rfl⟩, q⟩⟩)
    | int j u => exact wpAny_getItem_str_slice (l := none) (u := some (j, u)) (st := none) hs rfl (post_val_or_str ⟨Nat.le_trans (Txt.slice_le z _ _) hz, fun t' k => ⟨V.str (Txt.slice z none (some j)), H, I.tok k, ⟨t', rfl⟩, q⟩⟩)
  | int i u' =>
    cases pu with
    | none => exact wpAny_getItem_str_slice (l := some (i, u')) (u := none) (st := none) hs rfl (post_val_or_str ⟨Nat.le_trans (Txt.slice_le z _ _) hz, fun t' k => ⟨V.str (Txt.slice z (some i) none), H, I.tok k, ⟨t', rfl⟩, q⟩⟩)
    | int j u => exact wpAny_getItem_str_slice (l := some (i, u')) (u := some (j, u)) (st := none) hs rfl (post_val_or_str ⟨Nat.le_trans (Txt.slice_le z _ _) hz, fun t' k => ⟨V.str (Txt.slice z (some i) (some j)), H, I.tok k, ⟨t', rfl⟩, q⟩⟩)
end L2

end
section
set_option Elab.async false
set_option linter.all false
set_option maxRecDepth 100000
namespace L2
open PySem PySem.Spec PyProof.Rows
inductive D where
  | non | bl (b : Bool) | int (i : Int) | str (z : Str) | tup (ds : List D) | lst (ds : List D)
mutual
inductive Rep (H : Hp) : V → D → Prop
  | non : Rep H .non .non
  | bl (b : Bool) : Rep H (.bl b) (.bl b)
  | int (i : Int) : Rep H (.int i) (.int i)
  | str (z : Str) : Rep H (.str z) (.str z)
  | tup {a : Addr} {vs : List V} {ds : List D} (e : H a = some (.tup vs)) (r : Reps H vs ds) : Rep H (.ref a) (.tup ds)
  | lst {a : Addr} {vs : List V} {ds : List D} (e : H a = some (.lst vs)) (r : Reps H vs ds) : Rep H (.ref a) (.lst ds)
inductive Reps (H : Hp) : List V → List D → Prop
  | nil : Reps H [] []
  | cons {v : V} {d : D} {vs : List V} {ds : List D} (r : Rep H v d) (rs : Reps H vs ds) : Reps H (v :: vs) (d :: ds)
end
def isSq : HO → Bool
  | .lst _ => true
  | .tup _ => true
  | .frz _ _ => true
  | _ => false
def Grow (H H' : Hp) : Prop := ∀ b o, isSq o = true → H b = some o → H' b = some o
theorem Grow.refl (H : Hp) : Grow H H := fun _ _ _ h => h
theorem Grow.trans {H H1 H2 : Hp} (x : Grow H H1) (y : Grow H1 H2) : Grow H H2 := fun b o s h => y b o s (x b o s h)
theorem Grow.seq {K : PySem.W.Frag} {H H' : Hp} {a : Addr} {xs : List V} (e : Grow H H') (h : SqL K H a xs) : SqL K H' a xs := by
  rcases h with (h | ⟨o, h⟩) | h
  · exact .inl (.inl (e _ _ rfl h))
  · exact .inl (.inr ⟨o, e _ _ rfl h⟩)
  · exact .inr h
theorem Grow.of {H H' : Hp} (x : Same H H') : Grow H H' := fun b o _ h => x b o h
mutual
theorem Rep.grow {H H' : Hp} (g : Grow H H') : ∀ {v : V} {d : D}, Rep H v d → Rep H' v d
  | _, _, .non => .non
  | _, _, .bl b => .bl b
  | _, _, .int i => .int i
  | _, _, .str z => .str z
  | _, _, .tup e r => .tup (g _ _ rfl e) (Reps.grow g r)
  | _, _, .lst e r => .lst (g _ _ rfl e) (Reps.grow g r)
theorem Reps.grow {H H' : Hp} (g : Grow H H') : ∀ {vs : List V} {ds : List D}, Reps H vs ds → Reps H' vs ds
  | _, _, .nil => .nil
  | _, _, .cons r rs => .cons (Rep.grow g r) (Reps.grow g rs)
end
theorem Reps.length {H : Hp} : ∀ {vs : List V} {ds : List D}, Reps H vs ds → vs.length = ds.length
  | _, _, .nil => rfl
  | _, _, .cons _ rs => congrArg Nat.succ (Reps.length rs)
theorem Reps.get {H : Hp} : ∀ {vs : List V} {ds : List D} {i : Nat} {d : D}, Reps H vs ds → ds[i]? = some d → ∃ v, vs[i]? = some v ∧ Rep H v d
  | _, _, _, _, .nil, e => by simp at e
  | _, _, 0, _, .cons r _, e => by simp at e; subst e; exact ⟨_, rfl, r⟩
  | _, _, i + 1, _, .cons _ rs, e => by
    obtain ⟨v, h1, h2⟩ := Reps.get (i := i) rs (by simpa using e)
    exact ⟨v, by simpa using h1, h2⟩
theorem Reps.append {H : Hp} : ∀ {vs ws : List V} {ds es : List D}, Reps H vs ds → Reps H ws es → Reps H (vs ++ ws) (ds ++ es)
  | _, _, _, _, .nil, s => s
  | _, _, _, _, .cons r rs, s => .cons r (Reps.append rs s)
theorem Reps.take {H : Hp} : ∀ {vs : List V} {ds : List D} (n : Nat), Reps H vs ds → Reps H (vs.take n) (ds.take n)
  | _, _, 0, _ => .nil
  | _, _, _ + 1, .nil => .nil
  | _, _, n + 1, .cons r rs => .cons r (Reps.take n rs)
theorem Reps.drop {H : Hp} : ∀ {vs : List V} {ds : List D} (n : Nat), Reps H vs ds → Reps H (vs.drop n) (ds.drop n)
  | _, _, 0, rs => rs
  | _, _, _ + 1, .nil => .nil
  | _, _, n + 1, .cons _ rs => Reps.drop n rs
def tyN : D → String
  | .non => "NoneType" | .bl _ => "bool" | .int _ => "int" | .str _ => "str" | .tup _ => "tuple" | .lst _ => "list"
open PySem.W in
def kitD (T U : String) : Option Bool := if (Value.type T == Value.type U) = true then some true else if kitMeta U = true then (fastBuiltinMro T).map (·.contains (Value.type U)) else none
theorem Rep.ty {K : PySem.W.Frag} {H : Hp} {v : V} {d : D} (r : Rep H v d) : TyOf K H v (.type (tyN d)) := by
  cases r with
  | non => exact .non
  | bl b => exact .bl b
  | int i => exact .int i
  | str z => exact .str z
  | tup e _ => exact .tup e
  | lst e _ => exact .lst e
def isTupD : D → Bool
  | .tup _ => true
  | _ => false
def isLstD : D → Bool
  | .lst _ => true
  | _ => false
def isStrD : D → Bool
  | .str _ => true
  | _ => false
def isBlD : D → Bool
  | .bl _ => true
  | _ => false
def isIntD : D → Bool
  | .int _ => true
  | .bl _ => true
  | _ => false
theorem kit_tup {K : PySem.W.Frag} (d : D) : PySem.W.kitOne K (.type (tyN d)) (.type "tuple") = some (isTupD d) := by
  cases d with
  | non => exact (show kitD "NoneType" "tuple" = some false by decide +kernel)
  | bl b => exact (show kitD "bool" "tuple" = some false by decide +kernel)
  | int i => exact (show kitD "int" "tuple" = some false by decide +kernel)
  | str z => exact (show kitD "str" "tuple" = some false by decide +kernel)
  | tup ds => exact (show kitD "tuple" "tuple" = some true by decide +kernel)
  | lst ds => exact (show kitD "list" "tuple" = some false by decide +kernel)
theorem kit_lst {K : PySem.W.Frag} (d : D) : PySem.W.kitOne K (.type (tyN d)) (.type "list") = some (isLstD d) := by
  cases d with
  | non => exact (show kitD "NoneType" "list" = some false by decide +kernel)
  | bl b => exact (show kitD "bool" "list" = some false by decide +kernel)
  | int i => exact (show kitD "int" "list" = some false by decide +kernel)
  | str z => exact (show kitD "str" "list" = some false by decide +kernel)
  | tup ds => exact (show kitD "tuple" "list" = some false by decide +kernel)
  | lst ds => exact (show kitD "list" "list" = some true by decide +kernel)
theorem kit_strD {K : PySem.W.Frag} (d : D) : PySem.W.kitOne K (.type (tyN d)) (.type "str") = some (isStrD d) := by
  cases d with
  | non => exact (show kitD "NoneType" "str" = some false by decide +kernel)
  | bl b => exact (show kitD "bool" "str" = some false by decide +kernel)
  | int i => exact (show kitD "int" "str" = some false by decide +kernel)
  | str z => exact (show kitD "str" "str" = some true by decide +kernel)
  | tup ds => exact (show kitD "tuple" "str" = some false by decide +kernel)
  | lst ds => exact (show kitD "list" "str" = some false by decide +kernel)
theorem kit_bl {K : PySem.W.Frag} (d : D) : PySem.W.kitOne K (.type (tyN d)) (.type "bool") = some (isBlD d) := by
  cases d with
  | non => exact (show kitD "NoneType" "bool" = some false by decide +kernel)
  | bl b => exact (show kitD "bool" "bool" = some true by decide +kernel)
  | int i => exact (show kitD "int" "bool" = some false by decide +kernel)
  | str z => exact (show kitD "str" "bool" = some false by decide +kernel)
  | tup ds => exact (show kitD "tuple" "bool" = some false by decide +kernel)
  | lst ds => exact (show kitD "list" "bool" = some false by decide +kernel)
theorem kit_int {K : PySem.W.Frag} (d : D) : PySem.W.kitOne K (.type (tyN d)) (.type "int") = some (isIntD d) := by
  cases d with
  | non => exact (show kitD "NoneType" "int" = some false by decide +kernel)
  | bl b => exact (show kitD "bool" "int" = some true by decide +kernel)
  | int i => exact (show kitD "int" "int" = some true by decide +kernel)
  | str z => exact (show kitD "str" "int" = some false by decide +kernel)
  | tup ds => exact (show kitD "tuple" "int" = some false by decide +kernel)
  | lst ds => exact (show kitD "list" "int" = some false by decide +kernel)
end L2

end
section
set_option Elab.async false
set_option linter.all false
set_option maxRecDepth 100000
namespace HT
open PySem PySem.Spec PyProof.Rows
section
variable {prog : Program} {w : World} {A : Around} {E : Value → Shared → Prop} {s : Shared}
theorem tup_whole {t sl : Addr} {items : Array Value} {vl vu : Value} {lo hi : Option Int} {Q : Value → Shared → Prop} (ht : IsTup s.heap t items) (hs : s.heap.IsSliceOf sl vl vu .none) (pl : IsPart vl lo) (pu : IsPart vu hi)
    (hw : sIx items.size 0 lo = 0 ∧ sIx items.size items.size hi = items.size) (h : Q (.ref t) s) : wpAny (model prog w) A (getItem (.ref t) (.ref sl)) Q E s := by
  obtain ⟨os, hos, hcs, hds⟩ := id hs
  have hTs : s.TypeIs (.ref sl) "slice" := ⟨os, hos, hcs⟩
  unfold getItem
  try with_reducible refine wpAny_holding ?_
  first | refine wpAny_bind (wpAny_pure ?_) | skip
  refine wpAny_bind (wpAny_sequenceKey ht.typeIs (by decide) ?_)
  refine wpAny_bind (wpAny_callSpecial?_slot (name := Str.ofString "__getitem__") ht.typeIs PyProof.Rows.slot_tuple_getitem
    (wpAny_call_entry PyProof.Rows.slot_tuple_getitem ht.typeIs entry_tuple_getitem ?_ (args_tuple_getitem _ _)))
  show wpAny _ _ (Builtin.Tuple.tupleItemsOf (.ref t) >>= _) _ _ s
  refine wpAny_bind (tupleItemsOf_ ht ?_)
  refine wpAny_bind (wpAny_typeOf hTs ?_)
  rw [if_pos (by decide)]
  refine wpAny_bind (sliceApplied_gen hs pl pu ?_)
  have hyes : (((sIx items.size 0 lo : Nat) : Int) == 0 && (1 : Int) == 1 && (sIx items.size items.size hi - sIx items.size 0 lo) == items.size) = true := by
    rw [hw.1, hw.2]; simp
  show wpAny _ _ (if (((sIx items.size 0 lo : Nat) : Int) == 0 && (1 : Int) == 1 && (sIx items.size items.size hi - sIx items.size 0 lo) == items.size) = true then _ else _) _ _ s
  rw [if_pos hyes]
  have hex : ∀ {α : Type} {k : Bool → Sem α} {Q' : α → Shared → Prop} {E' : Value → Shared → Prop} {A' : Around}, wpAny (model prog w) A' (k true) Q' E' s → wpAny (model prog w) A' (Builtin.Tuple.tupleIsExact (.ref t) >>= k) Q' E' s := fun {α k Q' E' A'} hk => by
    refine wpAny_bind ?_
    unfold Builtin.Tuple.tupleIsExact
    exact wpAny_bind (wpAny_typeOf ht.typeIs (wpAny_pure hk))
  first
    | (refine hex ?_; exact wpAny_rule (wpAny_pure ⟨_, rfl, wpAny_pure h⟩))
    | (refine hex ?_; refine wpAny_bind (wpAny_rule ?_); exact wpAny_pure ⟨_, rfl, wpAny_pure h⟩)
end
end HT

end
section
set_option Elab.async false
set_option linter.all false
set_option maxRecDepth 100000
namespace L2
open PySem PySem.Spec PyProof.Rows
section
variable {X : Cx}
theorem Rep.tupAt {H : Hp} {v : V} {ds : List D} (r : Rep H v (.tup ds)) : ∃ a vs, v = .ref a ∧ H a = some (.tup vs) ∧ Reps H vs ds := by
  cases r with
  | tup e rs => exact ⟨_, _, rfl, e, rs⟩
theorem Rep.lstAt {H : Hp} {v : V} {ds : List D} (r : Rep H v (.lst ds)) : ∃ a vs, v = .ref a ∧ H a = some (.lst vs) ∧ Reps H vs ds := by
  cases r with
  | lst e rs => exact ⟨_, _, rfl, e, rs⟩
def cutD (ds : List D) (lo hi : Option Int) : List D := (ds.drop (HT.sIx ds.length 0 lo)).take (HT.sIx ds.length ds.length hi - HT.sIx ds.length 0 lo)
theorem Reps.atI {H : Hp} {vs : List V} {ds : List D} {i : Int} {d : D} (r : Reps H vs ds) (h : L2.atI ds i = some d) : ∃ v, L2.atI vs i = some v ∧ Rep H v d := by
  have hl := r.length
  unfold L2.atI at h ⊢
  rw [hl]
  cases e : ixN ds.length i with
  | none => rw [e] at h; cases h
  | some j =>
    rw [e] at h
    exact r.get h
end
end L2

end
section
set_option Elab.async false
set_option linter.all false
set_option maxRecDepth 100000
namespace L2
open PySem PySem.Spec PyProof.Rows
theorem mem_relabel {scope : Scope} {env : Env} {n : Str} {k : NameKind} (h : (relabel scope env).names.lookup n = some k) : (n, k) ∈ (relabel scope env).names := PySem.mem_of_lookup h
theorem comp_plain {X : Cx} {x : Str} {scope : Scope} (h1 : ∀ y ∈ scope.names, y.2 ≠ .free) (h2 : ∀ y ∈ scope.names, y.2 ≠ .cell) (h3 : scope.kind = .function) (h4 : ∀ y ∈ scope.names, y.2 = .local → scope.names.lookup y.1 = some .local) (h5 : scope.names.lookup x = some .local) :
    CompTxt X x [] [] scope [] := by
  refine ⟨closureFor_none h1, h2, h3, h4, h5, fun n c h => (by cases h), fun n h => ?_, by simp, rfl, fun j n h => (by simp at h), fun n h => (by simp at h)⟩
  have no : ∀ k, (k = NameKind.cell ∨ k = NameKind.free) → (relabel scope X.env).names.lookup n ≠ some k := fun k hk e => by
    have m := mem_relabel e
    unfold relabel at m
    obtain ⟨⟨n', k'⟩, hm, q⟩ := List.mem_map.mp m
    have z : (k' == NameKind.free) = false := by simpa using h1 _ hm
    simp only [z, Bool.false_and, if_false] at q
    have q2 : k' = k := by
      have := congrArg Prod.snd q
      simpa using this
    rcases hk with rfl | rfl
    · exact h2 _ hm q2
    · exact h1 _ hm q2
  rcases h with h | h
  · exact absurd h (no _ (.inl rfl))
  · exact absurd h (no _ (.inr rfl))
mutual
def Fit (n : Nat) : D → Prop
  | .str z => z.length ≤ n
  | .tup ds => ds.length ≤ n ∧ Fits n ds
  | .lst ds => ds.length ≤ n ∧ Fits n ds
  | .non => True
  | .bl _ => True
  | .int _ => True
def Fits (n : Nat) : List D → Prop
  | [] => True
  | d :: ds => Fit n d ∧ Fits n ds
end
mutual
theorem Fit.mono {n m : Nat} (l : n ≤ m) : ∀ {d : D}, Fit n d → Fit m d
  | .str _, h => Nat.le_trans h l
  | .tup _, h => ⟨Nat.le_trans h.1 l, Fits.mono l h.2⟩
  | .lst _, h => ⟨Nat.le_trans h.1 l, Fits.mono l h.2⟩
  | .non, _ => True.intro
  | .bl _, _ => True.intro
  | .int _, _ => True.intro
theorem Fits.mono {n m : Nat} (l : n ≤ m) : ∀ {ds : List D}, Fits n ds → Fits m ds
  | [], _ => True.intro
  | _ :: _, h => ⟨Fit.mono l h.1, Fits.mono l h.2⟩
end
theorem Fits.append {n : Nat} : ∀ {ds es : List D}, Fits n ds → Fits n es → Fits n (ds ++ es)
  | [], _, _, h => h
  | _ :: _, _, h, k => ⟨h.1, Fits.append h.2 k⟩
theorem Fits.take {n : Nat} : ∀ {ds : List D} (k : Nat), Fits n ds → Fits n (ds.take k)
  | _, 0, _ => True.intro
  | [], _ + 1, _ => True.intro
  | _ :: _, k + 1, h => ⟨h.1, Fits.take k h.2⟩
theorem Fits.drop {n : Nat} : ∀ {ds : List D} (k : Nat), Fits n ds → Fits n (ds.drop k)
  | _, 0, h => h
  | [], _ + 1, _ => True.intro
  | _ :: _, k + 1, h => Fits.drop k h.2
theorem Fits.get {n : Nat} : ∀ {ds : List D} {i : Nat} {d : D}, Fits n ds → ds[i]? = some d → Fit n d
  | [], _, _, _, e => by simp at e
  | _ :: _, 0, _, h, e => by simp at e; subst e; exact h.1
  | _ :: _, i + 1, _, h, e => Fits.get (i := i) h.2 (by simpa using e)
theorem cutD_length (ds : List D) (lo hi : Option Int) : (cutD ds lo hi).length ≤ ds.length := by
  unfold cutD
  rw [List.length_take, List.length_drop]
  omega
theorem Fits.cut {n : Nat} {ds : List D} (h : Fits n ds) (lo hi : Option Int) : Fits n (cutD ds lo hi) := (h.drop _).take _
def LET : Str := "abcdefghijklmnopqrstuvwxyz"
def wholeD (d : D) (l m : Int) : Bool := match d with
  | .int i => decide (l ≤ i) && decide (i ≤ m)
  | _ => false
def tupleD (d : D) (l m : Int) : Bool := match d with
  | .tup ds => decide (l ≤ (ds.length : Int)) && decide ((ds.length : Int) ≤ m)
  | _ => false
end L2

end
section
set_option Elab.async false
set_option linter.all false
set_option maxRecDepth 100000
namespace L2
open PySem PySem.Spec PyProof.Rows
theorem lookup_some {α : Type} : ∀ {l : List (Str × α)} {n : Str}, n ∈ l.map (·.1) → ∃ c, l.lookup n = some c
  | [], _, h => by simp at h
  | (m, c) :: l, n, h => by
    rw [List.lookup_cons]
    cases e : n == m with
    | true => exact ⟨c, rfl⟩
    | false =>
      rcases List.mem_cons.mp h with h | h
      · have h : n = m := h
        rw [h, beq_self_eq_true] at e
        cases e
      · exact lookup_some h
end L2

end
section
set_option Elab.async false
set_option linter.all false
set_option maxRecDepth 100000
namespace L2
open PySem PySem.Spec PyProof.Rows
end L2

end
section
set_option Elab.async false
set_option linter.all false
set_option maxRecDepth 100000
namespace L2
open PySem PySem.Spec PyProof.Rows
mutual
def toPy : D → PyData
  | .non => .none
  | .bl b => .bool b
  | .int i => .int i
  | .str z => .str z
  | .tup ds => .tuple (toPys ds)
  | .lst ds => .list (toPys ds)
def toPys : List D → List PyData
  | [] => []
  | d :: ds => toPy d :: toPys ds
end
section
variable {X : Cx} {pins : List (Addr × Obj)} {σ : St} {H : Hp} {s : Shared}
mutual
theorem Rep.reads (I : Inv X pins σ H s) : ∀ {v : V} {d : D} {u : Value}, Rep H v d → RelV v u → ∃ as, Reads s.heap u (toPy d) as
  | _, _, _, .non, r => by cases r; exact ⟨[], .none⟩
  | _, _, _, .bl b, r => by cases r; exact ⟨[], .bool b⟩
  | _, _, _, .int i, r => by obtain ⟨t, rfl⟩ := r; exact ⟨[], .int i t⟩
  | _, _, _, .str z, r => by obtain ⟨t, rfl⟩ := r; exact ⟨[], .str z t⟩
  | _, _, _, .tup e rs, r => by
    cases r
    obtain ⟨its, rv, p, hz⟩ := I.tuple (SqT.of (K := X.K) e)
    obtain ⟨as, h⟩ := Reps.reads I rs rv
    obtain ⟨o, ho, hc, n, hd⟩ := p
    exact ⟨as, .tuple ho hc hd (by simpa using h)⟩
  | _, _, _, .lst e rs, r => by
    cases r
    obtain ⟨its, rv, p, hz⟩ := I.list (SqL.of (K := X.K) e)
    obtain ⟨as, h⟩ := Reps.reads I rs rv
    obtain ⟨o, ho, hc, n, hd⟩ := p.isList
    exact ⟨_ :: as, .list ho hc hd (by simpa using h)⟩
theorem Reps.reads (I : Inv X pins σ H s) : ∀ {vs : List V} {ds : List D} {us : List Value}, Reps H vs ds → Vals vs us → ∃ as, ReadsAll s.heap us (toPys ds) as
  | _, _, _, .nil, r => by cases r; exact ⟨[], .nil⟩
  | _, _, _, .cons q qs, r => by
    cases r with
    | cons r rs =>
      obtain ⟨as, h⟩ := Rep.reads I q r
      obtain ⟨bs, k⟩ := Reps.reads I qs rs
      exact ⟨as ++ bs, .cons h k⟩
end
end
mutual
theorem toPy_noDict : ∀ d : D, (toPy d).hasDict = false
  | .non => rfl
  | .bl _ => rfl
  | .int _ => rfl
  | .str _ => rfl
  | .tup ds => toPys_noDict ds
  | .lst ds => toPys_noDict ds
theorem toPys_noDict : ∀ ds : List D, PyData.hasDictAll (toPys ds) = false
  | [] => rfl
  | d :: ds => by
    show ((toPy d).hasDict || PyData.hasDictAll (toPys ds)) = false
    rw [toPy_noDict d, toPys_noDict ds]
    rfl
end
end L2

end
section
set_option Elab.async false
set_option linter.all false
set_option maxRecDepth 100000
/-! Programs over trees. A slot holds a tree that nobody writes to (t), an object of its own (m), or one that was lent (b).
A text's meaning is a function of the slots; what the function tells is what the text does (JE, JS below). -/
namespace L2
open PySem PySem.Spec PyProof.Rows
inductive MO where
  | lst (ds : List D)
  | dct (kvs : List (Key × D))
  | dtt (kvs : List (List Key × D))
inductive U where
  | t (d : D) | m (o : MO) | b (o : MO) | v (i : Nat) | s (ns : List Int)
abbrev SS := List (Option U)
def Sub (F H : Hp) : Prop := ∀ a o, F a = some o → H a = some o
def PairD {κ : Type} (F : Hp) (p : κ × V) (q : κ × D) : Prop := p.1 = q.1 ∧ Rep F p.2 q.2
def At (F H : Hp) (a : Addr) : MO → Prop
  | .lst ds => ∃ vs, H a = some (.lst vs) ∧ Reps F vs ds
  | .dct kvs => ∃ ws, H a = some (.dK ws) ∧ Paired (PairD F) ws kvs
  | .dtt kvs => ∃ ws, H a = some (.dT ws) ∧ Paired (PairD F) ws kvs
def isMut : U → Bool
  | .m _ => true
  | .b _ => true
  | _ => false
def mutAt (S : SS) (σ : St) (a : Addr) : Prop := ∃ (i : Nat) (u : U), S[i]? = some (some u) ∧ isMut u = true ∧ σ[i]? = some (some (.ref a))
def Scr (K : PySem.W.Frag) (H : Hp) (a : Addr) (ns : List Int) : Prop :=
  (∃ o, H a = some (.frz o (.lst (ns.map V.int)))) ∨ ∃ (o : Obj) (its : Array Value) (n : Nat), K.lookup a = some o ∧ o.cls = .type "list" ∧ o.dict = none ∧ o.data = .seq its n ∧ its.size ≤ sizeLine ∧ Vals (ns.map V.int) its.toList
theorem Scr.sq {K : PySem.W.Frag} {H : Hp} {a : Addr} {ns : List Int} : Scr K H a ns → SqL K H a (ns.map V.int)
  | .inl h => .inl (.inr h)
  | .inr h => .inr h
def RepU (K : PySem.W.Frag) (F H : Hp) (v : V) : U → Prop
  | .t d => Rep F v d
  | .m o => ∃ a, v = .ref a ∧ F a = none ∧ At F H a o
  | .b o => ∃ a, v = .ref a ∧ F a = none ∧ At F H a o
  | .v _ => False
  | .s ns => ∃ a, v = .ref a ∧ Scr K H a ns
structure Ext (M : Addr → Prop) (F H F' H' : Hp) : Prop where
  le : ∀ b o, F b = some o → F' b = some o
  keep : ∀ b o, H b = some o → ¬ M b → H' b = some o
  nofr : ∀ b o, H b = some o → ¬ M b → F b = none → F' b = none
  there : ∀ b o, H b = some o → ∃ o', H' b = some o'
  frz : ∀ b o u, H b = some (.frz o u) → H' b = some (.frz o u)
structure Base where
  P : List (Option Addr)
  F : Hp
  H : Hp
def Base.M (B : Base) (a : Addr) : Prop := some a ∈ B.P
structure Rel (K : PySem.W.Frag) (B : Base) (S : SS) (σ : St) (F H : Hp) : Prop where
  sub : Sub F H
  len : S.length = σ.length
  rep : ∀ (i : Nat) u, S[i]? = some (some u) → ∃ v, σ[i]? = some (some v) ∧ RepU K F H v u
  dis : ∀ (i j : Nat) u w a, S[i]? = some (some u) → isMut u = true → S[j]? = some (some w) → isMut w = true → σ[i]? = some (some (.ref a)) → σ[j]? = some (some (.ref a)) → i = j
  own : ∀ (i : Nat) o a, S[i]? = some (some (.m o)) → σ[i]? = some (some (.ref a)) → B.H a = none
  bor : ∀ (i : Nat) o a, S[i]? = some (some (.b o)) → σ[i]? = some (some (.ref a)) → B.M a
  par : ∀ (i : Nat) a, B.P[i]? = some (some a) → σ[i]? = some (some (.ref a)) ∧ ∃ o, S[i]? = some (some (.b o))
  ext : Ext B.M B.F B.H F H
structure Step (S S' : SS) (σ : St) (F H F' H' : Hp) : Prop where
  ext : Ext (mutAt S σ) F H F' H'
  mu : ∀ a, mutAt S' σ a → mutAt S σ a
  slots : ∀ (i : Nat) u, S[i]? = some (some u) → ∃ u', S'[i]? = some (some u')
theorem Ext.refl (M : Addr → Prop) (F H : Hp) : Ext M F H F H := ⟨fun _ _ h => h, fun _ _ h _ => h, fun _ _ _ _ h => h, fun _ o h => ⟨o, h⟩, fun _ _ _ h => h⟩
theorem Ext.trans {M M' : Addr → Prop} {F H F1 H1 F2 H2 : Hp} (x : Ext M F H F1 H1) (y : Ext M' F1 H1 F2 H2) (s : ∀ b, M' b → M b ∨ H b = none) : Ext M F H F2 H2 where
  le := fun b o h => y.le b o (x.le b o h)
  keep := fun b o h n => y.keep b o (x.keep b o h n) fun q => (s b q).elim n fun z => by rw [h] at z; cases z
  nofr := fun b o h n f => y.nofr b o (x.keep b o h n) (fun q => (s b q).elim n fun z => by rw [h] at z; cases z) (x.nofr b o h n f)
  there := fun b o h => let ⟨o', h'⟩ := x.there b o h; y.there b o' h'
  frz := fun b o u h => y.frz b o u (x.frz b o u h)
theorem Step.refl (S : SS) (σ : St) (F H : Hp) : Step S S σ F H F H := ⟨Ext.refl _ _ _, fun _ h => h, fun _ u h => ⟨u, h⟩⟩
theorem Step.trans {S S1 S2 : SS} {σ : St} {F H F1 H1 F2 H2 : Hp} (x : Step S S1 σ F H F1 H1) (y : Step S1 S2 σ F1 H1 F2 H2) : Step S S2 σ F H F2 H2 :=
  ⟨x.ext.trans y.ext fun b q => .inl (x.mu b q), fun a q => x.mu a (y.mu a q), fun i u h => let ⟨u', h'⟩ := x.slots i u h; y.slots i u' h'⟩
mutual
theorem Rep.le {F F' : Hp} (g : ∀ b o, F b = some o → F' b = some o) : ∀ {v : V} {d : D}, Rep F v d → Rep F' v d
  | _, _, .non => .non
  | _, _, .bl b => .bl b
  | _, _, .int i => .int i
  | _, _, .str z => .str z
  | _, _, .tup e r => .tup (g _ _ e) (Reps.le g r)
  | _, _, .lst e r => .lst (g _ _ e) (Reps.le g r)
theorem Reps.le {F F' : Hp} (g : ∀ b o, F b = some o → F' b = some o) : ∀ {vs : List V} {ds : List D}, Reps F vs ds → Reps F' vs ds
  | _, _, .nil => .nil
  | _, _, .cons r rs => .cons (Rep.le g r) (Reps.le g rs)
end
theorem pairs_le {κ : Type} {F F' : Hp} (g : ∀ b o, F b = some o → F' b = some o) {ws : List (κ × V)} {kvs : List (κ × D)} (r : Paired (PairD F) ws kvs) : Paired (PairD F') ws kvs :=
  Paired.mapP r fun _ _ z => ⟨z.1, z.2.le g⟩
theorem At.le {F F' H H' : Hp} {a : Addr} (g : ∀ b o, F b = some o → F' b = some o) (k : ∀ o, H a = some o → H' a = some o) : ∀ {o : MO}, At F H a o → At F' H' a o
  | .lst _, ⟨vs, e, r⟩ => ⟨vs, k _ e, r.le g⟩
  | .dct _, ⟨ws, e, r⟩ => ⟨ws, k _ e, pairs_le g r⟩
  | .dtt _, ⟨ws, e, r⟩ => ⟨ws, k _ e, pairs_le g r⟩
theorem At.has {F H : Hp} {a : Addr} : ∀ {o : MO}, At F H a o → ∃ u, H a = some u
  | .lst _, ⟨_, e, _⟩ => ⟨_, e⟩
  | .dct _, ⟨_, e, _⟩ => ⟨_, e⟩
  | .dtt _, ⟨_, e, _⟩ => ⟨_, e⟩
def RepR (K : PySem.W.Frag) (B : Base) (S : SS) (σ : St) (H0 F H : Hp) (v : V) : U → Prop
  | .t d => Rep F v d
  | .m o => ∃ a, v = .ref a ∧ H0 a = none ∧ F a = none ∧ At F H a o ∧ ¬ mutAt S σ a ∧ B.H a = none
  | .v i => σ[i]? = some (some v) ∧ ∃ u, S[i]? = some (some u)
  | .b _ => False
  | .s ns => ∃ a, v = .ref a ∧ Scr K H a ns
theorem PE.imp {X : Cx} {e : Expr} {t t' : TE} (h : PE X e t) (k : ∀ σ H Q, t' σ H Q → t σ H Q) : PE X e t' := fun pins s σ H Q I q => h pins s σ H Q I (k σ H Q q)
theorem PT.imp {X : Cx} {e : Expr} {t t' : TT} (h : PT X e t) (k : ∀ σ H Q, t' σ H Q → t σ H Q) : PT X e t' := fun pins s σ H Q I q => h pins s σ H Q I (k σ H Q q)
theorem PW.imp {X : Cx} {e : Expr} {t t' : TT} (h : PW X e t) (k : ∀ σ H Q, t' σ H Q → t σ H Q) : PW X e t' := fun w pins s σ H Q I q => h w pins s σ H Q I (k σ H Q q)
theorem PA.imp {X : Cx} {e : List Expr} {t t' : TA} (h : PA X e t) (k : ∀ σ H Q, t' σ H Q → t σ H Q) : PA X e t' := fun p pins s σ H Q I q => h p pins s σ H Q I (k σ H Q q)
theorem PS.imp {X : Cx} {e : Stmt} {t t' : TS} (h : PS X e t) (k : ∀ D σ H, t' D σ H → t D σ H) : PS X e t' := fun pins s σ H Q I q => h pins s σ H Q I (k Q σ H q)
theorem PSs.imp {X : Cx} {e : List Stmt} {t t' : TS} (h : PSs X e t) (k : ∀ D σ H, t' D σ H → t D σ H) : PSs X e t' := fun pins s σ H Q I q => h pins s σ H Q I (k Q σ H q)
theorem PE.orelse {X : Cx} {e : Expr} {t : TE} (h : ∀ σ H Q, t σ H Q → ∃ t', PE X e t' ∧ t' σ H Q) : PE X e t := fun pins s σ H Q I q => let ⟨_, h1, h2⟩ := h σ H Q q; h1 pins s σ H Q I h2
theorem PS.orelse {X : Cx} {e : Stmt} {t : TS} (h : ∀ D σ H, t D σ H → ∃ t', PS X e t' ∧ t' D σ H) : PS X e t := fun pins s σ H Q I q => let ⟨_, h1, h2⟩ := h Q σ H q; h1 pins s σ H Q I h2
abbrev GE := SS → Option (U × SS)
abbrev GD := SS → Option (D × SS)
abbrev GT := SS → Option (Bool × SS)
abbrev GA := SS → Option (List D × SS)
inductive Out where
  | nx (S : SS) | rt (u : U) (S : SS) | bk (S : SS) | ct (S : SS)
abbrev GS := SS → Option Out
def tE (K : PySem.W.Frag) (B : Base) (g : GE) : TE := fun σ H Q => ∃ S F u S', Rel K B S σ F H ∧ g S = some (u, S') ∧ ∀ v F' H', Rel K B S' σ F' H' → Step S S' σ F H F' H' → RepR K B S' σ H F' H' v u → Q v H'
def tD (K : PySem.W.Frag) (B : Base) (g : GD) : TE := fun σ H Q => ∃ S F d S', Rel K B S σ F H ∧ g S = some (d, S') ∧ ∀ v F' H', Rel K B S' σ F' H' → Step S S' σ F H F' H' → Rep F' v d → Q v H'
def tQ (K : PySem.W.Frag) (B : Base) (g : GT) : TT := fun σ H Q => ∃ S F b S', Rel K B S σ F H ∧ g S = some (b, S') ∧ ∀ F' H', Rel K B S' σ F' H' → Step S S' σ F H F' H' → Q b H'
def tAs (K : PySem.W.Frag) (B : Base) (g : GA) : TA := fun σ H Q => ∃ S F ds S', Rel K B S σ F H ∧ g S = some (ds, S') ∧ ∀ vs F' H', Rel K B S' σ F' H' → Step S S' σ F H F' H' → Reps F' vs ds → Q vs H'
def OutOk (K : PySem.W.Frag) (B : Base) (F : Hp) (D : Ends) : Out → Prop
  | .nx S => ∀ σ' F' H', Rel K B S σ' F' H' → (∀ b o, F b = some o → F' b = some o) → D.nx σ' H'
  | .bk S => ∀ σ' F' H', Rel K B S σ' F' H' → (∀ b o, F b = some o → F' b = some o) → D.bk σ' H'
  | .ct S => ∀ σ' F' H', Rel K B S σ' F' H' → (∀ b o, F b = some o → F' b = some o) → D.ct σ' H'
  | .rt u S => ∀ v σ' F' H', Rel K B S σ' F' H' → (∀ b o, F b = some o → F' b = some o) → RepR K B S σ' B.H F' H' v u → D.rt v H'
def tO (K : PySem.W.Frag) (B : Base) (g : GS) : TS := fun D σ H => ∃ S F o, Rel K B S σ F H ∧ g S = some o ∧ OutOk K B F D o
structure JE (X : Cx) (e : Expr) (g : GE) : Prop where
  h : ∀ B, PE X e (tE X.K B g)
structure JD (X : Cx) (e : Expr) (g : GD) : Prop where
  h : ∀ B, PE X e (tD X.K B g)
structure JT (X : Cx) (e : Expr) (g : GT) : Prop where
  h : ∀ B, PT X e (tQ X.K B g)
structure JW (X : Cx) (e : Expr) (g : GT) : Prop where
  h : ∀ B, PW X e (tQ X.K B g)
structure JA (X : Cx) (es : List Expr) (g : GA) : Prop where
  h : ∀ B, PA X es (tAs X.K B g)
structure JS (X : Cx) (st : Stmt) (g : GS) : Prop where
  h : ∀ B, PS X st (tO X.K B g)
structure JB (X : Cx) (st : List Stmt) (g : GS) : Prop where
  h : ∀ B, PSs X st (tO X.K B g)
def fz : U → SS → Option (D × SS)
  | .t d, S => some (d, S)
  | .m (.lst ds), S => some (.lst ds, S)
  | .v i, S => match S[i]? with
    | some (some (.t d)) => some (d, S)
    | some (some (.m (.lst ds))) => some (.lst ds, S.set i (some (.t (.lst ds))))
    | _ => none
  | _, _ => none
theorem get_set {α : Type} {l : List α} {i j : Nat} {x y : α} (h : (l.set i x)[j]? = some y) : (i = j ∧ x = y ∧ i < l.length) ∨ (i ≠ j ∧ l[j]? = some y) := by
  by_cases e : i = j
  · subst e
    by_cases hl : i < l.length
    · rw [List.getElem?_set_self hl] at h; exact .inl ⟨rfl, Option.some.inj h, hl⟩
    · rw [List.getElem?_eq_none (by simpa using hl)] at h; cases h
  · rw [List.getElem?_set_ne e] at h; exact .inr ⟨e, h⟩
theorem Sub.frz {F H : Hp} {a : Addr} {o : HO} (s : Sub F H) (h : H a = some o) : Sub (upd F a o) H := fun b u e => by
  by_cases hb : b = a
  · subst hb; rw [upd_same] at e; cases e; exact h
  · rw [upd_ne hb] at e; exact s b u e
theorem Sub.fresh {F H : Hp} {p : Addr} (s : Sub F H) (h : H p = Option.none) : F p = Option.none := by
  cases e : F p with
  | none => rfl
  | some o => have q := s p o e; rw [h] at q; cases q
theorem le_upd {F : Hp} {a : Addr} {o : HO} (h : F a = none) : ∀ b u, F b = some u → upd F a o b = some u := fun b u e => by rw [upd_ne (ne_of_none e h)]; exact e
theorem Scr.le {K : PySem.W.Frag} {H H' : Hp} {a : Addr} {ns : List Int} (k : ∀ b o u, H b = some (.frz o u) → H' b = some (.frz o u)) : Scr K H a ns → Scr K H' a ns
  | .inl ⟨o, h⟩ => .inl ⟨o, k _ _ _ h⟩
  | .inr h => .inr h
theorem RepU.le {K : PySem.W.Frag} {F F' H H' : Hp} {v : V} (g : ∀ b o, F b = some o → F' b = some o) (kf : ∀ b o u, H b = some (.frz o u) → H' b = some (.frz o u)) : ∀ {u : U}, RepU K F H v u → (∀ a, isMut u = true → v = .ref a → (∀ o, H a = some o → H' a = some o) ∧ F' a = none) → RepU K F' H' v u
  | .t _, h, _ => Rep.le g h
  | .m _, ⟨a, e, _, h⟩, k => let ⟨k1, k2⟩ := k a rfl e; ⟨a, e, k2, h.le g k1⟩
  | .b _, ⟨a, e, _, h⟩, k => let ⟨k1, k2⟩ := k a rfl e; ⟨a, e, k2, h.le g k1⟩
  | .v _, h, _ => h
  | .s _, ⟨a, e, h⟩, _ => ⟨a, e, h.le kf⟩
theorem fz_ok {K : PySem.W.Frag} {B : Base} {S S' : SS} {σ : St} {H0 F0 F H : Hp} {v : V} {u : U} {d : D} {S0 : SS} (R : Rel K B S σ F H) (st : Step S0 S σ F0 H0 F H) (r : RepR K B S σ H0 F H v u) (e : fz u S = some (d, S')) :
    ∃ F', Rel K B S' σ F' H ∧ Step S0 S' σ F0 H0 F' H ∧ Rep F' v d := by
  cases u with
  | t d' => cases e; exact ⟨F, R, st, r⟩
  | b o => cases r
  | s o => cases e
  | m o =>
    cases o with
    | dct kvs => cases e
    | dtt kvs => cases e
    | lst ds =>
      cases e
      obtain ⟨a, rfl, h0, hf, ⟨vs, ha, rs⟩, nm, hB⟩ := r
      have g := le_upd (o := .lst vs) hf
      refine ⟨upd F a (.lst vs), ⟨R.sub.frz ha, R.len, fun i u h => ?_, R.dis, R.own, R.bor, R.par, ?_⟩, ⟨⟨fun b o h => g b o (st.ext.le b o h), st.ext.keep, fun b o h n f => ?_, st.ext.there, st.ext.frz⟩, st.mu, st.slots⟩, .lst upd_same (rs.le g)⟩
      · obtain ⟨w, h1, h2⟩ := R.rep i u h
        refine ⟨w, h1, h2.le g (fun _ _ _ z => z) fun c hm hc => ⟨fun o q => q, ?_⟩⟩
        have hca : c ≠ a := fun z => nm ⟨i, u, h, hm, by rw [h1, hc, z]⟩
        rw [upd_ne hca]
        cases u with
        | m o => obtain ⟨c', e', f', _⟩ := h2; rw [hc] at e'; cases e'; exact f'
        | b o => obtain ⟨c', e', f', _⟩ := h2; rw [hc] at e'; cases e'; exact f'
        | t d => cases hm
        | v j => cases hm
        | s j => cases hm
      · exact ⟨fun b o h => g b o (R.ext.le b o h), R.ext.keep, fun b o h n f => by rw [upd_ne (fun z => by rw [z, hB] at h; cases h)]; exact R.ext.nofr b o h n f, R.ext.there, R.ext.frz⟩
      · rw [upd_ne (fun z => by rw [z, h0] at h; cases h)]
        exact st.ext.nofr b o h n f
  | v i =>
    obtain ⟨hv, u, hu⟩ := r
    unfold fz at e
    simp only [hu] at e
    cases u with
    | t d' =>
      cases e
      obtain ⟨w, h1, h2⟩ := R.rep i _ hu
      rw [hv] at h1
      cases h1
      exact ⟨F, R, st, h2⟩
    | b o => cases e
    | v j => cases e
    | s j => cases e
    | m o =>
      cases o with
      | dct kvs => cases e
      | dtt kvs => cases e
      | lst ds =>
        cases e
        obtain ⟨w, h1, a, rfl, hf, ⟨vs, ha, rs⟩⟩ := R.rep i _ hu
        have hiv : σ[i]? = some (some (.ref a)) := h1
        rw [hv] at h1
        cases h1
        have hB := R.own i _ a hu hiv
        have g := le_upd (o := .lst vs) hf
        have back : ∀ j w, (S.set i (some (.t (.lst ds))))[j]? = some (some w) → isMut w = true → i ≠ j ∧ S[j]? = some (some w) := fun j w h hm => by
          rcases get_set h with ⟨_, q, _⟩ | q
          · cases q; cases hm
          · exact q
        have mu : ∀ c, mutAt (S.set i (some (.t (.lst ds)))) σ c → mutAt S σ c := fun c ⟨j, w, h, hm, z⟩ => ⟨j, w, (back j w h hm).2, hm, z⟩
        refine ⟨upd F a (.lst vs), ⟨R.sub.frz ha, by rw [List.length_set]; exact R.len, fun j u h => ?_, fun j k u w c h1 m1 h2 m2 => R.dis j k u w c (back j u h1 m1).2 m1 (back k w h2 m2).2 m2, fun j o c h => R.own j o c (back j _ h rfl).2, fun j o c h => R.bor j o c (back j _ h rfl).2, fun j c h => ?_, ?_⟩,
          ⟨⟨fun b o h => g b o (st.ext.le b o h), st.ext.keep, fun b o h n f => ?_, st.ext.there, st.ext.frz⟩, fun c q => st.mu c (mu c q), fun j u h => ?_⟩, .lst upd_same (rs.le g)⟩
        · rcases get_set h with ⟨rfl, q, _⟩ | ⟨ne, q⟩
          · cases q
            exact ⟨.ref a, hiv, .lst upd_same (rs.le g)⟩
          · obtain ⟨w, h1, h2⟩ := R.rep j u q
            refine ⟨w, h1, h2.le g (fun _ _ _ z => z) fun c hm hc => ⟨fun o q => q, ?_⟩⟩
            have hca : c ≠ a := fun z => ne (R.dis i j _ u a hu rfl q hm hiv (by rw [h1, hc, z]))
            rw [upd_ne hca]
            cases u with
            | m o => obtain ⟨c', e', f', _⟩ := h2; rw [hc] at e'; cases e'; exact f'
            | b o => obtain ⟨c', e', f', _⟩ := h2; rw [hc] at e'; cases e'; exact f'
            | t d => cases hm
            | v j => cases hm
            | s j => cases hm
        · obtain ⟨h1, o, h2⟩ := R.par j c h
          refine ⟨h1, o, ?_⟩
          have ne : i ≠ j := fun z => by subst z; rw [hu] at h2; cases h2
          rw [List.getElem?_set_ne ne]
          exact h2
        · exact ⟨fun b o h => g b o (R.ext.le b o h), R.ext.keep, fun b o h n f => by rw [upd_ne (fun z => by rw [z, hB] at h; cases h)]; exact R.ext.nofr b o h n f, R.ext.there, R.ext.frz⟩
        · have hb : b ≠ a := fun z => n (st.mu b ⟨i, _, hu, rfl, by rw [z]; exact hiv⟩)
          rw [upd_ne hb]
          exact st.ext.nofr b o h n f
        · obtain ⟨u', h'⟩ := st.slots j u h
          by_cases hj : i = j
          · subst hj
            exact ⟨.t (.lst ds), List.getElem?_set_self (List.getElem?_eq_some_iff.mp h').1⟩
          · exact ⟨u', by rw [List.getElem?_set_ne hj]; exact h'⟩
def eF (g : GE) : GD := fun S => (g S).bind fun p => fz p.1 p.2
theorem JE.d {X : Cx} {e : Expr} {g : GE} (h : JE X e g) : JD X e (eF g) := ⟨fun B => (h.h B).imp fun σ H Q ⟨S, F, d, S', R, hg, q⟩ => by
  unfold eF at hg
  cases e1 : g S with
  | none => rw [e1] at hg; cases hg
  | some p =>
    obtain ⟨u, S1⟩ := p
    rw [e1] at hg
    refine ⟨S, F, u, S1, R, e1, fun v F1 H1 R1 st1 r1 => ?_⟩
    obtain ⟨F2, R2, st2, r2⟩ := fz_ok R1 st1 r1 hg
    exact q v F2 H1 R2 st2 r2⟩
def eT (g : GD) : GE := fun S => (g S).map fun p => (.t p.1, p.2)
theorem JD.e {X : Cx} {e : Expr} {g : GD} (h : JD X e g) : JE X e (eT g) := ⟨fun B => (h.h B).imp fun σ H Q ⟨S, F, u, S', R, hg, q⟩ => by
  unfold eT at hg
  cases e1 : g S with
  | none => rw [e1] at hg; cases hg
  | some p =>
    obtain ⟨d, S1⟩ := p
    rw [e1] at hg
    cases hg
    exact ⟨S, F, d, S1, R, e1, fun v F1 H1 R1 st1 r1 => q v F1 H1 R1 st1 r1⟩⟩
end L2

end
section
set_option Elab.async false
set_option linter.all false
set_option maxRecDepth 100000
namespace L2
open PySem PySem.Spec PyProof.Rows
structure New (F H F' H' : Hp) : Prop where
  le : ∀ b o, F b = some o → F' b = some o
  same : ∀ b o, H b = some o → H' b = some o
  nofr : ∀ b o, H b = some o → F b = none → F' b = none
theorem New.refl (F H : Hp) : New F H F H := ⟨fun _ _ h => h, fun _ _ h => h, fun _ _ _ h => h⟩
theorem New.trans {F H F1 H1 F2 H2 : Hp} (x : New F H F1 H1) (y : New F1 H1 F2 H2) : New F H F2 H2 :=
  ⟨fun b o h => y.le b o (x.le b o h), fun b o h => y.same b o (x.same b o h), fun b o h f => y.nofr b o (x.same b o h) (x.nofr b o h f)⟩
theorem New.step {S : SS} {σ : St} {F H F' H' : Hp} (n : New F H F' H') : Step S S σ F H F' H' :=
  ⟨⟨n.le, fun b o h _ => n.same b o h, fun b o h _ f => n.nofr b o h f, fun b o h => ⟨o, n.same b o h⟩, fun b o u h => n.same b _ h⟩, fun _ h => h, fun _ u h => ⟨u, h⟩⟩
theorem New.obj {F H : Hp} {p : Addr} (h : H p = none) (o : HO) : New F H F (upd H p o) :=
  ⟨fun _ _ q => q, fun b u q => by rw [upd_ne (ne_of_none q h)]; exact q, fun _ _ _ q => q⟩
theorem Rd.same {H H' : Hp} {a : Addr} {u : HO} (k : ∀ b o, H b = some o → H' b = some o) : Rd H a u → Rd H' a u
  | .inl h => .inl (k _ _ h)
  | .inr ⟨o, h⟩ => .inr ⟨o, k _ _ h⟩
theorem Sub.same {F H H' : Hp} (s : Sub F H) (k : ∀ b o, H b = some o → H' b = some o) : Sub F H' := fun a o e => k a o (s a o e)
theorem Sub.tupNew {F H : Hp} {p : Addr} {o : HO} (s : Sub F H) (h : H p = none) : Sub (upd F p o) (upd H p o) := fun b u e => by
  by_cases hb : b = p
  · subst hb; rw [upd_same] at e; cases e; exact upd_same
  · rw [upd_ne hb] at e; have q := s b u e; rw [upd_ne (ne_of_none q h)]; exact q
theorem New.root {F H : Hp} {p : Addr} (s : Sub F H) (h : H p = none) (o : HO) : New F H (upd F p o) (upd H p o) :=
  ⟨le_upd (s.fresh h), fun b u q => by rw [upd_ne (ne_of_none q h)]; exact q, fun b u q f => by rw [upd_ne (ne_of_none q h)]; exact f⟩
theorem Rel.has {K : PySem.W.Frag} {B : Base} {S : SS} {σ : St} {F H : Hp} (R : Rel K B S σ F H) {a : Addr} (m : mutAt S σ a) : ∃ o, H a = some o := by
  obtain ⟨i, u, h, hm, hv⟩ := m
  obtain ⟨v, h1, h2⟩ := R.rep i u h
  rw [hv] at h1
  cases h1
  cases u with
  | t d => cases hm
  | v j => cases hm
  | s j => cases hm
  | m o => obtain ⟨b, e, _, h⟩ := h2; cases e; exact h.has
  | b o => obtain ⟨b, e, _, h⟩ := h2; cases e; exact h.has
theorem Rel.new {K : PySem.W.Frag} {B : Base} {S : SS} {σ : St} {F H F' H' : Hp} (R : Rel K B S σ F H) (n : New F H F' H') (s : Sub F' H') : Rel K B S σ F' H' where
  sub := s
  len := R.len
  rep := fun i u h => by
    obtain ⟨v, h1, h2⟩ := R.rep i u h
    refine ⟨v, h1, h2.le n.le (fun b o u z => n.same b _ z) fun a hm ha => ⟨fun o q => n.same a o q, ?_⟩⟩
    obtain ⟨o, ho⟩ := R.has ⟨i, u, h, hm, by rw [h1, ha]⟩
    refine n.nofr a o ho ?_
    cases u with
    | t d => cases hm
    | v j => cases hm
    | s j => cases hm
    | m o => obtain ⟨b, e, f, _⟩ := h2; rw [ha] at e; cases e; exact f
    | b o => obtain ⟨b, e, f, _⟩ := h2; rw [ha] at e; cases e; exact f
  dis := R.dis
  own := R.own
  bor := R.bor
  par := R.par
  ext := ⟨fun b o h => n.le b o (R.ext.le b o h), fun b o h m => n.same b o (R.ext.keep b o h m), fun b o h m f => n.nofr b o (R.ext.keep b o h m) (R.ext.nofr b o h m f), fun b o h => let ⟨o', h'⟩ := R.ext.there b o h; ⟨o', n.same b o' h'⟩, fun b o u h => n.same b _ (R.ext.frz b o u h)⟩
def RepN (H0 F H : Hp) (v : V) : U → Prop
  | .t d => Rep F v d
  | .m o => ∃ a, v = .ref a ∧ H0 a = none ∧ F a = none ∧ At F H a o
  | _ => False
theorem none_of {H H' : Hp} {a : Addr} (t : ∀ b o, H b = some o → ∃ o', H' b = some o') (h : H' a = none) : H a = none := by
  cases e : H a with
  | none => rfl
  | some o => obtain ⟨o', h'⟩ := t a o e; rw [h] at h'; cases h'
theorem RepN.repR {K : PySem.W.Frag} {B : Base} {S S0 : SS} {σ : St} {H0 F0 F1 H1 F H : Hp} {v : V} {u : U} (R : Rel K B S σ F1 H1) (st : Step S0 S σ F0 H0 F1 H1) (r : RepN H1 F H v u) : RepR K B S σ H0 F H v u := by
  cases u with
  | t d => exact r
  | b o => cases r
  | v i => cases r
  | s i => cases r
  | m o =>
    obtain ⟨a, e, h0, f, h⟩ := r
    refine ⟨a, e, none_of st.ext.there h0, f, h, fun m => ?_, none_of R.ext.there h0⟩
    obtain ⟨o, ho⟩ := R.has m
    rw [h0] at ho
    cases ho
def rP (f : List D → Option U) : List V → Hp → VK → Prop := fun xs H Q => ∃ F ds u, Sub F H ∧ Reps F xs ds ∧ f ds = some u ∧ ∀ v F' H', New F H F' H' → Sub F' H' → RepN H F' H' v u → Q v H'
def flatD : D → Bool
  | .tup _ => false
  | .lst _ => false
  | _ => true
def toV : D → V
  | .bl b => .bl b
  | .int i => .int i
  | .str z => .str z
  | _ => .non
theorem rep_flat {F : Hp} : ∀ {d : D}, flatD d = true → Rep F (toV d) d
  | .non, _ => .non
  | .bl b, _ => .bl b
  | .int i, _ => .int i
  | .str z, _ => .str z
  | .tup _, h => by cases h
  | .lst _, h => by cases h
def eVar (i : Nat) : GE := fun S => match S[i]? with
  | some (some (.t d)) => some (.t d, S)
  | some (some (.s d)) => some (.s d, S)
  | some (some _) => some (.v i, S)
  | _ => none
def eC (d : D) : GD := fun S => some (d, S)
def aNil : GA := fun S => some ([], S)
def aCons (g : GD) (ga : GA) : GA := fun S => (g S).bind fun p => (ga p.2).map fun q => (p.1 :: q.1, q.2)
def eP (f : List D → Option U) (ga : GA) : GE := fun S => (ga S).bind fun p => (f p.1).map fun u => (u, p.2)
section
variable {X : Cx} {a b c e : Expr} {es : List Expr} {pos p p2 : Pos} {x : Str} {g ga gb gc : GD} {gA : GA} {f f' : List D → Option U}
theorem je_var (i : Nat) (hN : X.N[i]? = some x := by rfl) (hv : Vis X.env.scope x := by first | exact Or.inl rfl | exact Or.inr (Or.inl rfl) | exact Or.inr (Or.inr rfl)) (hd : (x == ("__debug__" : Str)) = false := by decide)
    (hcd : (x == ("__classdict__" : Str)) = false := by decide) : JE X (.Name x pos) (eVar i) := ⟨fun B => (pe_var hN hv hd hcd).imp fun σ H Q ⟨S, F, u, S', R, hg, q⟩ => by
  unfold eVar at hg
  cases hs : S[i]? with
  | none => rw [hs] at hg; cases hg
  | some o =>
    cases o with
    | none => rw [hs] at hg; cases hg
    | some w =>
      rw [hs] at hg
      obtain ⟨v, h1, h2⟩ := R.rep i w hs
      refine ⟨v, h1, ?_⟩
      cases w with
      | t d => cases hg; exact q v F H R (Step.refl ..) h2
      | m o => cases hg; exact q v F H R (Step.refl ..) ⟨h1, _, hs⟩
      | b o => cases hg; exact q v F H R (Step.refl ..) ⟨h1, _, hs⟩
      | s j => cases hg; exact q v F H R (Step.refl ..) h2
      | v j => cases hg; exact q v F H R (Step.refl ..) ⟨h1, _, hs⟩⟩
theorem jd_c {d : D} (hf : flatD d = true) (h : PE X e (tC (toV d))) : JD X e (eC d) := ⟨fun B => h.imp fun σ H Q ⟨S, F, u, S', R, hg, q⟩ => by
  cases hg
  exact q _ F H R (Step.refl ..) (rep_flat hf)⟩
theorem jd_int {i j} : JD X (.Constant (.int i) j pos) (eC (.int i)) := jd_c rfl pe_int
theorem jd_bl {i j} : JD X (.Constant (.bool i) j pos) (eC (.bl i)) := jd_c rfl pe_bl
theorem jd_non {j} : JD X (.Constant .none j pos) (eC .non) := jd_c rfl pe_non
theorem jd_str {i j} : JD X (.Constant (.str i) j pos) (eC (.str i)) := jd_c rfl pe_str
theorem ja_nil : JA X [] aNil := ⟨fun B => pa_nil.imp fun σ H Q ⟨S, F, u, S', R, hg, q⟩ => by
  cases hg
  exact q [] F H R (Step.refl ..) .nil⟩
theorem bind_some' {α β : Type} {o : Option α} {f : α → Option β} {y : β} (h : o.bind f = some y) : ∃ z, o = some z ∧ f z = some y := by
  cases o with
  | none => cases h
  | some z => exact ⟨z, rfl, h⟩
theorem map_some' {α β : Type} {o : Option α} {f : α → β} {y : β} (h : o.map f = some y) : ∃ z, o = some z ∧ f z = y := by
  cases o with
  | none => cases h
  | some z => exact ⟨z, rfl, Option.some.inj h⟩
theorem ja_cons (h : JD X e g) (hr : JA X es gA) (hs : starEach (e :: es) X.env = (false, eval e X.env) :: starEach es X.env := by rfl) : JA X (e :: es) (aCons g gA) :=
  ⟨fun B => (pa_cons (h.h B) (hr.h B) hs).imp fun σ H Q ⟨S, F, u, S', R, hg, q⟩ => by
  obtain ⟨⟨d, S1⟩, h1, hg⟩ := bind_some' hg
  obtain ⟨⟨ds, S2⟩, h2, hg⟩ := map_some' hg
  cases hg
  exact ⟨S, F, d, S1, R, h1, fun v F1 H1 R1 st1 r1 => ⟨S1, F1, ds, S2, R1, h2, fun vs F2 H2 R2 st2 r2 => q _ F2 H2 R2 (st1.trans st2) (.cons (r1.le st2.ext.le) r2)⟩⟩⟩
theorem after_args {K : PySem.W.Frag} {B : Base} {σ : St} {H : Hp} {Q : VK} {r : List V → Hp → VK → Prop} (hr : ∀ vs H1 Q1, rP f vs H1 Q1 → r vs H1 Q1) (h : tE K B (eP f gA) σ H Q) : tAs K B gA σ H fun vs H1 => r vs H1 Q := by
  obtain ⟨S, F, u, S', R, hg, q⟩ := h
  obtain ⟨⟨ds, S1⟩, h1, hg⟩ := bind_some' hg
  obtain ⟨u', h2, hg⟩ := map_some' hg
  cases hg
  exact ⟨S, F, ds, S1, R, h1, fun vs F1 H1 R1 st1 r1 => hr _ _ _ ⟨F1, ds, _, R1.sub, r1, h2, fun v F2 H2 n s2 r2 => q v F2 H2 (R1.new n s2) (st1.trans n.step) (r2.repR R1 st1)⟩⟩
theorem je_callB {id : String} (hc : CallR X (.builtin id) (rP f)) (hg : Gl X x) (hm : X.mg x = none) (hv : bootBuiltins x = some (.builtin id)) (ha : JA X (e :: es) gA) (hn : x ≠ "__name__" := by decide) (hdb : (x == ("__debug__" : Str)) = false := by decide)
    (he : starEach (e :: es) X.env = (false, eval e X.env) :: starEach es X.env := by rfl) (hpl : (backTo pos (starEach es X.env)).any (·.1) = false := by rfl) : JE X (.Call (.Name x p) (e :: es) [] pos) (eP f gA) :=
  ⟨fun B => (pe_callB hc hg hm hv (ha.h B) hn hdb he hpl).imp fun σ H Q h => after_args (fun _ _ _ z => z) h⟩
theorem je_callTy {T : String} (hc : CallR X (.type T) (rP f)) (hg : Gl X x) (hm : X.mg x = none) (hv : bootBuiltins x = some (.type T)) (ha : JA X (e :: es) gA) (hn : x ≠ "__name__" := by decide) (hdb : (x == ("__debug__" : Str)) = false := by decide)
    (he : starEach (e :: es) X.env = (false, eval e X.env) :: starEach es X.env := by rfl) (hpl : (backTo pos (starEach es X.env)).any (·.1) = false := by rfl) : JE X (.Call (.Name x p) (e :: es) [] pos) (eP f gA) :=
  ⟨fun B => (pe_callTy hc hg hm hv (ha.h B) hn hdb he hpl).imp fun σ H Q h => after_args (fun _ _ _ z => z) h⟩
abbrev OpP (X : Cx) (o : Value → Value → Sem Value) (f : List D → Option U) : Prop := OpR X o (fun x y H Q => rP f [x, y] H Q)
theorem two_args {K : PySem.W.Frag} {B : Base} {σ : St} {H : Hp} {Q : VK} (h : tE K B (eP f (aCons ga (aCons gb aNil))) σ H Q) : tOp (fun x y H Q => rP f [x, y] H Q) (tD K B ga) (tD K B gb) σ H Q := by
  obtain ⟨S, F, u, S', R, hg, q⟩ := h
  obtain ⟨⟨ds, S1⟩, h1, hg⟩ := bind_some' hg
  obtain ⟨u', h2, hg⟩ := map_some' hg
  cases hg
  obtain ⟨⟨d1, T1⟩, k1, h1⟩ := bind_some' h1
  obtain ⟨⟨ds2, T2⟩, k2, h1⟩ := map_some' h1
  cases h1
  obtain ⟨⟨d2, T3⟩, k3, k2⟩ := bind_some' k2
  obtain ⟨⟨ds3, T4⟩, k4, k2⟩ := map_some' k2
  cases k2
  cases k4
  exact ⟨S, F, d1, T1, R, k1, fun v1 F1 H1 R1 st1 r1 => ⟨T1, F1, d2, _, R1, k3, fun v2 F2 H2 R2 st2 r2 => ⟨F2, _, _, R2.sub, .cons (r1.le st2.ext.le) (.cons r2 .nil), h2, fun v F3 H3 n s3 r3 => q v F3 H3 (R2.new n s3) ((st1.trans st2).trans n.step) (r3.repR R2 (st1.trans st2))⟩⟩⟩
theorem je_op {op : Operator} (ho : OpP X (binaryOp op) f) (ha : JD X a ga) (hb : JD X b gb) : JE X (.BinOp a op b pos) (eP f (aCons ga (aCons gb aNil))) :=
  ⟨fun B => (pe_op ho (ha.h B) (hb.h B)).imp fun σ H Q h => two_args h⟩
theorem je_cmp {op : CmpOp} (ho : OpP X (compareOp op) f) (ha : JD X a ga) (hb : JD X b gb) (hm : behindInMarks op b = false := by first | exact nomark _ | rfl) : JE X (.Compare a [op] [b] pos) (eP f (aCons ga (aCons gb aNil))) :=
  ⟨fun B => (pe_cmpR ho (ha.h B) (hb.h B) hm).imp fun σ H Q h => two_args h⟩
theorem je_un {op : UnaryOp} (ho : UnR X (unaryOp op) (fun x H Q => rP f [x] H Q)) (ha : JD X a ga) : JE X (.UnaryOp op a pos) (eP f (aCons ga aNil)) :=
  ⟨fun B => (pe_un ho (ha.h B)).imp fun σ H Q h => by
  obtain ⟨S, F, u, S', R, hg, q⟩ := h
  obtain ⟨⟨ds, S1⟩, h1, hg⟩ := bind_some' hg
  obtain ⟨u', h2, hg⟩ := map_some' hg
  cases hg
  obtain ⟨⟨d1, T1⟩, k1, h1⟩ := bind_some' h1
  obtain ⟨⟨ds2, T2⟩, k2, h1⟩ := map_some' h1
  cases h1
  cases k2
  exact ⟨S, F, d1, _, R, k1, fun v1 F1 H1 R1 st1 r1 => ⟨F1, _, _, R1.sub, .cons r1 .nil, h2, fun v F3 H3 n s3 r3 => q v F3 H3 (R1.new n s3) (st1.trans n.step) (r3.repR R1 st1)⟩⟩⟩
theorem je_ix (hr : IxR X (fun x y H Q => rP f [x, y] H Q)) (ha : JD X a ga) (hb : JD X b gb) (hs : PlainIx b) : JE X (.Subscript a b pos) (eP f (aCons ga (aCons gb aNil))) :=
  ⟨fun B => (pe_ix hr (ha.h B) (hb.h B) hs).imp fun σ H Q h => two_args h⟩
def fTup : List D → Option U := fun ds => if ds.length ≤ 100000 then some (.t (.tup ds)) else none
def fLst : List D → Option U := fun ds => if ds.length ≤ 100000 then some (.m (.lst ds)) else none
theorem line_of {n : Nat} (h : n ≤ 100000) : n ≤ sizeLine := Nat.le_trans h (by decide)
end
end L2

end
section
set_option Elab.async false
set_option linter.all false
set_option maxRecDepth 100000
namespace L2
open PySem PySem.Spec PyProof.Rows
section
variable {X : Cx} {a b c e : Expr} {es : List Expr} {pos p p2 : Pos} {x : Str} {g ga gb gc : GD} {gA : GA} {f f' : List D → Option U}
theorem je_tup {x1} (h : JA X es gA) : JE X (.Tuple es x1 pos) (eP fTup gA) :=
  ⟨fun B => (pe_tup (h.h B)).imp fun σ H Q z => after_args (r := fun xs H1 Q => xs.length ≤ sizeLine ∧ ∀ p, H1 p = none → Q (.ref p) (upd H1 p (.tup xs))) (fun vs H1 Q1 ⟨F, ds, u, sb, rs, hf, q⟩ => by
  unfold fTup at hf
  split at hf
  · rename_i hl
    cases hf
    refine ⟨by rw [rs.length]; exact line_of hl, fun p hp => ?_⟩
    exact q _ _ _ (New.root sb hp _) (sb.tupNew hp) (.tup upd_same (rs.le (le_upd (sb.fresh hp))))
  · cases hf) z⟩
theorem je_lst (h : JA X es gA) : JE X (.List es pos) (eP fLst gA) :=
  ⟨fun B => (pe_lst (h.h B)).imp fun σ H Q z => after_args (r := fun xs H1 Q => xs.length ≤ sizeLine ∧ ∀ p, H1 p = none → Q (.ref p) (upd H1 p (.lst xs))) (fun vs H1 Q1 ⟨F, ds, u, sb, rs, hf, q⟩ => by
  unfold fLst at hf
  split at hf
  · rename_i hl
    cases hf
    refine ⟨by rw [rs.length]; exact line_of hl, fun p hp => ?_⟩
    exact q _ F _ (New.obj hp _) (sb.same (New.obj (F := F) hp _).same) ⟨p, rfl, hp, sb.fresh hp, vs, upd_same, rs⟩
  · cases hf) z⟩
def qB (g : GD) : GT := fun S => (g S).bind fun p => match p.1 with
  | .bl k => some (k, p.2)
  | _ => none
def qNot (g : GT) : GT := fun S => (g S).map fun p => (!p.1, p.2)
def qAnd (g h : GT) : GT := fun S => (g S).bind fun p => if p.1 then h p.2 else some (false, p.2)
def qOr (g h : GT) : GT := fun S => (g S).bind fun p => if p.1 then some (true, p.2) else h p.2
def eQ (g : GT) : GD := fun S => (g S).map fun p => (.bl p.1, p.2)
theorem qB_some {S : SS} {k : Bool} {S' : SS} (h : qB g S = some (k, S')) : g S = some (.bl k, S') := by
  obtain ⟨⟨d, S1⟩, h1, h⟩ := bind_some' h
  cases d <;> cases h
  exact h1
theorem rep_bl {F : Hp} {v : V} {k : Bool} (r : Rep F v (.bl k)) : v = .bl k := by cases r; rfl
theorem rep_int {F : Hp} {v : V} {i : Int} (r : Rep F v (.int i)) : v = .int i := by cases r; rfl
theorem rep_str {F : Hp} {v : V} {i : Str} (r : Rep F v (.str i)) : v = .str i := by cases r; rfl
theorem jt_val (h : JD X e g) (he : ∀ whole, isTrue e X.env whole = (do let v ← whole; standAt e.pos; holding [v] (truthy v)) := by intro _; rfl) : JT X e (qB g) :=
  ⟨fun B => (pt_val (h.h B) he).imp fun σ H Q ⟨S, F, k, S', R, hg, q⟩ => ⟨S, F, .bl k, S', R, qB_some hg, fun v F' H' R' st r => ⟨k, rep_bl r, q F' H' R' st⟩⟩⟩
theorem tE_tD {K : PySem.W.Frag} {B : Base} {gE : GE} {σ : St} {H : Hp} {Q : VK} (h : tD K B (eF gE) σ H Q) : tE K B gE σ H Q := by
  obtain ⟨S, F, d, S', R, hg, q⟩ := h
  obtain ⟨⟨u, S1⟩, h1, hg⟩ := bind_some' hg
  refine ⟨S, F, u, S1, R, h1, fun v F1 H1 R1 st1 r1 => ?_⟩
  obtain ⟨F2, R2, st2, r2⟩ := fz_ok R1 st1 r1 hg
  exact q v F2 H1 R2 st2 r2
theorem jt_cmp {op : CmpOp} (ho : OpP X (compareOp op) f) (ha : JD X a ga) (hb : JD X b gb) (hm : behindInMarks op b = false := by first | exact nomark _ | rfl) : JT X (.Compare a [op] [b] pos) (qB (eF (eP f (aCons ga (aCons gb aNil))))) :=
  ⟨fun B => (pt_cmpR ho (ha.h B) (hb.h B) hm).imp fun σ H Q ⟨S, F, k, S', R, hg, q⟩ => two_args (tE_tD ⟨S, F, .bl k, S', R, qB_some hg, fun v F' H' R' st r => ⟨k, rep_bl r, q F' H' R' st⟩⟩)⟩
theorem jt_not {q1 : GT} (h : JT X a q1) : JT X (.UnaryOp .Not a pos) (qNot q1) :=
  ⟨fun B => (pt_not (h.h B)).imp fun σ H Q ⟨S, F, k, S', R, hg, q⟩ => by
  obtain ⟨⟨d, S1⟩, h1, hg⟩ := map_some' hg
  cases hg
  exact ⟨S, F, d, _, R, h1, fun F' H' R' st => q F' H' R' st⟩⟩
theorem jw_one_and {q1 : GT} (h : JT X a q1) : JW X (.BoolOp .And [a] pos) q1 := ⟨fun B => pw_and1 (h.h B)⟩
theorem jw_one_or {q1 : GT} (h : JT X a q1) : JW X (.BoolOp .Or [a] pos) q1 := ⟨fun B => pw_or1 (h.h B)⟩
theorem jw_and {r : List Expr} {q1 q2 : GT} (h : JT X a q1) (hr : JW X (.BoolOp .And (b :: r) pos) q2) : JW X (.BoolOp .And (a :: b :: r) pos) (qAnd q1 q2) :=
  ⟨fun B => (pw_and (h.h B) (hr.h B)).imp fun σ H Q ⟨S, F, k, S', R, hg, q⟩ => by
  obtain ⟨⟨d, S1⟩, h1, hg⟩ := bind_some' hg
  refine ⟨S, F, d, S1, R, h1, fun F1 H1 R1 st1 => ?_⟩
  cases d with
  | true => exact iteT ⟨S1, F1, k, S', R1, hg, fun F2 H2 R2 st2 => q F2 H2 R2 (st1.trans st2)⟩
  | false => cases hg; exact iteF (q F1 H1 R1 st1)⟩
theorem jw_or {r : List Expr} {q1 q2 : GT} (h : JT X a q1) (hr : JW X (.BoolOp .Or (b :: r) pos) q2) : JW X (.BoolOp .Or (a :: b :: r) pos) (qOr q1 q2) :=
  ⟨fun B => (pw_or (h.h B) (hr.h B)).imp fun σ H Q ⟨S, F, k, S', R, hg, q⟩ => by
  obtain ⟨⟨d, S1⟩, h1, hg⟩ := bind_some' hg
  refine ⟨S, F, d, S1, R, h1, fun F1 H1 R1 st1 => ?_⟩
  cases d with
  | false => exact iteF ⟨S1, F1, k, S', R1, hg, fun F2 H2 R2 st2 => q F2 H2 R2 (st1.trans st2)⟩
  | true => cases hg; exact iteT (q F1 H1 R1 st1)⟩
theorem JW.t {q1 : GT} (h : JW X e q1) : JT X e q1 := ⟨fun B => (h.h B).pt⟩
theorem jd_one {op} (h : JD X a g) : JD X (.BoolOp op [a] pos) (eQ (qB g)) := ⟨fun B => (pe_one (h.h B)).imp fun σ H Q ⟨S, F, k, S', R, hg, q⟩ => by
  obtain ⟨⟨d, S1⟩, h1, hg⟩ := map_some' hg
  cases hg
  exact ⟨S, F, .bl d, _, R, qB_some h1, q⟩⟩
theorem jd_and {r : List Expr} {q2 : GT} (h : JD X a g) (hr : JD X (.BoolOp .And (b :: r) pos) (eQ q2)) : JD X (.BoolOp .And (a :: b :: r) pos) (eQ (qAnd (qB g) q2)) :=
  ⟨fun B => (pe_and (h.h B) (hr.h B)).imp fun σ H Q ⟨S, F, k, S', R, hg, q⟩ => by
  obtain ⟨⟨d, S1⟩, h1, hg⟩ := map_some' hg
  cases hg
  obtain ⟨⟨d1, S2⟩, h1, h2⟩ := bind_some' h1
  refine ⟨S, F, .bl d1, S2, R, qB_some h1, fun v F1 H1 R1 st1 r1 => ⟨d1, rep_bl r1, ?_⟩⟩
  cases d1 with
  | true =>
    have h2 : q2 S2 = some (d, S1) := h2
    exact iteT ⟨S2, F1, .bl d, S1, R1, by show (q2 S2).map _ = _; rw [h2]; rfl, fun v F2 H2 R2 st2 r2 => q v F2 H2 R2 (st1.trans st2) r2⟩
  | false => cases h2; exact iteF (q _ F1 H1 R1 st1 (.bl false))⟩
theorem jd_or {r : List Expr} {q2 : GT} (h : JD X a g) (hr : JD X (.BoolOp .Or (b :: r) pos) (eQ q2)) : JD X (.BoolOp .Or (a :: b :: r) pos) (eQ (qOr (qB g) q2)) :=
  ⟨fun B => (pe_or (h.h B) (hr.h B)).imp fun σ H Q ⟨S, F, k, S', R, hg, q⟩ => by
  obtain ⟨⟨d, S1⟩, h1, hg⟩ := map_some' hg
  cases hg
  obtain ⟨⟨d1, S2⟩, h1, h2⟩ := bind_some' h1
  refine ⟨S, F, .bl d1, S2, R, qB_some h1, fun v F1 H1 R1 st1 r1 => ⟨d1, rep_bl r1, ?_⟩⟩
  cases d1 with
  | false =>
    have h2 : q2 S2 = some (d, S1) := h2
    exact iteF ⟨S2, F1, .bl d, S1, R1, by show (q2 S2).map _ = _; rw [h2]; rfl, fun v F2 H2 R2 st2 r2 => q v F2 H2 R2 (st1.trans st2) r2⟩
  | true => cases h2; exact iteT (q _ F1 H1 R1 st1 (.bl true))⟩
theorem jd_not (h : JD X a g) : JD X (.UnaryOp .Not a pos) (eQ (qNot (qB g))) := ⟨fun B => (pe_not (h.h B)).imp fun σ H Q ⟨S, F, k, S', R, hg, q⟩ => by
  obtain ⟨⟨d, S1⟩, h1, hg⟩ := map_some' hg
  cases hg
  obtain ⟨⟨d1, S2⟩, h3, h2⟩ := map_some' h1
  cases h2
  exact ⟨S, F, .bl d1, _, R, qB_some h3, fun v F1 H1 R1 st1 r1 => ⟨d1, rep_bl r1, q _ F1 H1 R1 st1 (.bl _)⟩⟩⟩
def eIf (q : GT) (g h : GE) : GE := fun S => (q S).bind fun p => if p.1 then g p.2 else h p.2
theorem RepR.weak {K : PySem.W.Frag} {B : Base} {S : SS} {σ : St} {H0 H1 F H : Hp} {v : V} (t : ∀ b o, H0 b = some o → ∃ o', H1 b = some o') : ∀ {u : U}, RepR K B S σ H1 F H v u → RepR K B S σ H0 F H v u
  | .t _, h => h
  | .s _, h => h
  | .m _, ⟨a, e, h0, h⟩ => ⟨a, e, none_of t h0, h⟩
  | .v _, h => h
  | .b _, h => h
def eCh (f f' : List D → Option U) (ga gb gc : GD) : GD := fun S => (ga S).bind fun p => (gb p.2).bind fun q => match f [p.1, q.1] with
  | some (.t (.bl k)) => if k then (gc q.2).bind fun r => match f' [q.1, r.1] with
      | some (.t (.bl k')) => some (.bl k', r.2)
      | _ => none
    else some (.bl false, q.2)
  | _ => none
theorem ch_ok {K : PySem.W.Frag} {B : Base} {σ : St} {H : Hp} {Q : VK} (h : tD K B (eCh f f' ga gb gc) σ H Q) : tChain (fun x y H Q => rP f [x, y] H Q) (fun x y H Q => rP f' [x, y] H Q) (tD K B ga) (tD K B gb) (tD K B gc) σ H Q := by
  obtain ⟨S, F, d, S', R, hg, q⟩ := h
  obtain ⟨⟨d1, S1⟩, h1, hg⟩ := bind_some' hg
  obtain ⟨⟨d2, S2⟩, h2, hg⟩ := bind_some' hg
  refine ⟨S, F, d1, S1, R, h1, fun v1 F1 H1 R1 st1 r1 => ⟨S1, F1, d2, S2, R1, h2, fun v2 F2 H2 R2 st2 r2 => ?_⟩⟩
  dsimp only at hg
  split at hg
  · rename_i k hk
    refine ⟨F2, _, _, R2.sub, .cons (r1.le st2.ext.le) (.cons r2 .nil), hk, fun v F3 H3 n s3 r3 => ⟨k, rep_bl r3, ?_⟩⟩
    have R3 := R2.new n s3
    have st3 : Step S S2 σ F H F3 H3 := (st1.trans st2).trans n.step
    cases k with
    | false => cases hg; exact iteF (q _ F3 H3 R3 st3 (.bl false))
    | true =>
      obtain ⟨⟨d3, S3⟩, h3, hg⟩ := bind_some' hg
      refine iteT ⟨S2, F3, d3, S3, R3, h3, fun v3 F4 H4 R4 st4 r4 => ?_⟩
      dsimp only at hg
      split at hg
      · rename_i k' hk'
        cases hg
        exact ⟨F4, _, _, R4.sub, .cons (r2.le fun b o z => st4.ext.le b o (n.le b o z)) (.cons r4 .nil), hk', fun v F5 H5 n5 s5 r5 => q v F5 H5 (R4.new n5 s5) ((st3.trans st4).trans n5.step) r5⟩
      · cases hg
  · cases hg
theorem jd_chain {op op' : CmpOp} (ho : OpP X (compareOp op) f) (ho' : OpP X (compareOp op') f') (ha : JD X a ga) (hb : JD X b gb) (hc : JD X c gc) (hm : lastMarks [op, op'] [b, c] = false := by with_unfolding_all rfl) :
    JD X (.Compare a [op, op'] [b, c] pos) (eCh f f' ga gb gc) := ⟨fun B => (pe_chain ho ho' (ha.h B) (hb.h B) (hc.h B) hm).imp fun σ H Q h => ch_ok h⟩
theorem jt_chain {op op' : CmpOp} (ho : OpP X (compareOp op) f) (ho' : OpP X (compareOp op') f') (ha : JD X a ga) (hb : JD X b gb) (hc : JD X c gc) (hm : lastMarks [op, op'] [b, c] = false := by with_unfolding_all rfl) :
    JT X (.Compare a [op, op'] [b, c] pos) (qB (eCh f f' ga gb gc)) := ⟨fun B => (pt_chain ho ho' (ha.h B) (hb.h B) (hc.h B) hm).imp fun σ H Q ⟨S, F, k, S', R, hg, q⟩ => ch_ok ⟨S, F, .bl k, S', R, qB_some hg, fun v F' H' R' st r => ⟨k, rep_bl r, q F' H' R' st⟩⟩⟩
end
end L2

end
section
set_option Elab.async false
set_option linter.all false
set_option maxRecDepth 100000
namespace L2
open PySem PySem.Spec PyProof.Rows
theorem ite_some {α : Type} {c : Prop} {i : Decidable c} {x w : α} (h : (@ite _ c i (some x) none) = some w) : c ∧ x = w := by
  by_cases hc : c
  · rw [if_pos hc] at h; exact ⟨hc, Option.some.inj h⟩
  · rw [if_neg hc] at h; cases h
theorem ite_some2 {α : Type} {c : Prop} {i : Decidable c} {x : Option α} {w : α} (h : (@ite _ c i x none) = some w) : c ∧ x = some w := by
  by_cases hc : c
  · rw [if_pos hc] at h; exact ⟨hc, h⟩
  · rw [if_neg hc] at h; cases h
theorem reps1 {F : Hp} {x : V} {ds : List D} (r : Reps F [x] ds) : ∃ d, ds = [d] ∧ Rep F x d := by
  cases r with
  | cons r rs => cases rs; exact ⟨_, rfl, r⟩
theorem reps2 {F : Hp} {x y : V} {ds : List D} (r : Reps F [x, y] ds) : ∃ d e, ds = [d, e] ∧ Rep F x d ∧ Rep F y e := by
  cases r with
  | cons r rs => obtain ⟨e, rfl, r2⟩ := reps1 rs; exact ⟨_, e, rfl, r, r2⟩
def fI2 (C : Int → Int → Bool) (h : Int → Int → D) : List D → Option U
  | [.int i, .int j] => if C i j then some (.t (h i j)) else none
  | _ => none
section
variable {X : Cx}
theorem opP_I {o : Value → Value → Sem Value} {C : Int → Int → Bool} {h : Int → Int → D} {r : R2} (hr : OpR X o r) (k : ∀ i j H Q, C i j = true → Q (toV (h i j)) H → r (.int i) (.int j) H Q) (hf : ∀ i j, flatD (h i j) = true) : OpP X o (fI2 C h) := by
  intro pins s σ H x y v u Q I rx ry ⟨F, ds, w, sb, rs, hw, q⟩
  obtain ⟨d, e, rfl, r1, r2⟩ := reps2 rs
  cases r1 <;> cases r2 <;> try (simp [fI2] at hw; done)
  rename_i i j
  obtain ⟨hc, rfl⟩ := ite_some hw
  exact hr pins s σ H _ _ v u Q I rx ry (k i j H Q hc (q _ F H (New.refl ..) sb (rep_flat (hf i j))))
abbrev fSub := fI2 (fun _ _ => true) fun i j => .int (i - j)
abbrev fLt := fI2 (fun _ _ => true) fun i j => .bl (decide (i < j))
abbrev fLe := fI2 (fun _ _ => true) fun i j => .bl (decide (i ≤ j))
abbrev fGt := fI2 (fun _ _ => true) fun i j => .bl (decide (j < i))
abbrev fDiv := fI2 (fun _ j => decide (0 < j) && decide (j < 1073741824)) fun i j => .int (i / j)
abbrev fMod := fI2 (fun _ j => decide (0 < j)) fun i j => .int (i % j)
abbrev fPow := fI2 (fun i j => decide (0 ≤ j) && (decide (j ≤ 1000) && decide (i.natAbs < 2 ^ 64))) fun i j => .int (i ^ j.toNat)
theorem op_subP : OpP X (binaryOp .Sub) fSub := opP_I op_sub (fun i j H Q _ q => ⟨i, j, rfl, rfl, q⟩) fun _ _ => rfl
theorem op_ltP : OpP X (compareOp .Lt) fLt := opP_I op_lt (fun i j H Q _ q => ⟨i, j, rfl, rfl, q⟩) fun _ _ => rfl
theorem op_leP : OpP X (compareOp .LtE) fLe := opP_I op_le (fun i j H Q _ q => ⟨i, j, rfl, rfl, q⟩) fun _ _ => rfl
theorem op_gtP : OpP X (compareOp .Gt) fGt := opP_I op_gt (fun i j H Q _ q => ⟨i, j, rfl, rfl, q⟩) fun _ _ => rfl
theorem op_divP : OpP X (binaryOp .FloorDiv) fDiv := opP_I op_fdiv (fun i j H Q c q => ⟨i, j, rfl, rfl, by simpa [CDiv] using c, q⟩) fun _ _ => rfl
theorem op_modP : OpP X (binaryOp .Mod) fMod := opP_I op_mod (fun i j H Q c q => ⟨i, j, rfl, rfl, by simpa using c, q⟩) fun _ _ => rfl
theorem op_powP : OpP X (binaryOp .Pow) fPow := opP_I op_pow (fun i j H Q c q => ⟨i, j, rfl, rfl, by
  simp only [Bool.and_eq_true, decide_eq_true_eq] at c
  exact ⟨c.1, Int.le_trans c.2.1 (by decide), c.2.2⟩, q⟩) fun _ _ => rfl
theorem Sub.tupAt {F H : Hp} {v : V} {ds : List D} (s : Sub F H) (r : Rep F v (.tup ds)) : ∃ a vs, v = .ref a ∧ F a = some (.tup vs) ∧ Rd H a (.tup vs) ∧ Reps F vs ds := by
  cases r with
  | tup e rs => exact ⟨_, _, rfl, e, Rd.of (s _ _ e), rs⟩
theorem Sub.lstAt {F H : Hp} {v : V} {ds : List D} (s : Sub F H) (r : Rep F v (.lst ds)) : ∃ a vs, v = .ref a ∧ F a = some (.lst vs) ∧ Rd H a (.lst vs) ∧ Reps F vs ds := by
  cases r with
  | lst e rs => exact ⟨_, _, rfl, e, Rd.of (s _ _ e), rs⟩
theorem _root_.L2.Rd.lstM {pins : List (Addr × Obj)} {σ : St} {H : Hp} {s : Shared} (I : Inv X pins σ H s) {l : Addr} {xs : List V} (h : Rd H l (.lst xs)) :
    xs.length ≤ sizeLine ∧ ∃ its n, Vals xs its ∧ xs.length = its.length ∧ s.heap.get? l = some { cls := .type "list", data := .seq its.toArray n } := by
  obtain ⟨z, its, n, r, e⟩ := (h.ok I.hok : ObjOk X.prog X.w H s.heap l (.lst xs))
  exact ⟨z, its, n, r, r.length, e⟩
def fAdd : List D → Option U
  | [.int i, .int j] => some (.t (.int (i + j)))
  | [.str i, .str j] => if i.length + j.length ≤ 100000 then some (.t (.str (i ++ j))) else none
  | [.tup i, .tup j] => if i.length + j.length ≤ 100000 then some (.t (.tup (i ++ j))) else none
  | [.lst i, .lst j] => if i.length + j.length ≤ 100000 then some (.m (.lst (i ++ j))) else none
  | _ => none
theorem op_addP : OpP X (binaryOp .Add) fAdd := by
  intro pins s σ H x y v u Q I rx ry ⟨F, ds, w, sb, rs, hw, q⟩
  obtain ⟨d, e, rfl, r1, r2⟩ := reps2 rs
  cases d <;> cases e <;> try (simp [fAdd] at hw; done)
  · rename_i i j
    cases hw
    cases r1
    cases r2
    exact op_add pins s σ H _ _ v u Q I rx ry ⟨i, j, rfl, rfl, q _ F H (New.refl ..) sb (.int _)⟩
  · rename_i i j
    obtain ⟨hl, rfl⟩ := ite_some hw
    cases r1
    cases r2
    exact op_add_str pins s σ H _ _ v u Q I rx ry ⟨i, j, rfl, rfl, line_of hl, q _ F H (New.refl ..) sb (.str _)⟩
  · rename_i i j
    obtain ⟨hl, rfl⟩ := ite_some hw
    have rb2 := r2
    have rb1 := r1
    obtain ⟨a, xs, rfl, fa, ha, rs1⟩ := sb.tupAt r1
    obtain ⟨b, ys, rfl, fb, hb, rs2⟩ := sb.tupAt r2
    by_cases hx : xs = []
    · subst hx
      cases rs1
      cases rx
      cases ry
      obtain ⟨its, r1', p1, _⟩ := I.tuple (.inl ha)
      obtain ⟨its2, r2', p2, _⟩ := I.tuple (.inl hb)
      cases r1'
      obtain ⟨⟨cls, dd, data, sl⟩, ho, hc, n, hd⟩ := id p1
      obtain ⟨⟨cls2, dd2, data2, sl2⟩, ho2, hc2, n2, hd2⟩ := id p2
      simp only at hc hd hc2 hd2
      subst hc hd hc2 hd2
      exact concat_meets ⟨_, ho, rfl⟩ ⟨_, ho2, rfl⟩ noFill_tuple_add seq_tuple_add PySem.F.slot_tuple_add PySem.F.entry_tuple_add (PySem.F.args_tuple_add_2 _ _)
        (tuple_addW0 a b _ _ n n2 dd dd2 sl sl2 (by simp)) ⟨ho, ho2, ⟨.ref b, H, I, rfl, q _ F H (New.refl ..) sb rb2⟩⟩
    · refine op_catT pins s σ H (.ref a) (.ref b) v u Q I rx ry ⟨a, b, xs, ys, rfl, rfl, .inl ha, .inl hb, hx, ?_, fun hy => ?_, fun hy p hp => ?_⟩
      · rw [rs1.length, rs2.length]; exact line_of hl
      · subst hy
        cases rs2
        exact q _ F H (New.refl ..) sb (by show Rep F (.ref a) (.tup (i ++ [])); rw [List.append_nil]; exact rb1)
      · exact q _ _ _ (New.root sb hp _) (sb.tupNew hp) (.tup upd_same ((rs1.append rs2).le (le_upd (sb.fresh hp))))
  · rename_i i j
    obtain ⟨hl, rfl⟩ := ite_some hw
    obtain ⟨a, xs, rfl, fa, ha, rs1⟩ := sb.lstAt r1
    obtain ⟨b, ys, rfl, fb, hb, rs2⟩ := sb.lstAt r2
    cases rx
    cases ry
    obtain ⟨z, its, n, r, hl1, e⟩ := Rd.lstM I ha
    obtain ⟨z2, its2, n2, r2, hl2, e2⟩ := Rd.lstM I hb
    have hlen : xs.length + ys.length ≤ sizeLine := by rw [rs1.length, rs2.length]; exact line_of hl
    refine PySem.P.add_list e e2 ?_ (by rw [List.size_toArray, List.size_toArray]; omega)
    have ea : its.toArray ++ its2.toArray = (its ++ its2).toArray := by simp
    rw [ea]
    have hp : H s.heap.objs.size = none := I.fresh
    refine ⟨.ref _, _, I.lnew (t' := s.toks) (r.append r2) (by rw [List.length_append]; omega), rfl, ?_⟩
    exact q _ F _ (New.obj hp _) (sb.same (New.obj (F := F) hp _).same) ⟨_, rfl, hp, sb.fresh hp, _, upd_same, rs1.append rs2⟩
def fMul : List D → Option U := fI2 (fun i j => (decide (-(2 ^ 64) < i) && decide (i < 2 ^ 64)) || (decide (-(2 ^ 64) < j) && decide (j < 2 ^ 64))) fun i j => .int (i * j)
theorem op_mulP : OpP X (binaryOp .Mult) fMul := opP_I op_mul (fun i j H Q c q => ⟨i, j, rfl, rfl, by
  simp only [Bool.or_eq_true, Bool.and_eq_true, decide_eq_true_eq] at c
  exact c, q⟩) fun _ _ => rfl
def fNeg : List D → Option U
  | [.int i] => some (.t (.int (-i)))
  | _ => none
theorem un_negP : UnR X (unaryOp .USub) (fun x H Q => rP fNeg [x] H Q) := by
  intro pins s σ H x v Q I rx ⟨F, ds, w, sb, rs, hw, q⟩
  obtain ⟨d, rfl, r1⟩ := reps1 rs
  cases r1 <;> try (simp [fNeg] at hw; done)
  rename_i i
  cases hw
  exact un_neg pins s σ H _ v Q I rx ⟨i, rfl, q _ F H (New.refl ..) sb (.int _)⟩
def fIx : List D → Option U
  | [.tup ds, .int i] => (atI ds i).map .t
  | [.lst ds, .int i] => (atI ds i).map .t
  | [.str z, .int i] => if z.length ≤ 100000 then (atI z.cps.toList i).map fun c => .t (.str ⟨#[c]⟩) else none
  | _ => none
theorem ix_P : IxR X (fun x y H Q => rP fIx [x, y] H Q) := by
  intro value slice pins s σ H x y v u Q I rx ry ⟨F, ds, w, sb, rs, hw, q⟩ hsb
  obtain ⟨d, e, rfl, r1, r2⟩ := reps2 rs
  cases d <;> cases e <;> try (simp [fIx] at hw; done)
  · rename_i z i
    obtain ⟨hl, hw⟩ := ite_some2 hw
    obtain ⟨c, hc, hw⟩ := map_some' hw
    subst hw
    cases r1
    cases r2
    exact ix_str value slice pins s σ H _ _ v u Q I rx ry ⟨z, i, c, rfl, rfl, line_of hl, hc, q _ F H (New.refl ..) sb (.str _)⟩ hsb
  · rename_i ds i
    obtain ⟨c, hc, hw⟩ := map_some' (show (atI ds i).map U.t = some w from hw)
    subst hw
    obtain ⟨a, xs, rfl, fa, ha, rs1⟩ := sb.tupAt r1
    cases r2
    obtain ⟨w', h1, h2⟩ := rs1.atI hc
    exact ix_tup value slice pins s σ H _ _ v u Q I rx ry ⟨a, xs, i, w', rfl, rfl, .inl ha, h1, q _ F H (New.refl ..) sb h2⟩ hsb
  · rename_i ds i
    obtain ⟨c, hc, hw⟩ := map_some' (show (atI ds i).map U.t = some w from hw)
    subst hw
    obtain ⟨a, xs, rfl, fa, ha, rs1⟩ := sb.lstAt r1
    cases r2
    obtain ⟨w', h1, h2⟩ := rs1.atI hc
    exact ix_list value slice pins s σ H _ _ v u Q I rx ry ⟨a, xs, i, w', rfl, rfl, .inl ha, h1, q _ F H (New.refl ..) sb h2⟩ hsb
def fLen : List D → Option U
  | [.tup ds] => some (.t (.int ds.length))
  | [.lst ds] => some (.t (.int ds.length))
  | [.str z] => if z.length ≤ 100000 then some (.t (.int z.length)) else none
  | _ => none
theorem call_lenP : CallR X (.builtin "len") (rP fLen) := by
  intro pins s σ H xs us Q I r ⟨F, ds, w, sb, rs, hw, q⟩
  match xs, ds, rs with
  | [], [], _ => exact absurd hw (by simp [fLen])
  | [x], _, rs =>
    obtain ⟨d, rfl, r1⟩ := reps1 rs
    cases d <;> try (simp [fLen] at hw; done)
    · rename_i z
      obtain ⟨hl, rfl⟩ := ite_some hw
      cases r1
      exact call_len_str pins s σ H _ us Q I r ⟨z, rfl, line_of hl, q _ F H (New.refl ..) sb (.int _)⟩
    · cases hw
      obtain ⟨a, xs, rfl, fa, ha, rs1⟩ := sb.tupAt r1
      exact call_len_seq pins s σ H _ us Q I r ⟨a, xs, rfl, .inr (.inl ha), by rw [rs1.length]; exact q _ F H (New.refl ..) sb (.int _)⟩
    · cases hw
      obtain ⟨a, xs, rfl, fa, ha, rs1⟩ := sb.lstAt r1
      exact call_len_seq pins s σ H _ us Q I r ⟨a, xs, rfl, .inl (.inl ha), by rw [rs1.length]; exact q _ F H (New.refl ..) sb (.int _)⟩
  | _ :: _ :: _, [], rs => cases rs
  | _ :: _ :: _, [_], rs => cases rs with | cons _ rs => cases rs
  | _ :: _ :: _, _ :: _ :: _, _ => exact absurd hw (by simp [fLen])
end
end L2

end
section
set_option Elab.async false
set_option linter.all false
set_option maxRecDepth 100000
namespace L2
open PySem PySem.Spec PyProof.Rows
def setU (i : Nat) (u : U) (S : SS) : Option SS := match S[i]? with
  | some (some (.b _)) => none
  | some _ => some (S.set i (some u))
  | none => none
theorem setU_some {i : Nat} {u : U} {S S' : SS} (h : setU i u S = some S') : S' = S.set i (some u) ∧ i < S.length ∧ ∀ o, S[i]? ≠ some (some (.b o)) := by
  unfold setU at h
  cases e : S[i]? with
  | none => rw [e] at h; cases h
  | some w =>
    have hl : i < S.length := (List.getElem?_eq_some_iff.mp e).1
    rw [e] at h
    cases w with
    | none => cases h; exact ⟨rfl, hl, fun o z => by cases z⟩
    | some w =>
      cases w with
      | b o => cases h
      | t d => cases h; exact ⟨rfl, hl, fun o z => by cases z⟩
      | m d => cases h; exact ⟨rfl, hl, fun o z => by cases z⟩
      | v d => cases h; exact ⟨rfl, hl, fun o z => by cases z⟩
      | s d => cases h; exact ⟨rfl, hl, fun o z => by cases z⟩
def PutOk (B : Base) (S : SS) (σ : St) (F H : Hp) (v : V) : U → Prop
  | .t d => Rep F v d
  | .m o => ∃ a, v = .ref a ∧ F a = none ∧ At F H a o ∧ ¬ mutAt S σ a ∧ B.H a = none
  | _ => False
theorem Rel.put {K : PySem.W.Frag} {B : Base} {S S' : SS} {σ : St} {F H : Hp} {i : Nat} {u : U} {v : V} (R : Rel K B S σ F H) (h : setU i u S = some S') (p : PutOk B S σ F H v u) : Rel K B S' (σ.set i (some v)) F H := by
  obtain ⟨rfl, hl, nb⟩ := setU_some h
  have hl' : i < σ.length := by rw [← R.len]; exact hl
  have out : ∀ {j : Nat}, i ≠ j → (σ.set i (some v))[j]? = σ[j]? := fun ne => List.getElem?_set_ne ne
  have inn : (σ.set i (some v))[i]? = some (some v) := List.getElem?_set_self hl'
  have clash : ∀ j w a, i ≠ j → S[j]? = some (some w) → isMut w = true → isMut u = true → σ[j]? = some (some (.ref a)) → v ≠ .ref a := fun j w a ne hj hm hu hv z => by
    cases u with
    | t d => cases hu
    | v k => cases hu
    | s k => cases hu
    | b o => exact p
    | m o =>
      obtain ⟨c, e, _, _, nm, _⟩ := p
      rw [z] at e
      cases e
      exact nm ⟨j, w, hj, hm, hv⟩
  refine ⟨R.sub, by rw [List.length_set, List.length_set]; exact R.len, fun j w hj => ?_, fun j k w1 w2 a h1 m1 h2 m2 v1 v2 => ?_, fun j o a hj hv => ?_, fun j o a hj hv => ?_, fun j a hj => ?_, R.ext⟩
  · rcases get_set hj with ⟨rfl, q, _⟩ | ⟨ne, q⟩
    · cases q
      refine ⟨v, inn, ?_⟩
      cases u with
      | t d => exact p
      | m o => obtain ⟨a, e, f, h, _⟩ := p; exact ⟨a, e, f, h⟩
      | b o => cases p
      | v k => cases p
      | s k => cases p
    · rw [out ne]; exact R.rep j w q
  · rcases get_set h1 with ⟨rfl, q1, _⟩ | ⟨ne1, q1⟩
    · rcases get_set h2 with ⟨rfl, q2, _⟩ | ⟨ne2, q2⟩
      · rfl
      · cases q1
        rw [inn] at v1
        rw [out ne2] at v2
        cases v1
        exact absurd rfl (clash k w2 a ne2 q2 m2 m1 v2)
    · rcases get_set h2 with ⟨rfl, q2, _⟩ | ⟨ne2, q2⟩
      · cases q2
        rw [inn] at v2
        rw [out ne1] at v1
        cases v2
        exact absurd rfl (clash j w1 a ne1 q1 m1 m2 v1)
      · rw [out ne1] at v1
        rw [out ne2] at v2
        exact R.dis j k w1 w2 a q1 m1 q2 m2 v1 v2
  · rcases get_set hj with ⟨rfl, q, _⟩ | ⟨ne, q⟩
    · cases q
      rw [inn] at hv
      cases hv
      obtain ⟨c, e, _, _, _, hB⟩ := p
      cases e
      exact hB
    · rw [out ne] at hv; exact R.own j o a q hv
  · rcases get_set hj with ⟨rfl, q, _⟩ | ⟨ne, q⟩
    · cases q; cases p
    · rw [out ne] at hv; exact R.bor j o a q hv
  · obtain ⟨h1, o, h2⟩ := R.par j a hj
    have ne : i ≠ j := fun z => by subst z; exact nb o h2
    exact ⟨by rw [out ne]; exact h1, o, by rw [List.getElem?_set_ne ne]; exact h2⟩
def sNil : GS := fun S => some (.nx S)
def sSeq (a b : GS) : GS := fun S => (a S).bind fun o => match o with
  | .nx S1 => b S1
  | o => some o
def sSet (i : Nat) (g : GE) : GS := fun S => (g S).bind fun p => match p.1 with
  | .m o => (setU i (.m o) p.2).map .nx
  | u => (fz u p.2).bind fun q => (setU i (.t q.1) q.2).map .nx
def sExpr (g : GE) : GS := fun S => (g S).map fun p => .nx p.2
def sRet (g : GE) : GS := fun S => (g S).bind fun p => match p.1 with
  | .v i => match p.2[i]? with
    | some (some (.t d)) => some (.rt (.t d) p.2)
    | some (some (.m o)) => some (.rt (.m o) (p.2.set i none))
    | _ => none
  | .s _ => none
  | u => some (.rt u p.2)
def sRetN : GS := fun S => some (.rt (.t .non) S)
def sIf (q : GT) (a b : GS) : GS := fun S => (q S).bind fun p => if p.1 then a p.2 else b p.2
theorem OutOk.mono {K : PySem.W.Frag} {B : Base} {F F1 : Hp} {D : Ends} (g : ∀ b o, F b = some o → F1 b = some o) : ∀ {o : Out}, OutOk K B F D o → OutOk K B F1 D o
  | .nx _, h => fun σ' F' H' R le => h σ' F' H' R fun b o z => le b o (g b o z)
  | .bk _, h => fun σ' F' H' R le => h σ' F' H' R fun b o z => le b o (g b o z)
  | .ct _, h => fun σ' F' H' R le => h σ' F' H' R fun b o z => le b o (g b o z)
  | .rt _ _, h => fun v σ' F' H' R le => h v σ' F' H' R fun b o z => le b o (g b o z)
section
variable {X : Cx} {a b c e : Expr} {pos p p2 : Pos} {x : Str} {st : Stmt} {rest b1 b2 body : List Stmt} {g : GE} {s1 s2 : GS} {q1 : GT}
theorem jb_nil : JB X [] sNil := ⟨fun B => pss_nil.imp fun D σ H ⟨S, F, o, R, h, k⟩ => by cases h; exact k σ F H R fun _ _ z => z⟩
theorem jb_cons (h1 : JS X st s1) (h2 : JB X rest s2) : JB X (st :: rest) (sSeq s1 s2) := ⟨fun B => (pss_cons (h1.h B) (h2.h B)).imp fun D σ H ⟨S, F, o, R, h, k⟩ => by
  obtain ⟨o1, e1, h⟩ := bind_some' h
  refine ⟨S, F, o1, R, e1, ?_⟩
  cases o1 with
  | nx S1 => exact fun σ' F' H' R' le => ⟨S1, F', o, R', h, k.mono le⟩
  | rt u S1 => cases h; exact k
  | bk S1 => cases h; exact k
  | ct S1 => cases h; exact k⟩
theorem jb_one (h1 : JS X st s1) : JB X [st] s1 := ⟨fun B => pss_one (h1.h B)⟩
theorem RepR.put {K : PySem.W.Frag} {B : Base} {S : SS} {σ : St} {H0 F H : Hp} {v : V} {o : MO} (r : RepR K B S σ H0 F H v (.m o)) : PutOk B S σ F H v (.m o) := by
  obtain ⟨a, e, _, f, h, n, hB⟩ := r
  exact ⟨a, e, f, h, n, hB⟩
theorem set_imp {i : Nat} {K : PySem.W.Frag} {B : Base} {D : Ends} {σ : St} {H : Hp} (h : tO K B (sSet i g) D σ H) : tAsg (tE K B g) (gName i) D σ H := by
  obtain ⟨S, F, o, R, h, k⟩ := h
  obtain ⟨⟨u, S1⟩, h1, h⟩ := bind_some' h
  refine ⟨S, F, u, S1, R, h1, fun v F1 H1 R1 st1 r1 => ?_⟩
  have go : (∀ o', u ≠ .m o') → (fz u S1).bind (fun q => (setU i (.t q.1) q.2).map Out.nx) = some o → D.nx (σ.set i (some v)) H1 := fun _ h => by
    obtain ⟨⟨d, S2⟩, h2, h⟩ := bind_some' h
    obtain ⟨S3, h3, h⟩ := map_some' h
    subst h
    obtain ⟨F2, R2, st2, r2⟩ := fz_ok R1 st1 r1 h2
    exact k _ F2 H1 (R2.put h3 r2) st2.ext.le
  cases u with
  | m o' =>
    obtain ⟨S3, h3, h⟩ := map_some' (show (setU i (.m o') S1).map Out.nx = some o from h)
    subst h
    exact k _ F1 H1 (R1.put h3 r1.put) st1.ext.le
  | t d => exact go (fun _ z => by cases z) h
  | b d => exact go (fun _ z => by cases z) h
  | s d => exact go (fun _ z => by cases z) h
  | v d => exact go (fun _ z => by cases z) h
theorem js_set {i : Nat} {pos' : Pos} (hN : X.N.Nodup) (hi : X.N[i]? = some x) (hx : Loc X.env.scope x) (he : JE X e g) (hs : swapsWith e (some (.Name x pos')) pos.line X.env = pure false := by rfl)
    (hf : X.fn x = true ∨ X.env.scope.names.lookup x = some .local := by first | exact .inl rfl | exact .inr rfl | assumption) : JS X (.Assign [.Name x pos'] e pos) (sSet i g) :=
  ⟨fun B => (ps_set hN hi hx (he.h B) hs hf).imp fun D σ H h => set_imp h⟩
theorem js_expr (he : JE X e g) (hs : swapsWith e none pos.line X.env = pure false := by rfl) : JS X (.Expr e pos) (sExpr g) := ⟨fun B => (ps_expr (he.h B) hs).imp fun D σ H ⟨S, F, o, R, h, k⟩ => by
  obtain ⟨⟨u, S1⟩, h1, h⟩ := map_some' h
  subst h
  exact ⟨S, F, u, S1, R, h1, fun v F1 H1 R1 st1 r1 => k σ F1 H1 R1 st1.ext.le⟩⟩
theorem Rel.drop {K : PySem.W.Frag} {B : Base} {S : SS} {σ : St} {F H : Hp} {i : Nat} {o : MO} (R : Rel K B S σ F H) (h : S[i]? = some (some (.m o))) : Rel K B (S.set i none) σ F H := by
  have back : ∀ {j w}, (S.set i none)[j]? = some (some w) → i ≠ j ∧ S[j]? = some (some w) := fun {j w} z => by
    rcases get_set z with ⟨_, q, _⟩ | q
    · cases q
    · exact q
  refine ⟨R.sub, by rw [List.length_set]; exact R.len, fun j w z => R.rep j w (back z).2, fun j k w1 w2 a h1 m1 h2 m2 => R.dis j k w1 w2 a (back h1).2 m1 (back h2).2 m2, fun j o a z => R.own j o a (back z).2, fun j o a z => R.bor j o a (back z).2, fun j a z => ?_, R.ext⟩
  obtain ⟨k1, o', k2⟩ := R.par j a z
  have ne : i ≠ j := fun z => by subst z; rw [h] at k2; cases k2
  exact ⟨k1, o', by rw [List.getElem?_set_ne ne]; exact k2⟩
theorem js_ret (he : JE X e g) : JS X (.Return (some e) pos) (sRet g) := ⟨fun B => (ps_ret (he.h B)).imp fun D σ H ⟨S, F, o, R, h, k⟩ => by
  obtain ⟨⟨u, S1⟩, h1, h⟩ := bind_some' h
  refine ⟨S, F, u, S1, R, h1, fun v F1 H1 R1 st1 r1 => ?_⟩
  cases u with
  | t d => cases h; exact k v σ F1 H1 R1 st1.ext.le r1
  | b d => cases h; cases r1
  | s d => cases h
  | m o' => cases h; exact k v σ F1 H1 R1 st1.ext.le (by obtain ⟨a, e, h0, f, h, n, hB⟩ := r1; exact ⟨a, e, hB, f, h, n, hB⟩)
  | v i =>
    obtain ⟨hv, w, hw⟩ := r1
    dsimp only at h
    rw [hw] at h
    obtain ⟨v', z1, z2⟩ := R1.rep i w hw
    rw [hv] at z1
    cases z1
    cases w with
    | t d => cases h; exact k v σ F1 H1 R1 st1.ext.le z2
    | b d => cases h
    | v d => cases h
    | s d => cases h
    | m o' =>
      cases h
      obtain ⟨a, rfl, f, ha⟩ := z2
      have hB := R1.own i o' a hw hv
      refine k _ σ F1 H1 (R1.drop hw) st1.ext.le ⟨a, rfl, hB, f, ha, fun ⟨j, w, z, hm, hj⟩ => ?_, hB⟩
      rcases get_set z with ⟨_, q, _⟩ | ⟨ne, q⟩
      · cases q
      · exact ne (R1.dis i j _ w a hw rfl q hm hv hj)⟩
theorem js_if (hc : JT X c q1) (ha : JB X b1 s1) (hb : JB X b2 s2) : JS X (.If c b1 b2 pos) (sIf q1 s1 s2) := ⟨fun B => (ps_if (hc.h B) (ha.h B) (hb.h B)).imp fun D σ H ⟨S, F, o, R, h, k⟩ => by
  obtain ⟨⟨d, S1⟩, h1, h⟩ := bind_some' h
  refine ⟨S, F, d, S1, R, h1, fun F1 H1 R1 st1 => ?_⟩
  cases d with
  | true => exact iteT ⟨S1, F1, o, R1, h, k.mono st1.ext.le⟩
  | false => exact iteF ⟨S1, F1, o, R1, h, k.mono st1.ext.le⟩⟩
abbrev GB := D → SS → Option SS
def tBd (K : PySem.W.Frag) (B : Base) (bd : GB) : TG := fun v σ H Q => ∃ S F d S', Rel K B S σ F H ∧ Rep F v d ∧ bd d S = some S' ∧ ∀ σ', Rel K B S' σ' F H → Q σ' H
structure JG (X : Cx) (tg : Expr) (bd : GB) : Prop where
  h : ∀ B, PG X tg (tBd X.K B bd)
abbrev GBs := List D → SS → Option SS
def tBds (K : PySem.W.Frag) (B : Base) (bd : GBs) : TGs := fun vs σ H Q => ∃ S F ds S', Rel K B S σ F H ∧ Reps F vs ds ∧ bd ds S = some S' ∧ ∀ σ', Rel K B S' σ' F H → Q σ' H
structure JGs (X : Cx) (tgs : List Expr) (bd : GBs) : Prop where
  h : ∀ B, PGs X tgs (tBds X.K B bd)
theorem PG.imp {tg : Expr} {t t' : TG} (h : PG X tg t) (k : ∀ v σ H Q, t' v σ H Q → t v σ H Q) : PG X tg t' := fun pins s σ H v u Q I r q => h pins s σ H v u Q I r (k v σ H Q q)
theorem PGs.imp {tg : List Expr} {t t' : TGs} (h : PGs X tg t) (k : ∀ v σ H Q, t' v σ H Q → t v σ H Q) : PGs X tg t' := fun pins s σ H v u Q I r q => h pins s σ H v u Q I r (k v σ H Q q)
def bName (i : Nat) : GB := fun d S => setU i (.t d) S
theorem jg_name {i : Nat} (hN : X.N.Nodup) (hi : X.N[i]? = some x) (hx : Loc X.env.scope x) (hf : X.fn x = true ∨ X.env.scope.names.lookup x = some .local := by first | exact .inl rfl | exact .inr rfl | assumption) : JG X (.Name x pos) (bName i) :=
  ⟨fun B => (pg_name hN hi hx hf).imp fun v σ H Q ⟨S, F, d, S', R, r, h, k⟩ => k _ (R.put h r)⟩
def bNil : GBs := fun ds S => match ds with
  | [] => some S
  | _ => none
def bCons (b : GB) (bs : GBs) : GBs := fun ds S => match ds with
  | d :: r => (b d S).bind fun S1 => bs r S1
  | [] => none
theorem jgs_nil : JGs X [] bNil := ⟨fun B => pgs_nil.imp fun vs σ H Q ⟨S, F, ds, S', R, r, h, k⟩ => by
  cases r with
  | nil => cases h; exact ⟨rfl, k σ R⟩
  | cons _ _ => cases h⟩
theorem jgs_cons {tg : Expr} {tgs : List Expr} {bd : GB} {bds : GBs} (h1 : JG X tg bd) (h2 : JGs X tgs bds) (hs : (assignEach (tg :: tgs) X.env).map (·.2) = assign tg X.env :: (assignEach tgs X.env).map (·.2) := by rfl) : JGs X (tg :: tgs) (bCons bd bds) :=
  ⟨fun B => (pgs_cons (h1.h B) (h2.h B) hs).imp fun vs σ H Q ⟨S, F, ds, S', R, r, h, k⟩ => by
  cases r with
  | nil => cases h
  | cons r rs =>
    obtain ⟨S1, e1, h⟩ := bind_some' h
    exact ⟨_, _, rfl, S, F, _, S1, R, r, e1, fun σ1 R1 => ⟨S1, F, _, S', R1, rs, h, k⟩⟩⟩
def bTup (n : Nat) (bs : GBs) : GB := fun d S => match d with
  | .tup ds => if ds.length = n then bs ds S else none
  | _ => none
theorem jg_tup {tgs : List Expr} {k0 : Nat} {bds : GBs} {n : Nat} (hc : X.calm = true) (h : JGs X tgs bds) (hn : (assignEach tgs X.env).length = n := by rfl) (hst : (assignEach tgs X.env).findIdx? (·.1) = none := by rfl) : JG X (.Tuple tgs k0 pos) (bTup n bds) :=
  ⟨fun B => (pg_tup hc (h.h B) hn hst).imp fun v σ H Q ⟨S, F, d, S', R, r, h, k⟩ => by
  cases d <;> try (cases h)
  rename_i ds
  unfold bTup at h
  dsimp only at h
  split at h
  · rename_i hl
    obtain ⟨a, vs, rfl, fa, ha, rs⟩ := R.sub.tupAt r
    exact ⟨a, vs, rfl, .inl ha, by rw [rs.length]; exact hl, S, F, ds, S', R, rs, h, k⟩
  · cases h⟩
def sAsg (bd : GB) (g : GD) : GS := fun S => (g S).bind fun p => (bd p.1 p.2).map .nx
theorem js_asg {tg : Expr} {bd : GB} {gd : GD} (he : JD X e gd) (hg : JG X tg bd) (hs : swapsWithSole [tg] e pos.line X.env = pure false := by rfl) (hw : swappedStores [tg] e X.env = pure none := by rfl)
    (h1 : (assignEach [tg] X.env).map (·.2) = [assign tg X.env] := by rfl) : JS X (.Assign [tg] e pos) (sAsg bd gd) :=
  ⟨fun B => (ps_asg (he.h B) (hg.h B) hs hw h1).imp fun D σ H ⟨S, F, o, R, h, k⟩ => by
  obtain ⟨⟨d, S1⟩, e1, h⟩ := bind_some' h
  obtain ⟨S2, e2, h⟩ := map_some' h
  subst h
  exact ⟨S, F, d, S1, R, e1, fun v F1 H1 R1 st1 r1 => ⟨S1, F1, d, S2, R1, r1, e2, fun σ' R2 => k σ' F1 H1 R2 st1.ext.le⟩⟩⟩
def Walk (J : It) (F : Hp) (ds : List D) : Prop := ∀ F' H', (∀ b o, F b = some o → F' b = some o) → Sub F' H' → ∀ i, (∀ d, ds[i]? = some d → J.go i H' ∧ ∀ x H2, J.yld i H' x H2 → H2 = H' ∧ Rep F' x d) ∧ (ds.length ≤ i → J.stop i H')
abbrev GI := SS → Option (List D × SS)
def tIt (K : PySem.W.Frag) (B : Base) (gi : GI) : TI := fun σ H R => ∃ S F ds S', Rel K B S σ F H ∧ gi S = some (ds, S') ∧ ∀ J F' H', Rel K B S' σ F' H' → Step S S' σ F H F' H' → Walk J F' ds → R J H'
structure JI (X : Cx) (tg e : Expr) (gi : GI) : Prop where
  h : ∀ B, PI X tg e (tIt X.K B gi)
theorem PI.orelse {tg : Expr} {wi : TI} (h : ∀ σ H R, wi σ H R → ∃ wi', PI X tg e wi' ∧ wi' σ H R) : PI X tg e wi := fun pins s σ H R I q => let ⟨_, h1, h2⟩ := h σ H R q; h1 pins s σ H R I h2
def iSeq (g : GD) : GI := fun S => (g S).bind fun p => match p.1 with
  | .tup ds => some (ds, p.2)
  | .lst ds => some (ds, p.2)
  | _ => none
def iAny (g : GD) : GI := fun S => (g S).bind fun p => match p.1 with
  | .tup ds => some (ds, p.2)
  | .lst ds => some (ds, p.2)
  | .str z => some (z.cps.toList.map fun c => .str ⟨#[c]⟩, p.2)
  | _ => none
theorem walk_list {K : PySem.W.Frag} {F : Hp} {a : Addr} {vs : List V} {ds : List D} (fa : F a = some (.lst vs)) (rs : Reps F vs ds) : Walk (Itl K a) F ds := fun F' H' le sb i => by
  have ha : SqL K H' a vs := .inl (Rd.of (sb a _ (le _ _ fa)))
  refine ⟨fun d hd => ?_, fun hl => ⟨vs, ha, by rw [rs.length]; exact hl⟩⟩
  obtain ⟨v, h1, h2⟩ := rs.get hd
  refine ⟨⟨vs, v, ha, h1⟩, fun x H2 y => ⟨y.1, ?_⟩⟩
  have := y.2 vs ha
  rw [h1] at this
  cases this
  exact h2.le le
theorem walk_tup {K : PySem.W.Frag} {F : Hp} {a : Addr} {vs : List V} {ds : List D} (fa : F a = some (.tup vs)) (rs : Reps F vs ds) : Walk (Itt K a) F ds := fun F' H' le sb i => by
  have ha : SqT K H' a vs := .inl (Rd.of (sb a _ (le _ _ fa)))
  refine ⟨fun d hd => ?_, fun hl => ⟨vs, ha, by rw [rs.length]; exact hl⟩⟩
  obtain ⟨v, h1, h2⟩ := rs.get hd
  refine ⟨⟨vs, v, ha, h1⟩, fun x H2 y => ⟨y.1, ?_⟩⟩
  have := y.2 vs ha
  rw [h1] at this
  cases this
  exact h2.le le
theorem walk_str {F : Hp} {z : Str} : Walk (Its z) F (z.cps.toList.map fun c => .str ⟨#[c]⟩) := fun F' H' le sb i => by
  refine ⟨fun d hd => ?_, fun hl => (show z.cps.size ≤ i by simpa using hl)⟩
  rw [List.getElem?_map] at hd
  obtain ⟨c, hc, rfl⟩ := map_some' hd
  have hc' : z.cps[i]? = some c := by rw [← Array.getElem?_toList]; exact hc
  refine ⟨(Array.getElem?_eq_some_iff.mp hc').1, fun x H2 y => ⟨y.1, ?_⟩⟩
  obtain ⟨c2, k1, rfl⟩ := y.2
  rw [hc'] at k1
  cases k1
  exact .str _
theorem ji_any {gd : GD} (h : JD X e gd) : JI X (.Name x pos) e (iAny gd) := ⟨fun B => PI.orelse fun σ H R0 ⟨S, F, ds, S', R, hg, k⟩ => by
  obtain ⟨⟨d, S1⟩, h1, hg⟩ := bind_some' hg
  cases d <;> try (cases hg)
  · refine ⟨_, pi_str (h.h B), S, F, _, _, R, h1, fun v F1 H1 R1 st1 r1 => ?_⟩
    exact ⟨_, rep_str r1, k _ F1 H1 R1 st1 walk_str⟩
  · refine ⟨_, pi_tup (h.h B), S, F, _, _, R, h1, fun v F1 H1 R1 st1 r1 => ?_⟩
    obtain ⟨a, vs, rfl, fa, ha, rs⟩ := R1.sub.tupAt r1
    exact ⟨a, rfl, ⟨vs, .inl ha⟩, k _ F1 H1 R1 st1 (walk_tup fa rs)⟩
  · refine ⟨_, pi_list (h.h B), S, F, _, _, R, h1, fun v F1 H1 R1 st1 r1 => ?_⟩
    obtain ⟨a, vs, rfl, fa, ha, rs⟩ := R1.sub.lstAt r1
    exact ⟨a, rfl, ⟨vs, .inl ha⟩, k _ F1 H1 R1 st1 (walk_list fa rs)⟩⟩
def rng (lo : Int) (n : Nat) : List D := (List.range n).map fun (k : Nat) => D.int (lo + (k : Int))
def gRng1 (gA : GA) : GI := fun S => (gA S).bind fun p => match p.1 with
  | [.int j] => if j < 1000000 ∧ -1000000 < j then some (rng 0 j.toNat, p.2) else none
  | _ => none
def gRng2 (gA : GA) : GI := fun S => (gA S).bind fun p => match p.1 with
  | [.int i, .int j] => if i < 1000000 ∧ -1000000 < i ∧ j < 1000000 ∧ -1000000 < j then some (rng i (j - i).toNat, p.2) else none
  | _ => none
theorem walk_rng {F : Hp} {lo : Int} {n : Nat} : Walk (Itr lo n) F (rng lo n) := fun F' H' le sb i => by
  refine ⟨fun d hd => ?_, fun hl => (show n ≤ i by simpa [rng] using hl)⟩
  unfold rng at hd
  rw [List.getElem?_map] at hd
  obtain ⟨c, hc, rfl⟩ := map_some' hd
  obtain ⟨hl, e⟩ := List.getElem?_eq_some_iff.mp hc
  rw [List.getElem_range] at e
  subst e
  refine ⟨show i < n by simpa using hl, fun x H2 y => ⟨y.1, ?_⟩⟩
  rw [y.2]
  exact .int _
theorem ji_range1 {tg : Expr} {gA : GA} (hg : Gl X "range") (hm : X.mg "range" = none) (ha : JA X [a] gA) (hs : starEach [a] X.env = [(false, eval a X.env)] := by rfl) : JI X tg (.Call (.Name "range" p) [a] [] pos) (gRng1 gA) :=
  ⟨fun B => PI.orelse fun σ H R0 ⟨S, F, ds, S', R, hg', k⟩ => by
  obtain ⟨⟨d, S1⟩, h1, hg'⟩ := bind_some' hg'
  refine ⟨_, pi_range1 hg hm (ha.h B) hs, S, F, d, S1, R, h1, fun vs F1 H1 R1 st1 r1 => ?_⟩
  dsimp only at hg'
  split at hg'
  · split at hg'
    · rename_i j hj
      cases hg'
      cases r1 with
      | cons r rs =>
        cases rs
        exact ⟨j, by rw [rep_int r], by omega, by omega, k _ F1 H1 R1 st1 walk_rng⟩
    · cases hg'
  · cases hg'⟩
def loop (bd : GB) (body : GS) : List D → SS → Option Out
  | [], S => some (.nx S)
  | d :: ds, S => (bd d S).bind fun S1 => (body S1).bind fun o => match o with
    | .nx S2 => loop bd body ds S2
    | .ct S2 => loop bd body ds S2
    | .bk S2 => some (.nx S2)
    | .rt u S2 => some (.rt u S2)
def sFor (bd : GB) (gi : GI) (body : GS) : GS := fun S => (gi S).bind fun p => loop bd body p.1 p.2
theorem js_for {tg iter : Expr} {bd : GB} {gi : GI} (hp : PassesOwn (model X.prog X.w) X.A X.env X.xe) (hc : X.calm = true) (hi : JI X tg iter gi) (hg : JG X tg bd) (hb : JB X body s1) (hs : ∀ x, foldedSetIterable iter X.env x = pure x := by intro _; rfl) :
    JS X (.For tg iter body [] pos) (sFor bd gi s1) := ⟨fun B => (ps_for hp hc (hi.h B) (hg.h B) (hb.h B) hs).imp fun D σ H ⟨S, F, o, R, h, k⟩ => by
  obtain ⟨⟨ds, S1⟩, h1, h⟩ := bind_some' h
  refine ⟨S, F, ds, S1, R, h1, fun J F1 H1 R1 st1 w => ?_⟩
  refine ⟨fun i m σ' H' => ∃ S' F', Rel X.K B S' σ' F' H' ∧ (∀ b o, F1 b = some o → F' b = some o) ∧ i ≤ ds.length ∧ m = ds.length - i ∧ loop bd s1 (ds.drop i) S' = some o, ⟨_, S1, F1, R1, fun _ _ z => z, Nat.zero_le _, rfl, h⟩, ?_⟩
  rintro i m σ' H' ⟨S', F', R', le, hl, rfl, hlp⟩
  have w' := w F' H' le R'.sub i
  by_cases hlt : i < ds.length
  · have hd : ds[i]? = some ds[i] := List.getElem?_eq_getElem hlt
    obtain ⟨go, yl⟩ := w'.1 _ hd
    rw [List.drop_eq_getElem_cons hlt] at hlp
    obtain ⟨S2, e2, hlp⟩ := bind_some' hlp
    obtain ⟨o2, e3, hlp⟩ := bind_some' hlp
    refine .inr ⟨go, _, fun σ2 H2 n => ⟨ds.length - (i + 1), by omega, n⟩, fun x H2 y => ?_⟩
    obtain ⟨rfl, rx⟩ := yl x H2 y
    refine ⟨S', F', _, S2, R', rx, e2, fun σ3 R3 => ⟨S2, F', o2, R3, e3, ?_⟩⟩
    cases o2 with
    | nx S3 => exact fun σ4 F4 H4 R4 le4 => ⟨S3, F4, R4, fun b o z => le4 b o (le b o z), hlt, rfl, hlp⟩
    | ct S3 => exact fun σ4 F4 H4 R4 le4 => ⟨S3, F4, R4, fun b o z => le4 b o (le b o z), hlt, rfl, hlp⟩
    | bk S3 => cases hlp; exact fun σ4 F4 H4 R4 le4 => k σ4 F4 H4 R4 fun b o z => le4 b o (le b o (st1.ext.le b o z))
    | rt u S3 => cases hlp; exact fun v σ4 F4 H4 R4 le4 => k v σ4 F4 H4 R4 fun b o z => le4 b o (le b o (st1.ext.le b o z))
  · have e : i = ds.length := by omega
    subst e
    rw [List.drop_length] at hlp
    cases hlp
    exact .inl ⟨w'.2 (Nat.le_refl _), k σ' F' H' R' fun b o z => le b o (st1.ext.le b o z)⟩⟩
end
end L2

end
section
set_option Elab.async false
set_option linter.all false
set_option maxRecDepth 100000
namespace L2
open PySem PySem.Spec PyProof.Rows
def reU : U → MO → Option U
  | .m _, o => some (.m o)
  | .b _, o => some (.b o)
  | _, _ => none
def inU : U → Option MO
  | .m o => some o
  | .b o => some o
  | _ => none
def mutU (S : SS) (i : Nat) (f : MO → Option (D × MO)) : Option (D × SS) := match S[i]? with
  | some (some (.m o)) => (f o).map fun r => (r.1, S.set i (some (.m r.2)))
  | some (some (.b o)) => (f o).map fun r => (r.1, S.set i (some (.b r.2)))
  | _ => none
theorem At.upd {F H : Hp} {a : Addr} {h1 : HO} {o : MO} (k : At F (L2.upd H a h1) a o) (H' : Hp) : At F (L2.upd H' a h1) a o := by
  cases o with
  | lst ds => obtain ⟨vs, e, r⟩ := k; rw [upd_same] at e; exact ⟨vs, by rw [upd_same]; exact e, r⟩
  | dct ds => obtain ⟨vs, e, r⟩ := k; rw [upd_same] at e; exact ⟨vs, by rw [upd_same]; exact e, r⟩
  | dtt ds => obtain ⟨vs, e, r⟩ := k; rw [upd_same] at e; exact ⟨vs, by rw [upd_same]; exact e, r⟩
theorem At.nofrz {F H : Hp} {a : Addr} {o : MO} {ob : Obj} {u : HO} (h : At F H a o) : H a ≠ some (.frz ob u) := fun z => by
  cases o with
  | lst ds => obtain ⟨vs, e, _⟩ := h; rw [z] at e; cases e
  | dct ds => obtain ⟨vs, e, _⟩ := h; rw [z] at e; cases e
  | dtt ds => obtain ⟨vs, e, _⟩ := h; rw [z] at e; cases e
theorem RepU.mutAt {K : PySem.W.Frag} {F H : Hp} {v : V} {u : U} (r : RepU K F H v u) (hm : isMut u = true) : ∃ a o, v = .ref a ∧ F a = none ∧ inU u = some o ∧ At F H a o := by
  cases u with
  | t d => cases hm
  | v d => cases hm
  | s d => cases hm
  | m o => obtain ⟨a, e, f, h⟩ := r; exact ⟨a, o, e, f, rfl, h⟩
  | b o => obtain ⟨a, e, f, h⟩ := r; exact ⟨a, o, e, f, rfl, h⟩
theorem Rel.write {K : PySem.W.Frag} {B : Base} {S : SS} {σ : St} {F H : Hp} {i : Nat} {u u' : U} {a : Addr} {ho : HO} {o : MO} (R : Rel K B S σ F H) (hS : S[i]? = some (some u)) (hu : reU u o = some u') (hv : σ[i]? = some (some (.ref a))) (ha : At F (upd H a ho) a o) :
    Rel K B (S.set i (some u')) σ F (upd H a ho) ∧ Step S (S.set i (some u')) σ F H F (upd H a ho) := by
  have hm : isMut u = true ∧ isMut u' = true := by cases u <;> cases hu <;> exact ⟨rfl, rfl⟩
  have hfa' : F a = none ∧ ∀ b ob w, H b = some (.frz ob w) → b ≠ a := by
    obtain ⟨v, h1, h2⟩ := R.rep i u hS
    rw [hv] at h1
    cases h1
    obtain ⟨b, _, e, f, _, k⟩ := h2.mutAt hm.1
    cases e
    exact ⟨f, fun b ob w z e => k.nofrz (by rw [e] at z; exact z)⟩
  have hfa := hfa'.1
  have kfz : ∀ b ob w, H b = some (.frz ob w) → upd H a ho b = some (.frz ob w) := fun b ob w z => by rw [upd_ne (hfa'.2 b ob w z)]; exact z
  have mAt : L2.mutAt S σ a := ⟨i, u, hS, hm.1, hv⟩
  have hl : i < S.length := (List.getElem?_eq_some_iff.mp hS).1
  have kb : ∀ {j w}, (S.set i (some u'))[j]? = some (some w) → (i = j ∧ u' = w) ∨ (i ≠ j ∧ S[j]? = some (some w)) := fun {j w} z => by
    rcases get_set z with ⟨e, q, _⟩ | q
    · exact .inl ⟨e, Option.some.inj q⟩
    · exact .inr q
  have orig : ∀ {j w}, (S.set i (some u'))[j]? = some (some w) → isMut w = true → ∃ w0, S[j]? = some (some w0) ∧ isMut w0 = true := fun {j w} z hw => by
    rcases kb z with ⟨rfl, rfl⟩ | ⟨_, q⟩
    · exact ⟨u, hS, hm.1⟩
    · exact ⟨w, q, hw⟩
  have keepR : ∀ b o, b ≠ a → Rd H b o → Rd (upd H a ho) b o := fun b o ne r => by
    rcases r with r | ⟨ob, r⟩
    · exact .inl (by rw [upd_ne ne]; exact r)
    · exact .inr ⟨ob, by rw [upd_ne ne]; exact r⟩
  refine ⟨⟨fun b o z => by rw [upd_ne (fun e => by rw [e, hfa] at z; cases z)]; exact R.sub b o z, by rw [List.length_set]; exact R.len, fun j w z => ?_, fun j k w1 w2 c z1 m1 z2 m2 => ?_, fun j o' c z hc => ?_, fun j o' c z hc => ?_, fun j c z => ?_, ?_⟩, ⟨?_, fun c ⟨j, w, z, hw, hc⟩ => ?_, fun j w z => ?_⟩⟩
  · rcases kb z with ⟨rfl, rfl⟩ | ⟨ne, q⟩
    · refine ⟨.ref a, hv, ?_⟩
      cases u <;> cases hu
      · exact ⟨a, rfl, hfa, ha⟩
      · exact ⟨a, rfl, hfa, ha⟩
    · obtain ⟨v, h1, h2⟩ := R.rep j w q
      refine ⟨v, h1, ?_⟩
      by_cases hw : isMut w = true
      · obtain ⟨c, o', rfl, f, e, h⟩ := h2.mutAt hw
        have hca : c ≠ a := fun z => ne (R.dis i j u w a hS hm.1 q hw hv (by rw [h1, z]))
        have h' : At F (upd H a ho) c o' := h.le (fun _ _ z => z) fun o z => by rw [upd_ne hca]; exact z
        cases w <;> cases hw <;> cases e
        · exact ⟨c, rfl, f, h'⟩
        · exact ⟨c, rfl, f, h'⟩
      · cases w with
        | t d => exact h2
        | v d => exact h2
        | s d => obtain ⟨c, e, h⟩ := h2; exact ⟨c, e, h.le kfz⟩
        | m o => exact absurd rfl hw
        | b o => exact absurd rfl hw
  · obtain ⟨w1', q1, n1⟩ := orig z1 m1
    obtain ⟨w2', q2, n2⟩ := orig z2 m2
    exact R.dis j k w1' w2' c q1 n1 q2 n2
  · rcases kb z with ⟨rfl, rfl⟩ | ⟨_, q⟩
    · cases u <;> cases hu
      exact R.own _ _ c hS hc
    · exact R.own j o' c q hc
  · rcases kb z with ⟨rfl, rfl⟩ | ⟨_, q⟩
    · cases u <;> cases hu
      exact R.bor _ _ c hS hc
    · exact R.bor j o' c q hc
  · obtain ⟨k1, o', k2⟩ := R.par j c z
    refine ⟨k1, ?_⟩
    by_cases e : i = j
    · subst e
      rw [hS] at k2
      cases k2
      cases hu
      exact ⟨o, List.getElem?_set_self hl⟩
    · exact ⟨o', by rw [List.getElem?_set_ne e]; exact k2⟩
  · refine ⟨R.ext.le, fun b o z n => ?_, R.ext.nofr, fun b o z => ?_, fun b o w z => kfz b o w (R.ext.frz b o w z)⟩
    · have hb : b ≠ a := fun e => by
        subst e
        cases u with
        | m o' => rw [R.own i o' b hS hv] at z; cases z
        | b o' => exact n (R.bor i o' b hS hv)
        | t d => cases hu
        | v d => cases hu
        | s d => cases hu
      rw [upd_ne hb]
      exact R.ext.keep b o z n
    · by_cases hb : b = a
      · exact ⟨ho, by rw [hb, upd_same]⟩
      · rw [upd_ne hb]; exact R.ext.there b o z
  · refine ⟨fun _ _ z => z, fun b o z n => ?_, fun _ _ _ _ z => z, fun b o z => ?_, kfz⟩
    · rw [upd_ne (fun e => n (by rw [e]; exact mAt))]; exact z
    · by_cases hb : b = a
      · exact ⟨ho, by rw [hb, upd_same]⟩
      · exact ⟨o, by rw [upd_ne hb]; exact z⟩
  · obtain ⟨w0, q, n⟩ := orig z hw
    exact ⟨j, w0, q, n, hc⟩
  · by_cases e : i = j
    · subst e; exact ⟨u', List.getElem?_set_self hl⟩
    · exact ⟨w, by rw [List.getElem?_set_ne e]; exact z⟩
theorem mutU_some {S S' : SS} {i : Nat} {f : MO → Option (D × MO)} {d : D} (h : mutU S i f = some (d, S')) : ∃ u u' o o', S[i]? = some (some u) ∧ isMut u = true ∧ inU u = some o ∧ f o = some (d, o') ∧ reU u o' = some u' ∧ S' = S.set i (some u') := by
  unfold mutU at h
  split at h
  · rename_i o e
    obtain ⟨⟨d', o'⟩, h1, h⟩ := map_some' h
    cases h
    exact ⟨_, _, o, o', e, rfl, rfl, h1, rfl, rfl⟩
  · rename_i o e
    obtain ⟨⟨d', o'⟩, h1, h⟩ := map_some' h
    cases h
    exact ⟨_, _, o, o', e, rfl, rfl, h1, rfl, rfl⟩
  · cases h
def MtP (r : V → List V → Hp → VK → Prop) (h : List D → MO → Option (D × MO)) : Prop :=
  ∀ F H a vs xs ds args res o', Sub F H → H a = some (.lst vs) → F a = none → Reps F vs ds → Reps F xs args → h args (.lst ds) = some (res, o') →
    ∀ Q : VK, (∀ rv ho, Rep F rv res → At F (upd H a ho) a o' → Q rv (upd H a ho)) → r (.ref a) xs H Q
def isLst : MO → Bool
  | .lst _ => true
  | _ => false
def isL (S : SS) (i : Nat) : Bool := match S[i]? with
  | some (some (.m (.lst _))) => true
  | some (some (.b (.lst _))) => true
  | _ => false
theorem isL_at {K : PySem.W.Frag} {B : Base} {S : SS} {σ : St} {F H : Hp} {i : Nat} (R : Rel K B S σ F H) (h : isL S i = true) : ∃ u a vs ds, S[i]? = some (some u) ∧ isMut u = true ∧ inU u = some (.lst ds) ∧ σ[i]? = some (some (.ref a)) ∧ F a = none ∧ H a = some (.lst vs) ∧ Reps F vs ds := by
  unfold isL at h
  split at h
  · rename_i ds e
    obtain ⟨v, k1, a, rfl, f, vs, k2, k3⟩ := R.rep i _ e
    exact ⟨_, a, vs, ds, e, rfl, rfl, k1, f, k2, k3⟩
  · rename_i ds e
    obtain ⟨v, k1, a, rfl, f, vs, k2, k3⟩ := R.rep i _ e
    exact ⟨_, a, vs, ds, e, rfl, rfl, k1, f, k2, k3⟩
  · cases h
def eM (i : Nat) (h : List D → MO → Option (D × MO)) (gA : GA) : GD := fun S => if isL S i then (gA S).bind fun p => mutU p.2 i (h p.1) else none
theorem lst_same {K : PySem.W.Frag} {B : Base} {S : SS} {σ : St} {F H : Hp} {i : Nat} {a : Addr} {u : U} {ds : List D} (R : Rel K B S σ F H) (hS : S[i]? = some (some u)) (hm : isMut u = true) (hi : inU u = some (.lst ds)) (hv : σ[i]? = some (some (.ref a))) : F a = none ∧ ∃ vs, H a = some (.lst vs) ∧ Reps F vs ds := by
  obtain ⟨v, k1, k2⟩ := R.rep i u hS
  rw [hv] at k1
  cases k1
  obtain ⟨b, o2, e1, f, e2, k⟩ := k2.mutAt hm
  cases e1
  rw [hi] at e2
  cases e2
  exact ⟨f, k⟩
section
variable {X : Cx} {a b c e : Expr} {es : List Expr} {pos p p2 apos cpos px : Pos} {x name : Str} {g ga gb gc : GD} {gA : GA} {id : String}
theorem jd_meth {i : Nat} {r : V → List V → Hp → VK → Prop} {h : List D → MO → Option (D × MO)} (slot : Slot "list" name id) (hty : typeOf (.builtin id) = pure (.type "method_descriptor")) (hm : MtR X id r) (hh : MtP r h) (hl : ∀ args o, isLst o = false → h args o = none) (ha : JA X (e :: es) gA)
    (hN : X.N[i]? = some x := by rfl) (hv : Vis X.env.scope x := by first | exact Or.inl rfl | exact Or.inr (Or.inl rfl) | exact Or.inr (Or.inr rfl))
    (hbase : attributeBase (.Name x px) name X.env (eval (.Name x px) X.env) = eval (.Name x px) X.env := by rfl)
    (hfew : ((backTo cpos (starEach (e :: es) X.env)).all (fun x => !x.1) && (backToKw cpos (keywordEach [] X.env)).all (fun x => x.1.isSome)
      && decide ((e :: es).length + ([] : List Keyword).length + (if ([] : List Keyword).isEmpty then 0 else 1) < 30)) = true := by rfl)
    (hline : (apos.endLine == cpos.line) = true := by rfl) (hs : starEach (e :: es) X.env = (false, eval e X.env) :: starEach es X.env := by rfl) (hplain : (backTo cpos (starEach es X.env)).any (·.1) = false := by rfl)
    (hd : (x == ("__debug__" : Str)) = false := by decide) (hcd : (x == ("__classdict__" : Str)) = false := by decide) :
    JD X (.Call (.Attribute (.Name x px) name apos) (e :: es) [] cpos) (eM i h gA) :=
  ⟨fun B => (pe_bm PySem.F.plainAttrs_list slot hty hm (pe_var hN hv hd hcd) (ha.h B) hbase hfew hline hs hplain).imp fun σ H Q ⟨S, F, d, S', R, hg, q⟩ => by
  unfold eM at hg
  split at hg
  · rename_i hL
    obtain ⟨⟨args, S1⟩, h1, hg⟩ := bind_some' hg
    obtain ⟨u, u', o, o', hS, hmu, hio, hf, hre, rfl⟩ := mutU_some hg
    obtain ⟨u0, a, vs0, ds0, _, _, _, hv0, _, hH, _⟩ := isL_at R hL
    cases o with
    | dct kvs => rw [hl _ _ rfl] at hf; cases hf
    | dtt kvs => rw [hl _ _ rfl] at hf; cases hf
    | lst ds =>
      refine ⟨.ref a, hv0, .inl ⟨rfl, vs0, SqL.of hH⟩, S, F, args, S1, R, h1, fun xs F1 H1 R1 st1 r1 => ?_⟩
      obtain ⟨hf1, vs, hH1, rs⟩ := lst_same R1 hS hmu hio hv0
      refine hh F1 H1 a vs xs ds args d o' R1.sub hH1 hf1 rs r1 hf Q fun rv ho rr ha => ?_
      obtain ⟨R2, st2⟩ := R1.write hS hre hv0 ha
      exact q rv F1 _ R2 (st1.trans st2) rr
  · cases hg⟩
def hAppend : List D → MO → Option (D × MO)
  | [d], .lst ds => if ds.length < 100000 then some (.non, .lst (ds ++ [d])) else none
  | _, _ => none
theorem Reps.dropLast {F : Hp} {vs : List V} {ds : List D} (r : Reps F vs ds) : Reps F vs.dropLast ds.dropLast := by
  rw [List.dropLast_eq_take, List.dropLast_eq_take, r.length]
  exact r.take _
theorem Reps.eraseIdx {F : Hp} : ∀ {vs : List V} {ds : List D} (k : Nat), Reps F vs ds → Reps F (vs.eraseIdx k) (ds.eraseIdx k)
  | _, _, _, .nil => .nil
  | _, _, 0, .cons _ rs => rs
  | _, _, k + 1, .cons r rs => .cons r (Reps.eraseIdx k rs)
def hReverse : List D → MO → Option (D × MO)
  | [], .lst ds => some (.non, .lst ds.reverse)
  | _, _ => none
theorem Reps.reverse {F : Hp} : ∀ {vs : List V} {ds : List D}, Reps F vs ds → Reps F vs.reverse ds.reverse
  | _, _, .nil => .nil
  | _, _, .cons r rs => by rw [List.reverse_cons, List.reverse_cons]; exact (Reps.reverse rs).append (.cons r .nil)
end
end L2

end
section
set_option Elab.async false
set_option linter.all false
set_option maxRecDepth 100000
namespace L2
open PySem PySem.Spec PyProof.Rows
theorem RepR.step {K : PySem.W.Frag} {B : Base} {S S' : SS} {σ : St} {H0 F H F' H' : Hp} {v : V} {u : U} (r : RepR K B S σ H0 F H v u) (st : Step S S' σ F H F' H') : RepR K B S' σ H0 F' H' v u := by
  cases u with
  | t d => exact r.le st.ext.le
  | b o => exact r
  | v i => obtain ⟨h1, u, h2⟩ := r; exact ⟨h1, st.slots i u h2⟩
  | s i => obtain ⟨a, e, h⟩ := r; exact ⟨a, e, h.le st.ext.frz⟩
  | m o =>
    obtain ⟨a, e, h0, f, h, n, hB⟩ := r
    obtain ⟨ho, hh⟩ := h.has
    exact ⟨a, e, h0, st.ext.nofr a ho hh n f, h.le st.ext.le fun o z => st.ext.keep a o z n, fun m => n (st.mu a m), hB⟩
abbrev GU := SS → Option (List U × SS)
def tAU (K : PySem.W.Frag) (B : Base) (gu : GU) : TA := fun σ H Q => ∃ S F us S', Rel K B S σ F H ∧ gu S = some (us, S') ∧ ∀ vs F' H', Rel K B S' σ F' H' → Step S S' σ F H F' H' → Paired (fun v u => RepR K B S' σ H F' H' v u) vs us → Q vs H'
structure JU (X : Cx) (es : List Expr) (gu : GU) : Prop where
  h : ∀ B, PA X es (tAU X.K B gu)
  len : ∀ S us S', gu S = some (us, S') → us.length = es.length
def uNil : GU := fun S => some ([], S)
def uVal (g : GD) (gu : GU) : GU := fun S => (g S).bind fun p => (gu p.2).map fun q => (.t p.1 :: q.1, q.2)
def uMut (g : GE) (gu : GU) : GU := fun S => (g S).bind fun p => (gu p.2).map fun q => (p.1 :: q.1, q.2)
section
variable {X : Cx} {e : Expr} {es : List Expr} {g : GD} {ge : GE} {gu : GU}
theorem ju_nil : JU X [] uNil := ⟨fun B => pa_nil.imp fun σ H Q ⟨S, F, us, S', R, hg, q⟩ => by
  cases hg
  exact q [] F H R (Step.refl ..) .nil, fun S us S' h => by cases h; rfl⟩
theorem ju_val (h : JD X e g) (hr : JU X es gu) (hs : starEach (e :: es) X.env = (false, eval e X.env) :: starEach es X.env := by rfl) : JU X (e :: es) (uVal g gu) :=
  ⟨fun B => (pa_cons (h.h B) (hr.h B) hs).imp fun σ H Q ⟨S, F, us, S', R, hg, q⟩ => by
  obtain ⟨⟨d, S1⟩, h1, hg⟩ := bind_some' hg
  obtain ⟨⟨us2, S2⟩, h2, hg⟩ := map_some' hg
  cases hg
  exact ⟨S, F, d, S1, R, h1, fun v F1 H1 R1 st1 r1 => ⟨S1, F1, us2, S2, R1, h2, fun vs F2 H2 R2 st2 r2 => q _ F2 H2 R2 (st1.trans st2) (.cons (r1.le st2.ext.le) (Paired.mapP r2 fun _ _ z => z.weak st1.ext.there))⟩⟩,
  fun S us S' hg => by
    obtain ⟨⟨d, S1⟩, h1, hg⟩ := bind_some' hg
    obtain ⟨⟨us2, S2⟩, h2, hg⟩ := map_some' hg
    cases hg
    show us2.length + 1 = es.length + 1
    rw [hr.len _ _ _ h2]⟩
theorem ju_mut (h : JE X e ge) (hr : JU X es gu) (hs : starEach (e :: es) X.env = (false, eval e X.env) :: starEach es X.env := by rfl) : JU X (e :: es) (uMut ge gu) :=
  ⟨fun B => (pa_cons (h.h B) (hr.h B) hs).imp fun σ H Q ⟨S, F, us, S', R, hg, q⟩ => by
  obtain ⟨⟨d, S1⟩, h1, hg⟩ := bind_some' hg
  obtain ⟨⟨us2, S2⟩, h2, hg⟩ := map_some' hg
  cases hg
  exact ⟨S, F, d, S1, R, h1, fun v F1 H1 R1 st1 r1 => ⟨S1, F1, us2, S2, R1, h2, fun vs F2 H2 R2 st2 r2 => q _ F2 H2 R2 (st1.trans st2) (.cons (r1.step st2) (Paired.mapP r2 fun _ _ z => z.weak st1.ext.there))⟩⟩,
  fun S us S' hg => by
    obtain ⟨⟨d, S1⟩, h1, hg⟩ := bind_some' hg
    obtain ⟨⟨us2, S2⟩, h2, hg⟩ := map_some' hg
    cases hg
    show us2.length + 1 = es.length + 1
    rw [hr.len _ _ _ h2]⟩
end
def resolve (S : SS) : U → Option U
  | .t d => some (.t d)
  | .v i => match S[i]? with
    | some (some (.m o)) => some (.b o)
    | some (some (.b o)) => some (.b o)
    | _ => none
  | .m o => some (.b o)
  | .b _ => none
  | .s ns => some (.s ns)
def resolves (S : SS) : List U → Option (List U)
  | [] => some []
  | u :: us => (resolve S u).bind fun w => (resolves S us).map fun ws => w :: ws
def slotsOf : List U → List Nat
  | [] => []
  | .v i :: us => i :: slotsOf us
  | _ :: us => slotsOf us
def freshes : List U → Nat
  | [] => 0
  | .m _ :: us => freshes us + 1
  | _ :: us => freshes us
def wb : List U → List MO → SS → Option SS
  | [], [], S => some S
  | .v i :: us, o :: outs, S => match S[i]? with
    | some (some (.m _)) => wb us outs (S.set i (some (.m o)))
    | some (some (.b _)) => wb us outs (S.set i (some (.b o)))
    | _ => none
  | .m _ :: us, _ :: outs, S => wb us outs S
  | .t _ :: us, outs, S => wb us outs S
  | .s _ :: us, outs, S => wb us outs S
  | _, _, _ => none
abbrev FM := List U → Option (U × List MO)
def eCall (f : FM) (gu : GU) : GE := fun S => (gu S).bind fun p =>
  if (slotsOf p.1).Nodup ∧ freshes p.1 ≤ 1 then (resolves p.2 p.1).bind fun us => (f us).bind fun r => (wb p.1 r.2 p.2).map fun S2 => (r.1, S2) else none
def ArgS (K : PySem.W.Frag) (F H : Hp) (v : V) : U → Prop
  | .s ns => ∃ a, v = .ref a ∧ Scr K H a ns
  | .t d => Rep F v d
  | .b o => ∃ a, v = .ref a ∧ F a = none ∧ At F H a o
  | _ => False
def addrs : List V → List U → List Addr
  | .ref a :: vs, .b _ :: us => a :: addrs vs us
  | _ :: vs, _ :: us => addrs vs us
  | _, _ => []
structure Post (F H F' H' : Hp) (as : List Addr) (outs : List MO) : Prop where
  sub : Sub F' H'
  ext : Ext (fun a => a ∈ as) F H F' H'
  out : Paired (fun a o => F' a = none ∧ At F' H' a o) as outs
def spT (K : PySem.W.Frag) (n : Nat) (f : FM) : Sp := fun vs H Q _ => vs.length = n ∧ ∃ F us r outs, Sub F H ∧ Paired (ArgS K F H) vs us ∧ (addrs vs us).Nodup ∧ f us = some (r, outs) ∧ ∀ v F' H', Post F H F' H' (addrs vs us) outs → RepN H F' H' v r → Q v H'
section
variable {K : PySem.W.Frag} {B : Base} {S S1 S2 : SS} {σ : St} {H0 F H F' H' : Hp}
theorem resolve_v {i : Nat} {w : U} (h : resolve S (.v i) = some w) : ∃ u o, S[i]? = some (some u) ∧ isMut u = true ∧ inU u = some o ∧ w = .b o := by
  unfold resolve at h
  dsimp only at h
  split at h
  · rename_i o e; cases h; exact ⟨_, o, e, rfl, rfl, rfl⟩
  · rename_i o e; cases h; exact ⟨_, o, e, rfl, rfl, rfl⟩
  · cases h
theorem args_ok (R : Rel K B S σ F H) : ∀ {vs : List V} {us ws : List U}, Paired (fun v u => RepR K B S σ H0 F H v u) vs us → resolves S us = some ws → Paired (ArgS K F H) vs ws
  | _, _, _, .nil, h => by cases h; exact .nil
  | _, _, _, @Paired.cons _ _ _ v u vs us r rs, h => by
    obtain ⟨w, h1, h⟩ := bind_some' h
    obtain ⟨ws, h2, h⟩ := map_some' h
    subst h
    refine .cons ?_ (args_ok R rs h2)
    cases u with
    | t d => cases h1; exact r
    | s d => cases h1; exact r
    | b o => cases h1
    | m o => cases h1; obtain ⟨a, e, _, f, k, _⟩ := r; exact ⟨a, e, f, k⟩
    | v i =>
      obtain ⟨u, o, hu, hm, hi, rfl⟩ := resolve_v h1
      obtain ⟨hv, _⟩ := r
      obtain ⟨v', k1, k2⟩ := R.rep i u hu
      rw [hv] at k1
      cases k1
      obtain ⟨a, o2, e, f, e2, k⟩ := k2.mutAt hm
      rw [hi] at e2
      cases e2
      exact ⟨a, e, f, k⟩
theorem addrs_at (R : Rel K B S σ F H) : ∀ {vs : List V} {us ws : List U}, Paired (fun v u => RepR K B S σ H0 F H v u) vs us → resolves S us = some ws → ∀ a ∈ addrs vs ws,
    (∃ i u, i ∈ slotsOf us ∧ S[i]? = some (some u) ∧ isMut u = true ∧ σ[i]? = some (some (.ref a))) ∨ (0 < freshes us ∧ H0 a = none ∧ B.H a = none ∧ ¬ mutAt S σ a)
  | _, _, _, .nil, h, a, ha => by cases h; cases ha
  | _, _, _, @Paired.cons _ _ _ v u vs us r rs, h, a, ha => by
    obtain ⟨w, h1, h⟩ := bind_some' h
    obtain ⟨ws, h2, h⟩ := map_some' h
    subst h
    have ih := addrs_at R rs h2
    cases u with
    | t d =>
      cases h1
      have ha : a ∈ addrs vs ws := by cases v <;> exact ha
      exact ih a ha
    | s d =>
      cases h1
      have ha : a ∈ addrs vs ws := by cases v <;> exact ha
      exact ih a ha
    | b o => cases h1
    | m o =>
      cases h1
      obtain ⟨c, rfl, k0, f, k, n, hB⟩ := r
      rcases List.mem_cons.mp (show a ∈ c :: addrs vs ws from ha) with rfl | ha
      · exact .inr ⟨Nat.succ_pos _, k0, hB, n⟩
      · rcases ih a ha with z | ⟨_, z⟩
        · exact .inl z
        · exact .inr ⟨Nat.succ_pos _, z⟩
    | v i =>
      obtain ⟨u, o, hu, hm, hi, rfl⟩ := resolve_v h1
      obtain ⟨hv, _⟩ := r
      obtain ⟨v', k1, k2⟩ := R.rep i u hu
      rw [hv] at k1
      cases k1
      obtain ⟨c, o2, rfl, f, e2, k⟩ := k2.mutAt hm
      rcases List.mem_cons.mp (show a ∈ c :: addrs vs ws from ha) with rfl | ha
      · exact .inl ⟨i, u, List.mem_cons_self, hu, hm, hv⟩
      · rcases ih a ha with ⟨j, w, z, z2⟩ | z
        · exact .inl ⟨j, w, List.mem_cons_of_mem _ z, z2⟩
        · exact .inr z
theorem addrs_nodup (R : Rel K B S σ F H) : ∀ {vs : List V} {us ws : List U}, Paired (fun v u => RepR K B S σ H0 F H v u) vs us → resolves S us = some ws → (slotsOf us).Nodup → freshes us ≤ 1 → (addrs vs ws).Nodup
  | _, _, _, .nil, h, _, _ => by cases h; exact List.nodup_nil
  | _, _, _, @Paired.cons _ _ _ v u vs us r rs, h, nd, fr => by
    obtain ⟨w, h1, h⟩ := bind_some' h
    obtain ⟨ws, h2, h⟩ := map_some' h
    subst h
    cases u with
    | t d =>
      cases h1
      have := addrs_nodup R rs h2 nd fr
      cases v <;> exact this
    | s d =>
      cases h1
      have := addrs_nodup R rs h2 nd fr
      cases v <;> exact this
    | b o => cases h1
    | m o =>
      cases h1
      have fr0 : freshes us = 0 := by have : freshes us + 1 ≤ 1 := fr; omega
      obtain ⟨c, rfl, k0, f, k, n, hB⟩ := r
      refine List.nodup_cons.mpr ⟨fun hc => ?_, addrs_nodup R rs h2 nd (by omega)⟩
      rcases addrs_at R rs h2 c hc with ⟨j, w, _, z1, z2, z3⟩ | ⟨z, _⟩
      · exact n ⟨j, w, z1, z2, z3⟩
      · omega
    | v i =>
      obtain ⟨u, o, hu, hm, hi, rfl⟩ := resolve_v h1
      obtain ⟨hv, _⟩ := r
      obtain ⟨v', k1, k2⟩ := R.rep i u hu
      rw [hv] at k1
      cases k1
      obtain ⟨c, o2, rfl, f, e2, k⟩ := k2.mutAt hm
      obtain ⟨nd1, nd2⟩ := List.nodup_cons.mp (show (i :: slotsOf us).Nodup from nd)
      refine List.nodup_cons.mpr ⟨fun hc => ?_, addrs_nodup R rs h2 nd2 fr⟩
      rcases addrs_at R rs h2 c hc with ⟨j, w, z0, z1, z2, z3⟩ | ⟨_, _, _, z⟩
      · have := R.dis i j u w c hu hm z1 z2 hv z3
        subst this
        exact nd1 z0
      · exact z ⟨i, u, hu, hm, hv⟩
theorem wb_spec (R : Rel K B S σ F H) (P : Addr → MO → Prop) : ∀ {vs : List V} {us ws : List U} {outs : List MO} {S1 S2 : SS}, Paired (fun v u => RepR K B S σ H0 F H v u) vs us → resolves S us = some ws → wb us outs S1 = some S2 → (slotsOf us).Nodup → Paired P (addrs vs ws) outs →
    S2.length = S1.length ∧ (∀ j, j ∉ slotsOf us → S2[j]? = S1[j]?) ∧ ∀ j ∈ slotsOf us, ∃ u u' o a, S1[j]? = some (some u) ∧ reU u o = some u' ∧ S2[j]? = some (some u') ∧ σ[j]? = some (some (.ref a)) ∧ P a o
  | _, _, _, _, _, _, .nil, h, hw, _, hp => by
    cases h
    cases hp
    cases hw
    exact ⟨rfl, fun _ _ => rfl, fun j hj => by cases hj⟩
  | _, _, _, outs, S1, S2, @Paired.cons _ _ _ v u vs us r rs, h, hw, nd, hp => by
    obtain ⟨w, h1, h⟩ := bind_some' h
    obtain ⟨ws, h2, h⟩ := map_some' h
    subst h
    cases u with
    | t d =>
      cases h1
      have hp : Paired P (addrs vs ws) outs := by cases v <;> exact hp
      have hw : wb us outs S1 = some S2 := by
        cases outs <;> exact hw
      have ih := wb_spec R P rs h2 hw nd hp
      exact ih
    | s d =>
      cases h1
      have hp : Paired P (addrs vs ws) outs := by cases v <;> exact hp
      have hw : wb us outs S1 = some S2 := by
        cases outs <;> exact hw
      have ih := wb_spec R P rs h2 hw nd hp
      exact ih
    | b o => cases h1
    | m o =>
      cases h1
      obtain ⟨c, rfl, k0, f, k, n, hB⟩ := r
      cases hp with
      | cons p1 p2 =>
        have ih := wb_spec R P rs h2 (show wb us _ S1 = some S2 from hw) nd p2
        exact ih
    | v i =>
      obtain ⟨u0, o0, hu, hm, hi, rfl⟩ := resolve_v h1
      obtain ⟨hv, _⟩ := r
      obtain ⟨v', k1, k2⟩ := R.rep i u0 hu
      rw [hv] at k1
      cases k1
      obtain ⟨c, o2, rfl, f, e2, k⟩ := k2.mutAt hm
      obtain ⟨nd1, nd2⟩ := List.nodup_cons.mp (show (i :: slotsOf us).Nodup from nd)
      cases hp with
      | @cons _ o _ outs p1 p2 =>
        have go : ∀ u u', S1[i]? = some (some u) → reU u o = some u' → wb us outs (S1.set i (some u')) = some S2 → S2.length = S1.length ∧ (∀ j, j ∉ i :: slotsOf us → S2[j]? = S1[j]?) ∧ ∀ j ∈ i :: slotsOf us, ∃ u u' o a, S1[j]? = some (some u) ∧ reU u o = some u' ∧ S2[j]? = some (some u') ∧ σ[j]? = some (some (.ref a)) ∧ P a o := fun u u' e1 e2 hw => by
          obtain ⟨l, out, inn⟩ := wb_spec R P rs h2 hw nd2 p2
          refine ⟨by rw [l, List.length_set], fun j hj => ?_, fun j hj => ?_⟩
          · rw [out j fun z => hj (List.mem_cons_of_mem _ z), List.getElem?_set_ne fun z => hj (by rw [z]; exact List.mem_cons_self)]
          · by_cases e : i = j
            · subst e
              exact ⟨u, u', o, c, e1, e2, by rw [out i nd1]; exact List.getElem?_set_self (List.getElem?_eq_some_iff.mp e1).1, hv, p1⟩
            · rcases List.mem_cons.mp hj with z | z
              · exact absurd z.symm e
              · obtain ⟨w, w', o', a', q1, q2, q3, q4, q5⟩ := inn j z
                rw [List.getElem?_set_ne e] at q1
                exact ⟨w, w', o', a', q1, q2, q3, q4, q5⟩
        unfold wb at hw
        split at hw
        · rename_i o' e; exact go _ _ e rfl hw
        · rename_i o' e; exact go _ _ e rfl hw
        · cases hw
end
theorem after_call {K : PySem.W.Frag} {B : Base} {S0 S S2 : SS} {σ : St} {F0 H0 F H F' H' : Hp} {vs : List V} {us ws : List U} {outs : List MO} (R : Rel K B S σ F H) (st : Step S0 S σ F0 H0 F H) (rr : Paired (fun v u => RepR K B S σ H0 F H v u) vs us) (hr : resolves S us = some ws) (hw : wb us outs S = some S2) (nd : (slotsOf us).Nodup) (p : Post F H F' H' (addrs vs ws) outs) :
    Rel K B S2 σ F' H' ∧ Step S0 S2 σ F0 H0 F' H' ∧ ∀ a, mutAt S2 σ a → mutAt S σ a := by
  obtain ⟨hl, out, inn⟩ := wb_spec R (fun a o => F' a = none ∧ At F' H' a o) rr hr hw nd p.out
  have reM : ∀ {u : U} {o : MO} {u' : U}, reU u o = some u' → isMut u = true ∧ isMut u' = true ∧ inU u' = some o := fun {u o u'} h => by cases u <;> cases h <;> exact ⟨rfl, rfl, rfl⟩
  have orig : ∀ {j w}, S2[j]? = some (some w) → isMut w = true → ∃ w0, S[j]? = some (some w0) ∧ isMut w0 = true := fun {j w} z hm => by
    by_cases hj : j ∈ slotsOf us
    · obtain ⟨u, u', o, a, q1, q2, q3, q4, q5⟩ := inn j hj
      exact ⟨u, q1, (reM q2).1⟩
    · rw [out j hj] at z; exact ⟨w, z, hm⟩
  have mu : ∀ a, mutAt S2 σ a → mutAt S σ a := fun a ⟨j, w, z, hm, hv⟩ => let ⟨w0, q, n⟩ := orig z hm; ⟨j, w0, q, n, hv⟩
  have at1 := addrs_at R rr hr
  refine ⟨⟨p.sub, by rw [hl]; exact R.len, fun j w z => ?_, fun j k w1 w2 c z1 m1 z2 m2 => ?_, fun j o a z hv => ?_, fun j o a z hv => ?_, fun j a z => ?_, ?_⟩, ⟨⟨?_, ?_, ?_, ?_, fun b o u z => p.ext.frz b o u (st.ext.frz b o u z)⟩, fun a m => st.mu a (mu a m), fun j u z => ?_⟩, mu⟩
  · by_cases hj : j ∈ slotsOf us
    · obtain ⟨u, u', o, a, q1, q2, q3, q4, q5, q6⟩ := inn j hj
      rw [q3] at z
      cases z
      refine ⟨.ref a, q4, ?_⟩
      cases u <;> cases q2
      · exact ⟨a, rfl, q5, q6⟩
      · exact ⟨a, rfl, q5, q6⟩
    · rw [out j hj] at z
      obtain ⟨v, h1, h2⟩ := R.rep j w z
      refine ⟨v, h1, h2.le p.ext.le p.ext.frz fun a hm ha => ?_⟩
      have hna : a ∉ addrs vs ws := fun hc => by
        rcases at1 a hc with ⟨i, u, q0, q1, q2, q3⟩ | ⟨_, _, _, q⟩
        · have := R.dis i j u w a q1 q2 z hm q3 (by rw [h1, ha])
          subst this
          exact hj q0
        · exact q ⟨j, w, z, hm, by rw [h1, ha]⟩
      obtain ⟨c, o, e, f, _, k⟩ := h2.mutAt hm
      rw [ha] at e
      cases e
      obtain ⟨ho, hh⟩ := k.has
      exact ⟨fun o q => p.ext.keep a o q hna, p.ext.nofr a ho hh hna f⟩
  · obtain ⟨w1', q1, n1⟩ := orig z1 m1
    obtain ⟨w2', q2, n2⟩ := orig z2 m2
    exact R.dis j k w1' w2' c q1 n1 q2 n2
  · by_cases hj : j ∈ slotsOf us
    · obtain ⟨u, u', o', a', q1, q2, q3, q4, q5⟩ := inn j hj
      rw [q3] at z
      cases z
      cases u <;> cases q2
      exact R.own j _ a q1 hv
    · rw [out j hj] at z; exact R.own j o a z hv
  · by_cases hj : j ∈ slotsOf us
    · obtain ⟨u, u', o', a', q1, q2, q3, q4, q5⟩ := inn j hj
      rw [q3] at z
      cases z
      cases u <;> cases q2
      exact R.bor j _ a q1 hv
    · rw [out j hj] at z; exact R.bor j o a z hv
  · obtain ⟨k1, o, k2⟩ := R.par j a z
    refine ⟨k1, ?_⟩
    by_cases hj : j ∈ slotsOf us
    · obtain ⟨u, u', o', a', q1, q2, q3, q4, q5⟩ := inn j hj
      rw [k2] at q1
      cases q1
      cases q2
      exact ⟨_, q3⟩
    · exact ⟨o, by rw [out j hj]; exact k2⟩
  · refine R.ext.trans p.ext fun b hb => ?_
    rcases at1 b hb with ⟨i, u, q0, q1, q2, q3⟩ | ⟨_, _, q, _⟩
    · cases u with
      | t d => cases q2
      | v d => cases q2
      | s d => cases q2
      | m o => exact .inr (R.own i o b q1 q3)
      | b o => exact .inl (R.bor i o b q1 q3)
    · exact .inr q
  · exact fun b o h => p.ext.le b o (st.ext.le b o h)
  · intro b o h n
    refine p.ext.keep b o (st.ext.keep b o h n) fun hb => ?_
    rcases at1 b hb with ⟨i, u, q0, q1, q2, q3⟩ | ⟨_, q, _⟩
    · exact n (st.mu b ⟨i, u, q1, q2, q3⟩)
    · rw [h] at q; cases q
  · intro b o h n f
    refine p.ext.nofr b o (st.ext.keep b o h n) (fun hb => ?_) (st.ext.nofr b o h n f)
    rcases at1 b hb with ⟨i, u, q0, q1, q2, q3⟩ | ⟨_, q, _⟩
    · exact n (st.mu b ⟨i, u, q1, q2, q3⟩)
    · rw [h] at q; cases q
  · intro b o h
    obtain ⟨o', h'⟩ := st.ext.there b o h
    exact p.ext.there b o' h'
  · obtain ⟨u', h'⟩ := st.slots j u z
    by_cases hj : j ∈ slotsOf us
    · obtain ⟨_, u2, _, _, _, _, q3, _⟩ := inn j hj
      exact ⟨u2, q3⟩
    · exact ⟨u', by rw [out j hj]; exact h'⟩
section
variable {X : Cx} {e : Expr} {es : List Expr} {gu : GU} {x : Str} {p pos : Pos} {f : FM} {fa : Addr} {fd : FuncData} {ps : List Str} {k n : Nat}
theorem je_call (F : FnOk X.prog X.w X.K X.mg X.base CX0 k fa fd ps (spT X.K n f)) (hr : Room k X.A) (hg : Gl X x) (hm : X.mg x = some (.ref fa)) (hk : PySem.W.keepIn X.K (.ref fa) = true) (hb : Binds X.K fd ps []) (ha : JU X (e :: es) gu) (hn : (e :: es).length = n := by rfl)
    (hdb : (x == ("__debug__" : Str)) = false := by decide) (he : starEach (e :: es) X.env = (false, eval e X.env) :: starEach es X.env := by rfl) (hpl : (backTo pos (starEach es X.env)).any (·.1) = false := by rfl) :
    JE X (.Call (.Name x p) (e :: es) [] pos) (eCall f gu) := ⟨fun B => (pe_call F hr hg hm hk hb .nil pass0 (ha.h B) hdb he hpl).imp fun σ H Q ⟨S, F0, u, S', R, hg, q⟩ => by
  obtain ⟨⟨us, S1⟩, h1, hg⟩ := bind_some' hg
  dsimp only at hg
  split at hg
  · rename_i hc
    obtain ⟨ws, h2, hg⟩ := bind_some' hg
    obtain ⟨⟨r, outs⟩, h3, hg⟩ := bind_some' hg
    obtain ⟨S2, h4, hg⟩ := map_some' hg
    cases hg
    refine ⟨S, F0, us, S1, R, h1, fun vs F1 H1 R1 st1 rr => ?_⟩
    show spT X.K n f (vs ++ []) H1 Q E0
    rw [List.append_nil]
    have hlen : vs.length = n := by rw [rr.length, ha.len _ _ _ h1]; exact hn
    refine ⟨hlen, F1, ws, r, outs, R1.sub, args_ok R1 rr h2, addrs_nodup R1 rr h2 hc.1 hc.2, h3, fun v F2 H2 po rn => ?_⟩
    obtain ⟨R2, st2, mu⟩ := after_call R1 st1 rr h2 h4 hc.1 po
    refine q v F2 H2 R2 st2 ?_
    cases r with
    | t d => exact rn
    | b o => cases rn
    | v i => cases rn
    | s i => cases rn
    | m o =>
      obtain ⟨a, e, h0, f, h⟩ := rn
      refine ⟨a, e, none_of st1.ext.there h0, f, h, fun m => ?_, none_of R1.ext.there h0⟩
      obtain ⟨o', ho⟩ := R1.has (mu a m)
      rw [h0] at ho
      cases ho
  · cases hg⟩
end
end L2

end
section
set_option Elab.async false
set_option linter.all false
set_option maxRecDepth 100000
namespace L2
open PySem PySem.Spec PyProof.Rows
def outsOf : List U → SS → Option (List MO)
  | [], _ => some []
  | .b _ :: us, some (.b o) :: S => (outsOf us S).map fun os => o :: os
  | .b _ :: _, _ => none
  | _ :: us, _ :: S => outsOf us S
  | _ :: _, [] => none
def runB (n : Nat) (g : GS) : FM := fun us => (g (us.map some ++ List.replicate (n - us.length) none)).bind fun o => match o with
  | .rt (.t d) S => (outsOf us S).map fun os => (.t d, os)
  | .rt (.m o) S => (outsOf us S).map fun os => (.m o, os)
  | .nx S => (outsOf us S).map fun os => (.t .non, os)
  | _ => none
def lent : List V → List U → List (Option Addr)
  | .ref a :: vs, .b _ :: us => some a :: lent vs us
  | _ :: vs, _ :: us => none :: lent vs us
  | _, _ => []
theorem lent_mem : ∀ (vs : List V) (us : List U) (a : Addr), some a ∈ lent vs us ↔ a ∈ addrs vs us
  | [], us, a => by cases us <;> simp [lent, addrs]
  | v :: vs, [], a => by cases v <;> simp [lent, addrs]
  | v :: vs, u :: us, a => by
    have ih := lent_mem vs us a
    cases v <;> cases u <;> simp [lent, addrs, ih]
theorem lent_get : ∀ {vs : List V} {us : List U} {i : Nat} {a : Addr}, (lent vs us)[i]? = some (some a) → vs[i]? = some (.ref a) ∧ ∃ o, us[i]? = some (.b o)
  | [], us, i, a, h => by cases us <;> simp [lent] at h
  | v :: vs, [], i, a, h => by cases v <;> simp [lent] at h
  | v :: vs, u :: us, 0, a, h => by
    cases v <;> cases u <;> simp [lent] at h
    subst h
    exact ⟨rfl, _, rfl⟩
  | v :: vs, u :: us, i + 1, a, h => by
    have h' : (lent vs us)[i]? = some (some a) := by cases v <;> cases u <;> simpa [lent] using h
    simpa using lent_get h'
theorem lent_of {K : PySem.W.Frag} : ∀ {F H : Hp} {vs : List V} {us : List U} {i : Nat} {o : MO}, Paired (ArgS K F H) vs us → us[i]? = some (.b o) → ∃ a, vs[i]? = some (.ref a) ∧ (lent vs us)[i]? = some (some a) ∧ F a = none ∧ At F H a o
  | _, _, _, _, _, _, .nil, h => by simp at h
  | _, _, _, _, 0, o, @Paired.cons _ _ _ v u vs us r rs, h => by
    simp at h
    subst h
    obtain ⟨a, rfl, f, k⟩ := r
    exact ⟨a, rfl, rfl, f, k⟩
  | _, _, _, _, i + 1, o, @Paired.cons _ _ _ v u vs us r rs, h => by
    obtain ⟨a, h1, h2, h3⟩ := lent_of (i := i) rs (by simpa using h)
    refine ⟨a, by simpa using h1, ?_, h3⟩
    cases v <;> cases u <;> simpa [lent] using h2
theorem addrs_inj : ∀ {vs : List V} {us : List U} {i j : Nat} {a : Addr}, (addrs vs us).Nodup → (lent vs us)[i]? = some (some a) → (lent vs us)[j]? = some (some a) → i = j
  | [], us, i, j, a, _, h, _ => by cases us <;> simp [lent] at h
  | v :: vs, [], i, j, a, _, h, _ => by cases v <;> simp [lent] at h
  | v :: vs, u :: us, i, j, a, nd, h1, h2 => by
    have ih : ∀ {i j}, (addrs vs us).Nodup → (lent vs us)[i]? = some (some a) → (lent vs us)[j]? = some (some a) → i = j := fun {i j} => addrs_inj (i := i) (j := j)
    by_cases hvu : ∃ c o, v = .ref c ∧ u = .b o
    · obtain ⟨c, o, rfl, rfl⟩ := hvu
      obtain ⟨n1, n2⟩ := List.nodup_cons.mp (show (c :: addrs vs us).Nodup from nd)
      cases i with
      | zero =>
        cases j with
        | zero => rfl
        | succ j =>
          have e1 : c = a := by simpa [lent] using h1
          have e2 : (lent vs us)[j]? = some (some a) := by simpa [lent] using h2
          subst e1
          exact absurd ((lent_mem vs us c).mp (List.mem_of_getElem? e2)) n1
      | succ i =>
        have e1 : (lent vs us)[i]? = some (some a) := by simpa [lent] using h1
        cases j with
        | zero =>
          have e2 : c = a := by simpa [lent] using h2
          subst e2
          exact absurd ((lent_mem vs us c).mp (List.mem_of_getElem? e1)) n1
        | succ j => exact congrArg Nat.succ (ih n2 e1 (by simpa [lent] using h2))
    · have e1 : lent (v :: vs) (u :: us) = none :: lent vs us := by cases v <;> cases u <;> first | rfl | exact absurd ⟨_, _, rfl, rfl⟩ hvu
      have e2 : addrs (v :: vs) (u :: us) = addrs vs us := by cases v <;> cases u <;> first | rfl | exact absurd ⟨_, _, rfl, rfl⟩ hvu
      rw [e1] at h1 h2
      rw [e2] at nd
      cases i with
      | zero => simp at h1
      | succ i =>
        cases j with
        | zero => simp at h2
        | succ j => exact congrArg Nat.succ (ih nd (by simpa using h1) (by simpa using h2))
theorem paired_get {α β : Type} {P : α → β → Prop} : ∀ {l : List α} {r : List β} {i : Nat} {y : β}, Paired P l r → r[i]? = some y → ∃ x, l[i]? = some x ∧ P x y
  | _, _, _, _, .nil, h => by simp at h
  | _, _, 0, _, .cons p _, h => by simp at h; subst h; exact ⟨_, rfl, p⟩
  | _, _, i + 1, _, .cons _ ps, h => by
    obtain ⟨x, h1, h2⟩ := paired_get (i := i) ps (by simpa using h)
    exact ⟨x, by simpa using h1, h2⟩
theorem rel_start {K : PySem.W.Frag} {F H : Hp} {vs : List V} {us : List U} {n : Nat} (sb : Sub F H) (ar : Paired (ArgS K F H) vs us) (nd : (addrs vs us).Nodup) (N : List Str) (hN : N.length = n) :
    Rel K ⟨lent vs us, F, H⟩ (us.map some ++ List.replicate (n - us.length) none) (start N vs) F H := by
  have hl : vs.length = us.length := ar.length
  have gS : ∀ {i : Nat} {u : U}, (us.map some ++ List.replicate (n - us.length) none)[i]? = some (some u) → us[i]? = some u := fun {i u} h => by
    rw [List.getElem?_append] at h
    split at h
    · rw [List.getElem?_map] at h
      obtain ⟨w, h1, h2⟩ := map_some' h
      cases h2
      exact h1
    · rw [List.getElem?_replicate] at h
      split at h <;> cases h
  have gσ : ∀ {i : Nat} {v : V}, vs[i]? = some v → (start N vs)[i]? = some (some v) := fun {i v} h => by
    unfold start
    have hi := (List.getElem?_eq_some_iff.mp h).1
    rw [List.getElem?_append_left (by simpa using hi), List.getElem?_map, h]
    rfl
  have vb : ∀ {i : Nat} {v w : V}, vs[i]? = some v → (start N vs)[i]? = some (some w) → v = w := fun {i v w} h k => by
    rw [gσ h] at k
    cases k
    rfl
  have mutB : ∀ {i : Nat} {u : U}, us[i]? = some u → isMut u = true → ∃ o a, u = .b o ∧ vs[i]? = some (.ref a) ∧ (lent vs us)[i]? = some (some a) ∧ F a = none ∧ At F H a o := fun {i u} h hm => by
    obtain ⟨v, h1, h2⟩ := paired_get ar h
    cases u with
    | t d => cases hm
    | v d => cases hm
    | s d => cases hm
    | m o => cases h2
    | b o => obtain ⟨a, k1, k2, k3, k4⟩ := lent_of ar h; exact ⟨o, a, rfl, k1, k2, k3, k4⟩
  refine ⟨sb, ?_, fun i u h => ?_, fun i j u w a h1 m1 h2 m2 v1 v2 => ?_, fun i o a h hv => ?_, fun i o a h hv => ?_, fun i a h => ?_, Ext.refl ..⟩
  · unfold start; simp [hl, hN]
  · obtain ⟨v, h1, h2⟩ := paired_get ar (gS h)
    refine ⟨v, gσ h1, ?_⟩
    cases u with
    | t d => exact h2
    | s d => exact h2
    | v d => cases h2
    | m o => cases h2
    | b o => exact h2
  · obtain ⟨_, a1, _, k1, k2, _⟩ := mutB (gS h1) m1
    obtain ⟨_, a2, _, l1, l2, _⟩ := mutB (gS h2) m2
    have e1 := vb k1 v1
    have e2 := vb l1 v2
    cases e1
    cases e2
    exact addrs_inj nd k2 l2
  · obtain ⟨_, _, e, _⟩ := mutB (gS h) rfl
    cases e
  · obtain ⟨_, a1, _, k1, k2, _⟩ := mutB (gS h) rfl
    have e1 := vb k1 hv
    cases e1
    exact List.mem_of_getElem? k2
  · obtain ⟨k1, o, k2⟩ := lent_get h
    refine ⟨gσ k1, o, ?_⟩
    have hi := (List.getElem?_eq_some_iff.mp k2).1
    rw [List.getElem?_append_left (by simpa using hi), List.getElem?_map, k2]
    rfl
theorem outs_ok {F' H' : Hp} : ∀ {vs : List V} {us : List U} {S : SS} {os : List MO}, outsOf us S = some os → vs.length = us.length → (∀ (i : Nat) (o : MO) (a : Addr), (lent vs us)[i]? = some (some a) → S[i]? = some (some (.b o)) → F' a = none ∧ At F' H' a o) → (∀ (i : Nat) (o : MO), us[i]? = some (.b o) → ∃ a, vs[i]? = some (.ref a)) →
    Paired (fun a o => F' a = none ∧ At F' H' a o) (addrs vs us) os
  | [], [], S, os, h, _, _, _ => by cases S <;> (simp [outsOf] at h; subst h; exact .nil)
  | [], _ :: _, _, _, _, l, _, _ => by cases l
  | _ :: _, [], _, _, _, l, _, _ => by cases l
  | v :: vs, u :: us, S, os, h, l, k, kb => by
    have l' : vs.length = us.length := by simpa using l
    have kb' : ∀ (i : Nat) (o : MO), us[i]? = some (.b o) → ∃ a, vs[i]? = some (.ref a) := fun i o z => by simpa using kb (i + 1) o (by simpa using z)
    by_cases hu : ∃ o, u = .b o
    · obtain ⟨o, rfl⟩ := hu
      obtain ⟨a, ha⟩ := kb 0 o rfl
      have ha : v = .ref a := by simpa using ha
      subst ha
      cases S with
      | nil => simp [outsOf] at h
      | cons s S =>
        cases s with
        | none => simp [outsOf] at h
        | some s =>
          cases s with
          | b o' =>
            obtain ⟨os', h1, h2⟩ := map_some' (show (outsOf us S).map (fun os => o' :: os) = some os from h)
            subst h2
            exact .cons (k 0 o' a rfl rfl) (outs_ok h1 l' (fun i o a z1 z2 => k (i + 1) o a (by simpa [lent] using z1) (by simpa using z2)) kb')
          | t d => simp [outsOf] at h
          | m d => simp [outsOf] at h
          | v d => simp [outsOf] at h
          | s d => simp [outsOf] at h
    · cases S with
      | nil => cases u <;> first | (simp [outsOf] at h; done) | exact absurd ⟨_, rfl⟩ hu
      | cons s S =>
        have h' : outsOf us S = some os := by cases u <;> first | exact absurd ⟨_, rfl⟩ hu | simpa [outsOf] using h
        have e2 : addrs (v :: vs) (u :: us) = addrs vs us := by cases v <;> cases u <;> first | rfl | exact absurd ⟨_, rfl⟩ hu
        have e1 : lent (v :: vs) (u :: us) = none :: lent vs us := by cases v <;> cases u <;> first | rfl | exact absurd ⟨_, rfl⟩ hu
        rw [e2]
        exact outs_ok h' l' (fun i o a z1 z2 => k (i + 1) o a (by rw [e1]; simpa using z1) (by simpa using z2)) kb'
theorem post_of {K : PySem.W.Frag} {F0 H : Hp} {vs : List V} {us : List U} (ar : Paired (ArgS K F0 H) vs us) (S' : SS) (σ' : St) (F' H' : Hp) (os : List MO) (R' : Rel K ⟨lent vs us, F0, H⟩ S' σ' F' H') (ho' : outsOf us S' = some os) : Post F0 H F' H' (addrs vs us) os := by
  refine ⟨R'.sub, ⟨R'.ext.le, fun b o z n => R'.ext.keep b o z fun m => n ((lent_mem vs us b).mp m), fun b o z n => R'.ext.nofr b o z fun m => n ((lent_mem vs us b).mp m), R'.ext.there, R'.ext.frz⟩, outs_ok ho' ar.length (fun i o a z1 z2 => ?_) fun i o z => ?_⟩
  · obtain ⟨k1, o2, k2⟩ := R'.par i a z1
    obtain ⟨v, j1, j2⟩ := R'.rep i _ z2
    rw [k1] at j1
    cases j1
    obtain ⟨c, e, f, k⟩ := j2
    cases e
    exact ⟨f, k⟩
  · obtain ⟨a, h1, _⟩ := lent_of ar z
    exact ⟨a, h1⟩
section
variable {P : Program} {w : World} {K : PySem.W.Frag} {mg : Str → Option Value} {base : Heap}
theorem okT {x qual : Str} {st : Stmt} {f : Addr} {fd : FuncData} {N ps : List Str} {k : Nat} {fm : FM} {g : GS} (F : Fun K x qual st f fd) (Sc : FnScope N ps (defScope st))
    (hb : ∀ (cdv : Value) (A : Around) (outer : List Env) (s : Shared) (H : Hp) (E : XK), Room k (A.deeper (envOfC qual (defScope st) s.heap.objs.size f cdv)) → JB (cxOf CX0 P w K mg base N qual (defScope st) f cdv A outer s H E).nox (defBody st) g)
    (hf : ∀ us r, fm us = some r → runB N.length g us = some r) : FnOk P w K mg base CX0 (k + 1) f fd ps (spT K ps.length fm) := by
  refine F.ok Sc (fun vs H Q E h => h.1) fun cdv A outer s H vs Q E hr h => ?_
  obtain ⟨hlen, F0, us, r, outs, sb, ar, nd, hfm, q⟩ := h
  have hrun := hf us (r, outs) hfm
  have J := hb cdv A outer s H E hr
  refine ⟨_, J.h ⟨lent vs us, F0, H⟩, ?_⟩
  have R0 := rel_start sb ar nd N rfl
  obtain ⟨o, ho, hrun⟩ := bind_some' hrun
  refine ⟨_, F0, o, R0, ho, ?_⟩
  have post := post_of ar
  cases o with
  | bk S' => cases hrun
  | ct S' => cases hrun
  | nx S' =>
    obtain ⟨os, h1, h2⟩ := map_some' (show (outsOf us S').map _ = some (r, outs) from hrun)
    cases h2
    exact fun σ' F' H' R' le => q .non F' H' (post S' σ' F' H' outs R' h1) .non
  | rt u S' =>
    cases u with
    | b o => cases hrun
    | v i => cases hrun
    | s i => cases hrun
    | t d =>
      obtain ⟨os, h1, h2⟩ := map_some' (show (outsOf us S').map _ = some (r, outs) from hrun)
      cases h2
      exact fun v σ' F' H' R' le rr => q v F' H' (post S' σ' F' H' outs R' h1) rr
    | m o =>
      obtain ⟨os, h1, h2⟩ := map_some' (show (outsOf us S').map _ = some (r, outs) from hrun)
      cases h2
      exact fun v σ' F' H' R' le rr => q v F' H' (post S' σ' F' H' outs R' h1) (by obtain ⟨a, e, h0, f, h, n, hB⟩ := rr; exact ⟨a, e, hB, f, h⟩)
end
end L2

end
section
set_option Elab.async false
set_option linter.all false
set_option maxRecDepth 100000
namespace L2
open PySem PySem.Spec PyProof.Rows
def capArg (S : SS) (i : Nat) : Option U := match S[i]? with
  | some (some (.t d)) => some (.t d)
  | some (some (.s d)) => some (.s d)
  | some (some (.m _)) => some (.v i)
  | some (some (.b _)) => some (.v i)
  | _ => none
def capArgs (S : SS) : List Nat → Option (List U)
  | [] => some []
  | i :: cap => (capArg S i).bind fun u => (capArgs S cap).map fun us => u :: us
def qTrue : GT := fun S => some (true, S)
def compL (cap : List Nat) (q : GT) (g : GD) : List D → SS → List D → Option (List D × SS)
  | [], S, acc => some (acc, S)
  | d :: ds, S, acc => (capArgs S cap).bind fun us =>
    if (slotsOf us).Nodup ∧ freshes us ≤ 1 then (resolves S us).bind fun ws => (q (some (.t d) :: ws.map some)).bind fun p =>
      if p.1 then (g p.2).bind fun r => (outsOf (.t d :: ws) r.2).bind fun outs => (wb us outs S).bind fun S' => compL cap q g ds S' (acc ++ [r.1])
      else (outsOf (.t d :: ws) p.2).bind fun outs => (wb us outs S).bind fun S' => compL cap q g ds S' acc
    else none
def eComp (cap : List Nat) (gi : GI) (q : GT) (g : GD) : GE := fun S => (gi S).bind fun p => if p.1.length ≤ 100000 then (compL cap q g p.1 p.2 []).map fun r => (.m (.lst r.1), r.2) else none
structure JTs (X : Cx) (es : List Expr) (q : GT) : Prop where
  h : ∀ B, PTs X es (tQ X.K B q)
theorem jts_nil {X : Cx} : JTs X [] qTrue := ⟨fun B pins s σ H Q I ⟨S, F, b, S', R, hg, q⟩ => by cases hg; exact pts_nil pins s σ H Q I (q F H R (Step.refl ..))⟩
theorem jts_one {X : Cx} {c : Expr} {q : GT} (h : JT X c q) : JTs X [c] q := ⟨fun B => pts_one (h.h B)⟩
theorem cap_ok {K : PySem.W.Frag} {B : Base} {S : SS} {σ : St} {F H : Hp} (R : Rel K B S σ F H) : ∀ {cap : List Nat} {us : List U}, capArgs S cap = some us → ∃ vs : List V, capOf cap σ = vs.map some ∧ Paired (fun v u => RepR K B S σ H F H v u) vs us
  | [], us, h => by cases h; exact ⟨[], rfl, .nil⟩
  | i :: cap, us, h => by
    obtain ⟨u, h1, h⟩ := bind_some' h
    obtain ⟨us', h2, h⟩ := map_some' h
    subst h
    obtain ⟨vs, k1, k2⟩ := cap_ok R h2
    have one : ∀ w, S[i]? = some (some w) → ∃ v, σ[i]? = some (some v) ∧ RepU K F H v w := R.rep i
    unfold capArg at h1
    have fin : ∀ v, σ[i]? = some (some v) → RepR K B S σ H F H v u → ∃ vs : List V, capOf (i :: cap) σ = vs.map some ∧ Paired (fun v u => RepR K B S σ H F H v u) vs (u :: us') := fun v e r =>
      ⟨v :: vs, by show (σ[i]?).join :: capOf cap σ = _; rw [e, k1]; rfl, .cons r k2⟩
    split at h1
    · rename_i d e
      cases h1
      obtain ⟨v, e1, r⟩ := one _ e
      exact fin v e1 r
    · rename_i d e
      cases h1
      obtain ⟨v, e1, r⟩ := one _ e
      exact fin v e1 r
    · rename_i o e
      cases h1
      obtain ⟨v, e1, r⟩ := one _ e
      exact fin v e1 ⟨e1, _, e⟩
    · rename_i o e
      cases h1
      obtain ⟨v, e1, r⟩ := one _ e
      exact fin v e1 ⟨e1, _, e⟩
    · cases h1
theorem slots_lt {K : PySem.W.Frag} {B : Base} {S : SS} {σ : St} {F H : Hp} (R : Rel K B S σ F H) (d : D) {us ws : List U} (h : resolves S us = some ws) : resolves S (.t d :: us) = some (.t d :: ws) := by
  show (some (U.t d)).bind _ = _
  show (resolves S us).map _ = _
  rw [h]
  rfl
theorem comp_imp {K : PySem.W.Frag} {B : Base} {cap : List Nat} {gi : GI} {q : GT} {g : GD} {σ : St} {H : Hp} {Q : VK} (h : tE K B (eComp cap gi q g) σ H Q) : tLC (tIt K B gi) cap (fun σ H Q => ∃ B, tQ K B q σ H Q) (fun σ H Q => ∃ B, tD K B g σ H Q) σ H Q := by
  obtain ⟨x, _⟩ : ∃ x : Str, True := ⟨"", trivial⟩
  obtain ⟨S, F, u, S', R, hg, k⟩ := h
  obtain ⟨⟨ds, S1⟩, h1, hg⟩ := bind_some' hg
  dsimp only at hg
  split at hg
  · rename_i hlen
    obtain ⟨⟨res, Sf⟩, h2, hg⟩ := map_some' hg
    cases hg
    refine ⟨S, F, ds, S1, R, h1, fun J F1 H1 R1 st1 w => ?_⟩
    refine ⟨fun i m ys H' => ∃ S2 F2 acc, Rel K B S2 σ F2 H' ∧ Step S S2 σ F H F2 H' ∧ (∀ b o, F1 b = some o → F2 b = some o) ∧ Reps F2 ys acc ∧ acc.length ≤ i ∧ i ≤ ds.length ∧ m = ds.length - i ∧ compL cap q g (ds.drop i) S2 acc = some (res, Sf),
      ⟨_, S1, F1, [], R1, st1, fun _ _ z => z, .nil, Nat.le_refl _, Nat.zero_le _, rfl, h2⟩, ?_⟩
    rintro i m ys H' ⟨S2, F2, acc, R2, st2, le, ry, ha, hl, rfl, hlp⟩
    refine ⟨by rw [ry.length]; exact Nat.lt_of_le_of_lt (Nat.le_trans ha (Nat.le_trans hl hlen)) (by decide), ?_⟩
    have w' := w F2 H' le R2.sub i
    by_cases hlt : i < ds.length
    · have hd : ds[i]? = some ds[i] := List.getElem?_eq_getElem hlt
      obtain ⟨go, yl⟩ := w'.1 _ hd
      rw [List.drop_eq_getElem_cons hlt] at hlp
      refine .inr ⟨go, fun xv H3 y => ?_⟩
      obtain ⟨rfl, rx⟩ := yl xv H3 y
      obtain ⟨us, e1, hlp⟩ := bind_some' hlp
      skip
      split at hlp
      · rename_i hnd
        obtain ⟨ws, e2, hlp⟩ := bind_some' hlp
        obtain ⟨⟨bk, T1⟩, e3, hlp⟩ := bind_some' hlp
        obtain ⟨vs, k1, k2⟩ := cap_ok R2 e1
        have rr : Paired (fun v u => RepR K B S2 σ H3 F2 H3 v u) (xv :: vs) (.t ds[i] :: us) := .cons rx k2
        have er := slots_lt R2 ds[i] e2
        have ar := args_ok R2 rr er
        have nd := addrs_nodup R2 rr er hnd.1 hnd.2
        have R3 := rel_start (n := ws.length + 1) R2.sub ar nd (List.replicate (ws.length + 1) x) (by simp)
        have hvl : vs.length = ws.length := by have := ar.length; simpa using this
        have es : start (List.replicate (ws.length + 1) x) (xv :: vs) = some xv :: capOf cap σ := by
          unfold start; rw [k1]; simp [hvl]
        have eS : (U.t ds[i] :: ws).map some ++ List.replicate (ws.length + 1 - (U.t ds[i] :: ws).length) none = some (U.t ds[i]) :: ws.map some := by simp
        rw [es, eS] at R3
        -- behind the turn
        have back : ∀ (T2 : SS) (F3 H4 : Hp) (outs : List MO) (S3 : SS), Rel K ⟨lent (xv :: vs) (U.t ds[i] :: ws), F2, H3⟩ T2 (some xv :: capOf cap σ) F3 H4 → outsOf (U.t ds[i] :: ws) T2 = some outs → wb us outs S2 = some S3 → Rel K B S3 σ F3 H4 ∧ Step S S3 σ F H F3 H4 ∧ (∀ b o, F2 b = some o → F3 b = some o) := fun T2 F3 H4 outs S3 RT ho hw => by
          have po := post_of ar T2 _ F3 H4 outs RT ho
          obtain ⟨Ra, sta, _⟩ := after_call (S0 := S2) (F0 := F2) (H0 := H3) R2 (Step.refl ..) rr er (show wb (U.t ds[i] :: us) outs S2 = some S3 by cases outs <;> exact hw) hnd.1 po
          exact ⟨Ra, st2.trans sta, sta.ext.le⟩
        refine ⟨_, _, F2, bk, T1, R3, e3, fun F3 H4 RT1 stT1 => ?_⟩
        cases bk with
        | true =>
          obtain ⟨⟨yd, T2⟩, e4, hlp⟩ := bind_some' (show (g T1).bind _ = _ from hlp)
          obtain ⟨outs, e5, hlp⟩ := bind_some' hlp
          obtain ⟨S3, e6, hlp⟩ := bind_some' hlp
          refine iteT ⟨_, T1, F3, yd, T2, RT1, e4, fun yv F4 H5 RT2 stT2 ry2 => ?_⟩
          obtain ⟨Ra, sta, lea⟩ := back T2 F4 H5 outs S3 RT2 e5 e6
          refine ⟨ds.length - (i + 1), by omega, S3, F4, acc ++ [yd], Ra, sta, fun b o z => lea b o (le b o z), (ry.le lea).append (.cons ry2 .nil), by simp; omega, hlt, rfl, hlp⟩
        | false =>
          obtain ⟨outs, e5, hlp⟩ := bind_some' (show (outsOf (U.t ds[i] :: ws) T1).bind _ = _ from hlp)
          obtain ⟨S3, e6, hlp⟩ := bind_some' hlp
          obtain ⟨Ra, sta, lea⟩ := back T1 F3 H4 outs S3 RT1 e5 e6
          exact iteF ⟨ds.length - (i + 1), by omega, S3, F3, acc, Ra, sta, fun b o z => lea b o (le b o z), ry.le lea, by omega, hlt, rfl, hlp⟩
      · cases hlp
    · have e : i = ds.length := by omega
      subst e
      rw [List.drop_length] at hlp
      cases hlp
      refine .inl ⟨w'.2 (Nat.le_refl _), fun p hp => ?_⟩
      have n := New.obj (F := F2) hp (.lst ys)
      refine k (.ref p) F2 _ (R2.new n (R2.sub.same n.same)) (st2.trans n.step) ⟨p, rfl, none_of st2.ext.there hp, R2.sub.fresh hp, ⟨ys, upd_same, ry⟩, fun m => ?_, none_of R2.ext.there hp⟩
      obtain ⟨o, ho⟩ := R2.has m
      rw [hp] at ho
      cases ho
  · cases hg
theorem je_comp {X : Cx} {elt iter : Expr} {ifs : List Expr} {x : Str} {px pos : Pos} {scope : Scope} {cl : List (Str × Addr)} {capN : List Str} {cap : List Nat} {gi : GI} {q : GT} {g : GD} (T : CompTxt X x capN cap scope cl) (hc : X.calm = true) (hi : JI X (.Name x px) iter gi)
    (ht : ∀ C s H fp, JTs (compCx X (x :: capN) scope cl C s H fp) ifs q) (he : ∀ C s H fp, JD (compCx X (x :: capN) scope cl C s H fp) elt g)
    (hs : ∀ x, foldedSetIterable iter X.env x = pure x := by intro _; rfl) : JE X (.ListComp elt [⟨.Name x px, iter, ifs, 0⟩] scope pos) (eComp cap gi q g) := ⟨fun B => by
  exact (pe_lcomp (tc := fun σ H Q => ∃ B, tQ X.K B q σ H Q) (te := fun σ H Q => ∃ B, tD X.K B g σ H Q) T hc (hi.h B) (fun C s H fp pins s' σ H' Q I ⟨B', z⟩ => (ht C s H fp).h B' pins s' σ H' Q I z) (fun C s H fp pins s' σ H' Q I ⟨B', z⟩ => (he C s H fp).h B' pins s' σ H' Q I z) hs).imp fun σ H Q h => comp_imp h⟩
end L2

end
section
set_option Elab.async false
set_option linter.all false
set_option maxRecDepth 100000
namespace L2
open PySem PySem.Spec PyProof.Rows
mutual
def eqD : D → D → Bool
  | .non, .non => true
  | .bl a, .bl b => a == b
  | .int a, .int b => a == b
  | .bl a, .int b => (if a then 1 else 0) == b
  | .int a, .bl b => a == (if b then 1 else 0)
  | .str a, .str b => a == b
  | .tup a, .tup b => eqDs a b
  | .lst a, .lst b => eqDs a b
  | _, _ => false
def eqDs : List D → List D → Bool
  | [], [] => true
  | a :: as, b :: bs => eqD a b && eqDs as bs
  | _, _ => false
end
mutual
def depD : D → Nat
  | .tup ds => depDs ds + 1
  | .lst ds => depDs ds + 1
  | _ => 0
def depDs : List D → Nat
  | [] => 0
  | d :: ds => max (depD d) (depDs ds)
end
mutual
theorem eqD_refl : ∀ d : D, eqD d d = true
  | .non => rfl
  | .bl a => by simp [eqD]
  | .int a => by simp [eqD]
  | .str a => by simp [eqD]
  | .tup a => by unfold eqD; exact eqDs_refl a
  | .lst a => by unfold eqD; exact eqDs_refl a
theorem eqDs_refl : ∀ ds : List D, eqDs ds ds = true
  | [] => rfl
  | d :: ds => by unfold eqDs; rw [eqD_refl d, eqDs_refl ds]; rfl
end
def eqAtI (as bs : List D) (j : Nat) : Bool := match as[j]?, bs[j]? with
  | some a, some b => eqD a b
  | _, _ => true
theorem range_succ_all (n : Nat) (e : Nat → Bool) : (List.range (n + 1)).all e = (e 0 && (List.range n).all fun j => e (j + 1)) := by
  rw [List.range_succ_eq_map, List.all_cons, List.all_map]
  rfl
theorem eqDs_len : ∀ {as bs : List D}, as.length ≠ bs.length → eqDs as bs = false
  | [], [], h => absurd rfl h
  | [], _ :: _, _ => rfl
  | _ :: _, [], _ => rfl
  | a :: as, b :: bs, h => by
    unfold eqDs
    rw [eqDs_len (as := as) (bs := bs) (fun z => h (by simp [z])), Bool.and_false]
theorem eqDs_range : ∀ {as bs : List D}, as.length = bs.length → (List.range as.length).all (eqAtI as bs) = eqDs as bs
  | [], [], _ => rfl
  | [], _ :: _, h => by cases h
  | _ :: _, [], h => by cases h
  | a :: as, b :: bs, h => by
    have h' : as.length = bs.length := by simpa using h
    show (List.range (as.length + 1)).all _ = _
    rw [range_succ_all]
    unfold eqDs
    have ih := eqDs_range h'
    have e : (fun j => eqAtI (a :: as) (b :: bs) (j + 1)) = eqAtI as bs := by funext j; simp [eqAtI]
    rw [e, ih]
    rfl
mutual
theorem Rep.uniq {F : Hp} : ∀ {v : V} {d e : D}, Rep F v d → Rep F v e → d = e
  | _, _, _, .non, r => by cases r; rfl
  | _, _, _, .bl b, r => by cases r; rfl
  | _, _, _, .int b, r => by cases r; rfl
  | _, _, _, .str b, r => by cases r; rfl
  | _, _, _, .tup e1 r1, r => by
    cases r with
    | tup e2 r2 => rw [e1] at e2; cases e2; rw [Reps.uniq r1 r2]
    | lst e2 r2 => rw [e1] at e2; cases e2
  | _, _, _, .lst e1 r1, r => by
    cases r with
    | tup e2 r2 => rw [e1] at e2; cases e2
    | lst e2 r2 => rw [e1] at e2; cases e2; rw [Reps.uniq r1 r2]
theorem Reps.uniq {F : Hp} : ∀ {vs : List V} {ds es : List D}, Reps F vs ds → Reps F vs es → ds = es
  | _, _, _, .nil, r => by cases r; rfl
  | _, _, _, .cons r1 s1, r => by
    cases r with
    | cons r2 s2 => rw [Rep.uniq r1 r2, Reps.uniq s1 s2]
end
section
variable {X : Cx} {pins : List (Addr × Obj)} {σ : St} {F H : Hp} {s : Shared}
theorem Sub.isTup (I : Inv X pins σ H s) (sb : Sub F H) {a : Addr} {vs : List V} (h : F a = some (.tup vs)) : ∃ its : List Value, Vals vs its ∧ s.heap.IsTuple a its.toArray := by
  obtain ⟨its, rv, p, _⟩ := I.tuple (.inl (Rd.of (sb a _ h)))
  exact ⟨its, rv, p⟩
theorem Sub.isLst (I : Inv X pins σ H s) (sb : Sub F H) {a : Addr} {vs : List V} (h : F a = some (.lst vs)) : ∃ its : List Value, Vals vs its ∧ s.heap.IsList a its.toArray := by
  obtain ⟨its, rv, p, _⟩ := I.list (.inl (Rd.of (sb a _ h)))
  exact ⟨its, rv, p.isList⟩

def ItemsAt (A : Around) (s : Shared) (its itsb : List Value) (ds es : List D) : Prop := ∀ j (h1 : j < its.toArray.size) (h2 : j < itsb.toArray.size), SeqAt.EqAt A.in1 s its.toArray[j] itsb.toArray[j] (eqAtI ds es j)
theorem min_all {n m : Nat} (h : n = m) (e : Nat → Bool) : ((List.range (min n m)).all e && n == m) = (List.range n).all e := by
  subst h; simp
theorem rcat_tuplesI {A : Around} {ca cb : Addr} {itsa itsb : List Value} {ds es : List D} (hu : A.units < cLine) (pa : s.heap.IsTuple ca itsa.toArray) (pb : s.heap.IsTuple cb itsb.toArray) (la : itsa.length = ds.length) (lb : itsb.length = es.length) (h : ItemsAt A s itsa itsb ds es) :
    SeqAt.RcAt A s (.ref ca) (.ref cb) (eqDs ds es) := by
  have q := SeqAt.RcAt.tuples (e := eqAtI ds es) pa pb hu h
  rw [List.size_toArray, List.size_toArray, la, lb] at q
  by_cases hl : ds.length = es.length
  · rw [min_all hl, eqDs_range hl] at q; exact q
  · rw [eqDs_len hl]
    have : (ds.length == es.length) = false := by simpa using hl
    rw [this, Bool.and_false] at q
    exact q
theorem rcneat_tuplesI {A : Around} {ca cb : Addr} {itsa itsb : List Value} {ds es : List D} (hu : A.units < cLine) (pa : s.heap.IsTuple ca itsa.toArray) (pb : s.heap.IsTuple cb itsb.toArray) (la : itsa.length = ds.length) (lb : itsb.length = es.length) (h : ItemsAt A s itsa itsb ds es) :
    SeqAt.RcNeAt A s (.ref ca) (.ref cb) (!eqDs ds es) := by
  have q := SeqAt.RcNeAt.tuples (e := eqAtI ds es) pa pb hu h
  rw [List.size_toArray, List.size_toArray, la, lb] at q
  by_cases hl : ds.length = es.length
  · rw [min_all hl, eqDs_range hl] at q; exact q
  · rw [eqDs_len hl]
    have : (ds.length == es.length) = false := by simpa using hl
    rw [this, Bool.and_false] at q
    exact q
theorem rcat_listsI {A : Around} {ca cb : Addr} {itsa itsb : List Value} {ds es : List D} (hu : A.units < cLine) (pa : s.heap.IsList ca itsa.toArray) (pb : s.heap.IsList cb itsb.toArray) (la : itsa.length = ds.length) (lb : itsb.length = es.length) (h : ItemsAt A s itsa itsb ds es) :
    SeqAt.RcAt A s (.ref ca) (.ref cb) (eqDs ds es) := by
  by_cases hl : ds.length = es.length
  · have q := SeqAt.RcAt.lists (e := eqAtI ds es) pa pb (by rw [List.size_toArray, List.size_toArray, la, lb]; exact hl) hu h
    rw [List.size_toArray, la, eqDs_range hl] at q; exact q
  · rw [eqDs_len hl]
    exact SeqAt.RcAt.lists_lengths pa pb (by rw [List.size_toArray, List.size_toArray, la, lb]; simpa using hl) hu
theorem rcneat_listsI {A : Around} {ca cb : Addr} {itsa itsb : List Value} {ds es : List D} (hu : A.units < cLine) (pa : s.heap.IsList ca itsa.toArray) (pb : s.heap.IsList cb itsb.toArray) (la : itsa.length = ds.length) (lb : itsb.length = es.length) (h : ItemsAt A s itsa itsb ds es) :
    SeqAt.RcNeAt A s (.ref ca) (.ref cb) (!eqDs ds es) := by
  by_cases hl : ds.length = es.length
  · have q := SeqAt.RcNeAt.lists (e := eqAtI ds es) pa pb (by rw [List.size_toArray, List.size_toArray, la, lb]; exact hl) hu h
    rw [List.size_toArray, la, eqDs_range hl] at q; exact q
  · rw [eqDs_len hl]
    exact SeqAt.RcNeAt.lists_lengths pa pb (by rw [List.size_toArray, List.size_toArray, la, lb]; simpa using hl) hu
theorem toArr_get {α : Type} (l : List α) (j : Nat) (h : j < l.toArray.size) : l[j]? = some l.toArray[j] := by
  have z : j < l.length := by simpa using h
  simp [z]
mutual
theorem eqAtD (I : Inv X pins σ H s) (sb : Sub F H) : ∀ (d : D) {e : D} {A : Around} {x y : V} {u w' : Value}, Rep F x d → Rep F y e → RelV x u → RelV y w' → A.units + depD d < cLine → SeqAt.EqAt A s u w' (eqD d e) := fun d {e A x y u w'} r1 r2 rx ry hu => by
  cases r1 with
  | non =>
    cases rx
    cases r2 with
    | non => cases ry; exact SeqAt.EqAt.same _
    | bl b => cases ry; exact SeqAt.EqAt.none_bool b
    | int b => obtain ⟨tb, rfl⟩ := ry; exact SeqAt.EqAt.none_int b tb
    | str b => obtain ⟨tb, rfl⟩ := ry; exact SeqAt.EqAt.none_str b tb
    | @tup cb vsb dsb eb rb => cases ry; obtain ⟨itsb, rvb, pb⟩ := sb.isTup I eb; exact SeqAt.EqAt.none_tuple pb (by omega)
    | @lst cb vsb dsb eb rb => cases ry; obtain ⟨itsb, rvb, pb⟩ := sb.isLst I eb; exact SeqAt.EqAt.none_list pb (by omega)
  | bl a =>
    cases rx
    cases r2 with
    | non => cases ry; exact SeqAt.EqAt.bool_none a
    | bl b => cases ry; exact SeqAt.EqAt.bool_bool a b
    | int b => obtain ⟨tb, rfl⟩ := ry; exact SeqAt.EqAt.bool_int a b tb
    | str b => obtain ⟨tb, rfl⟩ := ry; exact SeqAt.EqAt.bool_str a b tb
    | @tup cb vsb dsb eb rb => cases ry; obtain ⟨itsb, rvb, pb⟩ := sb.isTup I eb; exact SeqAt.EqAt.bool_tuple a pb (by omega)
    | @lst cb vsb dsb eb rb => cases ry; obtain ⟨itsb, rvb, pb⟩ := sb.isLst I eb; exact SeqAt.EqAt.bool_list a pb (by omega)
  | int a =>
    obtain ⟨ta, rfl⟩ := rx
    cases r2 with
    | non => cases ry; exact SeqAt.EqAt.int_none a ta
    | bl b => cases ry; exact SeqAt.EqAt.int_bool a ta b
    | int b => obtain ⟨tb, rfl⟩ := ry; exact SeqAt.EqAt.int_int a ta b tb
    | str b => obtain ⟨tb, rfl⟩ := ry; exact SeqAt.EqAt.int_str a ta b tb
    | @tup cb vsb dsb eb rb => cases ry; obtain ⟨itsb, rvb, pb⟩ := sb.isTup I eb; exact SeqAt.EqAt.int_tuple a ta pb (by omega)
    | @lst cb vsb dsb eb rb => cases ry; obtain ⟨itsb, rvb, pb⟩ := sb.isLst I eb; exact SeqAt.EqAt.int_list a ta pb (by omega)
  | str a =>
    obtain ⟨ta, rfl⟩ := rx
    cases r2 with
    | non => cases ry; exact SeqAt.EqAt.str_none a ta
    | bl b => cases ry; exact SeqAt.EqAt.str_bool a ta b
    | int b => obtain ⟨tb, rfl⟩ := ry; exact SeqAt.EqAt.str_int a ta b tb
    | str b => obtain ⟨tb, rfl⟩ := ry; exact SeqAt.EqAt.str_str a ta b tb
    | @tup cb vsb dsb eb rb => cases ry; obtain ⟨itsb, rvb, pb⟩ := sb.isTup I eb; exact SeqAt.EqAt.str_tuple a ta pb (by omega)
    | @lst cb vsb dsb eb rb => cases ry; obtain ⟨itsb, rvb, pb⟩ := sb.isLst I eb; exact SeqAt.EqAt.str_list a ta pb (by omega)
  | @tup ca vsa dsa ea ra =>
    cases rx; obtain ⟨itsa, rva, pa⟩ := sb.isTup I ea
    cases r2 with
    | non => cases ry; exact SeqAt.EqAt.tuple_none pa (by omega)
    | bl b => cases ry; exact SeqAt.EqAt.tuple_bool b pa (by omega)
    | int b => obtain ⟨tb, rfl⟩ := ry; exact SeqAt.EqAt.tuple_int b tb pa (by omega)
    | str b => obtain ⟨tb, rfl⟩ := ry; exact SeqAt.EqAt.tuple_str b tb pa (by omega)
    | @tup cb vsb dsb eb rb => cases ry; obtain ⟨itsb, rvb, pb⟩ := sb.isTup I eb; exact (by
      have hd : A.units + (depDs dsa + 1) < cLine := hu
      have items : ItemsAt A s itsa itsb dsa dsb := fun j h1 h2 => itemsAtD I sb dsa (A := A.in1) ra rb rva rvb (by show A.units + 1 + depDs dsa < cLine; omega) (toArr_get itsa j h1) (toArr_get itsb j h2)
      by_cases hc : ca = cb
      · subst hc
        rw [ea] at eb
        cases eb
        obtain rfl := Reps.uniq ra rb
        show SeqAt.EqAt A s _ _ (eqDs dsa dsa)
        rw [eqDs_refl]
        exact SeqAt.EqAt.same _
      · exact SeqAt.EqAt.of_refs hc (rcat_tuplesI (by omega) pa pb (rva.length.symm.trans ra.length) (rvb.length.symm.trans rb.length) items))
    | @lst cb vsb dsb eb rb => cases ry; obtain ⟨itsb, rvb, pb⟩ := sb.isLst I eb; exact SeqAt.EqAt.tuple_list pa pb (by omega)
  | @lst ca vsa dsa ea ra =>
    cases rx; obtain ⟨itsa, rva, pa⟩ := sb.isLst I ea
    cases r2 with
    | non => cases ry; exact SeqAt.EqAt.list_none pa (by omega)
    | bl b => cases ry; exact SeqAt.EqAt.list_bool b pa (by omega)
    | int b => obtain ⟨tb, rfl⟩ := ry; exact SeqAt.EqAt.list_int b tb pa (by omega)
    | str b => obtain ⟨tb, rfl⟩ := ry; exact SeqAt.EqAt.list_str b tb pa (by omega)
    | @tup cb vsb dsb eb rb => cases ry; obtain ⟨itsb, rvb, pb⟩ := sb.isTup I eb; exact SeqAt.EqAt.list_tuple pa pb (by omega)
    | @lst cb vsb dsb eb rb => cases ry; obtain ⟨itsb, rvb, pb⟩ := sb.isLst I eb; exact (by
      have hd : A.units + (depDs dsa + 1) < cLine := hu
      have items : ItemsAt A s itsa itsb dsa dsb := fun j h1 h2 => itemsAtD I sb dsa (A := A.in1) ra rb rva rvb (by show A.units + 1 + depDs dsa < cLine; omega) (toArr_get itsa j h1) (toArr_get itsb j h2)
      by_cases hc : ca = cb
      · subst hc
        rw [ea] at eb
        cases eb
        obtain rfl := Reps.uniq ra rb
        show SeqAt.EqAt A s _ _ (eqDs dsa dsa)
        rw [eqDs_refl]
        exact SeqAt.EqAt.same _
      · exact SeqAt.EqAt.of_refs hc (rcat_listsI (by omega) pa pb (rva.length.symm.trans ra.length) (rvb.length.symm.trans rb.length) items))
theorem itemsAtD (I : Inv X pins σ H s) (sb : Sub F H) : ∀ (ds : List D) {es : List D} {A : Around} {vs ws : List V} {us us' : List Value} {j : Nat} {u w' : Value}, Reps F vs ds → Reps F ws es → Vals vs us → Vals ws us' → A.units + depDs ds < cLine → us[j]? = some u → us'[j]? = some w' → SeqAt.EqAt A s u w' (eqAtI ds es j) := fun ds {es A vs ws us us' j u w'} r1 r2 v1 v2 hu h1 h2 => by
  cases r1 with
  | nil => cases v1; simp at h1
  | @cons v d vs ds r rs =>
    cases v1 with
    | cons q qs =>
      cases r2 with
      | nil => cases v2; simp at h2
      | @cons w e ws es r' rs' =>
        cases v2 with
        | cons q' qs' =>
          have hd : A.units + max (depD d) (depDs ds) < cLine := hu
          cases j with
          | zero =>
            simp at h1 h2
            subst h1 h2
            exact eqAtD I sb d r r' q q' (by omega)
          | succ j =>
            simp at h1 h2
            have := itemsAtD I sb ds (A := A) rs rs' qs qs' (j := j) (by omega) h1 h2
            simpa [eqAtI] using this
end
end
end L2

end
section
set_option Elab.async false
set_option linter.all false
set_option maxRecDepth 100000
namespace L2
open PySem PySem.Spec PyProof.Rows
section
variable {X : Cx} {pins : List (Addr × Obj)} {σ : St} {F H : Hp} {s : Shared}
theorem rcAtD (I : Inv X pins σ H s) (sb : Sub F H) {d e : D} {A : Around} {x y : V} {u w' : Value} (r1 : Rep F x d) (r2 : Rep F y e) (rx : RelV x u) (ry : RelV y w') (hu : A.units + depD d < cLine) : SeqAt.RcAt A s u w' (eqD d e) := by
  cases r1 with
  | non =>
    cases rx
    cases r2 with
    | non => cases ry; exact SeqAt.RcAt.none_none 
    | bl b => cases ry; exact SeqAt.RcAt.none_bool b
    | int b => obtain ⟨tb, rfl⟩ := ry; exact SeqAt.RcAt.none_int b tb
    | str b => obtain ⟨tb, rfl⟩ := ry; exact SeqAt.RcAt.none_str b tb
    | @tup cb vsb dsb eb rb => cases ry; obtain ⟨itsb, rvb, pb⟩ := sb.isTup I eb; exact SeqAt.RcAt.none_tuple pb (by omega)
    | @lst cb vsb dsb eb rb => cases ry; obtain ⟨itsb, rvb, pb⟩ := sb.isLst I eb; exact SeqAt.RcAt.none_list pb (by omega)
  | bl a =>
    cases rx
    cases r2 with
    | non => cases ry; exact SeqAt.RcAt.bool_none a
    | bl b => cases ry; exact SeqAt.RcAt.bool_bool a b
    | int b => obtain ⟨tb, rfl⟩ := ry; exact SeqAt.RcAt.bool_int a b tb
    | str b => obtain ⟨tb, rfl⟩ := ry; exact SeqAt.RcAt.bool_str a b tb
    | @tup cb vsb dsb eb rb => cases ry; obtain ⟨itsb, rvb, pb⟩ := sb.isTup I eb; exact SeqAt.RcAt.bool_tuple a pb (by omega)
    | @lst cb vsb dsb eb rb => cases ry; obtain ⟨itsb, rvb, pb⟩ := sb.isLst I eb; exact SeqAt.RcAt.bool_list a pb (by omega)
  | int a =>
    obtain ⟨ta, rfl⟩ := rx
    cases r2 with
    | non => cases ry; exact SeqAt.RcAt.int_none a ta
    | bl b => cases ry; exact SeqAt.RcAt.int_bool a ta b
    | int b => obtain ⟨tb, rfl⟩ := ry; exact SeqAt.RcAt.int_int a ta b tb
    | str b => obtain ⟨tb, rfl⟩ := ry; exact SeqAt.RcAt.int_str a ta b tb
    | @tup cb vsb dsb eb rb => cases ry; obtain ⟨itsb, rvb, pb⟩ := sb.isTup I eb; exact SeqAt.RcAt.int_tuple a ta pb (by omega)
    | @lst cb vsb dsb eb rb => cases ry; obtain ⟨itsb, rvb, pb⟩ := sb.isLst I eb; exact SeqAt.RcAt.int_list a ta pb (by omega)
  | str a =>
    obtain ⟨ta, rfl⟩ := rx
    cases r2 with
    | non => cases ry; exact SeqAt.RcAt.str_none a ta
    | bl b => cases ry; exact SeqAt.RcAt.str_bool a ta b
    | int b => obtain ⟨tb, rfl⟩ := ry; exact SeqAt.RcAt.str_int a ta b tb
    | str b => obtain ⟨tb, rfl⟩ := ry; exact SeqAt.RcAt.str_str a ta b tb
    | @tup cb vsb dsb eb rb => cases ry; obtain ⟨itsb, rvb, pb⟩ := sb.isTup I eb; exact SeqAt.RcAt.str_tuple a ta pb (by omega)
    | @lst cb vsb dsb eb rb => cases ry; obtain ⟨itsb, rvb, pb⟩ := sb.isLst I eb; exact SeqAt.RcAt.str_list a ta pb (by omega)
  | @tup ca vsa dsa ea ra =>
    cases rx; obtain ⟨itsa, rva, pa⟩ := sb.isTup I ea
    cases r2 with
    | non => cases ry; exact SeqAt.RcAt.tuple_none pa (by omega)
    | bl b => cases ry; exact SeqAt.RcAt.tuple_bool b pa (by omega)
    | int b => obtain ⟨tb, rfl⟩ := ry; exact SeqAt.RcAt.tuple_int b tb pa (by omega)
    | str b => obtain ⟨tb, rfl⟩ := ry; exact SeqAt.RcAt.tuple_str b tb pa (by omega)
    | @tup cb vsb dsb eb rb => cases ry; obtain ⟨itsb, rvb, pb⟩ := sb.isTup I eb; exact (by
      have hd : A.units + (depDs dsa + 1) < cLine := hu
      have items : ItemsAt A s itsa itsb dsa dsb := fun j h1 h2 => itemsAtD I sb dsa (A := A.in1) ra rb rva rvb (by show A.units + 1 + depDs dsa < cLine; omega) (toArr_get itsa j h1) (toArr_get itsb j h2)
      exact rcat_tuplesI (by omega) pa pb (rva.length.symm.trans ra.length) (rvb.length.symm.trans rb.length) items)
    | @lst cb vsb dsb eb rb => cases ry; obtain ⟨itsb, rvb, pb⟩ := sb.isLst I eb; exact SeqAt.RcAt.tuple_list pa pb (by omega)
  | @lst ca vsa dsa ea ra =>
    cases rx; obtain ⟨itsa, rva, pa⟩ := sb.isLst I ea
    cases r2 with
    | non => cases ry; exact SeqAt.RcAt.list_none pa (by omega)
    | bl b => cases ry; exact SeqAt.RcAt.list_bool b pa (by omega)
    | int b => obtain ⟨tb, rfl⟩ := ry; exact SeqAt.RcAt.list_int b tb pa (by omega)
    | str b => obtain ⟨tb, rfl⟩ := ry; exact SeqAt.RcAt.list_str b tb pa (by omega)
    | @tup cb vsb dsb eb rb => cases ry; obtain ⟨itsb, rvb, pb⟩ := sb.isTup I eb; exact SeqAt.RcAt.list_tuple pa pb (by omega)
    | @lst cb vsb dsb eb rb => cases ry; obtain ⟨itsb, rvb, pb⟩ := sb.isLst I eb; exact (by
      have hd : A.units + (depDs dsa + 1) < cLine := hu
      have items : ItemsAt A s itsa itsb dsa dsb := fun j h1 h2 => itemsAtD I sb dsa (A := A.in1) ra rb rva rvb (by show A.units + 1 + depDs dsa < cLine; omega) (toArr_get itsa j h1) (toArr_get itsb j h2)
      exact rcat_listsI (by omega) pa pb (rva.length.symm.trans ra.length) (rvb.length.symm.trans rb.length) items)
theorem rcneAtD (I : Inv X pins σ H s) (sb : Sub F H) {d e : D} {A : Around} {x y : V} {u w' : Value} (r1 : Rep F x d) (r2 : Rep F y e) (rx : RelV x u) (ry : RelV y w') (hu : A.units + depD d < cLine) : SeqAt.RcNeAt A s u w' (!eqD d e) := by
  cases r1 with
  | non =>
    cases rx
    cases r2 with
    | non => cases ry; exact SeqAt.RcNeAt.none_none 
    | bl b => cases ry; exact SeqAt.RcNeAt.none_bool b
    | int b => obtain ⟨tb, rfl⟩ := ry; exact SeqAt.RcNeAt.none_int b tb
    | str b => obtain ⟨tb, rfl⟩ := ry; exact SeqAt.RcNeAt.none_str b tb
    | @tup cb vsb dsb eb rb => cases ry; obtain ⟨itsb, rvb, pb⟩ := sb.isTup I eb; exact SeqAt.RcNeAt.none_tuple pb (by omega)
    | @lst cb vsb dsb eb rb => cases ry; obtain ⟨itsb, rvb, pb⟩ := sb.isLst I eb; exact SeqAt.RcNeAt.none_list pb (by omega)
  | bl a =>
    cases rx
    cases r2 with
    | non => cases ry; exact SeqAt.RcNeAt.bool_none a
    | bl b => cases ry; exact SeqAt.RcNeAt.bool_bool a b
    | int b => obtain ⟨tb, rfl⟩ := ry; exact SeqAt.RcNeAt.bool_int a b tb
    | str b => obtain ⟨tb, rfl⟩ := ry; exact SeqAt.RcNeAt.bool_str a b tb
    | @tup cb vsb dsb eb rb => cases ry; obtain ⟨itsb, rvb, pb⟩ := sb.isTup I eb; exact SeqAt.RcNeAt.bool_tuple a pb (by omega)
    | @lst cb vsb dsb eb rb => cases ry; obtain ⟨itsb, rvb, pb⟩ := sb.isLst I eb; exact SeqAt.RcNeAt.bool_list a pb (by omega)
  | int a =>
    obtain ⟨ta, rfl⟩ := rx
    cases r2 with
    | non => cases ry; exact SeqAt.RcNeAt.int_none a ta
    | bl b => cases ry; exact SeqAt.RcNeAt.int_bool a ta b
    | int b => obtain ⟨tb, rfl⟩ := ry; exact SeqAt.RcNeAt.int_int a ta b tb
    | str b => obtain ⟨tb, rfl⟩ := ry; exact SeqAt.RcNeAt.int_str a ta b tb
    | @tup cb vsb dsb eb rb => cases ry; obtain ⟨itsb, rvb, pb⟩ := sb.isTup I eb; exact SeqAt.RcNeAt.int_tuple a ta pb (by omega)
    | @lst cb vsb dsb eb rb => cases ry; obtain ⟨itsb, rvb, pb⟩ := sb.isLst I eb; exact SeqAt.RcNeAt.int_list a ta pb (by omega)
  | str a =>
    obtain ⟨ta, rfl⟩ := rx
    cases r2 with
    | non => cases ry; exact SeqAt.RcNeAt.str_none a ta
    | bl b => cases ry; exact SeqAt.RcNeAt.str_bool a ta b
    | int b => obtain ⟨tb, rfl⟩ := ry; exact SeqAt.RcNeAt.str_int a ta b tb
    | str b => obtain ⟨tb, rfl⟩ := ry; exact SeqAt.RcNeAt.str_str a ta b tb
    | @tup cb vsb dsb eb rb => cases ry; obtain ⟨itsb, rvb, pb⟩ := sb.isTup I eb; exact SeqAt.RcNeAt.str_tuple a ta pb (by omega)
    | @lst cb vsb dsb eb rb => cases ry; obtain ⟨itsb, rvb, pb⟩ := sb.isLst I eb; exact SeqAt.RcNeAt.str_list a ta pb (by omega)
  | @tup ca vsa dsa ea ra =>
    cases rx; obtain ⟨itsa, rva, pa⟩ := sb.isTup I ea
    cases r2 with
    | non => cases ry; exact SeqAt.RcNeAt.tuple_none pa (by omega)
    | bl b => cases ry; exact SeqAt.RcNeAt.tuple_bool b pa (by omega)
    | int b => obtain ⟨tb, rfl⟩ := ry; exact SeqAt.RcNeAt.tuple_int b tb pa (by omega)
    | str b => obtain ⟨tb, rfl⟩ := ry; exact SeqAt.RcNeAt.tuple_str b tb pa (by omega)
    | @tup cb vsb dsb eb rb => cases ry; obtain ⟨itsb, rvb, pb⟩ := sb.isTup I eb; exact (by
      have hd : A.units + (depDs dsa + 1) < cLine := hu
      have items : ItemsAt A s itsa itsb dsa dsb := fun j h1 h2 => itemsAtD I sb dsa (A := A.in1) ra rb rva rvb (by show A.units + 1 + depDs dsa < cLine; omega) (toArr_get itsa j h1) (toArr_get itsb j h2)
      exact rcneat_tuplesI (by omega) pa pb (rva.length.symm.trans ra.length) (rvb.length.symm.trans rb.length) items)
    | @lst cb vsb dsb eb rb => cases ry; obtain ⟨itsb, rvb, pb⟩ := sb.isLst I eb; exact SeqAt.RcNeAt.tuple_list pa pb (by omega)
  | @lst ca vsa dsa ea ra =>
    cases rx; obtain ⟨itsa, rva, pa⟩ := sb.isLst I ea
    cases r2 with
    | non => cases ry; exact SeqAt.RcNeAt.list_none pa (by omega)
    | bl b => cases ry; exact SeqAt.RcNeAt.list_bool b pa (by omega)
    | int b => obtain ⟨tb, rfl⟩ := ry; exact SeqAt.RcNeAt.list_int b tb pa (by omega)
    | str b => obtain ⟨tb, rfl⟩ := ry; exact SeqAt.RcNeAt.list_str b tb pa (by omega)
    | @tup cb vsb dsb eb rb => cases ry; obtain ⟨itsb, rvb, pb⟩ := sb.isTup I eb; exact SeqAt.RcNeAt.list_tuple pa pb (by omega)
    | @lst cb vsb dsb eb rb => cases ry; obtain ⟨itsb, rvb, pb⟩ := sb.isLst I eb; exact (by
      have hd : A.units + (depDs dsa + 1) < cLine := hu
      have items : ItemsAt A s itsa itsb dsa dsb := fun j h1 h2 => itemsAtD I sb dsa (A := A.in1) ra rb rva rvb (by show A.units + 1 + depDs dsa < cLine; omega) (toArr_get itsa j h1) (toArr_get itsb j h2)
      exact rcneat_listsI (by omega) pa pb (rva.length.symm.trans ra.length) (rvb.length.symm.trans rb.length) items)
def fEq : List D → Option U
  | [a, b] => if depD a ≤ 40 then some (.t (.bl (eqD a b))) else none
  | _ => none
def fNe : List D → Option U
  | [a, b] => if depD a ≤ 40 then some (.t (.bl (!eqD a b))) else none
  | _ => none
theorem op_eqP (hu : X.A.units + 64 < cLine) : OpP X (compareOp .Eq) fEq := by
  intro pins s σ H x y v u Q I rx ry ⟨F, ds, w, sb, rs, hw, q⟩
  obtain ⟨d, e, rfl, r1, r2⟩ := reps2 rs
  obtain ⟨hd, rfl⟩ := ite_some (show (if depD d ≤ 40 then some (U.t (.bl (eqD d e))) else none) = some w from hw)
  exact rcAtD I sb r1 r2 rx ry (by omega) _ _ _ _ ⟨.bl _, H, I, rfl, q _ F H (New.refl ..) sb (.bl _)⟩
theorem op_neP (hu : X.A.units + 64 < cLine) : OpP X (compareOp .NotEq) fNe := by
  intro pins s σ H x y v u Q I rx ry ⟨F, ds, w, sb, rs, hw, q⟩
  obtain ⟨d, e, rfl, r1, r2⟩ := reps2 rs
  obtain ⟨hd, rfl⟩ := ite_some (show (if depD d ≤ 40 then some (U.t (.bl (!eqD d e))) else none) = some w from hw)
  exact rcneAtD I sb r1 r2 rx ry (by omega) _ _ _ _ ⟨.bl _, H, I, rfl, q _ F H (New.refl ..) sb (.bl _)⟩
def inD (x : D) (ds : List D) : Bool := ds.any fun y => eqD y x
def fIn : List D → Option U
  | [x, .tup ds] => if depDs ds ≤ 40 then some (.t (.bl (inD x ds))) else none
  | [x, .lst ds] => if depDs ds ≤ 40 then some (.t (.bl (inD x ds))) else none
  | [.str i, .str j] => some (.t (.bl (!(Builtin.Str.occurrences j i 0 j.length 1).isEmpty)))
  | _ => none
def fNotIn : List D → Option U
  | [x, .tup ds] => if depDs ds ≤ 40 then some (.t (.bl (!inD x ds))) else none
  | [x, .lst ds] => if depDs ds ≤ 40 then some (.t (.bl (!inD x ds))) else none
  | [.str i, .str j] => some (.t (.bl (!(!(Builtin.Str.occurrences j i 0 j.length 1).isEmpty))))
  | _ => none
theorem mem_depDs : ∀ {ds : List D} {d : D}, d ∈ ds → depD d ≤ depDs ds
  | d :: ds, e, h => by
    show depD e ≤ max (depD d) (depDs ds)
    rcases List.mem_cons.mp h with rfl | h
    · exact Nat.le_max_left _ _
    · exact Nat.le_trans (mem_depDs h) (Nat.le_max_right _ _)
theorem RelV.uniq {v w' : V} {u : Value} (a : RelV v u) (b : RelV w' u) : v = w' := by
  cases v <;> cases w' <;> simp only [RelV] at a b <;> first
    | rfl
    | (subst a; cases b; done)
    | (subst a; cases b; rfl)
    | (obtain ⟨t, rfl⟩ := a; obtain ⟨t', e⟩ := b; cases e; done)
    | (obtain ⟨t, rfl⟩ := a; obtain ⟨t', e⟩ := b; cases e; rfl)
    | (obtain ⟨t, rfl⟩ := a; cases b; done)
    | (obtain ⟨t, rfl⟩ := b; cases a; done)
open Classical in
noncomputable def inE (F : Hp) (d : D) (y : Value) : Bool := if h : ∃ (v : V) (dd : D), RelV v y ∧ Rep F v dd then eqD (Classical.choose (Classical.choose_spec h)) d else false
theorem inE_eq {v : V} {dd d : D} {y : Value} (a : RelV v y) (r : Rep F v dd) : inE F d y = eqD dd d := by
  unfold inE
  have h : ∃ (v : V) (dd : D), RelV v y ∧ Rep F v dd := ⟨v, dd, a, r⟩
  rw [dif_pos h]
  have k := Classical.choose_spec (Classical.choose_spec h)
  have e1 := RelV.uniq k.1 a
  have r' : Rep F (Classical.choose h) dd := by rw [e1]; exact r
  rw [Rep.uniq k.2 r']
theorem in_items (I : Inv X pins σ H s) (sb : Sub F H) {A : Around} {x : V} {u : Value} {d : D} (r : Rep F x d) (rx : RelV x u) : ∀ {vs : List V} {ds : List D} {its : List Value}, Reps F vs ds → Vals vs its → A.units + depDs ds < cLine →
    (∀ y ∈ its, SeqAt.EqAt A s y u (inE F d y)) ∧ its.any (inE F d) = inD d ds
  | _, _, _, .nil, .nil, _ => ⟨(fun y hy => absurd hy (by simp)), rfl⟩
  | _, _, _, @Reps.cons _ v dd vs ds r1 rs, .cons q qs, hu => by
    have hd : A.units + max (depD dd) (depDs ds) < cLine := hu
    obtain ⟨h1, h2⟩ := in_items I sb (A := A) r rx rs qs (by omega)
    refine ⟨fun y hy => ?_, ?_⟩
    · rcases List.mem_cons.mp hy with rfl | hy
      · rw [inE_eq q r1]; exact eqAtD I sb dd r1 r q rx (by omega)
      · exact h1 y hy
    · rw [List.any_cons, h2, inE_eq q r1]
      rfl
theorem op_inP (hu : X.A.units + 64 < cLine) : OpP X (compareOp .In) fIn := by
  intro pins s σ H x y v u Q I rx ry ⟨F, ds, w, sb, rs, hw, q⟩
  obtain ⟨d, e, rfl, r1, r2⟩ := reps2 rs
  cases e with
  | tup ds =>
    obtain ⟨hd, rfl⟩ := ite_some (show (if depDs ds ≤ 40 then some (U.t (.bl (inD d ds))) else none) = some w by cases d <;> exact hw)
    obtain ⟨a, vs, rfl, fa, ha, rs⟩ := sb.tupAt r2
    cases ry
    obtain ⟨its, rv, p⟩ := sb.isTup I fa
    obtain ⟨h1, h2⟩ := in_items I sb (A := X.A.in1) r1 rx rs rv (by show X.A.units + 1 + depDs ds < cLine; omega)
    refine SeqAt.in_tupleAt (inE F d) p (fun y hy => h1 y (by simpa using hy)) ⟨.bl _, H, I, rfl, ?_⟩
    rw [show its.toArray.any (inE F d) = its.any (inE F d) by simp, h2]
    exact q _ F H (New.refl ..) sb (.bl _)
  | lst ds =>
    obtain ⟨hd, rfl⟩ := ite_some (show (if depDs ds ≤ 40 then some (U.t (.bl (inD d ds))) else none) = some w by cases d <;> exact hw)
    obtain ⟨a, vs, rfl, fa, ha, rs⟩ := sb.lstAt r2
    cases ry
    obtain ⟨its, rv, p⟩ := sb.isLst I fa
    obtain ⟨h1, h2⟩ := in_items I sb (A := X.A.in1) r1 rx rs rv (by show X.A.units + 1 + depDs ds < cLine; omega)
    refine SeqAt.in_listAt (inE F d) p (fun y hy => h1 y (by simpa using hy)) ⟨.bl _, H, I, rfl, ?_⟩
    rw [show its.toArray.any (inE F d) = its.any (inE F d) by simp, h2]
    exact q _ F H (New.refl ..) sb (.bl _)
  | str j =>
    cases d <;> try (simp [fIn] at hw; done)
    rename_i i
    cases hw
    cases r1
    cases r2
    exact op_in_str pins s σ H _ _ v u Q I rx ry ⟨i, j, rfl, rfl, q _ F H (New.refl ..) sb (.bl _)⟩
  | non => cases d <;> (simp [fIn] at hw; done)
  | bl b => cases d <;> (simp [fIn] at hw; done)
  | int b => cases d <;> (simp [fIn] at hw; done)
theorem op_notInP (hu : X.A.units + 64 < cLine) : OpP X (compareOp .NotIn) fNotIn := by
  intro pins s σ H x y v u Q I rx ry ⟨F, ds, w, sb, rs, hw, q⟩
  obtain ⟨d, e, rfl, r1, r2⟩ := reps2 rs
  cases e with
  | tup ds =>
    obtain ⟨hd, rfl⟩ := ite_some (show (if depDs ds ≤ 40 then some (U.t (.bl (!inD d ds))) else none) = some w by cases d <;> exact hw)
    obtain ⟨a, vs, rfl, fa, ha, rs⟩ := sb.tupAt r2
    cases ry
    obtain ⟨its, rv, p⟩ := sb.isTup I fa
    obtain ⟨h1, h2⟩ := in_items I sb (A := X.A.in1) r1 rx rs rv (by show X.A.units + 1 + depDs ds < cLine; omega)
    refine SeqAt.notIn_tupleAt (inE F d) p (fun y hy => h1 y (by simpa using hy)) ⟨.bl _, H, I, rfl, ?_⟩
    rw [show its.toArray.any (inE F d) = its.any (inE F d) by simp, h2]
    exact q _ F H (New.refl ..) sb (.bl _)
  | lst ds =>
    obtain ⟨hd, rfl⟩ := ite_some (show (if depDs ds ≤ 40 then some (U.t (.bl (!inD d ds))) else none) = some w by cases d <;> exact hw)
    obtain ⟨a, vs, rfl, fa, ha, rs⟩ := sb.lstAt r2
    cases ry
    obtain ⟨its, rv, p⟩ := sb.isLst I fa
    obtain ⟨h1, h2⟩ := in_items I sb (A := X.A.in1) r1 rx rs rv (by show X.A.units + 1 + depDs ds < cLine; omega)
    refine SeqAt.notIn_listAt (inE F d) p (fun y hy => h1 y (by simpa using hy)) ⟨.bl _, H, I, rfl, ?_⟩
    rw [show its.toArray.any (inE F d) = its.any (inE F d) by simp, h2]
    exact q _ F H (New.refl ..) sb (.bl _)
  | str j =>
    cases d <;> try (simp [fNotIn] at hw; done)
    rename_i i
    cases hw
    cases r1
    cases r2
    exact op_notin_str pins s σ H _ _ v u Q I rx ry ⟨i, j, rfl, rfl, q _ F H (New.refl ..) sb (.bl _)⟩
  | non => cases d <;> (simp [fNotIn] at hw; done)
  | bl b => cases d <;> (simp [fNotIn] at hw; done)
  | int b => cases d <;> (simp [fNotIn] at hw; done)
end
end L2

end
section
set_option Elab.async false
set_option linter.all false
set_option maxRecDepth 100000
namespace L2
open PySem PySem.Spec PyProof.Rows
def isTy (T : String) (d : D) : Option Bool := match T with
  | "tuple" => some (isTupD d)
  | "list" => some (isLstD d)
  | "str" => some (isStrD d)
  | "bool" => some (isBlD d)
  | "int" => some (isIntD d)
  | _ => none
theorem isTy_kit {K : PySem.W.Frag} {T : String} {d : D} {b : Bool} (h : isTy T d = some b) : PySem.W.kitOne K (.type (tyN d)) (.type T) = some b := by
  unfold isTy at h
  split at h
  · cases h; exact kit_tup d
  · cases h; exact kit_lst d
  · cases h; exact kit_strD d
  · cases h; exact kit_bl d
  · cases h; exact kit_int d
  · cases h
def isTys : List String → D → Option Bool
  | [], _ => some false
  | T :: Ts, d => match isTy T d with
    | some true => some true
    | some false => isTys Ts d
    | none => none
section
variable {X : Cx} {pins : List (Addr × Obj)} {σ : St} {F H : Hp} {s : Shared}
theorem isinstD (I : Inv X pins σ H s) (sb : Sub F H) {A : Around} {E : Value → Shared → Prop} {Q : Value → Shared → Prop} {x : V} {u : Value} {d : D} {c : Value} {b : Bool} (r : Rep F x d) (rx : RelV x u) (e : PySem.W.kitOne X.K (.type (tyN d)) c = some b) (h : ∀ tk, Q (.bool b) { s with toks := tk }) :
    wpAny (model X.prog X.w) A (call (.builtin "isinstance") [u, c]) Q E s := by
  cases r with
  | non => cases rx; exact PySem.W.kia_one PySem.W.kitx_none I.kIn True.intro e (fun z => nomatch z) h
  | bl y => cases rx; exact PySem.W.kia_one PySem.W.kitx_bool I.kIn True.intro e (fun z => nomatch z) h
  | int i => obtain ⟨t, rfl⟩ := rx; exact PySem.W.kia_one PySem.W.kitx_int I.kIn True.intro e (fun z => nomatch z) h
  | str y => obtain ⟨t, rfl⟩ := rx; exact PySem.W.kia_one PySem.W.kitx_str I.kIn True.intro e (fun z => nomatch z) h
  | tup ea _ =>
    cases rx
    obtain ⟨its, _, o, h1, h2, _⟩ := sb.isTup I ea
    exact PySem.W.kia_one PySem.W.kitx_tuple I.kIn ⟨o, h1, h2⟩ e (fun z => nomatch z) h
  | lst ea _ =>
    cases rx
    obtain ⟨its, _, o, h1, h2, _⟩ := sb.isLst I ea
    exact PySem.W.kia_one PySem.W.kitx_list I.kIn ⟨o, h1, h2⟩ e (fun z => nomatch z) h
end
def eIs (Ts : List String) (g : GD) : GD := fun S => (g S).bind fun p => (isTys Ts p.1).map fun b => (.bl b, p.2)
section
variable {X : Cx} {a b c e : Expr} {es : List Expr} {pos p p2 px : Pos} {x y : Str} {g ga gb gc : GD} {gA : GA}
theorem isTys_one {T : String} {d : D} {b : Bool} (h : isTys [T] d = some b) : isTy T d = some b := by
  unfold isTys at h
  cases e : isTy T d with
  | none => rw [e] at h; cases h
  | some k => rw [e] at h; cases k <;> exact h
theorem jd_isinst {T : String} (hg : Gl X "isinstance") (hm : X.mg "isinstance" = none) (hg2 : Gl X y) (hm2 : X.mg y = none) (hv2 : bootBuiltins y = some (.type T)) (ha : JD X a ga) (hn2 : y ≠ "__name__" := by decide) (hd2 : (y == ("__debug__" : Str)) = false := by decide)
    (hs : starEach [a, .Name y px] X.env = (false, eval a X.env) :: starEach [.Name y px] X.env := by rfl) (hs2 : starEach [.Name y px] X.env = (false, eval (.Name y px) X.env) :: starEach [] X.env := by rfl) (hpl : (backTo pos (starEach [.Name y px] X.env)).any (·.1) = false := by rfl) :
    JD X (.Call (.Name "isinstance" p) [a, .Name y px] [] pos) (eIs [T] ga) := ⟨fun B =>
  (pe_callB (r := fun xs H Q => ∃ x F d b, xs = [x, .ty T] ∧ Sub F H ∧ Rep F x d ∧ isTy T d = some b ∧ Q (.bl b) H) (fun pins s σ H xs us Q I r ⟨x, F, d, b, e1, sb, rd, hk, q⟩ => by
      subst e1
      obtain ⟨u, w', rfl, ru, rw'⟩ := vals2 r
      cases rw'
      exact isinstD I sb rd ru (isTy_kit hk) fun tk => ⟨.bl b, H, I.tok tk, rfl, q⟩) hg hm PyProof.Rows.Boot.isinstance (pa_cons (ha.h B) (pa_cons (pe_bltn (v := .ty T) hg2 hm2 hv2 rfl hn2 hd2) pa_nil hs2) hs) (by decide) (by decide) hs hpl).imp fun σ H Q ⟨S, F, d, S', R, hg, q⟩ => by
  obtain ⟨⟨d1, S1⟩, h1, hg⟩ := bind_some' hg
  obtain ⟨k, h2, hg⟩ := map_some' hg
  cases hg
  exact ⟨S, F, d1, _, R, h1, fun v F1 H1 R1 st1 r1 => ⟨v, F1, d1, k, rfl, R1.sub, r1, isTys_one h2, q _ F1 H1 R1 st1 (.bl k)⟩⟩⟩
def boolsD : List D → Option (List Bool)
  | [] => some []
  | .bl b :: ds => (boolsD ds).map fun bs => b :: bs
  | _ => none
theorem boolsD_reps {F : Hp} : ∀ {vs : List V} {ds : List D} {bs : List Bool}, Reps F vs ds → boolsD ds = some bs → vs = bs.map V.bl
  | _, _, _, .nil, h => by cases h; rfl
  | _, _, _, @Reps.cons _ v d vs ds r rs, h => by
    cases d <;> try (simp [boolsD] at h; done)
    obtain ⟨bs, h1, h2⟩ := map_some' (show (boolsD ds).map _ = _ from h)
    subst h2
    rw [rep_bl r, boolsD_reps rs h1]
    rfl
def fAll : List D → Option U
  | [.lst ds] => (boolsD ds).map fun bs => .t (.bl (bs.all id))
  | _ => none
def fAny : List D → Option U
  | [.lst ds] => (boolsD ds).map fun bs => .t (.bl (bs.any id))
  | _ => none
theorem one_arg {P : D → Prop} {F : Hp} {xs : List V} {ds : List D} {f : List D → Option U} {w' : U} (rs : Reps F xs ds) (h : f ds = some w') (hn : f [] = none) (h2 : ∀ a b r, f (a :: b :: r) = none) : ∃ x d, xs = [x] ∧ ds = [d] ∧ Rep F x d := by
  cases rs with
  | nil => rw [hn] at h; cases h
  | cons r rs =>
    cases rs with
    | nil => exact ⟨_, _, rfl, rfl, r⟩
    | cons _ _ => rw [h2] at h; cases h
theorem call_allP (hc : X.calm = true) : CallR X (.builtin "all") (rP fAll) := by
  intro pins s σ H xs us Q I r ⟨F, ds, w, sb, rs, hw, q⟩
  obtain ⟨x, d, rfl, rfl, r1⟩ := one_arg (P := fun _ => True) rs hw rfl (fun d _ _ => by cases d <;> rfl)
  cases d <;> try (simp [fAll] at hw; done)
  rename_i ds
  obtain ⟨bs, h1, rfl⟩ := map_some' (show (boolsD ds).map _ = some w from hw)
  obtain ⟨a, vs, rfl, fa, ha, rs1⟩ := sb.lstAt r1
  obtain rfl := boolsD_reps rs1 h1
  exact call_allL hc pins s σ H _ us Q I r ⟨a, bs, rfl, .inl ha, q _ F H (New.refl ..) sb (.bl _)⟩
def fMin3 : List D → Option U
  | [.int i, .int j, .int k] => some (.t (.int (if j < i then (if k < j then k else j) else if k < i then k else i)))
  | _ => none
def fMin2 : List D → Option U
  | [.int i, .int j] => some (.t (.int (if j < i then j else i)))
  | _ => none
def fMax2 : List D → Option U
  | [.int i, .int j] => some (.t (.int (if j > i then j else i)))
  | _ => none
theorem call_max2P (hc : X.calm = true) : CallR X (.builtin "max") (rP fMax2) := by
  intro pins s σ H xs us Q I r ⟨F, ds, w, sb, rs, hw, q⟩
  unfold fMax2 at hw
  split at hw
  · rename_i i j
    cases hw
    cases rs with
    | cons r1 rs => cases rs with
      | cons r2 rs =>
        cases rs
        rw [rep_int r1, rep_int r2] at r
        exact call_max2 hc pins s σ H _ us Q I r ⟨i, j, rfl, q _ F H (New.refl ..) sb (.int _)⟩
  · cases hw
def fList : List D → Option U
  | [.tup ds] => some (.m (.lst ds))
  | [.lst ds] => some (.m (.lst ds))
  | _ => none
def fTuple : List D → Option U
  | [.tup ds] => some (.t (.tup ds))
  | [.lst ds] => some (.t (.tup ds))
  | _ => none
theorem call_listP : CallR X (.type "list") (rP fList) := by
  intro pins s σ H xs us Q I r ⟨F, ds, w, sb, rs, hw, q⟩
  obtain ⟨x, d, rfl, rfl, r1⟩ := one_arg (P := fun _ => True) rs hw rfl (fun d _ _ => by cases d <;> rfl)
  cases d <;> try (simp [fList] at hw; done)
  · cases hw
    obtain ⟨a, vs, rfl, fa, ha, rs1⟩ := sb.tupAt r1
    exact call_list_of pins s σ H _ us Q I r ⟨a, vs, rfl, .inr (.inl ha), fun p hp => q _ F _ (New.obj hp _) (sb.same (New.obj (F := F) hp _).same) ⟨p, rfl, hp, sb.fresh hp, vs, upd_same, rs1⟩⟩
  · cases hw
    obtain ⟨a, vs, rfl, fa, ha, rs1⟩ := sb.lstAt r1
    exact call_list_of pins s σ H _ us Q I r ⟨a, vs, rfl, .inl (.inl ha), fun p hp => q _ F _ (New.obj hp _) (sb.same (New.obj (F := F) hp _).same) ⟨p, rfl, hp, sb.fresh hp, vs, upd_same, rs1⟩⟩
end
end L2

end
section
set_option Elab.async false
set_option linter.all false
set_option maxRecDepth 100000
namespace L2
open PySem PySem.Spec PyProof.Rows
def keyOf : D → Option Key
  | .int i => some (.inl i)
  | .str z => some (.inr z)
  | _ => none
theorem keyOf_rep {F : Hp} {v : V} {d : D} {k : Key} (r : Rep F v d) (h : keyOf d = some k) : v = kV k := by
  cases r <;> cases h <;> rfl
def lookD {κ : Type} [DecidableEq κ] (kvs : List (κ × D)) (k : κ) : Option D := (kvs.find? fun kv => decide (kv.1 = k)).map (·.2)
def putD {κ : Type} [DecidableEq κ] (kvs : List (κ × D)) (k : κ) (d : D) : List (κ × D) :=
  if (kvs.any fun kv => decide (kv.1 = k)) = true then kvs.map (fun kv => if kv.1 = k then (kv.1, d) else kv) else kvs ++ [(k, d)]
theorem look_pair {κ : Type} [DecidableEq κ] {F : Hp} {k : κ} {d : D} : ∀ {ws : List (κ × V)} {kvs : List (κ × D)}, Paired (PairD F) ws kvs → lookD kvs k = some d → ∃ v, valV ws k = some v ∧ Rep F v d
  | _, _, .nil, h => by cases h
  | _, _, @Paired.cons _ _ _ p q ws kvs r rs, h => by
    by_cases e : q.1 = k
    · have e' : p.1 = k := r.1.trans e
      refine ⟨p.2, valV_pos e', ?_⟩
      have : lookD (q :: kvs) k = some q.2 := by simp [lookD, List.find?_cons, e]
      rw [this] at h
      cases h
      exact r.2
    · have e' : ¬ p.1 = k := fun z => e (r.1.symm.trans z)
      have : lookD (q :: kvs) k = lookD kvs k := by simp [lookD, List.find?_cons, e]
      rw [this] at h
      obtain ⟨v, h1, h2⟩ := look_pair rs h
      exact ⟨v, by rw [valV_neg e']; exact h1, h2⟩
theorem look_none {κ : Type} [DecidableEq κ] {F : Hp} {k : κ} : ∀ {ws : List (κ × V)} {kvs : List (κ × D)}, Paired (PairD F) ws kvs → lookD kvs k = none → valV ws k = none
  | _, _, .nil, h => rfl
  | _, _, @Paired.cons _ _ _ p q ws kvs r rs, h => by
    by_cases e : q.1 = k
    · have : lookD (q :: kvs) k = some q.2 := by simp [lookD, List.find?_cons, e]
      rw [this] at h
      cases h
    · have e' : ¬ p.1 = k := fun z => e (r.1.symm.trans z)
      have : lookD (q :: kvs) k = lookD kvs k := by simp [lookD, List.find?_cons, e]
      rw [this] at h
      rw [valV_neg e']
      exact look_none rs h
theorem any_pair {κ : Type} [DecidableEq κ] {F : Hp} {k : κ} : ∀ {ws : List (κ × V)} {kvs : List (κ × D)}, Paired (PairD F) ws kvs → (ws.any fun kv => decide (kv.1 = k)) = (kvs.any fun kv => decide (kv.1 = k))
  | _, _, .nil => rfl
  | _, _, .cons r rs => by rw [List.any_cons, List.any_cons, any_pair rs, r.1]
theorem map_pair {κ : Type} [DecidableEq κ] {F : Hp} {k : κ} {v : V} {d : D} (r : Rep F v d) : ∀ {ws : List (κ × V)} {kvs : List (κ × D)}, Paired (PairD F) ws kvs → Paired (PairD F) (ws.map fun kv => if kv.1 = k then (kv.1, v) else kv) (kvs.map fun kv => if kv.1 = k then (kv.1, d) else kv)
  | _, _, .nil => .nil
  | _, _, @Paired.cons _ _ _ p q ws kvs h hs => by
    refine .cons ?_ (map_pair r hs)
    show PairD F (if p.1 = k then (p.1, v) else p) (if q.1 = k then (q.1, d) else q)
    rw [h.1]
    by_cases e : q.1 = k
    · rw [if_pos e, if_pos e]; exact ⟨rfl, r⟩
    · rw [if_neg e, if_neg e]; exact h
theorem paired_snoc {α β : Type} {P : α → β → Prop} {x : α} {y : β} (p : P x y) : ∀ {l : List α} {r : List β}, Paired P l r → Paired P (l ++ [x]) (r ++ [y])
  | _, _, .nil => .cons p .nil
  | _, _, .cons q qs => .cons q (paired_snoc p qs)
theorem put_pair {κ : Type} [DecidableEq κ] {F : Hp} {k : κ} {v : V} {d : D} {ws : List (κ × V)} {kvs : List (κ × D)} (h : Paired (PairD F) ws kvs) (r : Rep F v d) : Paired (PairD F) (putK ws k v) (putD kvs k d) := by
  unfold putK putD
  rw [any_pair h]
  by_cases e : (kvs.any fun kv => decide (kv.1 = k)) = true
  · rw [if_pos e, if_pos e]; exact map_pair r h
  · rw [if_neg e, if_neg e]; exact paired_snoc ⟨rfl, r⟩ h
def keysOf : List D → Option (List Key)
  | [] => some []
  | d :: ds => (keyOf d).bind fun k => (keysOf ds).map fun ks => k :: ks
def keyT : D → Option (List Key)
  | .tup ds => keysOf ds
  | _ => none
theorem keysOf_reps {F : Hp} : ∀ {vs : List V} {ds : List D} {ks : List Key}, Reps F vs ds → keysOf ds = some ks → vs = ks.map kV
  | _, _, _, .nil, h => by cases h; rfl
  | _, _, _, .cons r rs, h => by
    obtain ⟨k, h1, h⟩ := bind_some' h
    obtain ⟨ks, h2, rfl⟩ := map_some' h
    rw [keyOf_rep r h1, keysOf_reps rs h2]
    rfl
theorem keyT_rep {F H : Hp} {v : V} {d : D} {ks : List Key} (sb : Sub F H) (r : Rep F v d) (h : keyT d = some ks) : ∃ b, v = .ref b ∧ H b = some (.tup (ks.map kV)) := by
  cases r with
  | tup e rs => exact ⟨_, rfl, by rw [← keysOf_reps rs h]; exact sb _ _ e⟩
  | non => cases h
  | bl _ => cases h
  | int _ => cases h
  | str _ => cases h
  | lst _ _ => cases h
def readU : U → D → Option D
  | .t (.tup ds), .int i => atI ds i
  | .t (.lst ds), .int i => atI ds i
  | .m (.lst ds), .int i => atI ds i
  | .b (.lst ds), .int i => atI ds i
  | .s ns, .int i => (atI ns i).map D.int
  | .m (.dct kvs), k => (keyOf k).bind (lookD kvs)
  | .b (.dct kvs), k => (keyOf k).bind (lookD kvs)
  | .m (.dtt kvs), k => (keyT k).bind (lookD kvs)
  | .b (.dtt kvs), k => (keyT k).bind (lookD kvs)
  | _, _ => none
def eSub (i : Nat) (gb : GD) : GD := fun S => match S[i]? with
  | some (some _) => (gb S).bind fun p => match p.2[i]? with
    | some (some u) => (readU u p.1).map fun d => (d, p.2)
    | _ => none
  | _ => none
theorem atI_map {α β : Type} (f : α → β) {l : List α} {i : Int} {x : α} (h : atI l i = some x) : atI (l.map f) i = some (f x) := by
  unfold atI at h ⊢
  rw [List.length_map]
  obtain ⟨j, h1, h2⟩ := bind_some' h
  rw [h1]
  show (l.map f)[j]? = _
  rw [List.getElem?_map, h2]
  rfl
section
variable {X : Cx} {a b c e value : Expr} {es : List Expr} {pos p p2 px pos' : Pos} {x y : Str} {g ga gb gc gk gv : GD} {gA : GA}
theorem jd_sub {i : Nat} (hu : X.A.units + 1 < cLine) (hb : JD X b gb) (hs : PlainIx b := by first | (intro _ _; rfl)) (hN : X.N[i]? = some x := by rfl) (hv : Vis X.env.scope x := by first | exact Or.inl rfl | exact Or.inr (Or.inl rfl) | exact Or.inr (Or.inr rfl))
    (hd : (x == ("__debug__" : Str)) = false := by decide) (hcd : (x == ("__classdict__" : Str)) = false := by decide) : JD X (.Subscript (.Name x px) b pos) (eSub i gb) := ⟨fun B => PE.orelse fun σ H Q ⟨S, F, d, S', R, hg, q⟩ => by
  unfold eSub at hg
  split at hg
  · rename_i u0 hS0
    obtain ⟨v0, hv0, _⟩ := R.rep i u0 hS0
    obtain ⟨⟨k, S1⟩, h1, hg⟩ := bind_some' hg
    dsimp only at hg
    split at hg
    · rename_i u hS
      obtain ⟨d', hr, hg⟩ := map_some' hg
      cases hg
      have at1 : ∀ F1 H1, Rel X.K B S' σ F1 H1 → RepU X.K F1 H1 v0 u := fun F1 H1 R1 => by
        obtain ⟨v, k1, k2⟩ := R1.rep i u hS
        rw [hv0] at k1
        cases k1
        exact k2
      have seq : ∀ (Y : V → V → Hp → VK → Prop), PE X (.Subscript (.Name x px) b pos) (tOp Y (tVar i) (tD X.K B gb)) → (∀ v F1 H1, Rel X.K B S' σ F1 H1 → Step S S' σ F H F1 H1 → Rep F1 v k → Y v0 v H1 Q) → ∃ t', PE X (.Subscript (.Name x px) b pos) t' ∧ t' σ H Q := fun Y hY h =>
        ⟨_, hY, v0, hv0, S, F, k, S', R, h1, fun v F1 H1 R1 st1 r1 => h v F1 H1 R1 st1 r1⟩
      have dict : ∀ kvs, (∀ F1 H1, Rel X.K B S' σ F1 H1 → ∃ a ws, v0 = .ref a ∧ H1 a = some (.dK ws) ∧ Paired (PairD F1) ws kvs) → (keyOf k).bind (lookD kvs) = some d → ∃ t', PE X (.Subscript (.Name x px) b pos) t' ∧ t' σ H Q := fun kvs hat hr => by
        obtain ⟨kk, e1, e2⟩ := bind_some' hr
        refine ⟨_, pe_dget hu (pe_var hN hv hd hcd) (hb.h B) hs, v0, hv0, S, F, k, S', R, h1, fun v F1 H1 R1 st1 r1 => ?_⟩
        obtain ⟨a, ws, rfl, ha, pr⟩ := hat F1 H1 R1
        obtain ⟨w', z1, z2⟩ := look_pair pr e2
        rw [keyOf_rep r1 e1]
        exact ⟨a, w', rfl, by rw [← z1]; exact DGet.k ha, q w' F1 H1 R1 st1 z2⟩
      have dictT : ∀ kvs, (∀ F1 H1, Rel X.K B S' σ F1 H1 → ∃ a ws, v0 = .ref a ∧ H1 a = some (.dT ws) ∧ Paired (PairD F1) ws kvs) → (keyT k).bind (lookD kvs) = some d → ∃ t', PE X (.Subscript (.Name x px) b pos) t' ∧ t' σ H Q := fun kvs hat hr => by
        obtain ⟨kk, e1, e2⟩ := bind_some' hr
        refine ⟨_, pe_dget hu (pe_var hN hv hd hcd) (hb.h B) hs, v0, hv0, S, F, k, S', R, h1, fun v F1 H1 R1 st1 r1 => ?_⟩
        obtain ⟨a, ws, rfl, ha, pr⟩ := hat F1 H1 R1
        obtain ⟨w', z1, z2⟩ := look_pair pr e2
        obtain ⟨b', rfl, hb'⟩ := keyT_rep R1.sub r1 e1
        exact ⟨a, w', rfl, by rw [← z1]; exact DGet.t ha hb', q w' F1 H1 R1 st1 z2⟩
      have list : ∀ ds ii, k = .int ii → atI ds ii = some d → (∀ F1 H1, Rel X.K B S' σ F1 H1 → ∃ a vs, v0 = .ref a ∧ (SqL X.K H1 a vs ∨ SqT X.K H1 a vs) ∧ Reps F1 vs ds) → ∃ t', PE X (.Subscript (.Name x px) b pos) t' ∧ t' σ H Q := fun ds ii ek hrr hat => by
        subst ek
        refine seq _ (pe_ix ix_seq (pe_var hN hv hd hcd) (hb.h B) hs) fun v F1 H1 R1 st1 r1 => ?_
        obtain ⟨a, vs, rfl, ha, rs⟩ := hat F1 H1 R1
        obtain ⟨w', z1, z2⟩ := rs.atI hrr
        rw [rep_int r1]
        rcases ha with ha | ha
        · exact .inl ⟨a, vs, ii, w', rfl, rfl, ha, z1, q w' F1 H1 R1 st1 z2⟩
        · exact .inr (.inl ⟨a, vs, ii, w', rfl, rfl, ha, z1, q w' F1 H1 R1 st1 z2⟩)
      unfold readU at hr
      split at hr
      · rename_i ds ii
        exact list ds ii rfl hr fun F1 H1 R1 => let ⟨a, vs, e1, fa, ha, rs⟩ := R1.sub.tupAt (at1 F1 H1 R1); ⟨a, vs, e1, .inr (.inl ha), rs⟩
      · rename_i ds ii
        exact list ds ii rfl hr fun F1 H1 R1 => let ⟨a, vs, e1, fa, ha, rs⟩ := R1.sub.lstAt (at1 F1 H1 R1); ⟨a, vs, e1, .inl (.inl ha), rs⟩
      · rename_i ds ii
        exact list ds ii rfl hr fun F1 H1 R1 => let ⟨a, e1, fa, vs, ha, rs⟩ := at1 F1 H1 R1; ⟨a, vs, e1, .inl (SqL.of ha), rs⟩
      · rename_i ds ii
        exact list ds ii rfl hr fun F1 H1 R1 => let ⟨a, e1, fa, vs, ha, rs⟩ := at1 F1 H1 R1; ⟨a, vs, e1, .inl (SqL.of ha), rs⟩
      · rename_i ns ii
        obtain ⟨n, z1, z2⟩ := map_some' hr
        subst z2
        refine seq _ (pe_ix ix_seq (pe_var hN hv hd hcd) (hb.h B) hs) fun v F1 H1 R1 st1 r1 => ?_
        obtain ⟨a, e1, ha⟩ := at1 F1 H1 R1
        rw [rep_int r1]
        exact .inl ⟨a, ns.map V.int, ii, .int n, e1, rfl, ha.sq, atI_map V.int z1, q _ F1 H1 R1 st1 (.int n)⟩
      · rename_i kvs
        exact dict kvs (fun F1 H1 R1 => let ⟨a, e1, fa, ws, ha, pr⟩ := at1 F1 H1 R1; ⟨a, ws, e1, ha, pr⟩) hr
      · rename_i kvs
        exact dict kvs (fun F1 H1 R1 => let ⟨a, e1, fa, ws, ha, pr⟩ := at1 F1 H1 R1; ⟨a, ws, e1, ha, pr⟩) hr
      · rename_i kvs
        exact dictT kvs (fun F1 H1 R1 => let ⟨a, e1, fa, ws, ha, pr⟩ := at1 F1 H1 R1; ⟨a, ws, e1, ha, pr⟩) hr
      · rename_i kvs
        exact dictT kvs (fun F1 H1 R1 => let ⟨a, e1, fa, ws, ha, pr⟩ := at1 F1 H1 R1; ⟨a, ws, e1, ha, pr⟩) hr
      · cases hr
    · cases hg
  · cases hg⟩
def lenU : U → Option Nat
  | .t (.tup ds) => some ds.length
  | .t (.lst ds) => some ds.length
  | .t (.str z) => if z.length ≤ 100000 then some z.length else none
  | .m (.lst ds) => some ds.length
  | .b (.lst ds) => some ds.length
  | .m (.dct ds) => some ds.length
  | .b (.dct ds) => some ds.length
  | .s ns => some ns.length
  | _ => none
def eLen (i : Nat) : GD := fun S => match S[i]? with
  | some (some u) => (lenU u).map fun n => (.int (n : Nat), S)
  | _ => none
theorem paired_length {α β : Type} {P : α → β → Prop} : ∀ {l : List α} {r : List β}, Paired P l r → l.length = r.length
  | _, _, .nil => rfl
  | _, _, .cons _ ps => congrArg Nat.succ (paired_length ps)
theorem jd_len {i : Nat} (hg : Gl X "len") (hm : X.mg "len" = none) (hN : X.N[i]? = some x := by rfl) (hv : Vis X.env.scope x := by first | exact Or.inl rfl | exact Or.inr (Or.inl rfl) | exact Or.inr (Or.inr rfl))
    (hd : (x == ("__debug__" : Str)) = false := by decide) (hcd : (x == ("__classdict__" : Str)) = false := by decide) (he : starEach [.Name x px] X.env = (false, eval (.Name x px) X.env) :: starEach [] X.env := by rfl) (hpl : (backTo pos (starEach [] X.env)).any (·.1) = false := by rfl) :
    JD X (.Call (.Name "len" p) [.Name x px] [] pos) (eLen i) := ⟨fun B => PE.orelse fun σ H Q ⟨S, F, d, S', R, hg', q⟩ => by
  unfold eLen at hg'
  split at hg'
  · rename_i u hS
    obtain ⟨n, hn, hg'⟩ := map_some' hg'
    cases hg'
    obtain ⟨v0, hv0, r0⟩ := R.rep i u hS
    have fin := q (.int n) F H R (Step.refl ..) (.int _)
    have arg : PA X [.Name x px] (tCons (tVar i) tNil) := pa_cons (pe_var hN hv hd hcd) pa_nil he
    have list : ∀ a vs, v0 = .ref a → (SqL X.K H a vs ∨ SqT X.K H a vs) → vs.length = n → ∃ t', PE X (.Call (.Name "len" p) [.Name x px] [] pos) t' ∧ t' σ H Q := fun a vs e1 ha hl =>
      ⟨_, pe_callB call_len_seq hg hm PySem.boot_len arg (by decide) (by decide) he hpl, v0, hv0, a, vs, by rw [e1], ha, by rw [hl]; exact fin⟩
    have dict : ∀ a ws, v0 = .ref a → H a = some (.dK ws) → ws.length = n → ∃ t', PE X (.Call (.Name "len" p) [.Name x px] [] pos) t' ∧ t' σ H Q := fun a vs e1 ha hl =>
      ⟨_, pe_callB call_lenD hg hm PySem.boot_len arg (by decide) (by decide) he hpl, v0, hv0, a, vs, by rw [e1], ha, by rw [hl]; exact fin⟩
    unfold lenU at hn
    split at hn
    · cases hn; obtain ⟨a, vs, e1, fa, ha, rs⟩ := R.sub.tupAt r0; exact list a vs e1 (.inr (.inl ha)) rs.length
    · cases hn; obtain ⟨a, vs, e1, fa, ha, rs⟩ := R.sub.lstAt r0; exact list a vs e1 (.inl (.inl ha)) rs.length
    · rename_i z
      obtain ⟨hl, rfl⟩ := ite_some hn
      exact ⟨_, pe_callB call_len_str hg hm PySem.boot_len arg (by decide) (by decide) he hpl, v0, hv0, z, by rw [rep_str r0], line_of hl, fin⟩
    · cases hn; obtain ⟨a, e1, fa, vs, ha, rs⟩ := r0; exact list a vs e1 (.inl (SqL.of ha)) rs.length
    · cases hn; obtain ⟨a, e1, fa, vs, ha, rs⟩ := r0; exact list a vs e1 (.inl (SqL.of ha)) rs.length
    · cases hn; obtain ⟨a, e1, fa, ws, ha, pr⟩ := r0; exact dict a ws e1 ha (paired_length pr)
    · cases hn; obtain ⟨a, e1, fa, ws, ha, pr⟩ := r0; exact dict a ws e1 ha (paired_length pr)
    · cases hn; obtain ⟨a, e1, ha⟩ := r0; exact list a _ e1 (.inl ha.sq) (by simp)
    · cases hn
  · cases hg'⟩
end
end L2

end
section
set_option Elab.async false
set_option linter.all false
set_option maxRecDepth 100000
namespace L2
open PySem PySem.Spec PyProof.Rows
def writeU (o : MO) (k d : D) : Option MO := match o with
  | .dct kvs => (keyOf k).bind fun kk => if kvs.length < 100000 then some (.dct (putD kvs kk d)) else none
  | .dtt kvs => (keyT k).bind fun kk => if kvs.length < 100000 then some (.dtt (putD kvs kk d)) else none
  | .lst ds => match k with
    | .int i => (ixN ds.length i).map fun j => .lst (ds.set j d)
    | _ => none
def sPut (i : Nat) (gk gv : GD) : GS := fun S => (gv S).bind fun p => match p.2[i]? with
  | some (some _) => (gk p.2).bind fun r => (mutU r.2 i fun o => (writeU o r.1 p.1).map fun o' => (.non, o')).map fun z => .nx z.2
  | _ => none
theorem Reps.set {F : Hp} {v : V} {d : D} (r : Rep F v d) : ∀ {vs : List V} {ds : List D} (j : Nat), Reps F vs ds → Reps F (vs.set j v) (ds.set j d)
  | _, _, _, .nil => .nil
  | _, _, 0, .cons _ rs => .cons r rs
  | _, _, j + 1, .cons q rs => .cons q (Reps.set r j rs)
section
variable {X : Cx} {a b c e value k : Expr} {es : List Expr} {pos p p2 px pos' : Pos} {x y : Str} {g ga gb gc gk gv : GD} {gA : GA}
theorem js_put {i : Nat} (hu : X.A.units + 1 < cLine) (hk : JD X k gk) (hval : JD X value gv) (hN : X.N[i]? = some x := by rfl) (hv : Vis X.env.scope x := by first | exact Or.inl rfl | exact Or.inr (Or.inl rfl) | exact Or.inr (Or.inr rfl))
    (hd : (x == ("__debug__" : Str)) = false := by decide) (hcd : (x == ("__classdict__" : Str)) = false := by decide)
    (hs : swapsWith value (some (.Subscript (.Name x px) k pos')) pos.line X.env = pure false := by rfl)
    (hs1 : swapsWithSole [.Subscript (.Name x px) k pos'] value pos.line X.env = pure false := by rfl) (hs2 : swappedStores [.Subscript (.Name x px) k pos'] value X.env = pure none := by rfl)
    (hs3 : (assignEach [.Subscript (.Name x px) k pos'] X.env).map (·.2) = [assign (.Subscript (.Name x px) k pos') X.env] := by rfl)
    (hs4 : ∀ v, assign (.Subscript (.Name x px) k pos') X.env v = (do
      let ov ← holding [v] (eval (.Name x px) X.env)
      let iv ← holding [v, ov] (eval k X.env)
      standAt pos'
      holding [v, ov, iv] (setItem ov iv v)
      release [v, ov, iv] []) := by intro _; rfl) :
    JS X (.Assign [.Subscript (.Name x px) k pos'] value pos) (sPut i gk gv) := ⟨fun B => PS.orelse fun D σ H ⟨S, F, o, R, hg, q⟩ => by
  obtain ⟨⟨d, S1⟩, h1, hg⟩ := bind_some' hg
  dsimp only at hg
  split at hg
  · rename_i u0 hS0
    obtain ⟨⟨kd, S2⟩, h2, hg⟩ := bind_some' hg
    obtain ⟨⟨nd, S3⟩, h3, hg⟩ := map_some' hg
    subst hg
    obtain ⟨u, u', mo, mo', hS, hmu, hio, hf, hre, rfl⟩ := mutU_some h3
    obtain ⟨mo2, hw, hf2⟩ := map_some' hf
    cases hf2
    have hv0 : ∀ F1 H1, Rel X.K B S1 σ F1 H1 → ∃ v, σ[i]? = some (some v) := fun F1 H1 R1 => let ⟨v, k1, _⟩ := R1.rep i u0 hS0; ⟨v, k1⟩
    cases mo with
    | dct kvs =>
      obtain ⟨kk, e1, hw⟩ := bind_some' hw
      obtain ⟨hl, rfl⟩ := ite_some hw
      refine ⟨_, ps_dput hu (pe_var hN hv hd hcd) (hk.h B) (hval.h B) hs, S, F, d, S1, R, h1, fun v F1 H1 R1 st1 r1 => ?_⟩
      obtain ⟨v0, hv0⟩ := hv0 F1 H1 R1
      refine ⟨v0, hv0, S1, F1, kd, S2, R1, h2, fun y F2 H2 R2 st2 r2 => ?_⟩
      obtain ⟨v', k1, k2⟩ := R2.rep i u hS
      rw [hv0] at k1
      cases k1
      obtain ⟨a, o2, rfl, fa, eo, k3⟩ := k2.mutAt hmu
      rw [hio] at eo
      cases eo
      obtain ⟨ws, ha, pr⟩ := k3
      rw [keyOf_rep r2 e1]
      refine ⟨a, _, rfl, DPut.k ha (by rw [paired_length pr]; exact Nat.lt_of_lt_of_le hl (by decide)), ?_⟩
      obtain ⟨R3, st3⟩ := R2.write (ho := .dK (putK ws kk v)) hS hre hv0 ⟨_, upd_same, put_pair pr (r1.le st2.ext.le)⟩
      exact q σ F2 _ R3 fun b o z => st2.ext.le b o (st1.ext.le b o z)
    | dtt kvs =>
      obtain ⟨kk, e1, hw⟩ := bind_some' hw
      obtain ⟨hl, rfl⟩ := ite_some hw
      refine ⟨_, ps_dput hu (pe_var hN hv hd hcd) (hk.h B) (hval.h B) hs, S, F, d, S1, R, h1, fun v F1 H1 R1 st1 r1 => ?_⟩
      obtain ⟨v0, hv0⟩ := hv0 F1 H1 R1
      refine ⟨v0, hv0, S1, F1, kd, S2, R1, h2, fun y F2 H2 R2 st2 r2 => ?_⟩
      obtain ⟨v', k1, k2⟩ := R2.rep i u hS
      rw [hv0] at k1
      cases k1
      obtain ⟨a, o2, rfl, fa, eo, k3⟩ := k2.mutAt hmu
      rw [hio] at eo
      cases eo
      obtain ⟨ws, ha, pr⟩ := k3
      obtain ⟨b', rfl, hb'⟩ := keyT_rep R2.sub r2 e1
      refine ⟨a, _, rfl, DPut.t ha hb' (by rw [paired_length pr]; exact Nat.lt_of_lt_of_le hl (by decide)), ?_⟩
      obtain ⟨R3, st3⟩ := R2.write (ho := .dT (putK ws kk v)) hS hre hv0 ⟨_, upd_same, put_pair pr (r1.le st2.ext.le)⟩
      exact q σ F2 _ R3 fun b o z => st2.ext.le b o (st1.ext.le b o z)
    | lst ds =>
      unfold writeU at hw
      dsimp only at hw
      split at hw
      · rename_i ii
        obtain ⟨j, e1, rfl⟩ := map_some' hw
        refine ⟨_, ps_asg (hval.h B) (pg_sub (pe_var hN hv hd hcd) (hk.h B) set_list hs4) hs1 hs2 hs3, S, F, d, S1, R, h1, fun v F1 H1 R1 st1 r1 => ?_⟩
        obtain ⟨v0, hv0⟩ := hv0 F1 H1 R1
        refine ⟨v0, hv0, S1, F1, _, S2, R1, h2, fun y F2 H2 R2 st2 r2 => ?_⟩
        obtain ⟨v', k1, k2⟩ := R2.rep i u hS
        rw [hv0] at k1
        cases k1
        obtain ⟨a, o2, rfl, fa, eo, k3⟩ := k2.mutAt hmu
        rw [hio] at eo
        cases eo
        obtain ⟨vs, ha, rs⟩ := k3
        rw [rep_int r2]
        refine ⟨a, vs, _, j, rfl, rfl, ha, by rw [rs.length]; exact e1, ?_⟩
        obtain ⟨R3, st3⟩ := R2.write (ho := .lst (vs.set j v)) hS hre hv0 ⟨_, upd_same, rs.set (r1.le st2.ext.le) j⟩
        exact q σ F2 _ R3 fun b o z => st2.ext.le b o (st1.ext.le b o z)
      · cases hw
  · cases hg⟩
theorem Rel.poke {K : PySem.W.Frag} {B : Base} {S : SS} {σ : St} {F H : Hp} {a : Addr} {o o' : HO} (R : Rel K B S σ F H) (hn : ¬ mutAt S σ a) (hf : F a = none) (hB : B.H a = none) (hh : H a = some o) (hz : ∀ ob u, o ≠ .frz ob u) : Rel K B S σ F (upd H a o') := by
  have kfz : ∀ b ob w, H b = some (.frz ob w) → upd H a o' b = some (.frz ob w) := fun b ob w z => by
    rw [upd_ne (fun e => by rw [e, hh] at z; cases z; exact hz _ _ rfl)]; exact z
  refine ⟨fun b u z => ?_, R.len, fun j w z => ?_, R.dis, R.own, R.bor, R.par, ⟨R.ext.le, fun b u z n => ?_, R.ext.nofr, fun b u z => ?_, fun b ob w z => kfz b ob w (R.ext.frz b ob w z)⟩⟩
  · have hb : b ≠ a := fun e => by rw [e, hf] at z; cases z
    rw [upd_ne hb]; exact R.sub b u z
  · obtain ⟨v, h1, h2⟩ := R.rep j w z
    refine ⟨v, h1, h2.le (fun _ _ z => z) kfz fun c hm hc => ?_⟩
    have hca : c ≠ a := fun e => hn ⟨j, w, z, hm, by rw [h1, hc, e]⟩
    obtain ⟨c', _, e, f, _⟩ := h2.mutAt hm
    rw [hc] at e
    cases e
    exact ⟨fun o z => by rw [upd_ne hca]; exact z, f⟩
  · rw [upd_ne (fun e => by rw [e, hB] at z; cases z)]; exact R.ext.keep b u z n
  · by_cases hb : b = a
    · exact ⟨o', by rw [hb, upd_same]⟩
    · rw [upd_ne hb]; exact R.ext.there b u z
def ePairs : List (Str × GD) → SS → Option (List (Key × D) × SS)
  | [], S => some ([], S)
  | (z, g) :: r, S => (g S).bind fun p => (ePairs r p.2).map fun q => ((.inr z, p.1) :: q.1, q.2)
def mergeD (kvs more : List (Key × D)) : List (Key × D) := more.foldl (fun acc kv => putD acc kv.1 kv.2) kvs
theorem merge_pair {F : Hp} : ∀ {more : List (Key × V)} {mored : List (Key × D)} {ws : List (Key × V)} {kvs : List (Key × D)}, Paired (PairD F) more mored → Paired (PairD F) ws kvs → Paired (PairD F) (mergeK ws more) (mergeD kvs mored)
  | _, _, _, _, .nil, h => h
  | _, _, ws, kvs, @Paired.cons _ _ _ p q _ _ r rs, h => by
    have e := put_pair (k := q.1) h r.2
    show Paired (PairD F) (mergeK (putK ws p.1 p.2) _) (mergeD (putD kvs q.1 q.2) _)
    rw [r.1]
    exact merge_pair rs e
def eDict (kgs : List (Str × GD)) : GE := fun S => (ePairs kgs S).map fun p => (.m (.dct (mergeD [] p.1)), p.2)
structure JPs (X : Cx) (pos : Pos) (keys : List (Option Expr)) (values : List Expr) (kgs : List (Str × GD)) : Prop where
  h : ∀ B, PPs X pos keys values (kgs.map fun p => (tC (.str p.1), tD X.K B p.2))
theorem jps_nil : JPs X pos [] [] [] := ⟨fun B => pps_nil⟩
theorem jps_cons {z : Str} {j : Nat} {pk : Pos} {v : Expr} {ks : List (Option Expr)} {vs : List Expr} {kgs : List (Str × GD)} (hv : JD X v g) (hr : JPs X pos ks vs kgs) : JPs X pos (some (.Constant (.str z) j pk) :: ks) (v :: vs) ((z, g) :: kgs) := ⟨fun B => pps_cons pe_str (hv.h B) (hr.h B)⟩
theorem pairs_ok {B : Base} {σ : St} : ∀ {kgs : List (Str × GD)} {S0 S : SS} {F0 H0 F H : Hp} {kvs : List (Key × D)} {S' : SS} {Q : List (V × V) → Hp → Prop}, Rel X.K B S σ F H → Step S0 S σ F0 H0 F H → ePairs kgs S = some (kvs, S') →
    (∀ (ws : List (Key × V)) (F' H' : Hp), Rel X.K B S' σ F' H' → Step S0 S' σ F0 H0 F' H' → Paired (PairD F') ws kvs → Q (ws.map fun kv => (kV kv.1, kv.2)) H') → tPairs (kgs.map fun p => (tC (.str p.1), tD X.K B p.2)) σ H Q
  | [], S0, S, F0, H0, F, H, kvs, S', Q, R, st, h, q => by cases h; exact q [] F H R st .nil
  | (z, g) :: r, S0, S, F0, H0, F, H, kvs, S', Q, R, st, h, q => by
    obtain ⟨⟨d, S1⟩, h1, h⟩ := bind_some' h
    obtain ⟨⟨kvs2, S2⟩, h2, h⟩ := map_some' h
    cases h
    show tC (.str z) σ H fun x H1 => tD X.K B g σ H1 fun y H2 => tPairs _ σ H2 fun ps H3 => Q ((x, y) :: ps) H3
    refine ⟨S, F, d, S1, R, h1, fun v F1 H1 R1 st1 r1 => ?_⟩
    refine pairs_ok (S0 := S1) (F0 := F1) (H0 := H1) R1 (Step.refl ..) h2 fun ws F2 H2 R2 st2 pr => ?_
    exact q ((.inr z, v) :: ws) F2 H2 R2 ((st.trans st1).trans st2) (.cons ⟨rfl, r1.le st2.ext.le⟩ pr)
theorem je_dict {keys : List (Option Expr)} {values : List Expr} {kgs : List (Str × GD)} (h : JPs X pos keys values kgs) (hall : keys.all (·.isSome) = true := by rfl) (hl : keys.length = values.length := by rfl) (h0 : keys ≠ [] := by decide) (h15 : keys.length ≤ 15 := by decide) (hk : kgs.length ≤ 15 := by decide) :
    JE X (.Dict keys values pos) (eDict kgs) := ⟨fun B => (pe_disp (h.h B) hall hl h0 h15).imp fun σ H Q ⟨S, F, u, S', R, hg, q⟩ => by
  obtain ⟨⟨kvs, S1⟩, h1, hg⟩ := map_some' hg
  cases hg
  intro p hp
  have n := New.obj (F := F) hp (.dK [])
  have hn : ¬ mutAt S σ p := fun m => by obtain ⟨o, ho⟩ := R.has m; rw [hp] at ho; cases ho
  refine pairs_ok (S0 := S) (F0 := F) (H0 := upd H p (.dK [])) (R.new n (R.sub.same n.same)) (Step.refl ..) h1 fun ws F1 H1 R1 st1 pr => ?_
  have hp1 : H1 p = some (.dK []) := st1.ext.keep p _ upd_same hn
  have hf1 : F1 p = none := st1.ext.nofr p _ upd_same hn (R.sub.fresh hp)
  have hn1 : ¬ mutAt S1 σ p := fun m => hn (st1.mu p m)
  have hB : B.H p = none := none_of R.ext.there hp
  have len : ws.length ≤ 15 := by
    rw [paired_length pr]
    have : ∀ {kgs : List (Str × GD)} {S : SS} {kvs : List (Key × D)} {S' : SS}, ePairs kgs S = some (kvs, S') → kvs.length = kgs.length := fun {kgs} => by
      induction kgs with
      | nil => intro S kvs S' h; cases h; rfl
      | cons p r ih =>
        intro S kvs S' h
        obtain ⟨⟨d, T1⟩, k1, h⟩ := bind_some' (show (p.2 S).bind _ = _ from h)
        obtain ⟨⟨kv2, T2⟩, k2, h⟩ := map_some' h
        cases h
        show kv2.length + 1 = r.length + 1
        rw [ih k2]
    rw [this h1]
    exact hk
  refine ⟨hp1, ws, rfl, len, ?_⟩
  have R2 := R1.poke (o' := .dK (mergeK [] ws)) hn1 hf1 hB hp1 (fun _ _ z => by cases z)
  refine q (.ref p) F1 _ R2 ⟨⟨st1.ext.le, fun b o z m => ?_, fun b o z m f => ?_, fun b o z => ?_, fun b ob w z => ?_⟩, st1.mu, st1.slots⟩ ⟨p, rfl, hp, hf1, ⟨_, upd_same, merge_pair pr .nil⟩, hn1, hB⟩
  · have hb : b ≠ p := ne_of_none z hp
    rw [upd_ne hb]
    exact st1.ext.keep b o (by rw [upd_ne hb]; exact z) m
  · have hb : b ≠ p := ne_of_none z hp
    exact st1.ext.nofr b o (by rw [upd_ne hb]; exact z) m f
  · have hb : b ≠ p := ne_of_none z hp
    rw [upd_ne hb]
    exact st1.ext.there b o (by rw [upd_ne hb]; exact z)
  · have hb : b ≠ p := ne_of_none z hp
    rw [upd_ne hb]
    exact st1.ext.frz b ob w (by rw [upd_ne hb]; exact z)⟩
end
end L2

end
section
set_option Elab.async false
set_option linter.all false
set_option maxRecDepth 100000
namespace L2
open PySem PySem.Spec PyProof.Rows
def oPart (g : Option GD) (S : SS) : Option (Option Int × SS) := match g with
  | none => some (none, S)
  | some g => (g S).bind fun p => match p.1 with
    | .int i => some (some i, p.2)
    | _ => none
def tPO (K : PySem.W.Frag) (B : Base) (g : Option GD) : TO := fun σ H Q => ∃ S F o S', Rel K B S σ F H ∧ oPart g S = some (o, S') ∧ ∀ F' H', Rel K B S' σ F' H' → Step S S' σ F H F' H' → Q o H'
structure JO (X : Cx) (e : Option Expr) (g : Option GD) : Prop where
  h : ∀ B, PO X e (tPO X.K B g)
theorem PO.imp {X : Cx} {e : Option Expr} {t t' : TO} (h : PO X e t) (k : ∀ σ H Q, t' σ H Q → t σ H Q) : PO X e t' := fun pins s σ H Q I q => h pins s σ H Q I (k σ H Q q)
theorem jo_none {X : Cx} : JO X none none := ⟨fun B => po_none.imp fun σ H Q ⟨S, F, o, S', R, h, q⟩ => by cases h; exact q F H R (Step.refl ..)⟩
theorem jo_some {X : Cx} {e : Expr} {g : GD} (h : JD X e g) : JO X (some e) (some g) := ⟨fun B => (po_some (h.h B)).imp fun σ H Q ⟨S, F, o, S', R, h, q⟩ => by
  obtain ⟨⟨d, S1⟩, h1, h⟩ := bind_some' (show (g S).bind _ = _ from h)
  cases d <;> try (cases h)
  exact ⟨S, F, _, _, R, h1, fun v F1 H1 R1 st1 r1 => ⟨_, rep_int r1, q F1 H1 R1 st1⟩⟩⟩
def fSl (d : D) (lo hi : Option Int) : Option U := match d with
  | .tup ds => some (.t (.tup (cutD ds lo hi)))
  | .lst ds => some (.m (.lst (cutD ds lo hi)))
  | .str z => if z.length ≤ 100000 then some (.t (.str (Txt.slice z lo hi))) else none
  | _ => none
theorem Reps.cut {F : Hp} {vs : List V} {ds : List D} (rs : Reps F vs ds) (lo hi : Option Int) : Reps F (cutV vs lo hi) (cutD ds lo hi) := by
  unfold cutV cutD
  rw [rs.length]
  exact (rs.drop _).take _
def rSlP : V → Option Int → Option Int → Hp → VK → Prop := fun x lo hi H Q => ∃ F d u, Sub F H ∧ Rep F x d ∧ fSl d lo hi = some u ∧ ∀ v F' H', New F H F' H' → Sub F' H' → RepN H F' H' v u → Q v H'
theorem sl_P {X : Cx} : SlR X rSlP := by
  intro pins s σ H x v vl vu lo hi sl Q I rx hs pl pu ⟨F, d, u, sb, r, hf, q⟩
  cases d with
  | tup ds =>
    cases hf
    have r0 := r
    obtain ⟨a, xs, rfl, fa, ha, rs⟩ := sb.tupAt r
    have hl := rs.length
    by_cases hw : HT.sIx xs.length 0 lo = 0 ∧ HT.sIx xs.length xs.length hi = xs.length
    · cases rx
      obtain ⟨its, rv, ht, hz⟩ := I.tuple (.inl ha)
      have hlen : its.toArray.size = xs.length := by rw [List.size_toArray]; exact rv.length.symm
      refine ⟨"tuple", _, PyProof.Rows.slot_tuple_getitem.lookup, ht.typeIs, ?_⟩
      refine HT.tup_whole ht hs pl pu (by rw [hlen]; exact hw) ⟨.ref a, H, I, rfl, q _ F H (New.refl ..) sb ?_⟩
      have e : cutD ds lo hi = ds := by
        unfold cutD
        rw [← hl, hw.1, hw.2, List.drop_zero, Nat.sub_zero, List.take_of_length_le (by rw [hl]; exact Nat.le_refl _)]
      show Rep F _ (.tup (cutD ds lo hi))
      rw [e]
      exact r0
    · exact sl_tup pins s σ H (.ref a) v vl vu lo hi sl Q I rx hs pl pu ⟨a, xs, rfl, .inl ha, hw, fun p hp => q _ _ _ (New.root sb hp _) (sb.tupNew hp) (.tup upd_same ((rs.cut lo hi).le (le_upd (sb.fresh hp))))⟩
  | lst ds =>
    cases hf
    obtain ⟨a, xs, rfl, fa, ha, rs⟩ := sb.lstAt r
    exact sl_list pins s σ H (.ref a) v vl vu lo hi sl Q I rx hs pl pu ⟨a, xs, rfl, .inl ha, fun p hp => q _ F _ (New.obj hp _) (sb.same (New.obj (F := F) hp _).same) ⟨p, rfl, hp, sb.fresh hp, _, upd_same, rs.cut lo hi⟩⟩
  | str z =>
    obtain ⟨hl, rfl⟩ := ite_some hf
    cases r
    exact sl_str pins s σ H _ v vl vu lo hi sl Q I rx hs pl pu ⟨z, rfl, line_of hl, fun _ => q _ F H (New.refl ..) sb (.str _)⟩
  | non => cases hf
  | bl b => cases hf
  | int b => cases hf
def eSl (g : GD) (lo hi : Option GD) : GE := fun S => (g S).bind fun p => (oPart lo p.2).bind fun l => (oPart hi l.2).bind fun h => (fSl p.1 l.1 h.1).map fun u => (u, h.2)
section
variable {X : Cx} {a b c e : Expr} {lo hi : Option Expr} {pos p p2 px : Pos} {x y : Str} {g ga : GD} {gA : GA} {gl gh : Option GD}
theorem je_slice (he : JD X e g) (hl : JO X lo gl) (hh : JO X hi gh) : JE X (.Subscript e (.Slice lo hi none p2) pos) (eSl g gl gh) := ⟨fun B => (pe_slice sl_P (he.h B) (hl.h B) (hh.h B)).imp fun σ H Q ⟨S, F, u, S', R, hg, q⟩ => by
  obtain ⟨⟨d, S1⟩, h1, hg⟩ := bind_some' hg
  obtain ⟨⟨l, S2⟩, h2, hg⟩ := bind_some' hg
  obtain ⟨⟨h, S3⟩, h3, hg⟩ := bind_some' hg
  obtain ⟨u', h4, hg⟩ := map_some' hg
  cases hg
  exact ⟨S, F, d, S1, R, h1, fun v F1 H1 R1 st1 r1 => ⟨S1, F1, l, S2, R1, h2, fun F2 H2 R2 st2 => ⟨S2, F2, h, _, R2, h3, fun F3 H3 R3 st3 => ⟨F3, d, _, R3.sub, r1.le (fun b o z => st3.ext.le b o (st2.ext.le b o z)), h4, fun v F4 H4 n s4 r4 => q v F4 H4 (R3.new n s4) (((st1.trans st2).trans st3).trans n.step) (r4.repR R3 ((st1.trans st2).trans st3))⟩⟩⟩⟩⟩
def cutI (ns : List Int) (lo hi : Option Int) : List Int := (ns.drop (HT.sIx ns.length 0 lo)).take (HT.sIx ns.length ns.length hi - HT.sIx ns.length 0 lo)
def eSlS (i : Nat) (lo hi : Option GD) : GE := fun S => match S[i]? with
  | some (some (.s ns)) => (oPart lo S).bind fun l => (oPart hi l.2).map fun h => (.m (.lst ((cutI ns l.1 h.1).map D.int)), h.2)
  | _ => none
theorem reps_ints {F : Hp} : ∀ ns : List Int, Reps F (ns.map V.int) (ns.map D.int)
  | [] => .nil
  | n :: ns => .cons (.int n) (reps_ints ns)
theorem cutV_ints (ns : List Int) (lo hi : Option Int) : cutV (ns.map V.int) lo hi = (cutI ns lo hi).map V.int := by
  unfold cutV cutI
  rw [List.length_map, List.map_take, List.map_drop]
theorem je_sliceS {i : Nat} (hl : JO X lo gl) (hh : JO X hi gh) (hN : X.N[i]? = some x := by rfl) (hv : Vis X.env.scope x := by first | exact Or.inl rfl | exact Or.inr (Or.inl rfl) | exact Or.inr (Or.inr rfl))
    (hd : (x == ("__debug__" : Str)) = false := by decide) (hcd : (x == ("__classdict__" : Str)) = false := by decide) : JE X (.Subscript (.Name x px) (.Slice lo hi none p2) pos) (eSlS i gl gh) := ⟨fun B => (pe_slice sl_list (pe_var hN hv hd hcd) (hl.h B) (hh.h B)).imp fun σ H Q ⟨S, F, u, S', R, hg, q⟩ => by
  unfold eSlS at hg
  split at hg
  · rename_i ns hS
    obtain ⟨⟨l, S1⟩, h1, hg⟩ := bind_some' hg
    obtain ⟨⟨h, S2⟩, h2, hg⟩ := map_some' hg
    cases hg
    obtain ⟨v0, hv0, a, rfl, sc⟩ := R.rep i _ hS
    refine ⟨_, hv0, S, F, l, S1, R, h1, fun F1 H1 R1 st1 => ⟨S1, F1, h, _, R1, h2, fun F2 H2 R2 st2 => ?_⟩⟩
    have sc2 := (sc.le st1.ext.frz).le st2.ext.frz
    refine ⟨a, _, rfl, sc2.sq, fun p hp => ?_⟩
    rw [cutV_ints]
    have n := New.obj (F := F2) hp (.lst ((cutI ns l h).map V.int))
    have st := st1.trans st2
    exact q _ F2 _ (R2.new n (R2.sub.same n.same)) (st.trans n.step) (RepN.repR (u := .m (.lst ((cutI ns l h).map D.int))) R2 st ⟨p, rfl, hp, R2.sub.fresh hp, _, upd_same, reps_ints _⟩)
  · cases hg⟩
def okR (d : D) : Prop := (toPy d).showable = true ∧ (toPy d).depth ≤ 20 ∧ (toPy d).shown.length ≤ sizeLine
instance (d : D) : Decidable (okR d) := by unfold okR; infer_instance
def fRepr : List D → Option U
  | [d] => if okR d then some (.t (.str (toPy d).shown)) else none
  | _ => none
mutual
theorem Rep.readsF {pins : List (Addr × Obj)} {σ : St} {F H : Hp} {s : Shared} (I : Inv X pins σ H s) (sb : Sub F H) : ∀ {v : V} {d : D} {u : Value}, Rep F v d → RelV v u → ∃ as, Reads s.heap u (toPy d) as
  | _, _, _, .non, r => by cases r; exact ⟨[], .none⟩
  | _, _, _, .bl b, r => by cases r; exact ⟨[], .bool b⟩
  | _, _, _, .int i, r => by obtain ⟨t, rfl⟩ := r; exact ⟨[], .int i t⟩
  | _, _, _, .str z, r => by obtain ⟨t, rfl⟩ := r; exact ⟨[], .str z t⟩
  | _, _, _, .tup e rs, r => by
    cases r
    obtain ⟨its, rv, p⟩ := sb.isTup I e
    obtain ⟨as, h⟩ := Reps.readsF I sb rs rv
    obtain ⟨o, ho, hc, n, hd⟩ := p
    exact ⟨as, .tuple ho hc hd (by simpa using h)⟩
  | _, _, _, .lst e rs, r => by
    cases r
    obtain ⟨its, rv, p⟩ := sb.isLst I e
    obtain ⟨as, h⟩ := Reps.readsF I sb rs rv
    obtain ⟨o, ho, hc, n, hd⟩ := p
    exact ⟨_ :: as, .list ho hc hd (by simpa using h)⟩
theorem Reps.readsF {pins : List (Addr × Obj)} {σ : St} {F H : Hp} {s : Shared} (I : Inv X pins σ H s) (sb : Sub F H) : ∀ {vs : List V} {ds : List D} {us : List Value}, Reps F vs ds → Vals vs us → ∃ as, ReadsAll s.heap us (toPys ds) as
  | _, _, _, .nil, r => by cases r; exact ⟨[], .nil⟩
  | _, _, _, .cons q qs, r => by
    cases r with
    | cons r rs =>
      obtain ⟨as, h⟩ := Rep.readsF I sb q r
      obtain ⟨bs, k⟩ := Reps.readsF I sb qs rs
      exact ⟨as ++ bs, .cons h k⟩
end
theorem jd_gstr {z : Str} {t : Tok} (hg : Gl X x) (hm : X.mg x = some (.str z t)) (hd : (x == ("__debug__" : Str)) = false := by decide) : JD X (.Name x pos) (eC (.str z)) := jd_c rfl (pe_glob (v := .str z) hg hm ⟨t, rfl⟩ hd)
theorem jd_gint {i : Int} {t : Tok} (hg : Gl X x) (hm : X.mg x = some (.int i t)) (hd : (x == ("__debug__" : Str)) = false := by decide) : JD X (.Name x pos) (eC (.int i)) := jd_c rfl (pe_glob (v := .int i) hg hm ⟨t, rfl⟩ hd)
end
end L2

end
section
set_option Elab.async false
set_option linter.all false
set_option maxRecDepth 100000
namespace L2
open PySem PySem.Spec PyProof.Rows
end L2

end
section
set_option Elab.async false
set_option linter.all false
set_option maxRecDepth 100000
namespace L2
open PySem PySem.Spec PyProof.Rows
section
variable {X : Cx} {a b c e : Expr} {es : List Expr} {pos p p2 px : Pos} {x y : Str} {f : FM} {fa : Addr} {fd : FuncData} {ps : List Str} {k n : Nat}
theorem je_call0 (F : FnOk X.prog X.w X.K X.mg X.base CX0 k fa fd ps (spT X.K 0 f)) (hr : Room k X.A) (hg : Gl X x) (hm : X.mg x = some (.ref fa)) (hk : PySem.W.keepIn X.K (.ref fa) = true) (hb : Binds X.K fd ps [])
    (hdb : (x == ("__debug__" : Str)) = false := by decide) : JE X (.Call (.Name x p) [] [] pos) (eCall f uNil) := ⟨fun B => (pe_call0 F hr hg hm hk hb .nil pass0 hdb).imp fun σ H Q ⟨S, F0, u, S', R, hg, q⟩ => by
  obtain ⟨⟨us, S1⟩, h1, hg⟩ := bind_some' hg
  cases h1
  have hg := (ite_some2 hg).2
  obtain ⟨ws, h2, hg⟩ := bind_some' hg
  cases h2
  obtain ⟨⟨r, outs⟩, h3, hg⟩ := bind_some' hg
  obtain ⟨S2, h4, hg⟩ := map_some' hg
  cases hg
  have st0 : Step S S σ F0 H F0 H := Step.refl ..
  refine ⟨rfl, F0, [], r, outs, R.sub, .nil, List.nodup_nil, h3, fun v F2 H2 po rn => ?_⟩
  obtain ⟨R2, st2, mu⟩ := after_call (vs := []) (us := []) (ws := []) R st0 .nil rfl h4 List.nodup_nil po
  refine q v F2 H2 R2 st2 ?_
  cases r with
  | t d => exact rn
  | b o => cases rn
  | v i => cases rn
  | s i => cases rn
  | m o =>
    obtain ⟨a, e, h0, f, h⟩ := rn
    refine ⟨a, e, h0, f, h, fun m => ?_, none_of R.ext.there h0⟩
    obtain ⟨o', ho⟩ := R.has (mu a m)
    rw [h0] at ho
    cases ho⟩
def fIsNotB : List D → Option U
  | [.bl a, .bl b] => some (.t (.bl (a != b)))
  | _ => none
theorem op_isNotP : OpP X (compareOp .IsNot) fIsNotB := by
  intro pins s σ H x y v u Q I rx ry ⟨F, ds, w, sb, rs, hw, q⟩
  obtain ⟨d, e, rfl, r1, r2⟩ := reps2 rs
  cases d <;> cases e <;> try (simp [fIsNotB] at hw; done)
  cases hw
  rw [rep_bl r1] at rx
  rw [rep_bl r2] at ry
  cases rx
  cases ry
  exact isnot_bool ⟨.bl _, H, I, rfl, q _ F H (New.refl ..) sb (.bl _)⟩
end
end L2

end
section
set_option Elab.async false
set_option linter.all false
set_option maxRecDepth 100000
namespace L2
open PySem PySem.Spec PyProof.Rows
def intsD : List D → Option (List Int)
  | [] => some []
  | .int b :: ds => (intsD ds).map fun bs => b :: bs
  | _ => none
def fSum : List D → Option U
  | [.lst ds] => (intsD ds).map fun bs => .t (.int (preSum (fun i => bs.getD i 0) bs.length))
  | _ => none
section
variable {X : Cx}
end
end L2

end
section
set_option Elab.async false
set_option linter.all false
set_option maxRecDepth 100000
namespace L2
open PySem PySem.Spec PyProof.Rows
def metS (val : Nat → Str) (i : Nat) : List Str := ((List.range i).map val).foldl step_dedup []
theorem metS_succ (val : Nat → Str) (i : Nat) : metS val (i + 1) = step_dedup (metS val i) (val i) := by
  unfold metS; rw [List.range_succ, List.map_append, List.foldl_append]; rfl
theorem metS_le (val : Nat → Str) (i : Nat) : (metS val i).length ≤ i := by
  have := foldl_step_dedup_nil_length_le ((List.range i).map val)
  simpa [metS] using this
theorem dd_any (l : List Str) (v k : Str) : (step_dedup l v).any (· == k) = (l.any (· == k) || decide (k = v)) := by
  unfold step_dedup
  split
  · rename_i h
    by_cases e : k = v
    · subst e; simp [h]
    · simp [e]
  · rw [List.any_append]
    have : (List.any [v] fun x => x == k) = decide (k = v) := by
      by_cases e : k = v
      · subst e; simp
      · simp [e]; exact fun z => e z.symm
    rw [this]
theorem dd_len (l : List Str) (v : Str) : (step_dedup l v).length = if l.any (· == v) then l.length else l.length + 1 := by
  unfold step_dedup; split <;> simp
section
variable {prog : Program} {w : World} {A : Around} {R : Result → Shared → Prop} {I : Addr} {fp wr : List Addr} {G : Array GenState → Array GenState → Prop} {n : Nat} {P : Nat → Value → Prop} {St : Nat → Shared → Prop}
theorem set_loopT (W : WalksS prog w A.in1 I fp wr G n P St) (S : Addr) (hSf : S ∉ fp) (val : Nat → Str) (hval : ∀ i v, P i v → ∃ t, v = .str (val i) t) (hb : n + 1 < scanBound) :
    ∀ (k i : Nat) (s : Shared), n - i = k → i ≤ n → St i s → s.heap.SetOf (strKind prog w) S (fun z => (metS val i).any (· == z)) (metS val i).length →
      (∀ s', Moved (S :: wr) G s s' → s'.heap.SetOf (strKind prog w) S (fun z => (metS val n).any (· == z)) (metS val n).length → R (.ok (.ret .none)) s') →
      codeAny (model prog w) A (.builtin "set.update.loop" ⟨[.ref S, .ref I], []⟩) R s := by
  have hSw : S ∉ wr := fun h => hSf (W.sub _ h)
  have hsub : ∀ b ∈ wr, b ∈ S :: wr := fun b hb => List.mem_cons_of_mem _ hb
  have keep : ∀ {i : Nat} {s s' : Shared}, Moved wr G s s' → s.heap.SetOf (strKind prog w) S (fun z => (metS val i).any (· == z)) (metS val i).length → s'.heap.SetOf (strKind prog w) S (fun z => (metS val i).any (· == z)) (metS val i).length :=
    fun hm ⟨o, es, ep, t, ho, rest⟩ => ⟨o, es, ep, t, hm.heap S _ hSw ho, rest⟩
  intro k
  induction k with
  | zero =>
    intro i s hk hi hst hS hR
    obtain rfl : i = n := by omega
    refine codeAny_builtin F.entry_set_update_loop ?_
    rw [Around.under_plainId F.plain_set_update_loop _]
    show wpAny _ A.in1 (pyNext (.ref I) >>= _) _ _ s
    refine wpAny_bind (W.done s _ _ hst fun s' hm => ?_)
    show wpAny _ A.in1 (ret Value.none) _ _ s'
    exact wpAny_pure (hR s' (hm.mono hsub) (keep hm hS))
  | succ k ih =>
    intro i s hk hi hst hS hR
    have hlt : i < n := by omega
    refine codeAny_builtin F.entry_set_update_loop ?_
    rw [Around.under_plainId F.plain_set_update_loop _]
    show wpAny _ A.in1 (pyNext (.ref I) >>= _) _ _ s
    refine wpAny_bind (W.item i s _ _ hlt hst fun v s' hP hst' hm => ?_)
    obtain ⟨t, rfl⟩ := hval i v hP
    have hS' := keep hm hS
    show wpAny _ A.in1 (holding [Value.str (val i) t] (setAdd S (.str (val i) t)) >>= _) _ _ s'
    refine wpAny_bind (wpAny_holding ?_)
    unfold setAdd
    refine wpAny_holding ?_
    have his : (strKind prog w).is (val i) (.str (val i) t) = true := by show Value.isStrOf (val i) (.str (val i) t) = true; simp [Value.isStrOf]
    refine wpAny_bind ((strKind prog w).pyHash (k := val i) his ?_)
    have hroom : (metS val i).length + 1 < scanBound := by have := metS_le val i; omega
    refine wpAny_setAddHashed_of (knd := strKind prog w) his rfl hS' hroom fun h' hsb hS2 => ?_
    have hSi : h'.SetOf (strKind prog w) S (fun z => (metS val (i + 1)).any (· == z)) (metS val (i + 1)).length :=
      SetOf_congr hS2 (fun z => by rw [metS_succ, dd_any]) (by rw [metS_succ, dd_len])
    refine wpAny_pure ⟨plainId_quiet F.plain_set_update_loop _, ih (i + 1) _ (by omega) hlt (W.frame _ s' _ _ hst' (Nat.le_succ _) fun b hb o e => ?_) hSi fun s'' hm'' hS'' => ?_⟩
    · rw [hsb.2 b (fun h : b = S => hSf (by rw [← h]; exact hb))]; exact e
    · refine hR s'' (Moved.trans W.gtrans ((hm.mono hsub).then_heap (Nat.le_succ _) fun b o hb e => ?_) hm'') hS''
      rw [hsb.2 b (fun h : b = S => hb (by rw [h]; exact List.mem_cons_self))]; exact e
end
section
variable {prog : Program} {w : World} {A : Around} {E : Value → Shared → Prop} {s : Shared}
def emptySet (led : Bool) : Obj := { cls := .type "set", dict := none, data := .set #[] 0 (.fresh 0 0 led) }
theorem code_set_newT (a : Value) {Q₁ : Value → Shared → Prop} (h : ∀ led : Bool, Q₁ (.ref s.heap.objs.size) { s with heap := s.heap.push (emptySet led) }) :
    codeAny (model prog w) A (.call (.builtin "set.__new__") ⟨[.type "set", a], []⟩) (wants Q₁ E) s := code_set_new_1 a h
set_option maxHeartbeats 3200000 in
theorem call_set_listT {l : Addr} {its : List Value} {zs : List Str} {Q : Value → Shared → Prop} (hh : A.handled = none) (hl : s.heap.IsList l its.toArray) (hi : ∀ (i : Nat) (v : Value), its[i]? = some v → ∃ t, v = Value.str (zs.getD i ⟨#[]⟩) t) (hb : its.length + 1 < scanBound)
    (h : ∀ (h' : Heap) (tk : Nat), h'.SetOf (strKind prog w) s.heap.objs.size (fun z => (metS (fun i => zs.getD i ⟨#[]⟩) its.length).any (· == z)) (metS (fun i => zs.getD i ⟨#[]⟩) its.length).length →
      (∀ b o, b < s.heap.objs.size → s.heap.get? b = some o → h'.get? b = some o) → Q (.ref s.heap.objs.size) { s with heap := h', toks := tk }) :
    wpAny (model prog w) A (call (.type "set") [.ref l]) Q E s := by
  obtain ⟨c, tl, hmro⟩ := F.called_set.mro
  have hmade := F.called_set.made
  have hsub := F.called_set.sub
  refine wpAny_call (codeAny_of_tree ?_)
  show wpAny _ _ (callAny (.type "set") _) _ _ _
  refine wpAny_pure ⟨Code.quiet_builtin _ (by decide +kernel), codeAny_builtin F.entry_type_call ?_⟩
  rw [Around.under_plain (weight_type_call_type "set" [.ref l] []) rfl]
  have h1 := F.called_set.notType
  have h2 := F.called_set.canCreate
  have hct := F.typeCall_set_1 (.ref l)
  repeat (any_goals (first | assumption | wp_step))
  refine codeAny_mono (code_set_newT (.ref l) (E := E) (Q₁ := fun obj s₁ => ∃ led : Bool, obj = .ref s.heap.objs.size ∧ s₁ = { s with heap := s.heap.push (emptySet led) }) fun led => ⟨led, rfl, rfl⟩) fun r s₁ hr => ?_
  cases r with
  | error e => exact hr
  | ok fl =>
    cases fl with
    | ret obj =>
      obtain ⟨led, rfl, rfl⟩ := hr
      have hS : (s.heap.push (emptySet led)).get? s.heap.objs.size = some (emptySet led) := Heap.get?_push_size _ rfl
      have hT : Shared.TypeIs { s with heap := s.heap.push (emptySet led) } (.ref s.heap.objs.size) "set" := ⟨_, hS, rfl⟩
      have hli := F.called_set.init.lookup
      have hbi := F.called_set.init.bind (.ref s.heap.objs.size)
      repeat (any_goals (first | assumption | wp_step))
      refine codeAny_mono (codeAny_call_builtin (R := wants (fun r s₂ => r = .none ∧ ∃ h' tk, s₂ = { s with heap := h', toks := tk } ∧
          h'.SetOf (strKind prog w) s.heap.objs.size (fun z => (metS (fun i => zs.getD i ⟨#[]⟩) its.length).any (· == z)) (metS (fun i => zs.getD i ⟨#[]⟩) its.length).length ∧
          (∀ b o, b < s.heap.objs.size → s.heap.get? b = some o → h'.get? b = some o)) E) F.called_set.init.plain F.entry_set_init (check_set_init_1 hT ?_)) fun r₂ s₂ hr₂ => ?_
      · obtain ⟨ol, hol, hcl, nl, hdl⟩ := hl
        obtain ⟨ocls, odict, odata, oslots⟩ := ol
        simp only at hcl hdl
        subst hcl; subst hdl
        have hol' : (s.heap.push (emptySet led)).get? l = some { cls := .type "list", dict := odict, data := .seq its.toArray nl, slots := oslots } := Heap.get?_push_of_some _ hol
        have hsls := F.sub_list_set
        have hslf := F.sub_list_frozenset
        have hne : (Value.type "list" == Value.type "dict") = false := by decide
        have hl1 : (s.heap.push (emptySet led)).IsList l its.toArray := ⟨_, hol', rfl, nl, rfl⟩
        unfold Builtin.«set.__init__» noKeywords Builtin.Frozenset.updateFrom
        generalize hPI : pyIter = PI
        wp_walk
        subst hPI
        refine wpAny_pyIter_list hl1 ?_
        refine wpAny_bind (wpAny_runValue ?_)
        have hlS : l < s.heap.objs.size := Heap.lt_size hol
        have hh3 : A.in1.in1.in1.handled = none := by simp [hh]
        have hneI : l ≠ (s.heap.push (emptySet led)).objs.size := by
          rw [Heap.size_push]; exact Nat.ne_of_lt (Nat.lt_succ_of_lt hlS)
        have hSf : s.heap.objs.size ∉ [(s.heap.push (emptySet led)).objs.size, l] := by
          rw [Heap.size_push]; simp only [List.mem_cons, List.mem_singleton, List.not_mem_nil, or_false, not_or]
          exact ⟨Nat.ne_of_lt (Nat.lt_succ_self _), Nat.ne_of_gt hlS⟩
        have hb' : its.toArray.size + 1 < scanBound := by rw [List.size_toArray]; exact hb
        have hval : ∀ (i : Nat) (v : Value), its.toArray[i]? = some v → ∃ t, v = .str ((fun i => zs.getD i ⟨#[]⟩) i) t := fun i v hv => hi i v (by simpa using hv)
        refine set_loopT ((Walks.list hh3 _ l hneI its.toArray).toS) s.heap.objs.size
          hSf (fun i => zs.getD i ⟨#[]⟩) hval hb' (its.toArray.size - 0) 0 _ (by omega) (Nat.zero_le _)
          ⟨⟨_, Heap.get?_push_size _ rfl, rfl, rfl⟩, (hl1.push _)⟩ ?hS0 ?hR
        case hS0 =>
          have hget : ((s.heap.push (emptySet led)).push { cls := .type "list_iterator", data := .fields #[.ref l, .int 0 0] }).get? s.heap.objs.size = some (emptySet led) := Heap.get?_push_of_some _ hS
          exact SetOf_congr ((setObjOf_fresh (knd := strKind prog w) led).setOf hget (by unfold scanBound; omega)) (fun _ => rfl) rfl
        case hR =>
          intro s' hm hS'
          rw [List.size_toArray] at hS'
          obtain ⟨h', g', d', tk', os'⟩ := s'
          have eg : g' = s.gens := hm.gens
          have ed : d' = s.drawn := hm.drawn
          have eo : os' = s.os := hm.os
          subst eg; subst ed; subst eo
          show wpAny _ _ _ _ _ _
          refine wpAny_pure ?_
          show wpAny _ _ (ret Value.none) _ _ _
          refine wpAny_pure ⟨rfl, h', tk', rfl, hS', fun b o hb e => ?_⟩
          have hb1 : b ≠ s.heap.objs.size := Nat.ne_of_lt hb
          have hb2 : b ≠ (s.heap.push (emptySet led)).objs.size := by
            rw [Heap.size_push]; exact Nat.ne_of_lt (Nat.lt_succ_of_lt hb)
          exact hm.heap b o (by simp only [List.mem_cons, List.mem_singleton, List.not_mem_nil, or_false, not_or]; exact ⟨hb1, hb2⟩) (Heap.get?_push_of_some _ (Heap.get?_push_of_some _ e))
      · cases r₂ with
        | error e => exact hr₂
        | ok fl₂ =>
          cases fl₂ with
          | ret r =>
            obtain ⟨rfl, h', tk, rfl, hS', hk'⟩ := hr₂
            repeat (any_goals (first | assumption | wp_step))
            exact h _ _ hS' hk'
          | _ => exact hr₂.elim
    | _ => exact hr.elim
end
end L2

end
section
set_option Elab.async false
set_option linter.all false
set_option maxRecDepth 100000
namespace L2
open PySem PySem.Spec PyProof.Rows
section
variable {X : Cx} {a : Expr} {pos p p1 p2 : Pos} {ga : GD}
end
end L2

end
section
set_option Elab.async false
set_option linter.all false
set_option maxRecDepth 100000
namespace L2
open PySem PySem.Spec PyProof.Rows
def listU : U → Option (List D)
  | .t (.lst ds) => some ds
  | .m (.lst ds) => some ds
  | .b (.lst ds) => some ds
  | _ => none
def eInS (n : Bool) (i : Nat) (g : GD) : GD := fun S => (g S).bind fun p => match p.2[i]? with
  | some (some u) => (listU u).bind fun ds => if depDs ds ≤ 40 then some (.bl (n != inD p.1 ds), p.2) else none
  | _ => none
section
variable {X : Cx} {a : Expr} {x : Str} {px pos : Pos} {ga : GD}
end
end L2

end
section
set_option Elab.async false
set_option linter.all false
set_option maxRecDepth 100000
namespace L2
open PySem PySem.Spec PyProof.Rows
def look : U → Option D
  | .t d => some d
  | .m (.lst ds) => some (.lst ds)
  | .b (.lst ds) => some (.lst ds)
  | _ => none
def eLook (f : List D → Option U) (i : Nat) : GD := fun S => match S[i]? with
  | some (some u) => (look u).bind fun d => match f [d] with
    | some (.t e) => if flatD e = true then some (e, S) else none
    | _ => none
  | _ => none
def eIsS (Ts : List String) (i : Nat) : GD := fun S => match S[i]? with
  | some (some u) => (look u).bind fun d => (isTys Ts d).map fun b => (.bl b, S)
  | _ => none
section
variable {X : Cx} {x y : Str} {p px py pos : Pos} {f : List D → Option U}
end
section
variable (S : SS) (i : Nat) (g : GD)
@[simp] theorem m_eLook (f : List D → Option U) : eLook f i S = match S[i]? with
  | some (some u) => (look u).bind fun d => match f [d] with
    | some (.t e) => if flatD e = true then some (e, S) else none
    | _ => none
  | _ => none := rfl
@[simp] theorem m_eIsS (Ts : List String) : eIsS Ts i S = match S[i]? with | some (some u) => (look u).bind fun d => (isTys Ts d).map fun b => (.bl b, S) | _ => none := rfl
@[simp] theorem m_eInS (n : Bool) : eInS n i g S = (g S).bind fun p => match p.2[i]? with | some (some u) => (listU u).bind fun ds => if depDs ds ≤ 40 then some (.bl (n != inD p.1 ds), p.2) else none | _ => none := rfl
@[simp] theorem m_look_t (d : D) : look (.t d) = some d := rfl
@[simp] theorem m_look_m (ds : List D) : look (.m (.lst ds)) = some (.lst ds) := rfl
@[simp] theorem m_look_b (ds : List D) : look (.b (.lst ds)) = some (.lst ds) := rfl
@[simp] theorem m_listU_t (ds : List D) : listU (.t (.lst ds)) = some ds := rfl
@[simp] theorem m_listU_m (ds : List D) : listU (.m (.lst ds)) = some ds := rfl
@[simp] theorem m_listU_b (ds : List D) : listU (.b (.lst ds)) = some ds := rfl
theorem m_fSum (ds : List D) : fSum [.lst ds] = (intsD ds).map fun bs => .t (.int (preSum (fun i => bs.getD i 0) bs.length)) := rfl
@[simp] theorem m_reverse (ds : List D) : hReverse [] (.lst ds) = some (.non, .lst ds.reverse) := rfl
end
end L2

end
section
set_option Elab.async false
set_option linter.all false
set_option maxRecDepth 100000
namespace L2
open PySem PySem.Spec PyProof.Rows
section
variable {X : Cx} {a b c e : Expr} {es : List Expr} {pos p p2 px : Pos} {x y : Str}
theorem Reps.rep {F : Hp} {vs : List V} {ds : List D} (r : Reps F vs ds) : ∀ k : Nat, Reps F (List.replicate k vs).flatten (List.replicate k ds).flatten
  | 0 => .nil
  | k + 1 => by rw [List.replicate_succ, List.replicate_succ, List.flatten_cons, List.flatten_cons]; exact r.append (Reps.rep r k)
def fRep : List D → Option U
  | [.lst ds, .int k] => if 0 ≤ k ∧ k.toNat ≤ 100000 ∧ ds.length * k.toNat ≤ 100000 then some (.m (.lst (List.replicate k.toNat ds).flatten)) else none
  | _ => none
def fInt : List D → Option U
  | [.int i] => some (.t (.int i))
  | [.bl k] => some (.t (.int (if k then 1 else 0)))
  | _ => none
def rExtendR : V → List V → Hp → VK → Prop := fun x vs H Q => ∃ l b xs zs, x = .ref l ∧ vs = [.ref b] ∧ H l = some (.lst xs) ∧ Rd H b (.lst zs) ∧ xs.length + zs.length ≤ sizeLine ∧ Q .non (upd H l (.lst (xs ++ zs)))
theorem mt_extendR : MtR X "list.extend" rExtendR := by
  intro pins s σ H x vs v us Q I rx rv h
  obtain ⟨l, b, xs, zs, rfl, rfl, hH, hB, hz, q⟩ := h
  cases rx
  obtain ⟨u, rfl, ru⟩ := rv.one
  cases ru
  obtain ⟨z, its, n, r, hl, e⟩ := I.lstM hH
  obtain ⟨z2, its2, n2, r2, hl2, e2⟩ := hB.lstM I
  have hsz : its.toArray.size + its2.toArray.size ≤ sizeLine := by rw [List.size_toArray, List.size_toArray]; omega
  have hlong : ¬ (!its.toArray.isEmpty && Builtin.List.listTooLong (its.toArray.size + its2.toArray.size)) = true := by
    rw [notLongL hsz, Bool.and_false]
    exact Bool.false_ne_true
  refine call_meets F.slot_list_extend ⟨_, e, rfl⟩ F.entry_list_extend (F.args_list_extend_2 _ _)
    (AutoSeq1.list_extend_list_list_0 l its.toArray n b its2.toArray n2 hlong (by rw [List.size_toArray]; omega) (by omega)) ⟨e, e2, ?_⟩
  refine ⟨.non, _, I.lset (its' := its ++ its2) hH e (by simp) (r.append r2) ?_, rfl, q⟩
  rw [List.length_append]
  omega
def hExtend : List D → MO → Option (D × MO)
  | [.lst es], .lst ds => if ds.length + es.length ≤ 100000 then some (.non, .lst (ds ++ es)) else none
  | _, _ => none
theorem mp_extend : MtP rExtendR hExtend := by
  intro F H a vs xs ds args res o' sb hH fa rs rx hw Q q
  unfold hExtend at hw
  split at hw
  · rename_i es ds' e2
    cases e2
    obtain ⟨hl, hw⟩ := ite_some hw
    cases hw
    cases rx with
    | cons r rr =>
      cases rr
      obtain ⟨b, zs, rfl, fb, hb, rs2⟩ := sb.lstAt r
      exact ⟨a, b, vs, zs, rfl, rfl, hH, hb, by rw [rs.length, rs2.length]; exact Nat.le_trans hl (by decide), q .non _ .non ⟨_, upd_same, rs.append rs2⟩⟩
  · cases hw
theorem hd_extend (a : List D) (o : MO) (h : isLst o = false) : hExtend a o = none := by
  cases o with
  | lst ds => cases h
  | dct k => unfold hExtend; split <;> first | rfl | (rename_i e; cases e)
  | dtt k => unfold hExtend; split <;> first | rfl | (rename_i e; cases e)
def isNon : D → Bool
  | .non => true
  | _ => false
def fIsN : List D → Option U
  | [d, .non] => some (.t (.bl (isNon d)))
  | _ => none
def sAug (f : Int → Int → Int) (i : Nat) (g : GD) : GS := fun S => match S[i]? with
  | some (some (.t (.int n))) => (g S).bind fun p => match p.1 with
    | .int m => (setU i (.t (.int (f n m))) p.2).map .nx
    | _ => none
  | _ => none
theorem comp_capsD {x : Str} {capN : List Str} {cap : List Nat} {scope : Scope} {cl : List (Str × Addr)} (clos : closureFor scope X.env = pure cl) (nocell : ∀ z ∈ scope.names, z.2 ≠ .cell) (kind : scope.kind = .function) (names : ∀ z ∈ scope.names, z.2 = .local → scope.names.lookup z.1 = some .local)
    (loc : scope.names.lookup x = some .local) (hc : cl.map (fun p => X.env.cells.lookup p.1) = cl.map (fun p => some p.2)) (only : ∀ z ∈ scope.names, z.2 = .free → z.1 ∈ capN) (hcl : cl.map (·.1) = capN.reverse ∨ cl.map (·.1) = capN) (nd : (x :: capN).Nodup)
    (slot : cap.map (fun i => X.N[i]?) = capN.map some) (vis : capN.map (fun n => X.env.scope.names.lookup n) = capN.map fun _ => some .cell) (rel : capN.map (fun n => (relabel scope X.env).names.lookup n) = capN.map fun _ => some .cell) :
    CompTxt X x capN cap scope cl := by
  have all : ∀ {α β : Type} {f g : α → β} {l : List α}, l.map f = l.map g → ∀ a ∈ l, f a = g a := fun {α β f g l} h => by
    induction l with
    | nil => intro a m; cases m
    | cons b r ih =>
      intro a m
      rw [List.map_cons, List.map_cons] at h
      injection h with h1 h2
      rcases List.mem_cons.mp m with z | z
      · rw [z]; exact h1
      · exact ih h2 a z
  have inCl : ∀ n, n ∈ capN → ∃ c, cl.lookup n = some c := fun n hn => lookup_some (hcl.elim (fun z => by rw [z]; exact List.mem_reverse.mpr hn) fun z => by rw [z]; exact hn)
  have len : cap.length = capN.length := by have := congrArg List.length slot; simpa using this
  refine ⟨clos, nocell, kind, names, loc, fun n c h => all hc (n, c) (PySem.mem_of_lookup h), fun n h => ?_, nd, len, fun j n h => ?_, fun n h => ⟨.inl (all rel n h), inCl n h, by rw [all vis n h]; decide⟩⟩
  · refine inCl n ?_
    have go : ∀ k, (k = NameKind.cell ∨ k = NameKind.free) → (relabel scope X.env).names.lookup n = some k → n ∈ capN := fun k hk e => by
      have m := PySem.mem_of_lookup e
      unfold relabel at m
      obtain ⟨⟨n', k'⟩, hm, q⟩ := List.mem_map.mp m
      by_cases hf : k' = .free
      · have h0 : n' ∈ capN := only _ hm hf
        have e1 : n' = n := by
          have h1 := congrArg Prod.fst q
          dsimp only at h1
          split at h1 <;> exact h1
        rw [← e1]
        exact h0
      · have z : (k' == NameKind.free) = false := by simpa using hf
        simp only [z, Bool.false_and] at q
        have q2 : k' = k := by
          have := congrArg Prod.snd q
          simpa using this
        rcases hk with rfl | rfl
        · exact absurd q2 (nocell _ hm)
        · exact absurd q2 hf
    rcases h with h | h
    · exact go _ (.inl rfl) h
    · exact go _ (.inr rfl) h
  · have e := congrArg (fun l => l[j]?) slot
    simp only [List.getElem?_map, h, Option.map_some] at e
    cases q : cap[j]? with
    | none => rw [q] at e; cases e
    | some i =>
      rw [q] at e
      exact ⟨i, rfl, Option.some.inj e, .inr (.inl (all vis n (List.mem_of_getElem? h)))⟩
end
end L2

end
section
set_option Elab.async false
set_option linter.all false
set_option maxRecDepth 100000
namespace L2
open PySem PySem.Spec PyProof.Rows
open AutoSeq1 (wpAny_loadPart')
def SqK (k : Bool) (h : Heap) (a : Addr) (its : Array Value) : Prop := match k with
  | true => h.IsList a its
  | false => h.IsTuple a its
def ItK (k : Bool) (h : Heap) (it a : Addr) (i : Nat) : Prop := match k with
  | true => h.IsListIter it a i
  | false => h.IsTupleIter it a i
def itN : Bool → String
  | true => "list_iterator"
  | false => "tuple_iterator"
def itO (k : Bool) (a : Addr) : Obj := { cls := .type (itN k), data := .fields #[.ref a, .int 0 0] }
theorem SqK.at {k : Bool} {h h' : Heap} {a : Addr} {its : Array Value} (x : SqK k h a its) (g : ∀ o, h.get? a = some o → h'.get? a = some o) : SqK k h' a its := by
  cases k <;> exact let ⟨o, ho, r⟩ := x; ⟨o, g o ho, r⟩
theorem ItK.at {k : Bool} {h h' : Heap} {it a : Addr} {i : Nat} (x : ItK k h it a i) (g : ∀ o, h.get? it = some o → h'.get? it = some o) : ItK k h' it a i := by
  cases k <;> exact let ⟨o, ho, r⟩ := x; ⟨o, g o ho, r⟩
theorem ItK.obj {k : Bool} {h : Heap} {it a : Addr} {i : Nat} (x : ItK k h it a i) : ∃ o, h.get? it = some o ∧ ∀ v, o.data ≠ .cell v := by
  cases k <;> exact let ⟨o, ho, _, r⟩ := x; ⟨o, ho, fun v z => by rw [r] at z; cases z⟩
theorem ItK.new (k : Bool) (h : Heap) (a : Addr) : ItK k (h.push (itO k a)) h.objs.size a 0 := by
  cases k <;> exact ⟨_, Heap.get?_push_size _ rfl, rfl, rfl⟩
section
variable {prog : Program} {w : World} {A : Around} {E : Value → Shared → Prop} {s : Shared}
end
end L2

end
section
set_option Elab.async false
set_option linter.all false
set_option maxRecDepth 100000
namespace L2
open PySem PySem.Spec PyProof.Rows
section
variable {prog : Program} {w : World} {A : Around} {E : Value → Shared → Prop} {s : Shared}
end
section
variable {X : Cx} {pins : List (Addr × Obj)} {σ : St} {H : Hp} {s : Shared}
end
end L2

end
section
set_option Elab.async false
set_option linter.all false
set_option maxRecDepth 100000
namespace L2
open PySem PySem.Spec PyProof.Rows
abbrev TupAt (h : Heap) (T : Addr) (vals : Array Value) : Prop := h.get? T = some { cls := .type "tuple", data := .seq vals }
section
variable {prog : Program} {w : World} {A : Around} {E : Value → Shared → Prop} {s : Shared}
structure Zip2 (N : Nat) (k0 k1 : Bool) (l0 l1 : Nat) (i : Nat) (f0 : Value) (h : Heap) : Prop where
  z : IsZip h (N + 4) (N + 2) (N + 3) f0
  ti : TupAt h (N + 2) #[.ref N, .ref (N + 1)]
  to : ∃ v : List Value, v.length = 2 ∧ TupAt h (N + 3) v.toArray
  c0 : ItK k0 h N l0 i
  c1 : ItK k1 h (N + 1) l1 i
structure Zip3 (N : Nat) (k0 k1 k2 : Bool) (l0 l1 l2 : Nat) (i : Nat) (f0 : Value) (h : Heap) : Prop where
  z : IsZip h (N + 5) (N + 3) (N + 4) f0
  ti : TupAt h (N + 3) #[.ref N, .ref (N + 1), .ref (N + 2)]
  to : ∃ v : List Value, v.length = 3 ∧ TupAt h (N + 4) v.toArray
  c0 : ItK k0 h N l0 i
  c1 : ItK k1 h (N + 1) l1 i
  c2 : ItK k2 h (N + 2) l2 i
end
end L2

end
section
set_option Elab.async false
set_option linter.all false
set_option maxRecDepth 100000
namespace L2
open PySem PySem.Spec PyProof.Rows
section
variable {X : Cx} {a b c e : Expr} {body elts : List Expr} {pos p tpos : Pos} {jt : Nat}
theorem SqK.lt {k : Bool} {h : Heap} {a : Addr} {its : Array Value} (x : SqK k h a its) : a < h.objs.size := by
  cases k <;> exact let ⟨o, ho, _⟩ := x; Heap.lt_size ho
def WalkN (J : It) (F : Hp) (ds : List D) : Prop := ∀ F' H', (∀ b o, F b = some o → F' b = some o) → Sub F' H' → ∀ i, (∀ d, ds[i]? = some d → J.go i H' ∧ ∀ x H2, J.yld i H' x H2 → ∃ F2, New F' H' F2 H2 ∧ Sub F2 H2 ∧ Rep F2 x d) ∧ (ds.length ≤ i → J.stop i H')
def tItN (K : PySem.W.Frag) (B : Base) (gi : GI) : TI := fun σ H R => ∃ S F ds S', Rel K B S σ F H ∧ gi S = some (ds, S') ∧ ∀ J F' H', Rel K B S' σ F' H' → Step S S' σ F H F' H' → WalkN J F' ds → R J H'
structure JIN (X : Cx) (tg e : Expr) (gi : GI) : Prop where
  h : ∀ B, PI X tg e (tItN X.K B gi)
def seqD : D → Option (Bool × List D)
  | .lst ds => some (true, ds)
  | .tup ds => some (false, ds)
  | _ => none
def enumD (ds : List D) : List D := ds.mapIdx fun i d => .tup [.int i, d]
def gEnum (gA : GA) : GI := fun S => (gA S).bind fun p => match p.1 with
  | [d] => (seqD d).map fun q => (enumD q.2, p.2)
  | _ => none
def gZip2 (gA : GA) : GI := fun S => (gA S).bind fun p => match p.1 with
  | [d, e] => (seqD d).bind fun q => (seqD e).map fun r => (List.zipWith (fun a b => .tup [a, b]) q.2 r.2, p.2)
  | _ => none
end
end L2

end
section
set_option Elab.async false
set_option linter.all false
set_option maxRecDepth 100000
namespace L2
open PySem PySem.Spec PyProof.Rows
section
variable {X : Cx} {a b c e : Expr} {x y : Str} {p px py pos pos' tpos : Pos} {f : List D → Option U} {gb : GD}
theorem Vals.repl {v : V} {u : Value} (r : RelV v u) : ∀ m : Nat, Vals (List.replicate m v) (List.replicate m u)
  | 0 => .nil
  | m + 1 => .cons r (Vals.repl r m)
theorem Reps.repl {F : Hp} {v : V} {d : D} (r : Rep F v d) : ∀ m : Nat, Reps F (List.replicate m v) (List.replicate m d)
  | 0 => .nil
  | m + 1 => .cons r (Reps.repl r m)
end
end L2

end
section
set_option Elab.async false
set_option linter.all false
set_option maxRecDepth 100000
namespace L2
open PySem PySem.Spec PyProof.Rows
def eNewT : GE := fun S => some (.m (.dtt []), S)
def eNewK : GE := fun S => some (.m (.dct []), S)
section
variable {X : Cx} {a b c e k : Expr} {x y : Str} {p px py pos pos' tpos apos cpos : Pos} {gk : GD}
def idxD (d : D) : List D → Option Nat
  | [] => none
  | e :: ds => if eqD e d then some 0 else (idxD d ds).map (· + 1)
def hIndex : List D → MO → Option (D × MO)
  | [d], .lst ds => if depDs ds ≤ 40 ∧ ds.length < 100000 then (idxD d ds).map fun j => (.int (j : Nat), .lst ds) else none
  | _, _ => none
end
end L2

end
section
set_option Elab.async false
set_option linter.all false
set_option maxRecDepth 100000
namespace L2
open PySem PySem.Spec PyProof.Rows
section
variable {X : Cx} {k v : Expr} {pos : Pos} {tk tv : TE} {gk gv : GD}
end
end L2

end
section
set_option Elab.async false
set_option linter.all false
set_option maxRecDepth 100000
namespace L2
open PySem PySem.Spec PyProof.Rows
def lookS (kvs : List (Str × Int)) (z : Str) : Option Int := (kvs.find? fun p => decide (p.1 = z)).map (·.2)
def RelI : Option Int → Option Value → Prop
  | some i, u => ∃ t, u = some (.int i t)
  | none, u => u = none
def KTab (P : Program) (w : World) (K : PySem.W.Frag) (a : Addr) (kvs : List (Str × Int)) : Prop :=
  (a == sysModules) = false ∧ ∃ o es ep, K.lookup a = some o ∧ o.ExactDict ∧ o.data = .dict es ep ∧ KeysOf (mixKind P w) es ∧ ∀ z, RelI (lookS kvs z) (findBy (mixKind P w).is es (.inr z))
def EntsOk (w : World) : List (Str × Int) → List DictEntry → Prop
  | [], [] => True
  | (z, i) :: r, e :: es => (e.hash = hashStr w z ∧ (∃ t, e.key = .str z t) ∧ ∃ t, e.val = .int i t) ∧ EntsOk w r es
  | _, _ => False
theorem ents_keys {P : Program} {w : World} : ∀ {kvs : List (Str × Int)} {es : List DictEntry}, EntsOk w kvs es → ∀ e ∈ es, ∃ k, (mixKind P w).is k e.key = true ∧ e.hash = (mixKind P w).hash k
  | [], [], _, e, he => by cases he
  | (z, i) :: r, e :: es, h, e', he => by
    obtain ⟨⟨h1, ⟨t, h2⟩, _⟩, h3⟩ := h
    rcases List.mem_cons.mp he with rfl | q
    · exact ⟨.inr z, by rw [h2]; exact mixKind_str P w z t, h1⟩
    · exact ents_keys h3 e' q
  | [], _ :: _, h, _, _ => h.elim
  | _ :: _, [], h, _, _ => h.elim
theorem ents_find {P : Program} {w : World} (z : Str) : ∀ {kvs : List (Str × Int)} {es : List DictEntry}, EntsOk w kvs es → RelI (lookS kvs z) ((es.find? fun e => (mixKind P w).is (.inr z) e.key).map (·.val))
  | [], [], _ => rfl
  | (y, i) :: r, e :: es, h => by
    obtain ⟨⟨h1, ⟨t, h2⟩, u, h4⟩, h3⟩ := h
    have k : (mixKind P w).is (.inr z) e.key = decide ((.inr z : Key) = .inr y) := KeyKind.is_eq_decide (knd := mixKind P w) (k := .inr y) (by rw [h2]; exact mixKind_str P w y t) (.inr z)
    unfold lookS
    by_cases q : y = z
    · subst q
      rw [List.find?_cons_of_pos (by simp), List.find?_cons_of_pos (by rw [k]; simp)]
      exact ⟨u, by rw [Option.map_some, h4]⟩
    · rw [List.find?_cons_of_neg (by simpa using q), List.find?_cons_of_neg (by rw [k]; simp only [decide_eq_true_eq, Sum.inr.injEq]; exact fun e => q e.symm)]
      exact ents_find z h3
  | [], _ :: _, h => h.elim
  | _ :: _, [], h => h.elim
theorem ktab_mk {P : Program} {w : World} {K : PySem.W.Frag} {a : Addr} {kvs : List (Str × Int)} {es : List DictEntry} {ep : Nat} (h : K.lookup a = some ⟨.type "dict", none, .dict es.toArray ep, #[]⟩) (hs : (a == sysModules) = false) (he : EntsOk w kvs es) : KTab P w K a kvs := by
  refine ⟨hs, _, es.toArray, ep, h, ⟨rfl, rfl, rfl⟩, rfl, fun e q => ents_keys he e (by simpa using q), fun z => ?_⟩
  have := ents_find (P := P) z he
  unfold findBy
  rw [List.find?_toArray]
  exact this
section
variable {X : Cx} {pins : List (Addr × Obj)} {σ : St} {H : Hp} {s : Shared} {a : Addr} {kvs : List (Str × Int)}
theorem KTab.map (I : Inv X pins σ H s) (h : KTab X.prog X.w X.K a kvs) : ∃ f : Key → Option Value, s.heap.MapOf (mixKind X.prog X.w) a f ∧ ∀ z, RelI (lookS kvs z) (f (.inr z)) := by
  obtain ⟨_, o, es, ep, h1, h2, h3, h4, h5⟩ := h
  exact ⟨_, ⟨o, es, ep, I.kIn a o h1, h2, h3, h4, fun _ => rfl⟩, h5⟩
end
def eTab (kvs : List (Str × Int)) (g : GD) : GD := fun S => (g S).bind fun p => match p.1 with
  | .str z => (lookS kvs z).map fun i => (.int i, p.2)
  | _ => none
def eTabGet (kvs : List (Str × Int)) (g gd : GD) : GD := fun S => (g S).bind fun p => (gd p.2).bind fun q => match p.1, q.1 with
  | .str z, .int j => some (.int ((lookS kvs z).getD j), q.2)
  | _, _ => none
section
variable {X : Cx} {e f : Expr} {x : Str} {px pos apos cpos : Pos} {ty tx : TE} {g gd : GD} {a : Addr} {kvs : List (Str × Int)}
theorem pe_tab (hg : Gl X x) (hm : X.mg x = some (.ref a)) (hk : KTab X.prog X.w X.K a kvs) (he : PE X e ty) (hs : NoSl e) (hd : (x == ("__debug__" : Str)) = false) :
    PE X (.Subscript (.Name x px) e pos) (fun σ H Q => ty σ H fun y H1 => ∃ z i, y = .str z ∧ lookS kvs z = some i ∧ Q (.int i) H1) := by
  intro pins s σ H Q I h
  refine subD_of PySem.F.slot_dict_getitem.lookup hs (thn (pe_glob (v := .ref a) hg hm rfl hd pins s σ H (fun v H1 => v = .ref a ∧ H1 = H) I ⟨rfl, rfl⟩) fun u s1 ⟨x', H1, I1, rx, ex, eH⟩ => ?_)
  subst ex eH
  obtain rfl : u = Value.ref a := rx
  refine thn (he pins s1 σ _ _ I1 h) fun iv s2 ⟨y, H2, I2, ry, z, i, ey, el, q⟩ => ?_
  subst ey
  obtain ⟨fm, m1, m2⟩ := hk.map I2
  have r := m2 z
  rw [el] at r
  obtain ⟨t, r⟩ := r
  exact ⟨m1.typeIs, wpAny_getItem_of (k := .inr z) (kV_is (k := .inr z) ry) m1 r ⟨.int i, H2, I2.tok _, ⟨t, rfl⟩, q⟩⟩
theorem pe_tabGet (hg : Gl X x) (hm : X.mg x = some (.ref a)) (hk : KTab X.prog X.w X.K a kvs) (he : PE X e ty) (hf : PE X f tx) (m : M2 X (.Name x px) "get" apos e f cpos) (hd : (x == ("__debug__" : Str)) = false) :
    PE X (.Call (.Attribute (.Name x px) "get" apos) [e, f] [] cpos) (fun σ H Q => ty σ H fun y H1 => tx σ H1 fun y2 H2 => ∃ z j, y = .str z ∧ y2 = .int j ∧ Q (.int ((lookS kvs z).getD j)) H2) := by
  intro pins s σ H Q I h
  refine wpAny_Call_method m.base m.few m.line PySem.F.plainAttrs_dict PySem.F.slot_dict_get PySem.F.type_dict_get (thn (pe_glob (v := .ref a) hg hm rfl hd pins s σ H (fun v H1 => v = .ref a ∧ H1 = H) I ⟨rfl, rfl⟩) fun u s1 ⟨x', H1, I1, rx, ex, eH⟩ => ?_)
  subst ex eH
  obtain rfl : u = Value.ref a := rx
  obtain ⟨fm, m1, m2⟩ := hk.map I1
  refine ⟨m1.typeIs, fun b hb => ?_, ?_⟩
  · cases hb
    obtain ⟨ob, _, _, h1, h2, _⟩ := m1
    exact ⟨ob, h1, h2.2.1⟩
  rw [m.trees]
  refine Calls.callWith_builtin rfl (Calls.evalArgs_plain (Calls.spliced_cons (thn (he pins s1 σ _ _ I1 h) fun iv s2 ⟨y, H2, I2, ry, q2⟩ =>
    Calls.spliced_cons (thn (hf pins s2 σ H2 _ I2 q2) fun fv s3 ⟨y2, H3, I3, ry2, z, j, ey, ey2, q3⟩ => Calls.spliced_nil ?_))))
  subst ey ey2
  obtain ⟨fm3, k1, k2⟩ := hk.map I3
  refine call_meetsIn PySem.F.slot_dict_get k1.typeIs PySem.F.entry_dict_get (PySem.F.args_dict_get_3 _ _ _) (meets_dict_get_default (k := .inr z) (mixKind X.prog X.w) a (kV_is (k := .inr z) ry) hk.1 fv) ⟨fm3, k1, .int ((lookS kvs z).getD j), H3, I3.tok _, ?_, q3⟩
  have r := k2 z
  cases el : lookS kvs z with
  | none => rw [el] at r; rw [show fm3 (.inr z) = none from r]; exact ry2
  | some i => rw [el] at r; obtain ⟨t, r⟩ := r; rw [r]; exact ⟨t, rfl⟩
theorem jd_tab (hg : Gl X x) (hm : X.mg x = some (.ref a)) (hk : KTab X.prog X.w X.K a kvs) (he : JD X e g) (hs : NoSl e := by intro _ _; rfl) (hd : (x == ("__debug__" : Str)) = false := by decide) : JD X (.Subscript (.Name x px) e pos) (eTab kvs g) :=
  ⟨fun B => (pe_tab hg hm hk (he.h B) hs hd).imp fun σ H Q ⟨S, F, d, S', R, hg', q⟩ => by
    obtain ⟨⟨d1, S1⟩, h1, hg'⟩ := bind_some' hg'
    cases d1 <;> try (cases hg')
    rename_i z
    obtain ⟨i, h2, hg'⟩ := map_some' hg'
    cases hg'
    exact ⟨S, F, .str z, _, R, h1, fun v F1 H1 R1 st1 r1 => by cases r1; exact ⟨z, i, rfl, h2, q (.int i) F1 H1 R1 st1 (.int i)⟩⟩⟩
theorem jd_tabGet (hg : Gl X x) (hm : X.mg x = some (.ref a)) (hk : KTab X.prog X.w X.K a kvs) (he : JD X e g) (hf : JD X f gd) (hb : attributeBase (.Name x px) "get" X.env (eval (.Name x px) X.env) = eval (.Name x px) X.env := by rfl)
    (hfew : ((backTo cpos (starEach [e, f] X.env)).all (fun x => !x.1) && (backToKw cpos (keywordEach [] X.env)).all (fun x => x.1.isSome) && decide (([e, f] : List Expr).length + ([] : List Keyword).length + (if ([] : List Keyword).isEmpty then 0 else 1) < 30)) = true := by rfl)
    (hline : (apos.endLine == cpos.line) = true := by rfl) (htr : backTo cpos (starEach [e, f] X.env) = [(false, eval e X.env), (false, eval f X.env)] := by rfl) (hd : (x == ("__debug__" : Str)) = false := by decide) :
    JD X (.Call (.Attribute (.Name x px) "get" apos) [e, f] [] cpos) (eTabGet kvs g gd) :=
  ⟨fun B => (pe_tabGet hg hm hk (he.h B) (hf.h B) ⟨hb, hfew, hline, htr⟩ hd).imp fun σ H Q ⟨S, F, d, S', R, hg', q⟩ => by
    obtain ⟨⟨d1, S1⟩, h1, hg'⟩ := bind_some' hg'
    obtain ⟨⟨d2, S2⟩, h2, hg2⟩ := bind_some' hg'
    clear hg'
    cases d1 <;> try (cases hg2)
    rename_i z
    cases d2 <;> try (cases hg2)
    rename_i j
    exact ⟨S, F, .str z, _, R, h1, fun v F1 H1 R1 st1 r1 => by cases r1; exact ⟨_, F1, .int j, _, R1, h2, fun v2 F2 H2 R2 st2 r2 => by cases r2; exact ⟨z, j, rfl, rfl, q (.int _) F2 H2 R2 (st1.trans st2) (.int _)⟩⟩⟩⟩
end
def KTup (K : PySem.W.Frag) (a : Addr) (zs : List Str) : Prop := ∃ (o : Obj) (its : List Value) (n : Nat), K.lookup a = some o ∧ o.cls = .type "tuple" ∧ o.data = .seq its.toArray n ∧ its.length ≤ 1000 ∧ Vals (zs.map V.str) its
def StrsOk : List Str → List Value → Prop
  | [], [] => True
  | z :: r, v :: vs => (∃ t, v = .str z t) ∧ StrsOk r vs
  | _, _ => False
theorem strs_vals : ∀ {zs : List Str} {vs : List Value}, StrsOk zs vs → Vals (zs.map V.str) vs
  | [], [], _ => .nil
  | z :: r, v :: vs, h => .cons h.1 (strs_vals h.2)
  | [], _ :: _, h => h.elim
  | _ :: _, [], h => h.elim
theorem ktup_mk {K : PySem.W.Frag} {a : Addr} {zs : List Str} {its : List Value} {n : Nat} {od : Option Addr} {sl : Array (Option Value)} (h : K.lookup a = some ⟨.type "tuple", od, .seq its.toArray n, sl⟩) (hl : its.length ≤ 1000) (hs : StrsOk zs its) : KTup K a zs :=
  ⟨_, its, n, h, rfl, rfl, hl, strs_vals hs⟩
theorem reps_strs {F : Hp} : ∀ zs : List Str, Reps F (zs.map V.str) (zs.map D.str)
  | [] => .nil
  | z :: zs => .cons (.str z) (reps_strs zs)
theorem dep_strs : ∀ zs : List Str, depDs (zs.map D.str) = 0
  | [] => rfl
  | z :: zs => by show max (depD (.str z)) (depDs (zs.map D.str)) = 0; rw [dep_strs zs]; rfl
def eInC (n : Bool) (zs : List Str) (g : GD) : GD := fun S => (g S).map fun p => (.bl (n != inD p.1 (zs.map D.str)), p.2)
section
variable {X : Cx} {e : Expr} {x : Str} {px pos : Pos} {g : GD} {a : Addr} {zs : List Str}
theorem inC_eq (I : Inv X pins σ H s) (hk : KTup X.K a zs) (hu : X.A.units + 64 < cLine) {F : Hp} {d : D} {v : V} {u : Value} (sb : Sub F H) (r : Rep F v d) (rv : RelV v u) : ∃ its : List Value, IsTup s.heap a its.toArray ∧ (∀ y ∈ its, SeqAt.EqAt X.A.in1 s y u (inE F d y)) ∧ its.any (inE F d) = inD d (zs.map D.str) := by
  obtain ⟨o, its, n, h1, h2, h3, h4, h5⟩ := hk
  obtain ⟨k1, k2⟩ := in_items I sb (A := X.A.in1) r rv (reps_strs zs) h5 (by rw [dep_strs]; show X.A.units + 1 + 0 < cLine; omega)
  exact ⟨its, ⟨o, I.kIn a o h1, h2, n, h3⟩, k1, k2⟩
theorem pc_inC (hu : X.A.units + 64 < cLine) (hg : Gl X x) (hm : X.mg x = some (.ref a)) (hk : KTup X.K a zs) {B : Base} (he : PE X e (tD X.K B g)) (hd : (x == ("__debug__" : Str)) = false) :
    PC X .In e (.Name x px) (tD X.K B (eInC false zs g)) := by
  intro pins s σ H Q I h
  obtain ⟨S, F, d, S', R, hg', q⟩ := h
  obtain ⟨⟨d1, S1⟩, h1, hg'⟩ := map_some' hg'
  cases hg'
  refine thn (he pins s σ H (fun y H1 => ∃ F', Sub F' H1 ∧ Rep F' y d1 ∧ Q (.bl (false != inD d1 (zs.map D.str))) H1) I ⟨S, F, d1, _, R, h1, fun v F1 H1 R1 st1 r1 => ⟨F1, R1.sub, r1, q (.bl _) F1 H1 R1 st1 (.bl _)⟩⟩) fun iv s1 ⟨y, H1, I1, ry, F', sb, r', q'⟩ => ?_
  refine thn (pe_glob (v := .ref a) hg hm rfl hd pins s1 σ H1 (fun v H2 => v = .ref a ∧ H2 = H1) I1 ⟨rfl, rfl⟩) fun u s2 ⟨x', H2, I2, rx, ex, eH⟩ => ?_
  subst ex eH
  obtain rfl : u = Value.ref a := rx
  obtain ⟨its, p, k1, k2⟩ := inC_eq I2 hk hu sb r' ry
  refine SeqAt.in_tupleAt (inE F' d1) p (fun y hy => k1 y (by simpa using hy)) ⟨.bl _, _, I2, rfl, ?_⟩
  rw [show its.toArray.any (inE F' d1) = its.any (inE F' d1) by simp, k2]
  simpa using q'
theorem tB_tD {B : Base} {g : GD} {σ : St} {H : Hp} {Q : Bool → Hp → Prop} (h : tQ X.K B (qB g) σ H Q) : tB (tD X.K B g) σ H Q := by
  obtain ⟨S, F, kk, S', R, hg', q⟩ := h
  exact ⟨S, F, .bl kk, S', R, qB_some hg', fun v F' H' R' st r => ⟨kk, rep_bl r, q F' H' R' st⟩⟩
theorem jt_inC (hu : X.A.units + 64 < cLine) (hg : Gl X x) (hm : X.mg x = some (.ref a)) (hk : KTup X.K a zs) (he : JD X e g) (hd : (x == ("__debug__" : Str)) = false := by decide) (hi : behindInMarks .In (.Name x px) = false := by with_unfolding_all rfl) : JT X (.Compare e [.In] [.Name x px] pos) (qB (eInC false zs g)) :=
  ⟨fun B => (pt_cmp (pc_inC hu hg hm hk (he.h B) hd) hi).imp fun σ H Q h => tB_tD h⟩
end
end L2

end
section
set_option Elab.async false
set_option linter.all false
set_option maxRecDepth 100000
namespace L2
open PySem PySem.Spec PyProof.Rows
def getU : U → D → Option (Option D)
  | .m (.dct kvs), k => (keyOf k).map (lookD kvs)
  | .b (.dct kvs), k => (keyOf k).map (lookD kvs)
  | .m (.dtt kvs), k => (keyT k).map (lookD kvs)
  | .b (.dtt kvs), k => (keyT k).map (lookD kvs)
  | _, _ => none
def isDct : U → Bool
  | .m (.dct _) => true
  | .b (.dct _) => true
  | .m (.dtt _) => true
  | .b (.dtt _) => true
  | _ => false
def eDGet (i : Nat) (gk gd : GD) : GD := fun S => match S[i]? with
  | some (some u) => if isDct u then (gk S).bind fun p => (gd p.2).bind fun q => match q.2[i]? with
    | some (some u2) => (getU u2 p.1).map fun o => (o.getD q.1, q.2)
    | _ => none
    else none
  | _ => none
def RelD (F : Hp) : Option V → Option D → Prop
  | some v, some d => Rep F v d
  | none, none => True
  | _, _ => False
theorem look_rel {κ : Type} [DecidableEq κ] {F : Hp} {ws : List (κ × V)} {kvs : List (κ × D)} (pr : Paired (PairD F) ws kvs) (k : κ) : RelD F (valV ws k) (lookD kvs k) := by
  cases e : lookD kvs k with
  | none => rw [look_none pr e]; exact True.intro
  | some d => obtain ⟨v, h, r⟩ := look_pair pr e; rw [h]; exact r
theorem get_get {K : PySem.W.Frag} {F H : Hp} {v w : V} {u : U} {d : D} {h : Option D} (sb : Sub F H) (r : RepU K F H v u) (rk : Rep F w d) (e : getU u d = some h) : ∃ a o, v = .ref a ∧ DGet H a w o ∧ RelD F o h := by
  unfold getU at e
  split at e
  · obtain ⟨kk, e1, rfl⟩ := map_some' e
    obtain ⟨a, rfl, fa, ws, ha, pr⟩ := r
    rw [keyOf_rep rk e1]
    exact ⟨a, _, rfl, DGet.k ha, look_rel pr kk⟩
  · obtain ⟨kk, e1, rfl⟩ := map_some' e
    obtain ⟨a, rfl, fa, ws, ha, pr⟩ := r
    rw [keyOf_rep rk e1]
    exact ⟨a, _, rfl, DGet.k ha, look_rel pr kk⟩
  · obtain ⟨kk, e1, rfl⟩ := map_some' e
    obtain ⟨a, rfl, fa, ws, ha, pr⟩ := r
    obtain ⟨b, rfl, hb⟩ := keyT_rep sb rk e1
    exact ⟨a, _, rfl, DGet.t ha hb, look_rel pr kk⟩
  · obtain ⟨kk, e1, rfl⟩ := map_some' e
    obtain ⟨a, rfl, fa, ws, ha, pr⟩ := r
    obtain ⟨b, rfl, hb⟩ := keyT_rep sb rk e1
    exact ⟨a, _, rfl, DGet.t ha hb, look_rel pr kk⟩
  · cases e
theorem isDct_at {K : PySem.W.Frag} {F H : Hp} {v : V} {u : U} (r : RepU K F H v u) (h : isDct u = true) : ∃ a, v = .ref a ∧ IsD H a := by
  unfold isDct at h
  split at h
  · obtain ⟨a, rfl, fa, ws, ha, pr⟩ := r; exact ⟨a, rfl, .inl ⟨ws, .inl ha⟩⟩
  · obtain ⟨a, rfl, fa, ws, ha, pr⟩ := r; exact ⟨a, rfl, .inl ⟨ws, .inl ha⟩⟩
  · obtain ⟨a, rfl, fa, ws, ha, pr⟩ := r; exact ⟨a, rfl, .inr ⟨ws, .inl ha⟩⟩
  · obtain ⟨a, rfl, fa, ws, ha, pr⟩ := r; exact ⟨a, rfl, .inr ⟨ws, .inl ha⟩⟩
  · cases h
section
variable {X : Cx} {e f : Expr} {x : Str} {px pos apos cpos : Pos} {gk gd : GD} {ge : GE}
theorem jd_dget {i : Nat} (hu : X.A.units + 1 < cLine) (he : JD X e gk) (hf : JD X f gd) (hN : X.N[i]? = some x := by rfl) (hv : Vis X.env.scope x := by first | exact Or.inl rfl | exact Or.inr (Or.inl rfl) | exact Or.inr (Or.inr rfl))
    (hb : attributeBase (.Name x px) "get" X.env (eval (.Name x px) X.env) = eval (.Name x px) X.env := by rfl)
    (hfew : ((backTo cpos (starEach [e, f] X.env)).all (fun x => !x.1) && (backToKw cpos (keywordEach [] X.env)).all (fun x => x.1.isSome) && decide (([e, f] : List Expr).length + ([] : List Keyword).length + (if ([] : List Keyword).isEmpty then 0 else 1) < 30)) = true := by rfl)
    (hline : (apos.endLine == cpos.line) = true := by rfl) (htr : backTo cpos (starEach [e, f] X.env) = [(false, eval e X.env), (false, eval f X.env)] := by rfl) (hd : (x == ("__debug__" : Str)) = false := by decide) (hcd : (x == ("__classdict__" : Str)) = false := by decide) :
    JD X (.Call (.Attribute (.Name x px) "get" apos) [e, f] [] cpos) (eDGet i gk gd) :=
  ⟨fun B => (pe_dget2 hu (pe_var hN hv hd hcd) (he.h B) (hf.h B) ⟨hb, hfew, hline, htr⟩).imp fun σ H Q ⟨S, F, d, S', R, hg, q⟩ => by
    unfold eDGet at hg
    split at hg
    · rename_i u hS
      split at hg
      · rename_i hD
        obtain ⟨⟨d1, S1⟩, h1, hg⟩ := bind_some' hg
        obtain ⟨⟨d2, S2⟩, h2, hg⟩ := bind_some' hg
        dsimp only at hg
        split at hg
        · rename_i u2 hS2
          obtain ⟨o, h3, hg⟩ := map_some' hg
          cases hg
          obtain ⟨v0, hv0, r0⟩ := R.rep i u hS
          obtain ⟨a, rfl, ha⟩ := isDct_at r0 hD
          refine ⟨.ref a, hv0, a, rfl, ha, S, F, d1, S1, R, h1, fun v1 F1 H1 R1 st1 r1 => ⟨S1, F1, d2, _, R1, h2, fun v2 F2 H2 R2 st2 r2 => ?_⟩⟩
          obtain ⟨v3, hv3, r3⟩ := R2.rep i u2 hS2
          rw [hv0] at hv3
          cases hv3
          obtain ⟨a', ov, e1, g1, rl⟩ := get_get R2.sub r3 (r1.le st2.ext.le) h3
          cases e1
          refine ⟨ov, g1, q _ F2 H2 R2 (st1.trans st2) ?_⟩
          cases o with
          | none => cases ov with
            | none => exact r2
            | some _ => exact (show False from rl).elim
          | some d => cases ov with
            | none => exact (show False from rl).elim
            | some v => exact rl
        · cases hg
      · cases hg
    · cases hg⟩
def tDUpd (td te : TE) : TE := fun σ H Q => td σ H fun x H1 => ∃ a, x = .ref a ∧ IsD H1 a ∧ te σ H1 fun y H2 => ∃ p kvs more, y = .ref p ∧ H2 a = some (.dK kvs) ∧ H2 p = some (.dK more) ∧ a ≠ p ∧ kvs.length + more.length ≤ sizeLine ∧ Q .non (upd H2 a (.dK (mergeK kvs more)))
theorem pe_dupd {o : Expr} {td te : TE} (ho : PE X o td) (he : PE X e te) (m : M1 X o "update" apos e cpos) : PE X (.Call (.Attribute o "update" apos) [e] [] cpos) (tDUpd td te) := by
  intro pins s σ H Q I h
  refine wpAny_Call_method m.base m.few m.line PySem.F.plainAttrs_dict PySem.F.slot_dict_update PySem.F.type_dict_update (thn (ho pins s σ H _ I h) fun u s1 ⟨x, H1, I1, rx, a, ex, d, q1⟩ => ?_)
  subst ex
  obtain rfl : u = Value.ref a := rx
  obtain ⟨t1, t2, _⟩ := isD_at I1 d
  refine ⟨t1, t2, ?_⟩
  rw [m.trees]
  refine Calls.callWith_builtin rfl (Calls.evalArgs_plain (Calls.spliced_cons (thn (he pins s1 σ H1 _ I1 q1) fun iv s2 ⟨y, H2, I2, ry, p, kvs, more, ey, ha, hp, ne, hl, q2⟩ => Calls.spliced_nil ?_)))
  subst ey
  obtain rfl : iv = Value.ref p := ry
  obtain ⟨z1, d1, vs1, r1, dd1⟩ := dk_of I2.hok ha
  obtain ⟨z2, d2, vs2, r2, dd2⟩ := dk_of I2.hok hp
  refine call_meetsIn PySem.F.slot_dict_update dd1.typeIs PySem.F.entry_dict_update (PySem.F.args_dict_update_2 _ _) (meets_dict_update (mixKind X.prog X.w) a p ne d2) ⟨vs1, vs2, dd1, dd2, (by rw [← r1.length, ← r2.length]; exact hl), fun h' dd' _ hs => ⟨.non, _, ?_, rfl, q2⟩⟩
  have hz : (mergeK kvs more).length ≤ sizeLine := Nat.le_trans (length_mergeK more kvs) hl
  have hee : ∃ q, h'.get? a = some q := let ⟨q, _, _, hq, _⟩ := dd'; ⟨q, hq⟩
  exact d_write I2 (by rw [ha]; exact True.intro) hs hee (dk_new hz d1 (r2.merge r1) dd')
def eDUpd (i : Nat) (ge : GE) : GD := fun S => match S[i]? with
  | some (some u) => if isDct u then (ge S).bind fun p => match p.1 with
    | .m (.dct more) => mutU p.2 i fun o => match o with
      | .dct kvs => if kvs.length + more.length ≤ 100000 then some (.non, .dct (mergeD kvs more)) else none
      | _ => none
    | _ => none
    else none
  | _ => none
theorem jd_dupd {i : Nat} (he : JE X e ge) (hN : X.N[i]? = some x := by rfl) (hv : Vis X.env.scope x := by first | exact Or.inl rfl | exact Or.inr (Or.inl rfl) | exact Or.inr (Or.inr rfl))
    (hb : attributeBase (.Name x px) "update" X.env (eval (.Name x px) X.env) = eval (.Name x px) X.env := by rfl)
    (hfew : ((backTo cpos (starEach [e] X.env)).all (fun x => !x.1) && (backToKw cpos (keywordEach [] X.env)).all (fun x => x.1.isSome) && decide (([e] : List Expr).length + ([] : List Keyword).length + (if ([] : List Keyword).isEmpty then 0 else 1) < 30)) = true := by rfl)
    (hline : (apos.endLine == cpos.line) = true := by rfl) (htr : backTo cpos (starEach [e] X.env) = [(false, eval e X.env)] := by rfl) (hd : (x == ("__debug__" : Str)) = false := by decide) (hcd : (x == ("__classdict__" : Str)) = false := by decide) :
    JD X (.Call (.Attribute (.Name x px) "update" apos) [e] [] cpos) (eDUpd i ge) :=
  ⟨fun B => (pe_dupd (pe_var hN hv hd hcd) (he.h B) ⟨hb, hfew, hline, htr⟩).imp fun σ H Q ⟨S, F, d, S', R, hg, q⟩ => by
    unfold eDUpd at hg
    split at hg
    · rename_i u hS
      split at hg
      · rename_i hD
        obtain ⟨⟨u1, S1⟩, h1, hg⟩ := bind_some' hg
        dsimp only at hg
        split at hg
        · rename_i more
          obtain ⟨u2, u', o, o', hS2, hmu, hio, hf, hre, rfl⟩ := mutU_some hg
          split at hf
          · rename_i kvs
            obtain ⟨hl, hf⟩ := ite_some2 hf
            cases hf
            obtain ⟨v0, hv0, r0⟩ := R.rep i u hS
            obtain ⟨a, rfl, ha⟩ := isDct_at r0 hD
            refine ⟨.ref a, hv0, a, rfl, ha, S, F, _, S1, R, h1, fun v1 F1 H1 R1 st1 r1 => ?_⟩
            obtain ⟨p, rfl, hp0, fp, ⟨ws2, hp, pr2⟩, hn, hB⟩ := r1
            obtain ⟨v3, hv3, r3⟩ := R1.rep i u2 hS2
            rw [hv0] at hv3
            cases hv3
            have mA : mutAt S1 σ a := ⟨i, u2, hS2, hmu, hv0⟩
            have ne : a ≠ p := fun z => hn (z ▸ mA)
            obtain ⟨b, o2, e1, fa, e2, k⟩ := r3.mutAt hmu
            cases e1
            rw [hio] at e2
            cases e2
            obtain ⟨ws1, ha1, pr1⟩ := k
            refine ⟨p, ws1, ws2, rfl, ha1, hp, ne, ?_, ?_⟩
            · rw [paired_length pr1, paired_length pr2, sizeLine_eq]; omega
            · obtain ⟨R2, st2⟩ := R1.write (ho := .dK (mergeK ws1 ws2)) hS2 hre hv0 ⟨_, upd_same, merge_pair pr2 pr1⟩
              exact q .non F1 _ R2 (st1.trans st2) .non
          · cases hf
        · cases hg
      · cases hg
    · cases hg⟩
end
def frzAt (i : Nat) (S : SS) : SS := match S[i]? with
  | some (some (.m (.lst ds))) => S.set i (some (.t (.lst ds)))
  | _ => S
def eFrz (i : Nat) (g : GE) : GE := fun S => g (frzAt i S)
theorem je_frz {X : Cx} {e : Expr} {g : GE} (i : Nat) (h : JE X e g) : JE X e (eFrz i g) := ⟨fun B => (h.h B).imp fun σ H Q ⟨S, F, u, S', R, hg, q⟩ => by
  unfold eFrz frzAt at hg
  split at hg
  · rename_i ds hS
    obtain ⟨v, hv, r⟩ := R.rep i _ hS
    obtain ⟨F1, R1, st1, _⟩ := fz_ok (S0 := S) (F0 := F) (H0 := H) (u := .v i) (v := v) (d := .lst ds) (S' := S.set i (some (.t (.lst ds)))) R (Step.refl ..) ⟨hv, _, hS⟩ (by simp only [fz, hS])
    exact ⟨_, F1, u, S', R1, hg, fun v' F' H' R' st r' => q v' F' H' R' (st1.trans st) r'⟩
  · exact ⟨S, F, u, S', R, hg, q⟩⟩
end L2

end
section
set_option Elab.async false
set_option linter.all false
set_option maxRecDepth 100000
namespace L2
open PySem PySem.Spec PyProof.Rows
section
variable (S : SS) (d e : D) (o : MO) (i j : Nat) (g ga gb gc : GD) (ge : GE) (q q1 q2 : GT) (gA : GA) (gu : GU) (a b : GS) (f f' : List D → Option U) (fm : FM) (bd : GB) (gi : GI)
@[simp] theorem m_eVar : eVar i S = match S[i]? with | some (some (.t d)) => some (.t d, S) | some (some (.s d)) => some (.s d, S) | some (some _) => some (.v i, S) | _ => none := rfl
@[simp] theorem m_eC : eC d S = some (d, S) := rfl
@[simp] theorem m_aNil : aNil S = some ([], S) := rfl
@[simp] theorem m_aCons : aCons g gA S = (g S).bind fun p => (gA p.2).map fun q => (p.1 :: q.1, q.2) := rfl
@[simp] theorem m_eP : eP f gA S = (gA S).bind fun p => (f p.1).map fun u => (u, p.2) := rfl
@[simp] theorem m_eF : eF ge S = (ge S).bind fun p => fz p.1 p.2 := rfl
@[simp] theorem m_eT : eT g S = (g S).map fun p => (.t p.1, p.2) := rfl
@[simp] theorem m_fz_t : fz (.t d) S = some (d, S) := rfl
@[simp] theorem m_fz_m (ds : List D) : fz (.m (.lst ds)) S = some (.lst ds, S) := rfl
@[simp] theorem m_fz_v : fz (.v i) S = match S[i]? with | some (some (.t d)) => some (d, S) | some (some (.m (.lst ds))) => some (.lst ds, S.set i (some (.t (.lst ds)))) | _ => none := rfl
@[simp] theorem m_qB : qB g S = (g S).bind fun p => match p.1 with | .bl k => some (k, p.2) | _ => none := rfl
@[simp] theorem m_qNot : qNot q S = (q S).map fun p => (!p.1, p.2) := rfl
@[simp] theorem m_qAnd : qAnd q1 q2 S = (q1 S).bind fun p => if p.1 then q2 p.2 else some (false, p.2) := rfl
@[simp] theorem m_qOr : qOr q1 q2 S = (q1 S).bind fun p => if p.1 then some (true, p.2) else q2 p.2 := rfl
@[simp] theorem m_eQ : eQ q S = (q S).map fun p => (.bl p.1, p.2) := rfl
@[simp] theorem m_qTrue : qTrue S = some (true, S) := rfl
@[simp] theorem m_eCh : eCh f f' ga gb gc S = (ga S).bind fun p => (gb p.2).bind fun q => match f [p.1, q.1] with
  | some (.t (.bl k)) => if k then (gc q.2).bind fun r => match f' [q.1, r.1] with
      | some (.t (.bl k')) => some (.bl k', r.2)
      | _ => none
    else some (.bl false, q.2)
  | _ => none := rfl
@[simp] theorem m_eIf (g1 g2 : GE) : eIf q g1 g2 S = (q S).bind fun p => if p.1 then g1 p.2 else g2 p.2 := rfl
@[simp] theorem m_sNil : sNil S = some (.nx S) := rfl
@[simp] theorem m_sSeq : sSeq a b S = (a S).bind fun o => match o with | .nx S1 => b S1 | o => some o := rfl
@[simp] theorem m_sSet : sSet i ge S = (ge S).bind fun p => match p.1 with | .m o => (setU i (.m o) p.2).map .nx | u => (fz u p.2).bind fun q => (setU i (.t q.1) q.2).map .nx := rfl
@[simp] theorem m_setU (u : U) : setU i u S = match S[i]? with | some (some (.b _)) => none | some _ => some (S.set i (some u)) | none => none := rfl
@[simp] theorem m_sExpr : sExpr ge S = (ge S).map fun p => .nx p.2 := rfl
@[simp] theorem m_sRet : sRet ge S = (ge S).bind fun p => match p.1 with
  | .v i => match p.2[i]? with
    | some (some (.t d)) => some (.rt (.t d) p.2)
    | some (some (.m o)) => some (.rt (.m o) (p.2.set i none))
    | _ => none
  | .s _ => none
  | u => some (.rt u p.2) := rfl
@[simp] theorem m_sRetN : sRetN S = some (.rt (.t .non) S) := rfl
@[simp] theorem m_sIf : sIf q a b S = (q S).bind fun p => if p.1 then a p.2 else b p.2 := rfl
@[simp] theorem m_sAsg : sAsg bd g S = (g S).bind fun p => (bd p.1 p.2).map .nx := rfl
@[simp] theorem m_bName : bName i d S = setU i (.t d) S := rfl
@[simp] theorem m_sFor : sFor bd gi a S = (gi S).bind fun p => loop bd a p.1 p.2 := rfl
@[simp] theorem m_iAny_t (h : g S = some (.tup ds, S')) : iAny g S = some (ds, S') := by unfold iAny; rw [h]; rfl
@[simp] theorem m_iSeq : iSeq g S = (g S).bind fun p => match p.1 with | .tup ds => some (ds, p.2) | .lst ds => some (ds, p.2) | _ => none := rfl
@[simp] theorem m_gRng1 : gRng1 gA S = (gA S).bind fun p => match p.1 with | [.int j] => if j < 1000000 ∧ -1000000 < j then some (rng 0 j.toNat, p.2) else none | _ => none := rfl
@[simp] theorem m_gRng2 : gRng2 gA S = (gA S).bind fun p => match p.1 with | [.int i, .int j] => if i < 1000000 ∧ -1000000 < i ∧ j < 1000000 ∧ -1000000 < j then some (rng i (j - i).toNat, p.2) else none | _ => none := rfl
@[simp] theorem m_loop_nil : loop bd a [] S = some (.nx S) := rfl
@[simp] theorem m_uNil : uNil S = some ([], S) := rfl
@[simp] theorem m_uVal : uVal g gu S = (g S).bind fun p => (gu p.2).map fun q => (.t p.1 :: q.1, q.2) := rfl
@[simp] theorem m_uMut : uMut ge gu S = (ge S).bind fun p => (gu p.2).map fun q => (p.1 :: q.1, q.2) := rfl
@[simp] theorem m_eCall : eCall fm gu S = (gu S).bind fun p => if (slotsOf p.1).Nodup ∧ freshes p.1 ≤ 1 then (resolves p.2 p.1).bind fun us => (fm us).bind fun r => (wb p.1 r.2 p.2).map fun S2 => (r.1, S2) else none := rfl
@[simp] theorem m_res_nil : resolves S [] = some [] := rfl
@[simp] theorem m_res_cons (u : U) (us : List U) : resolves S (u :: us) = (resolve S u).bind fun w => (resolves S us).map fun ws => w :: ws := rfl
@[simp] theorem m_res_t : resolve S (.t d) = some (.t d) := rfl
@[simp] theorem m_res_m : resolve S (.m o) = some (.b o) := rfl
@[simp] theorem m_res_s (ns : List Int) : resolve S (.s ns) = some (.s ns) := rfl
@[simp] theorem m_res_v : resolve S (.v i) = match S[i]? with | some (some (.m o)) => some (.b o) | some (some (.b o)) => some (.b o) | _ => none := rfl
@[simp] theorem m_sl_nil : slotsOf [] = [] := rfl
@[simp] theorem m_sl_t (us : List U) : slotsOf (.t d :: us) = slotsOf us := rfl
@[simp] theorem m_sl_m (us : List U) : slotsOf (.m o :: us) = slotsOf us := rfl
@[simp] theorem m_sl_s (ns : List Int) (us : List U) : slotsOf (.s ns :: us) = slotsOf us := rfl
@[simp] theorem m_sl_v (us : List U) : slotsOf (.v i :: us) = i :: slotsOf us := rfl
@[simp] theorem m_fr_nil : freshes [] = 0 := rfl
@[simp] theorem m_fr_t (us : List U) : freshes (.t d :: us) = freshes us := rfl
@[simp] theorem m_fr_m (us : List U) : freshes (.m o :: us) = freshes us + 1 := rfl
@[simp] theorem m_fr_s (ns : List Int) (us : List U) : freshes (.s ns :: us) = freshes us := rfl
@[simp] theorem m_fr_v (us : List U) : freshes (.v i :: us) = freshes us := rfl
@[simp] theorem m_wb_nil : wb [] [] S = some S := rfl
@[simp] theorem m_wb_t (us : List U) (os : List MO) : wb (.t d :: us) os S = wb us os S := by cases os <;> rfl
@[simp] theorem m_wb_s (ns : List Int) (us : List U) (os : List MO) : wb (.s ns :: us) os S = wb us os S := by cases os <;> rfl
@[simp] theorem m_wb_m (us : List U) (os : List MO) : wb (.m o :: us) (o' :: os) S = wb us os S := rfl
@[simp] theorem m_wb_v (us : List U) (os : List MO) : wb (.v i :: us) (o :: os) S = match S[i]? with | some (some (.m _)) => wb us os (S.set i (some (.m o))) | some (some (.b _)) => wb us os (S.set i (some (.b o))) | _ => none := rfl
@[simp] theorem m_eSub : eSub i gb S = match S[i]? with | some (some _) => (gb S).bind fun p => (match p.2[i]? with | some (some u) => (readU u p.1).map fun d => (d, p.2) | _ => none) | _ => none := rfl
@[simp] theorem m_eLen : eLen i S = match S[i]? with | some (some u) => (lenU u).map fun n => (.int (n : Nat), S) | _ => none := rfl
@[simp] theorem m_eM (h : List D → MO → Option (D × MO)) : eM i h gA S = if isL S i then (gA S).bind fun p => mutU p.2 i (h p.1) else none := rfl
@[simp] theorem m_sPut (gk gv : GD) : sPut i gk gv S = (gv S).bind fun p => match p.2[i]? with | some (some _) => (gk p.2).bind fun r => (mutU r.2 i fun o => (writeU o r.1 p.1).map fun o' => (.non, o')).map fun z => .nx z.2 | _ => none := rfl
@[simp] theorem m_eIs (Ts : List String) : eIs Ts g S = (g S).bind fun p => (isTys Ts p.1).map fun b => (.bl b, p.2) := rfl
@[simp] theorem m_readU_tt (ds : List D) (k : Int) : readU (.t (.tup ds)) (.int k) = atI ds k := rfl
@[simp] theorem m_readU_tl (ds : List D) (k : Int) : readU (.t (.lst ds)) (.int k) = atI ds k := rfl
@[simp] theorem m_readU_ml (ds : List D) (k : Int) : readU (.m (.lst ds)) (.int k) = atI ds k := rfl
@[simp] theorem m_readU_bl (ds : List D) (k : Int) : readU (.b (.lst ds)) (.int k) = atI ds k := rfl
@[simp] theorem m_readU_md (kvs : List (Key × D)) (k : D) : readU (.m (.dct kvs)) k = (keyOf k).bind (lookD kvs) := by cases k <;> rfl
@[simp] theorem m_readU_bd (kvs : List (Key × D)) (k : D) : readU (.b (.dct kvs)) k = (keyOf k).bind (lookD kvs) := by cases k <;> rfl
@[simp] theorem m_readU_s (ns : List Int) (k : Int) : readU (.s ns) (.int k) = (atI ns k).map D.int := rfl
@[simp] theorem m_key_i (k : Int) : keyOf (.int k) = some (.inl k) := rfl
@[simp] theorem m_key_s (k : Str) : keyOf (.str k) = some (.inr k) := rfl
@[simp] theorem m_lenU_tt (ds : List D) : lenU (.t (.tup ds)) = some ds.length := rfl
@[simp] theorem m_lenU_tl (ds : List D) : lenU (.t (.lst ds)) = some ds.length := rfl
@[simp] theorem m_lenU_ml (ds : List D) : lenU (.m (.lst ds)) = some ds.length := rfl
@[simp] theorem m_lenU_bl (ds : List D) : lenU (.b (.lst ds)) = some ds.length := rfl
@[simp] theorem m_lenU_s (ns : List Int) : lenU (.s ns) = some ns.length := rfl
@[simp] theorem m_fI2 (C : Int → Int → Bool) (h : Int → Int → D) (x y : Int) : fI2 C h [.int x, .int y] = if C x y then some (.t (h x y)) else none := rfl
@[simp] theorem m_fAdd_i (x y : Int) : fAdd [.int x, .int y] = some (.t (.int (x + y))) := rfl
@[simp] theorem m_fAdd_s (x y : Str) : fAdd [.str x, .str y] = if x.length + y.length ≤ 100000 then some (.t (.str (x ++ y))) else none := rfl
@[simp] theorem m_fAdd_t (x y : List D) : fAdd [.tup x, .tup y] = if x.length + y.length ≤ 100000 then some (.t (.tup (x ++ y))) else none := rfl
@[simp] theorem m_fAdd_l (x y : List D) : fAdd [.lst x, .lst y] = if x.length + y.length ≤ 100000 then some (.m (.lst (x ++ y))) else none := rfl
@[simp] theorem m_fMul (x y : Int) : fMul [.int x, .int y] = if ((decide (-(2 ^ 64) < x) && decide (x < 2 ^ 64)) || (decide (-(2 ^ 64) < y) && decide (y < 2 ^ 64))) then some (.t (.int (x * y))) else none := rfl
@[simp] theorem m_fNeg (x : Int) : fNeg [.int x] = some (.t (.int (-x))) := rfl
@[simp] theorem m_fTup (ds : List D) : fTup ds = if ds.length ≤ 100000 then some (.t (.tup ds)) else none := rfl
@[simp] theorem m_fLst (ds : List D) : fLst ds = if ds.length ≤ 100000 then some (.m (.lst ds)) else none := rfl
@[simp] theorem m_fIx_t (ds : List D) (k : Int) : fIx [.tup ds, .int k] = (atI ds k).map .t := rfl
@[simp] theorem m_fIx_l (ds : List D) (k : Int) : fIx [.lst ds, .int k] = (atI ds k).map .t := rfl
@[simp] theorem m_fEq : fEq [d, e] = if depD d ≤ 40 then some (.t (.bl (eqD d e))) else none := rfl
@[simp] theorem m_fNe : fNe [d, e] = if depD d ≤ 40 then some (.t (.bl (!eqD d e))) else none := rfl
@[simp] theorem m_fMin3 (x y z : Int) : fMin3 [.int x, .int y, .int z] = some (.t (.int (if y < x then (if z < y then z else y) else if z < x then z else x))) := rfl
@[simp] theorem m_fMax2 (x y : Int) : fMax2 [.int x, .int y] = some (.t (.int (if y > x then y else x))) := rfl
@[simp] theorem m_fLen_t (ds : List D) : fLen [.tup ds] = some (.t (.int ds.length)) := rfl
@[simp] theorem m_fLen_l (ds : List D) : fLen [.lst ds] = some (.t (.int ds.length)) := rfl
@[simp] theorem m_fList_t (ds : List D) : fList [.tup ds] = some (.m (.lst ds)) := rfl
@[simp] theorem m_fList_l (ds : List D) : fList [.lst ds] = some (.m (.lst ds)) := rfl
@[simp] theorem m_fTuple_t (ds : List D) : fTuple [.tup ds] = some (.t (.tup ds)) := rfl
@[simp] theorem m_fTuple_l (ds : List D) : fTuple [.lst ds] = some (.t (.tup ds)) := rfl
@[simp] theorem m_fAll (ds : List D) : fAll [.lst ds] = (boolsD ds).map fun bs => .t (.bl (bs.all id)) := rfl
@[simp] theorem m_fAny (ds : List D) : fAny [.lst ds] = (boolsD ds).map fun bs => .t (.bl (bs.any id)) := rfl
@[simp] theorem m_fRepr : fRepr [d] = if okR d then some (.t (.str (toPy d).shown)) else none := rfl
@[simp] theorem m_eqD_s (x y : Str) : eqD (.str x) (.str y) = (x == y) := by simp [eqD]
@[simp] theorem m_eqD_i (x y : Int) : eqD (.int x) (.int y) = (x == y) := by simp [eqD]
@[simp] theorem m_eqD_b (x y : Bool) : eqD (.bl x) (.bl y) = (x == y) := by simp [eqD]
@[simp] theorem m_dep_s (x : Str) : depD (.str x) = 0 := by simp [depD]
@[simp] theorem m_dep_i (x : Int) : depD (.int x) = 0 := by simp [depD]
@[simp] theorem m_dep_b (x : Bool) : depD (.bl x) = 0 := by simp [depD]
@[simp] theorem m_dep_n : depD .non = 0 := by simp [depD]
@[simp] theorem m_mutU (h : MO → Option (D × MO)) : mutU S i h = match S[i]? with | some (some (.m o)) => (h o).map fun r => (r.1, S.set i (some (.m r.2))) | some (some (.b o)) => (h o).map fun r => (r.1, S.set i (some (.b r.2))) | _ => none := rfl
@[simp] theorem m_isL : isL S i = match S[i]? with | some (some (.m (.lst _))) => true | some (some (.b (.lst _))) => true | _ => false := rfl
@[simp] theorem m_write_d (kvs : List (Key × D)) (k : D) : writeU (.dct kvs) k d = (keyOf k).bind fun kk => if kvs.length < 100000 then some (.dct (putD kvs kk d)) else none := rfl
@[simp] theorem m_write_l (ds : List D) (k : Int) : writeU (.lst ds) (.int k) d = (ixN ds.length k).map fun j => .lst (ds.set j d) := rfl
@[simp] theorem m_append (ds : List D) : hAppend [d] (.lst ds) = if ds.length < 100000 then some (.non, .lst (ds ++ [d])) else none := rfl
@[simp] theorem m_out_nil : outsOf [] S = some [] := by cases S <;> rfl
@[simp] theorem m_out_b (us : List U) (o2 : MO) : outsOf (.b o2 :: us) (some (.b o) :: S) = (outsOf us S).map fun os => o :: os := rfl
@[simp] theorem m_out_t (us : List U) (x : Option U) : outsOf (.t d :: us) (x :: S) = outsOf us S := by cases x <;> rfl
@[simp] theorem m_out_s (ns : List Int) (us : List U) (x : Option U) : outsOf (.s ns :: us) (x :: S) = outsOf us S := by cases x <;> rfl
end
structure Tape where
  c : Int
  l : Int
  n : Int
def tapeKvs (t : Tape) : List (Key × D) := [(.inr "cell", .int t.c), (.inr "left", .int t.l), (.inr "turn", .int t.n)]
def tapeOf : List (Key × D) → Option Tape
  | [(k1, .int c), (k2, .int l), (k3, .int n)] => if k1 = .inr "cell" ∧ k2 = .inr "left" ∧ k3 = .inr "turn" then some ⟨c, l, n⟩ else none
  | _ => none
@[simp] theorem tapeOf_kvs (t : Tape) : tapeOf (tapeKvs t) = some t := by simp [tapeOf, tapeKvs]
theorem tapeOf_some {kvs : List (Key × D)} {t : Tape} (h : tapeOf kvs = some t) : kvs = tapeKvs t := by
  unfold tapeOf at h
  split at h
  · obtain ⟨⟨rfl, rfl, rfl⟩, rfl⟩ := ite_some h
    rfl
  · cases h
@[simp] theorem tape_c (t : Tape) : lookD (tapeKvs t) (.inr "cell") = some (.int t.c) := by rfl
@[simp] theorem tape_l (t : Tape) : lookD (tapeKvs t) (.inr "left") = some (.int t.l) := by rfl
@[simp] theorem tape_n (t : Tape) : lookD (tapeKvs t) (.inr "turn") = some (.int t.n) := by rfl
@[simp] theorem tape_pn (t : Tape) (x : Int) : putD (tapeKvs t) (.inr "turn") (.int x) = tapeKvs { t with n := x } := by rfl
@[simp] theorem tape_pl (t : Tape) (x : Int) : putD (tapeKvs t) (.inr "left") (.int x) = tapeKvs { t with l := x } := by rfl
@[simp] theorem tape_len (t : Tape) : (tapeKvs t).length = 3 := rfl
def mixed (c n : Int) : Int := (((c % 2147483647 + 31 * (n + 1) * (n + 1) + 1) * 48271) % 2147483629 + 7 * (n + 1)) * 69621 % 2147483587 / 7
def pickV (t : Tape) (m : Int) : Int := if 0 < t.l then t.l % m else mixed t.c t.n % m
def pickT (t : Tape) (m : Int) : Tape := if 0 < t.l then ⟨t.c, t.l / m, t.n + 1⟩ else ⟨t.c, t.l, t.n + 1⟩
def pickF : FM
  | [.b (.dct kvs), .t (.int m)] => (tapeOf kvs).bind fun t => if 0 < m ∧ m < 1000000 ∧ 0 ≤ t.n ∧ t.n < 1000000 then some (.t (.int (pickV t m)), [.dct (tapeKvs (pickT t m))]) else none
  | _ => none
def g__law_pick : GS :=
  (sSeq (sSet 2 (eP fAdd (aCons (eSub 0 (eC (.str "turn"))) (aCons (eC (.int 1)) aNil))))
  (sSeq (sPut 0 (eC (.str "turn")) (eF (eVar 2)))
  (sSeq (sIf (qB (eF (eP fGt (aCons (eSub 0 (eC (.str "left"))) (aCons (eC (.int 0)) aNil))))) (sSeq (sSet 3 (eP fMod (aCons (eSub 0 (eC (.str "left"))) (aCons (eF (eVar 1)) aNil))))
  (sSeq (sPut 0 (eC (.str "left")) (eF (eP fDiv (aCons (eSub 0 (eC (.str "left"))) (aCons (eF (eVar 1)) aNil)))))
  (sRet (eVar 3)))) sNil)
  (sSeq (sSet 4 (eP fMul (aCons (eF (eP fAdd (aCons (eF (eP fAdd (aCons (eF (eP fMod (aCons (eSub 0 (eC (.str "cell"))) (aCons (eC (.int 2147483647)) aNil)))) (aCons (eF (eP fMul (aCons (eF (eP fMul (aCons (eC (.int 31)) (aCons (eF (eVar 2)) aNil)))) (aCons (eF (eVar 2)) aNil)))) aNil)))) (aCons (eC (.int 1)) aNil)))) (aCons (eC (.int 48271)) aNil))))
  (sSeq (sSet 4 (eP fMul (aCons (eF (eP fAdd (aCons (eF (eP fMod (aCons (eF (eVar 4)) (aCons (eC (.int 2147483629)) aNil)))) (aCons (eF (eP fMul (aCons (eC (.int 7)) (aCons (eF (eVar 2)) aNil)))) aNil)))) (aCons (eC (.int 69621)) aNil))))
  (sRet (eP fMod (aCons (eF (eP fDiv (aCons (eF (eP fMod (aCons (eF (eVar 4)) (aCons (eC (.int 2147483587)) aNil)))) (aCons (eC (.int 7)) aNil)))) (aCons (eF (eVar 1)) aNil)))))))))

theorem pick_run : ∀ us r, pickF us = some r → runB 5 g__law_pick us = some r := by
  intro us r h
  unfold pickF at h
  split at h
  · rename_i kvs m
    obtain ⟨t, h1, h⟩ := bind_some' h
    obtain ⟨⟨h2, h3, h4, h5⟩, rfl⟩ := ite_some h
    obtain rfl := tapeOf_some h1
    have e1 : -18446744073709551616 < t.n + 1 := by omega
    have e2 : t.n + 1 < 18446744073709551616 := by omega
    have e3 : m < 1073741824 := by omega
    by_cases hl : 0 < t.l
    · simp [runB, g__law_pick, pickV, pickT, hl, h2, e3]
    · simp [runB, g__law_pick, pickV, pickT, hl, h2, e3, mixed, e1, e2]
  · cases h
end L2

end
section
set_option Elab.async false
set_option linter.all false
set_option maxRecDepth 100000
namespace L2
open PySem PySem.Spec PyProof.Rows
def g_is_whole : GS :=
  (sSeq (sIf (qOr (qNot (qB (eIs ["int"] (eF (eVar 0))))) (qB (eIs ["bool"] (eF (eVar 0))))) (sRet (eT (eC (.bl false)))) sNil)
  (sRet (eT (eQ (qAnd (qB (eF (eP fLe (aCons (eF (eVar 1)) (aCons (eF (eVar 0)) aNil))))) (qB (eF (eP fLe (aCons (eF (eVar 0)) (aCons (eF (eVar 2)) aNil))))))))))

def wholeF : FM
  | [.t d, .t (.int l), .t (.int m)] => some (.t (.bl (wholeD d l m)), [])
  | _ => none
theorem whole_run : ∀ us r, wholeF us = some r → runB 3 g_is_whole us = some r := by
  intro us r h
  unfold wholeF at h
  split at h
  · rename_i d l m
    cases h
    cases d <;> simp [runB, g_is_whole, wholeD, isTys, isTy, isIntD, isBlD]
    rename_i x
    by_cases h1 : l ≤ x <;> simp [h1]
  · cases h
def g_is_tuple : GS :=
  (sRet (eT (eQ (qAnd (qB (eIs ["tuple"] (eF (eVar 0)))) (qAnd (qB (eF (eP fLe (aCons (eF (eVar 1)) (aCons (eLen 0) aNil))))) (qB (eF (eP fLe (aCons (eLen 0) (aCons (eF (eVar 2)) aNil))))))))))

def tupleF : FM
  | [.t d, .t (.int l), .t (.int m)] => some (.t (.bl (tupleD d l m)), [])
  | _ => none
theorem tuple_run : ∀ us r, tupleF us = some r → runB 3 g_is_tuple us = some r := by
  intro us r h
  unfold tupleF at h
  split at h
  · rename_i d l m
    cases h
    cases d <;> simp [runB, g_is_tuple, tupleD, isTys, isTy, isTupD]
    rename_i x
    by_cases h1 : l ≤ (x.length : Int) <;> simp [h1]
  · cases h
def g__law_whole_to : GS :=
  (sRet (eT (eQ (qAnd (qB (eIs ["int"] (eF (eVar 0)))) (qAnd (qB (eQ (qNot (qB (eIs ["bool"] (eF (eVar 0))))))) (qB (eCh fLe fLe (eC (.int 0)) (eF (eVar 0)) (eF (eVar 1)))))))))

def wholeToF : FM
  | [.t d, .t (.int m)] => some (.t (.bl (wholeD d 0 m)), [])
  | _ => none
theorem wholeTo_run : ∀ us r, wholeToF us = some r → runB 2 g__law_whole_to us = some r := by
  intro us r h
  unfold wholeToF at h
  split at h
  · rename_i d m
    cases h
    cases d <;> simp [runB, g__law_whole_to, wholeD, isTys, isTy, isIntD, isBlD]
    rename_i x
    by_cases h1 : (0 : Int) ≤ x <;> simp [h1]
  · cases h
def g__law_names : GS :=
  (sRet (eP fLst (aCons (eC (.str "a")) (aCons (eC (.str "ab")) (aCons (eC (.str "abc")) (aCons (eC (.str "b")) (aCons (eC (.str "any")) (aCons (eC (.str "name")) (aCons (eC (.str "x")) (aCons (eC (.str "zzzzzzzz")) aNil))))))))))

def namesL : List Str := ["a", "ab", "abc", "b", "any", "name", "x", "zzzzzzzz"]
def namesF : FM
  | [] => some (.m (.lst (namesL.map D.str)), [])
  | _ => none
theorem names_run : ∀ us r, namesF us = some r → runB 0 g__law_names us = some r := by
  intro us r h
  unfold namesF at h
  split at h
  · cases h
    simp [runB, g__law_names, namesL]
  · cases h
def g__law_tape : GS :=
  (sSeq (sSet 2 (eVar 1))
  (sSeq (sIf (qB (eF (eP fGt (aCons (eLen 0) (aCons (eC (.int 0)) aNil))))) (sSet 2 (eP fAdd (aCons (eSub 0 (eF (eP fMod (aCons (eF (eVar 1)) (aCons (eLen 0) aNil))))) (aCons (eF (eP fDiv (aCons (eF (eVar 1)) (aCons (eLen 0) aNil)))) aNil)))) sNil)
  (sRet (eDict [("cell", (eF (eVar 2))), ("left", (eF (eP fMax2 (aCons (eC (.int 0)) (aCons (eF (eP fSub (aCons (eF (eVar 2)) (aCons (eF (eP fPow (aCons (eC (.int 10)) (aCons (eC (.int 18)) aNil)))) aNil)))) aNil))))), ("turn", (eC (.int 0)))]))))

def cellI (ns : List Int) (k : Int) : Int := if 0 < ns.length then (atI ns (k % ns.length)).getD 0 + k / ns.length else k
def tapeM (ns : List Int) (k : Int) : Tape := ⟨cellI ns k, if cellI ns k - 10 ^ 18 > 0 then cellI ns k - 10 ^ 18 else 0, 0⟩
def tapeF : FM
  | [.s ns, .t (.int k)] => if 0 ≤ k ∧ k < 1000000 ∧ ns.length < 1000000 then some (.m (.dct (tapeKvs (tapeM ns k))), []) else none
  | _ => none
theorem atI_some {α : Type} {l : List α} {i : Int} (h0 : 0 ≤ i) (h1 : i < l.length) : ∃ x, atI l i = some x := by
  unfold atI ixN
  rw [if_pos h0, if_pos h1]
  have : i.toNat < l.length := by omega
  exact ⟨l[i.toNat], List.getElem?_eq_getElem this⟩
@[simp] theorem m_eDict3 (k1 k2 k3 : Str) (g1 g2 g3 : GD) (S : SS) : eDict [(k1, g1), (k2, g2), (k3, g3)] S = (g1 S).bind fun a => (g2 a.2).bind fun b => (g3 b.2).map fun c => (.m (.dct (mergeD [] [(.inr k1, a.1), (.inr k2, b.1), (.inr k3, c.1)])), c.2) := by
  simp only [eDict, ePairs]
  cases g1 S with
  | none => rfl
  | some a =>
    simp only [Option.bind_some]
    cases g2 a.2 with
    | none => rfl
    | some b =>
      simp only [Option.bind_some]
      cases g3 b.2 with
      | none => rfl
      | some c => rfl
theorem tape_merge (c l n : Int) : mergeD [] [(.inr "cell", .int c), (.inr "left", .int l), (.inr "turn", .int n)] = tapeKvs ⟨c, l, n⟩ := rfl
theorem tape_run : ∀ us r, tapeF us = some r → runB 3 g__law_tape us = some r := by
  intro us r h
  unfold tapeF at h
  split at h
  · rename_i ns k
    obtain ⟨⟨h1, h2, h3⟩, rfl⟩ := ite_some h
    by_cases hl : 0 < ns.length
    · have e0 : (0 : Int) < ns.length := by omega
      obtain ⟨x, hx⟩ := atI_some (l := ns) (i := k % ns.length) (Int.emod_nonneg _ (by omega)) (Int.emod_lt_of_pos _ e0)
      have e1 : (ns.length : Int) < 1073741824 := by omega
      simp [runB, g__law_tape, e0, e1, hx, tape_merge, tapeM, cellI, hl]
    · have e0 : ¬ (0 : Int) < ns.length := by omega
      simp [runB, g__law_tape, e0, tape_merge, tapeM, cellI, hl]
  · cases h
end L2

end
section
set_option Elab.async false
set_option linter.all false
set_option maxRecDepth 100000
namespace Sw
open PySem PySem.Spec PyProof.Rows L2
theorem pickV_range {t : Tape} {m : Int} (h : 0 < m) : 0 ≤ pickV t m ∧ pickV t m < m := by
  unfold pickV
  split
  · exact ⟨Int.emod_nonneg _ (by omega), Int.emod_lt_of_pos _ h⟩
  · exact ⟨Int.emod_nonneg _ (by omega), Int.emod_lt_of_pos _ h⟩
@[simp] theorem pickT_n (t : Tape) (m : Int) : (pickT t m).n = t.n + 1 := by unfold pickT; split <;> rfl
theorem pickF_eq {t : Tape} {m : Int} (h1 : 0 < m) (h2 : m < 1000000) (h3 : 0 ≤ t.n) (h4 : t.n < 1000000) : pickF [.b (.dct (tapeKvs t)), .t (.int m)] = some (.t (.int (pickV t m)), [.dct (tapeKvs (pickT t m))]) := by
  simp [pickF, h1, h2, h3, h4]
theorem atI_getI {α : Type} {l : List α} {i : Int} (h0 : 0 ≤ i) (h1 : i < l.length) : atI l i = some (l[i.toNat]'(by omega)) := by
  unfold atI ixN
  rw [if_pos h0, if_pos h1]
  exact List.getElem?_eq_getElem (by omega)
def tabT (T : List (Str × Int)) : D := .tup (T.map fun p => .tup [.str p.1, .int p.2])
structure TbS where
  names : List Str
  tab : List (Str × Int)
  left : Int
  t : Tape
def min3 (i j k : Int) : Int := if j < i then (if k < j then k else j) else if k < i then k else i
def tabStep (s : TbS) (k : Int) : TbS :=
  let i := (pickV s.t s.names.length).toNat
  let t1 := pickT s.t s.names.length
  let most := min3 5 (s.left - 4 + k) (pickV t1 6)
  ⟨s.names.eraseIdx i, s.tab ++ [(s.names.getD i "", most)], s.left - most - 1, pickT t1 6⟩

@[simp] theorem step_n (s : TbS) (k : Int) : (tabStep s k).t.n = s.t.n + 2 := by
  show (pickT (pickT s.t _) 6).n = _
  simp; omega
@[simp] theorem step_tab (s : TbS) (k : Int) : (tabStep s k).tab.length = s.tab.length + 1 := by
  show (s.tab ++ [_]).length = _
  simp
end Sw

end
section
set_option Elab.async false
set_option linter.all false
set_option maxRecDepth 100000
namespace Sw
open PySem PySem.Spec PyProof.Rows L2
def prOf : D → Option (Str × Int)
  | .tup [.str z, .int i] => some (z, i)
  | _ => none
def prsOf : List D → Option (List (Str × Int))
  | [] => some []
  | d :: ds => (prOf d).bind fun p => (prsOf ds).map fun ps => p :: ps
def tabOf : D → Option (List (Str × Int))
  | .tup ds => prsOf ds
  | _ => none
@[simp] theorem prsOf_map (T : List (Str × Int)) : prsOf (T.map fun p => .tup [.str p.1, .int p.2]) = some T := by
  induction T with
  | nil => rfl
  | cons p T ih => simp [prsOf, prOf, ih]
@[simp] theorem tabOf_T (T : List (Str × Int)) : tabOf (tabT T) = some T := prsOf_map T
theorem prsOf_some : ∀ {ds : List D} {T : List (Str × Int)}, prsOf ds = some T → ds = T.map fun p => .tup [.str p.1, .int p.2]
  | [], T, h => by cases h; rfl
  | d :: ds, T, h => by
    obtain ⟨p, h1, h⟩ := bind_some' h
    obtain ⟨ps, h2, h⟩ := map_some' h
    subst h
    unfold prOf at h1
    split at h1
    · cases h1
      rw [prsOf_some h2]
      rfl
    · cases h1
def w1__law_row (f_law_pick : FM) : GS :=
  (sSeq (sAsg (bTup 2 (bCons (bName 5) (bCons (bName 6) bNil))) (eSub 1 (eF (eCall f_law_pick (uMut (eVar 0) (uVal (eLen 1) uNil))))))
  (sSet 3 (eP fAdd (aCons (eF (eVar 3)) (aCons (eF (eP fTup (aCons (eF (eP fTup (aCons (eF (eVar 5)) (aCons (eF (eCall f_law_pick (uMut (eVar 0) (uVal (eF (eP fAdd (aCons (eF (eVar 6)) (aCons (eC (.int 1)) aNil)))) uNil)))) aNil)))) aNil))) aNil)))))

def rowStep (T : List (Str × Int)) (s : List (Str × Int) × Tape) (_ : Int) : List (Str × Int) × Tape :=
  let p := T.getD (pickV s.2 T.length).toNat ("", 0)
  let t1 := pickT s.2 T.length
  (s.1 ++ [(p.1, pickV t1 (p.2 + 1))], pickT t1 (p.2 + 1))
def rowSlots (T : List (Str × Int)) (most : D) (s : List (Str × Int) × Tape) (x y z : Option U) : SS := [some (.b (.dct (tapeKvs s.2))), some (.t (tabT T)), some (.t most), some (.t (tabT s.1)), x, y, z]
structure TabOk (T : List (Str × Int)) : Prop where
  pos : 0 < T.length
  len : T.length ≤ 10
  mst : ∀ p ∈ T, 0 ≤ p.2 ∧ p.2 ≤ 10
theorem row_turn {T : List (Str × Int)} {most : D} {s : List (Str × Int) × Tape} {k : Int} {x y z : Option U} (ok : TabOk T) (hr : s.1.length ≤ 1000) (h3 : 0 ≤ s.2.n) (h4 : s.2.n < 900000) (hx : (x = none ∧ y = none ∧ z = none) ∨ ∃ a b c, x = some (.t a) ∧ y = some (.t b) ∧ z = some (.t c)) :
    ∃ a b c, (bName 4 (.int k) (rowSlots T most s x y z)).bind (w1__law_row pickF) = some (.nx (rowSlots T most (rowStep T s k) (some (.t a)) (some (.t b)) (some (.t c)))) := by
  have p0 := ok.pos
  have p00 := ok.len
  have p1 := pickV_range (t := s.2) (m := T.length) (by omega)
  have e1 := pickF_eq (t := s.2) (m := T.length) (by omega) (by omega) h3 (by omega)
  have e4 : (pickV s.2 T.length).toNat < T.length := by omega
  have e5 : T.getD (pickV s.2 T.length).toNat ("", 0) = T[(pickV s.2 T.length).toNat] := by simp [List.getD, e4]
  have hm := ok.mst _ (List.getElem_mem e4)
  have e2 := pickF_eq (t := pickT s.2 T.length) (m := T[(pickV s.2 T.length).toNat].2 + 1) (by omega) (by omega) (by simp; omega) (by simp; omega)
  have e3 : atI (T.map fun p => D.tup [.str p.1, .int p.2]) (pickV s.2 T.length) = some (.tup [.str T[(pickV s.2 T.length).toNat].1, .int T[(pickV s.2 T.length).toNat].2]) := atI_map _ (by rw [atI_getI p1.1 p1.2])
  have e7 : s.1.length + 1 ≤ 100000 := by omega
  refine ⟨.int k, .str T[(pickV s.2 T.length).toNat].1, .int T[(pickV s.2 T.length).toNat].2, ?_⟩
  rcases hx with ⟨rfl, rfl, rfl⟩ | ⟨a, b, c, rfl, rfl, rfl⟩
  · simp [w1__law_row, rowSlots, tabT, e1, e2, e3, e7, rowStep, e4, bTup, bCons, bNil]
  · simp [w1__law_row, rowSlots, tabT, e1, e2, e3, e7, rowStep, e4, bTup, bCons, bNil]
@[simp] theorem rowStep_len (T : List (Str × Int)) (s : List (Str × Int) × Tape) (k : Int) : (rowStep T s k).1.length = s.1.length + 1 := by simp [rowStep]
@[simp] theorem rowStep_n (T : List (Str × Int)) (s : List (Str × Int) × Tape) (k : Int) : (rowStep T s k).2.n = s.2.n + 2 := by simp [rowStep]; omega
theorem row_loop {T : List (Str × Int)} {most : D} (ok : TabOk T) : ∀ (ks : List Int) (s : List (Str × Int) × Tape) (x y z : Option U), s.1.length + ks.length ≤ 1000 → 0 ≤ s.2.n → s.2.n + 2 * ks.length < 900000 → ((x = none ∧ y = none ∧ z = none) ∨ ∃ a b c, x = some (.t a) ∧ y = some (.t b) ∧ z = some (.t c)) →
    ∃ x' y' z', loop (bName 4) (w1__law_row pickF) (ks.map D.int) (rowSlots T most s x y z) = some (.nx (rowSlots T most (ks.foldl (rowStep T) s) x' y' z'))
  | [], s, x, y, z, _, _, _, _ => ⟨x, y, z, rfl⟩
  | k :: ks, s, x, y, z, h3, h4, h5, hx => by
    have l3 : s.1.length + (ks.length + 1) ≤ 1000 := h3
    have l5 : s.2.n + 2 * ((ks.length + 1 : Nat) : Int) < 900000 := h5
    obtain ⟨a, b, c, e⟩ := row_turn (k := k) (most := most) ok (by omega) h4 (by omega) hx
    obtain ⟨x', y', z', ih⟩ := row_loop ok ks (rowStep T s k) (some (.t a)) (some (.t b)) (some (.t c)) (by simp; omega) (by simp; omega) (by simp; omega) (.inr ⟨a, b, c, rfl, rfl, rfl⟩)
    refine ⟨x', y', z', ?_⟩
    show (bName 4 (.int k) (rowSlots T most s x y z)).bind (fun S1 => (w1__law_row pickF S1).bind fun o => match o with
      | .nx S2 => loop (bName 4) (w1__law_row pickF) (ks.map D.int) S2
      | .ct S2 => loop (bName 4) (w1__law_row pickF) (ks.map D.int) S2
      | .bk S2 => some (.nx S2)
      | .rt u S2 => some (.rt u S2)) = _
    rw [← Option.bind_assoc, e]
    exact ih
end Sw

end
section
set_option Elab.async false
set_option linter.all false
set_option maxRecDepth 100000
namespace Sw
open PySem PySem.Spec PyProof.Rows L2
def g__law_odd (f_law_pick : FM) : GS :=
  (sSeq (sSet 1 (eP fLst (aCons (eC .non) (aCons (eC (.bl true)) (aCons (eC (.bl false)) (aCons (eC (.int 0)) (aCons (eF (eP fNeg (aCons (eC (.int 1)) aNil))) (aCons (eC (.int 6)) (aCons (eF (eP fPow (aCons (eC (.int 10)) (aCons (eC (.int 19)) aNil)))) (aCons (eC (.str "")) (aCons (eC (.str "A")) (aCons (eC (.str "a.b")) (aCons (eC (.str "a1")) (aCons (eC (.str "ninesigns")) aNil))))))))))))))
  (sSeq (sSet 1 (eP fAdd (aCons (eF (eVar 1)) (aCons (eF (eP fLst (aCons (eF (eP fTup aNil)) (aCons (eF (eP fLst aNil)) (aCons (eF (eP fTup (aCons (eC (.str "a")) aNil))) (aCons (eF (eP fLst (aCons (eC (.str "a")) (aCons (eC (.int 0)) aNil)))) (aCons (eF (eP fTup (aCons (eC (.str "a")) (aCons (eC (.int 0)) aNil)))) aNil))))))) aNil))))
  (sRet (eT (eSub 1 (eF (eCall f_law_pick (uMut (eVar 0) (uVal (eC (.int 17)) uNil)))))))))

def oddL : List D := [.non, .bl true, .bl false, .int 0, .int (-1), .int 6, .int 10000000000000000000, .str "", .str "A", .str "a.b", .str "a1", .str "ninesigns", .tup [], .lst [], .tup [.str "a"], .lst [.str "a", .int 0], .tup [.str "a", .int 0]]
def oddM (t : Tape) : D := oddL.getD (pickV t 17).toNat .non
def oddF : FM
  | [.b (.dct kvs)] => (tapeOf kvs).bind fun t => if 0 ≤ t.n ∧ t.n < 900000 then some (.t (oddM t), [.dct (tapeKvs (pickT t 17))]) else none
  | _ => none
theorem atI_getD {α : Type} {l : List α} {i : Int} {x : α} (h0 : 0 ≤ i) (h1 : i < l.length) : atI l i = some (l.getD i.toNat x) := by
  rw [atI_getI h0 h1]
  have : i.toNat < l.length := by omega
  simp [List.getD, this]
theorem odd_run : ∀ us r, oddF us = some r → runB 2 (g__law_odd pickF) us = some r := by
  intro us r h
  unfold oddF at h
  split at h
  · rename_i kvs
    obtain ⟨t, h1, h⟩ := bind_some' h
    obtain ⟨⟨h2, h3⟩, rfl⟩ := ite_some h
    obtain rfl := tapeOf_some h1
    have e1 := pickF_eq (t := t) (m := 17) (by omega) (by omega) h2 (by omega)
    have p := pickV_range (t := t) (m := 17) (by omega)
    have e2 : atI oddL (pickV t 17) = some (oddM t) := atI_getD p.1 p.2
    unfold oddL at e2
    simp [runB, g__law_odd, e1, e2]
  · cases h
def bentWay (t : Tape) (d : D) : D × Tape :=
  match d with
  | .tup ds => if pickV t 8 < 5 then
      (([.tup (cutD ds none (some (pickV (pickT t 8) (ds.length + 1)))), .tup (ds ++ cutD ds (some (pickV (pickT t 8) (ds.length + 1))) none), .tup (cutD ds none (some (pickV (pickT t 8) (ds.length + 1))) ++ cutD ds (some (pickV (pickT t 8) (ds.length + 1) + 1)) none), .lst ds, .tup (ds ++ [.tup ds])] : List D).getD (pickV t 8).toNat .non, pickT (pickT t 8) (ds.length + 1))
    else (oddM (pickT t 8), pickT (pickT t 8) 17)
  | .int i => if wholeD (.int i) 0 100000000000000000000 = true ∧ pickV t 8 < 5 then (([.int (i + 1), .int (i - 1), .int 5, .int 9, .int 10] : List D).getD (pickV t 8).toNat .non, pickT t 8) else (oddM (pickT t 8), pickT (pickT t 8) 17)
  | .str z => if pickV t 8 < 6 then (([.str (z ++ ("a" : Str)), .str (Txt.slice z (some 1) none), .str (z ++ ("A" : Str)), .str "x", .str "now", .str "less"] : List D).getD (pickV t 8).toNat .non, pickT t 8) else (oddM (pickT t 8), pickT (pickT t 8) 17)
  | _ => (oddM (pickT t 8), pickT (pickT t 8) 17)
def bentM : Nat → Tape → D → D × Tape
  | k + 1, t, .tup ds => if ds.length = 0 then bentWay t (.tup ds) else if 0 < pickV t 4 then
      (.tup (cutD ds none (some (pickV (pickT t 4) ds.length)) ++ [(bentM k (pickT (pickT t 4) ds.length) (ds.getD (pickV (pickT t 4) ds.length).toNat .non)).1] ++ cutD ds (some (pickV (pickT t 4) ds.length + 1)) none), (bentM k (pickT (pickT t 4) ds.length) (ds.getD (pickV (pickT t 4) ds.length).toNat .non)).2)
    else bentWay (pickT t 4) (.tup ds)
  | _, t, d => bentWay t d
def g__law_bent (f_law_pick : FM) (f_law_bent : FM) (f_law_whole_to : FM) (f_law_odd : FM) : GS :=
  (sSeq (sIf (qAnd (qB (eIs ["tuple"] (eF (eVar 1)))) (qAnd (qB (eF (eP fGt (aCons (eLen 1) (aCons (eC (.int 0)) aNil))))) (qAnd (qB (eF (eP fGt (aCons (eF (eVar 2)) (aCons (eC (.int 0)) aNil))))) (qB (eF (eP fGt (aCons (eF (eCall f_law_pick (uMut (eVar 0) (uVal (eC (.int 4)) uNil)))) (aCons (eC (.int 0)) aNil)))))))) (sSeq (sSet 3 (eCall f_law_pick (uMut (eVar 0) (uVal (eLen 1) uNil))))
  (sRet (eP fAdd (aCons (eF (eP fAdd (aCons (eF (eSl (eF (eVar 1)) none (some (eF (eVar 3))))) (aCons (eF (eP fTup (aCons (eF (eCall f_law_bent (uMut (eVar 0) (uVal (eSub 1 (eF (eVar 3))) (uVal (eF (eP fSub (aCons (eF (eVar 2)) (aCons (eC (.int 1)) aNil)))) uNil))))) aNil))) aNil)))) (aCons (eF (eSl (eF (eVar 1)) (some (eF (eP fAdd (aCons (eF (eVar 3)) (aCons (eC (.int 1)) aNil))))) none)) aNil))))) sNil)
  (sSeq (sSet 4 (eCall f_law_pick (uMut (eVar 0) (uVal (eC (.int 8)) uNil))))
  (sSeq (sIf (qAnd (qB (eIs ["tuple"] (eF (eVar 1)))) (qB (eF (eP fLt (aCons (eF (eVar 4)) (aCons (eC (.int 5)) aNil)))))) (sSeq (sSet 3 (eCall f_law_pick (uMut (eVar 0) (uVal (eF (eP fAdd (aCons (eLen 1) (aCons (eC (.int 1)) aNil)))) uNil))))
  (sRet (eP fIx (aCons (eF (eP fLst (aCons (eF (eSl (eF (eVar 1)) none (some (eF (eVar 3))))) (aCons (eF (eP fAdd (aCons (eF (eVar 1)) (aCons (eF (eSl (eF (eVar 1)) (some (eF (eVar 3))) none)) aNil)))) (aCons (eF (eP fAdd (aCons (eF (eSl (eF (eVar 1)) none (some (eF (eVar 3))))) (aCons (eF (eSl (eF (eVar 1)) (some (eF (eP fAdd (aCons (eF (eVar 3)) (aCons (eC (.int 1)) aNil))))) none)) aNil)))) (aCons (eF (eP fList (aCons (eF (eVar 1)) aNil))) (aCons (eF (eP fAdd (aCons (eF (eVar 1)) (aCons (eF (eP fTup (aCons (eF (eVar 1)) aNil))) aNil)))) aNil))))))) (aCons (eF (eVar 4)) aNil))))) sNil)
  (sSeq (sIf (qAnd (qB (eF (eCall f_law_whole_to (uVal (eF (eVar 1)) (uVal (eF (eP fPow (aCons (eC (.int 10)) (aCons (eC (.int 20)) aNil)))) uNil))))) (qB (eF (eP fLt (aCons (eF (eVar 4)) (aCons (eC (.int 5)) aNil)))))) (sRet (eP fIx (aCons (eF (eP fLst (aCons (eF (eP fAdd (aCons (eF (eVar 1)) (aCons (eC (.int 1)) aNil)))) (aCons (eF (eP fSub (aCons (eF (eVar 1)) (aCons (eC (.int 1)) aNil)))) (aCons (eC (.int 5)) (aCons (eC (.int 9)) (aCons (eC (.int 10)) aNil))))))) (aCons (eF (eVar 4)) aNil)))) sNil)
  (sSeq (sIf (qAnd (qB (eIs ["str"] (eF (eVar 1)))) (qB (eF (eP fLt (aCons (eF (eVar 4)) (aCons (eC (.int 6)) aNil)))))) (sRet (eP fIx (aCons (eF (eP fLst (aCons (eF (eP fAdd (aCons (eF (eVar 1)) (aCons (eC (.str "a")) aNil)))) (aCons (eF (eSl (eF (eVar 1)) (some (eC (.int 1))) none)) (aCons (eF (eP fAdd (aCons (eF (eVar 1)) (aCons (eC (.str "A")) aNil)))) (aCons (eC (.str "x")) (aCons (eC (.str "now")) (aCons (eC (.str "less")) aNil)))))))) (aCons (eF (eVar 4)) aNil)))) sNil)
  (sRet (eCall f_law_odd (uMut (eVar 0) uNil))))))))

open Classical in
noncomputable def bentFn (j : Nat) : FM
  | [.b (.dct kvs), .t d, .t (.int k)] => (tapeOf kvs).bind fun t => if 0 ≤ k ∧ k < j ∧ Fit 5000 d ∧ 0 ≤ t.n ∧ t.n + 2 * k < 600000 then some (.t (bentM k.toNat t d).1, [.dct (tapeKvs (bentM k.toNat t d).2)]) else none
  | _ => none
def bent_tail (f_law_pick : FM) (f_law_bent : FM) (f_law_whole_to : FM) (f_law_odd : FM) : GS :=
  (sSeq (sSet 4 (eCall f_law_pick (uMut (eVar 0) (uVal (eC (.int 8)) uNil))))
  (sSeq (sIf (qAnd (qB (eIs ["tuple"] (eF (eVar 1)))) (qB (eF (eP fLt (aCons (eF (eVar 4)) (aCons (eC (.int 5)) aNil)))))) (sSeq (sSet 3 (eCall f_law_pick (uMut (eVar 0) (uVal (eF (eP fAdd (aCons (eLen 1) (aCons (eC (.int 1)) aNil)))) uNil))))
  (sRet (eP fIx (aCons (eF (eP fLst (aCons (eF (eSl (eF (eVar 1)) none (some (eF (eVar 3))))) (aCons (eF (eP fAdd (aCons (eF (eVar 1)) (aCons (eF (eSl (eF (eVar 1)) (some (eF (eVar 3))) none)) aNil)))) (aCons (eF (eP fAdd (aCons (eF (eSl (eF (eVar 1)) none (some (eF (eVar 3))))) (aCons (eF (eSl (eF (eVar 1)) (some (eF (eP fAdd (aCons (eF (eVar 3)) (aCons (eC (.int 1)) aNil))))) none)) aNil)))) (aCons (eF (eP fList (aCons (eF (eVar 1)) aNil))) (aCons (eF (eP fAdd (aCons (eF (eVar 1)) (aCons (eF (eP fTup (aCons (eF (eVar 1)) aNil))) aNil)))) aNil))))))) (aCons (eF (eVar 4)) aNil))))) sNil)
  (sSeq (sIf (qAnd (qB (eF (eCall f_law_whole_to (uVal (eF (eVar 1)) (uVal (eF (eP fPow (aCons (eC (.int 10)) (aCons (eC (.int 20)) aNil)))) uNil))))) (qB (eF (eP fLt (aCons (eF (eVar 4)) (aCons (eC (.int 5)) aNil)))))) (sRet (eP fIx (aCons (eF (eP fLst (aCons (eF (eP fAdd (aCons (eF (eVar 1)) (aCons (eC (.int 1)) aNil)))) (aCons (eF (eP fSub (aCons (eF (eVar 1)) (aCons (eC (.int 1)) aNil)))) (aCons (eC (.int 5)) (aCons (eC (.int 9)) (aCons (eC (.int 10)) aNil))))))) (aCons (eF (eVar 4)) aNil)))) sNil)
  (sSeq (sIf (qAnd (qB (eIs ["str"] (eF (eVar 1)))) (qB (eF (eP fLt (aCons (eF (eVar 4)) (aCons (eC (.int 6)) aNil)))))) (sRet (eP fIx (aCons (eF (eP fLst (aCons (eF (eP fAdd (aCons (eF (eVar 1)) (aCons (eC (.str "a")) aNil)))) (aCons (eF (eSl (eF (eVar 1)) (some (eC (.int 1))) none)) (aCons (eF (eP fAdd (aCons (eF (eVar 1)) (aCons (eC (.str "A")) aNil)))) (aCons (eC (.str "x")) (aCons (eC (.str "now")) (aCons (eC (.str "less")) aNil)))))))) (aCons (eF (eVar 4)) aNil)))) sNil)
  (sRet (eCall f_law_odd (uMut (eVar 0) uNil)))))))

def bent_head (f_law_pick : FM) (f_law_bent : FM) (f_law_whole_to : FM) (f_law_odd : FM) : GS :=
  (sIf (qAnd (qB (eIs ["tuple"] (eF (eVar 1)))) (qAnd (qB (eF (eP fGt (aCons (eLen 1) (aCons (eC (.int 0)) aNil))))) (qAnd (qB (eF (eP fGt (aCons (eF (eVar 2)) (aCons (eC (.int 0)) aNil))))) (qB (eF (eP fGt (aCons (eF (eCall f_law_pick (uMut (eVar 0) (uVal (eC (.int 4)) uNil)))) (aCons (eC (.int 0)) aNil)))))))) (sSeq (sSet 3 (eCall f_law_pick (uMut (eVar 0) (uVal (eLen 1) uNil))))
  (sRet (eP fAdd (aCons (eF (eP fAdd (aCons (eF (eSl (eF (eVar 1)) none (some (eF (eVar 3))))) (aCons (eF (eP fTup (aCons (eF (eCall f_law_bent (uMut (eVar 0) (uVal (eSub 1 (eF (eVar 3))) (uVal (eF (eP fSub (aCons (eF (eVar 2)) (aCons (eC (.int 1)) aNil)))) uNil))))) aNil))) aNil)))) (aCons (eF (eSl (eF (eVar 1)) (some (eF (eP fAdd (aCons (eF (eVar 3)) (aCons (eC (.int 1)) aNil))))) none)) aNil))))) sNil)

theorem bent_eq (f1 f2 f3 f4 : FM) : g__law_bent f1 f2 f3 f4 = sSeq (bent_head f1 f2 f3 f4) (bent_tail f1 f2 f3 f4) := rfl
@[simp] theorem m_eSl (g : GD) (lo hi : Option GD) (S : SS) : eSl g lo hi S = (g S).bind fun p => (oPart lo p.2).bind fun l => (oPart hi l.2).bind fun h => (fSl p.1 l.1 h.1).map fun u => (u, h.2) := rfl
@[simp] theorem m_oP_n (S : SS) : oPart none S = some (none, S) := rfl
@[simp] theorem m_oP_s (g : GD) (S : SS) : oPart (some g) S = (g S).bind fun p => match p.1 with | .int i => some (some i, p.2) | _ => none := rfl
@[simp] theorem m_fSl_t (ds : List D) (lo hi : Option Int) : fSl (.tup ds) lo hi = some (.t (.tup (cutD ds lo hi))) := rfl
@[simp] theorem m_fSl_l (ds : List D) (lo hi : Option Int) : fSl (.lst ds) lo hi = some (.m (.lst (cutD ds lo hi))) := rfl
@[simp] theorem m_fSl_s (z : Str) (lo hi : Option Int) : fSl (.str z) lo hi = if z.length ≤ 100000 then some (.t (.str (Txt.slice z lo hi))) else none := rfl
theorem bent_tail_run {t : Tape} {d k : D} {x3 : Option U} {f2 : FM} (hf : Fit 5000 d) (h3 : 0 ≤ t.n) (h4 : t.n < 700000) (hx : x3 = none ∨ ∃ a, x3 = some (.t a)) :
    ∃ y z w, bent_tail pickF f2 wholeToF oddF [some (.b (.dct (tapeKvs t))), some (.t d), some (.t k), x3, none] = some (.rt (.t (bentWay t d).1) [some (.b (.dct (tapeKvs (bentWay t d).2))), y, z, w, some (.t (.int (pickV t 8)))]) := by
  have e1 := pickF_eq (t := t) (m := 8) (by omega) (by omega) h3 (by omega)
  have p1 := pickV_range (t := t) (m := 8) (by omega)
  have o1 : oddF [.b (.dct (tapeKvs (pickT t 8)))] = some (.t (oddM (pickT t 8)), [.dct (tapeKvs (pickT (pickT t 8) 17))]) := by
    have a1 : 0 ≤ t.n + 1 := by omega
    have a2 : t.n + 1 < 900000 := by omega
    simp [oddF, a1, a2]
  cases d with
  | tup ds =>
    have hl : ds.length ≤ 5000 := hf.1
    have e2 := pickF_eq (t := pickT t 8) (m := ds.length + 1) (by omega) (by omega) (by simp; omega) (by simp; omega)
    by_cases hw : pickV t 8 < 5
    · have e3 := atI_getD (α := D) (x := .non) (l := [.tup (cutD ds none (some (pickV (pickT t 8) (ds.length + 1)))), .tup (ds ++ cutD ds (some (pickV (pickT t 8) (ds.length + 1))) none), .tup (cutD ds none (some (pickV (pickT t 8) (ds.length + 1))) ++ cutD ds (some (pickV (pickT t 8) (ds.length + 1) + 1)) none), .lst ds, .tup (ds ++ [.tup ds])]) p1.1 (by simpa using hw)
      have c1 := cutD_length ds none (some (pickV (pickT t 8) (ds.length + 1)))
      have c2 := cutD_length ds (some (pickV (pickT t 8) (ds.length + 1))) none
      have c3 := cutD_length ds (some (pickV (pickT t 8) (ds.length + 1) + 1)) none
      have g1 : ds.length + (cutD ds (some (pickV (pickT t 8) (ds.length + 1))) none).length ≤ 100000 := by omega
      have g2 : (cutD ds none (some (pickV (pickT t 8) (ds.length + 1)))).length + (cutD ds (some (pickV (pickT t 8) (ds.length + 1) + 1)) none).length ≤ 100000 := by omega
      have g3 : ds.length + 1 ≤ 100000 := by omega
      refine ⟨some (.t (.tup ds)), some (.t k), some (.t (.int (pickV (pickT t 8) (ds.length + 1)))), ?_⟩
      rcases hx with rfl | ⟨a, rfl⟩
      · simp [bent_tail, e1, e2, hw, isTys, isTy, isTupD, e3, g1, g2, g3, bentWay]
      · simp [bent_tail, e1, e2, hw, isTys, isTy, isTupD, e3, g1, g2, g3, bentWay]
    · refine ⟨some (.t (.tup ds)), some (.t k), x3, ?_⟩
      simp [bent_tail, e1, hw, isTys, isTy, isTupD, isStrD, bentWay, wholeToF, wholeD, o1]
  | int i =>
    by_cases hw : wholeD (.int i) 0 100000000000000000000 = true ∧ pickV t 8 < 5
    · have e3 := atI_getD (α := D) (x := .non) (l := [.int (i + 1), .int (i - 1), .int 5, .int 9, .int 10]) p1.1 (by simpa using hw.2)
      refine ⟨some (.t (.int i)), some (.t k), x3, ?_⟩
      simp [bent_tail, e1, hw.1, hw.2, isTys, isTy, isTupD, e3, bentWay, wholeToF]
    · refine ⟨some (.t (.int i)), some (.t k), x3, ?_⟩
      by_cases h1 : wholeD (.int i) 0 100000000000000000000 = true
      · have h2 : ¬ pickV t 8 < 5 := fun z => hw ⟨h1, z⟩
        simp [bent_tail, e1, h1, h2, isTys, isTy, isTupD, isStrD, bentWay, wholeToF, o1]
      · simp [bent_tail, e1, h1, isTys, isTy, isTupD, isStrD, bentWay, wholeToF, o1]
  | str z =>
    have hl : z.length ≤ 5000 := hf
    by_cases hw : pickV t 8 < 6
    · have e3 := atI_getD (α := D) (x := .non) (l := [.str (z ++ ("a" : Str)), .str (Txt.slice z (some 1) none), .str (z ++ ("A" : Str)), .str "x", .str "now", .str "less"]) p1.1 (by simpa using hw)
      have g1 : z.length + ("a" : Str).length ≤ 100000 := by show z.length + 1 ≤ 100000; omega
      have g2 : z.length + ("A" : Str).length ≤ 100000 := by show z.length + 1 ≤ 100000; omega
      have g3 : z.length ≤ 100000 := by omega
      refine ⟨some (.t (.str z)), some (.t k), x3, ?_⟩
      simp [bent_tail, e1, hw, isTys, isTy, isTupD, isStrD, e3, bentWay, wholeToF, wholeD, g1, g2, g3]
    · refine ⟨some (.t (.str z)), some (.t k), x3, ?_⟩
      simp [bent_tail, e1, hw, isTys, isTy, isTupD, isStrD, bentWay, wholeToF, wholeD, o1]
  | non => exact ⟨some (.t .non), some (.t k), x3, by simp [bent_tail, e1, isTys, isTy, isTupD, isStrD, bentWay, wholeToF, wholeD, o1]⟩
  | bl b => exact ⟨some (.t (.bl b)), some (.t k), x3, by simp [bent_tail, e1, isTys, isTy, isTupD, isStrD, bentWay, wholeToF, wholeD, o1]⟩
  | lst ds => exact ⟨some (.t (.lst ds)), some (.t k), x3, by simp [bent_tail, e1, isTys, isTy, isTupD, isStrD, bentWay, wholeToF, wholeD, o1]⟩
theorem cons_get {α : Type} {l : List α} {i : Int} {x : α} (h0 : 0 ≤ i) (h1 : i < l.length) : l.getD i.toNat x ∈ l := by
  have : i.toNat < l.length := by omega
  simp [List.getD, this]
theorem Fits.mem {n : Nat} : ∀ {ds : List D} {d : D}, Fits n ds → d ∈ ds → Fit n d
  | _ :: _, _, h, m => by
    rcases List.mem_cons.mp m with rfl | m
    · exact h.1
    · exact Fits.mem h.2 m
theorem bent_run (j : Nat) : ∀ us r, bentFn (j + 1) us = some r → runB 5 (g__law_bent pickF (bentFn j) wholeToF oddF) us = some r := by
  intro us r h
  unfold bentFn at h
  split at h
  · rename_i kvs d k
    obtain ⟨t, h1, h⟩ := bind_some' h
    obtain ⟨⟨hk0, hkj, hf, h3, h4⟩, rfl⟩ := ite_some h
    obtain rfl := tapeOf_some h1
    rw [bent_eq]
    -- the way through the tail
    have tl : ∀ (t' : Tape) (x3 : Option U), 0 ≤ t'.n → t'.n < 700000 → (x3 = none ∨ ∃ a, x3 = some (.t a)) → (bent_head pickF (bentFn j) wholeToF oddF) [some (.b (.dct (tapeKvs t))), some (.t d), some (.t (.int k)), none, none] = some (.nx [some (.b (.dct (tapeKvs t'))), some (.t d), some (.t (.int k)), x3, none]) →
        runB 5 (sSeq (bent_head pickF (bentFn j) wholeToF oddF) (bent_tail pickF (bentFn j) wholeToF oddF)) [.b (.dct (tapeKvs t)), .t d, .t (.int k)] = some (.t (bentWay t' d).1, [.dct (tapeKvs (bentWay t' d).2)]) := fun t' x3 a1 a2 a3 eh => by
      obtain ⟨y, z, w, e⟩ := bent_tail_run (k := .int k) (f2 := bentFn j) hf a1 a2 a3
      simp [runB, eh, e]
    by_cases hd : ∃ ds, d = .tup ds ∧ 0 < ds.length ∧ 0 < k
    · obtain ⟨ds, rfl, hl, hk⟩ := hd
      have hl5 : ds.length ≤ 5000 := hf.1
      obtain ⟨m, hm⟩ : ∃ m : Nat, k.toNat = m + 1 := ⟨k.toNat - 1, by omega⟩
      have e1 := pickF_eq (t := t) (m := 4) (by omega) (by omega) h3 (by omega)
      have c1 : (0 : Int) < ds.length := by omega
      have n1 : ds.length ≠ 0 := by omega
      by_cases hp : 0 < pickV t 4
      · have e2 := pickF_eq (t := pickT t 4) (m := ds.length) c1 (by omega) (by simp; omega) (by simp; omega)
        have p2 := pickV_range (t := pickT t 4) (m := ds.length) c1
        have e3 := atI_getD (α := D) (x := .non) p2.1 p2.2
        have hmem := cons_get (α := D) (x := .non) p2.1 p2.2
        have e4 : bentFn j [.b (.dct (tapeKvs (pickT (pickT t 4) ds.length))), .t (ds.getD (pickV (pickT t 4) ds.length).toNat .non), .t (.int (k - 1))] = some (.t (bentM m (pickT (pickT t 4) ds.length) (ds.getD (pickV (pickT t 4) ds.length).toNat .non)).1, [.dct (tapeKvs (bentM m (pickT (pickT t 4) ds.length) (ds.getD (pickV (pickT t 4) ds.length).toNat .non)).2)]) := by
          have q1 : 0 ≤ k - 1 ∧ k - 1 < (j : Int) ∧ Fit 5000 (ds.getD (pickV (pickT t 4) ds.length).toNat .non) ∧ 0 ≤ (pickT (pickT t 4) ds.length).n ∧ (pickT (pickT t 4) ds.length).n + 2 * (k - 1) < 600000 := by
            refine ⟨by omega, by omega, Fits.mem hf.2 hmem, by simp; omega, by simp; omega⟩
          have q2 : (k - 1).toNat = m := by omega
          unfold bentFn
          simp only [tapeOf_kvs, Option.bind_some]
          rw [if_pos q1, q2]
        generalize hx : bentM m (pickT (pickT t 4) ds.length) (ds.getD (pickV (pickT t 4) ds.length).toNat .non) = bx at e4
        have c2 := cutD_length ds none (some (pickV (pickT t 4) ds.length))
        have c3 := cutD_length ds (some (pickV (pickT t 4) ds.length + 1)) none
        have g1 : (cutD ds none (some (pickV (pickT t 4) ds.length))).length + 1 ≤ 100000 := by omega
        have g2 : (cutD ds none (some (pickV (pickT t 4) ds.length))).length + 1 + (cutD ds (some (pickV (pickT t 4) ds.length + 1)) none).length ≤ 100000 := by omega
        have eb : bentM k.toNat t (.tup ds) = (.tup (cutD ds none (some (pickV (pickT t 4) ds.length)) ++ [bx.1] ++ cutD ds (some (pickV (pickT t 4) ds.length + 1)) none), bx.2) := by
          rw [hm]
          unfold bentM
          rw [if_neg n1, if_pos hp, hx]
        rw [eb]
        rw [List.getD_eq_getElem?_getD] at e3 e4
        simp [runB, bent_head, isTys, isTy, isTupD, hl, hk, e1, hp, e2, e3, e4, g1, g2]
      · have eb : bentM k.toNat t (.tup ds) = bentWay (pickT t 4) (.tup ds) := by
          rw [hm]
          unfold bentM
          rw [if_neg n1, if_neg hp]
        rw [eb]
        refine tl (pickT t 4) none (by simp; omega) (by simp; omega) (.inl rfl) ?_
        simp [bent_head, isTys, isTy, isTupD, hl, hk, e1, hp]
    · have eb : bentM k.toNat t d = bentWay t d := by
        cases d with
        | tup ds =>
          cases hm : k.toNat with
          | zero => unfold bentM; rfl
          | succ m =>
            unfold bentM
            rw [if_pos]
            exact Classical.byContradiction fun z => hd ⟨ds, rfl, by omega, by omega⟩
        | _ => cases k.toNat <;> rfl
      rw [eb]
      refine tl t none h3 (by omega) (.inl rfl) ?_
      cases d with
      | tup ds =>
        by_cases c1 : 0 < ds.length
        · have c2 : ¬ 0 < k := fun z => hd ⟨ds, rfl, c1, z⟩
          simp [bent_head, isTys, isTy, isTupD, c1, c2]
        · simp [bent_head, isTys, isTy, isTupD, c1]
      | _ => simp [bent_head, isTys, isTy, isTupD]
  · cases h
end Sw

end
section
set_option Elab.async false
set_option linter.all false
set_option maxRecDepth 100000
namespace Sw
open PySem PySem.Spec PyProof.Rows L2
theorem outs_t : ∀ (ts : List D) (S : SS), S.length = ts.length → outsOf (ts.map U.t) S = some []
  | [], S, _ => by cases S <;> rfl
  | d :: ts, [], h => by cases h
  | d :: ts, x :: S, h => by
    show outsOf (U.t d :: ts.map U.t) (x :: S) = _
    rw [m_out_t]
    exact outs_t ts S (by simpa using h)
theorem res_t (S : SS) : ∀ ts : List D, resolves S (ts.map U.t) = some (ts.map U.t)
  | [] => rfl
  | d :: ts => by
    show (some (U.t d)).bind _ = _
    rw [res_t S ts]
    rfl
theorem sl_t : ∀ ts : List D, slotsOf (ts.map U.t) = []
  | [] => rfl
  | d :: ts => sl_t ts
theorem fr_t : ∀ ts : List D, freshes (ts.map U.t) = 0
  | [] => rfl
  | d :: ts => fr_t ts
theorem wb_t (S : SS) : ∀ ts : List D, wb (ts.map U.t) [] S = some S
  | [] => rfl
  | d :: ts => wb_t S ts
theorem compL_t {cap : List Nat} {q : GT} {g : GD} {S : SS} {ts : List D} (hc : capArgs S cap = some (ts.map U.t)) (p : D → Bool) (f : D → D) : ∀ (ds acc : List D),
    (∀ d ∈ ds, q (some (.t d) :: ts.map fun x => some (.t x)) = some (p d, some (.t d) :: ts.map fun x => some (.t x))) → (∀ d ∈ ds, p d = true → g (some (.t d) :: ts.map fun x => some (.t x)) = some (f d, some (.t d) :: ts.map fun x => some (.t x))) →
    compL cap q g ds S acc = some (acc ++ (ds.filter p).map f, S)
  | [], acc, _, _ => by simp [compL]
  | d :: ds, acc, hq, hg => by
    have em : (ts.map U.t).map some = ts.map fun x => some (U.t x) := by simp
    have eo : outsOf (.t d :: ts.map U.t) (some (.t d) :: ts.map fun x => some (.t x)) = some [] := by rw [m_out_t]; exact outs_t ts _ (by simp)
    have q0 := hq d (List.mem_cons_self)
    unfold compL
    rw [hc]
    simp only [Option.bind_some]
    rw [if_pos ⟨by rw [sl_t]; exact List.nodup_nil, by rw [fr_t]; exact Nat.zero_le _⟩, res_t]
    simp only [Option.bind_some]
    rw [em, q0]
    simp only [Option.bind_some]
    by_cases hp : p d = true
    · rw [if_pos hp, hg d List.mem_cons_self hp]
      simp only [Option.bind_some]
      rw [eo]
      simp only [Option.bind_some]
      rw [wb_t]
      simp only [Option.bind_some]
      rw [compL_t hc p f ds (acc ++ [f d]) (fun e he => hq e (List.mem_cons_of_mem _ he)) (fun e he => hg e (List.mem_cons_of_mem _ he)), List.filter_cons_of_pos hp]
      simp
    · rw [if_neg hp, eo]
      simp only [Option.bind_some]
      rw [wb_t]
      simp only [Option.bind_some]
      rw [compL_t hc p f ds acc (fun e he => hq e (List.mem_cons_of_mem _ he)) (fun e he => hg e (List.mem_cons_of_mem _ he)), List.filter_cons_of_neg hp]
theorem compL_all {cap : List Nat} {g : GD} {S : SS} {ts : List D} (hc : capArgs S cap = some (ts.map U.t)) (f : D → D) (ds acc : List D) (hg : ∀ d ∈ ds, g (some (.t d) :: ts.map fun x => some (.t x)) = some (f d, some (.t d) :: ts.map fun x => some (.t x))) :
    compL cap qTrue g ds S acc = some (acc ++ ds.map f, S) := by
  rw [compL_t hc (fun _ => true) f ds acc (fun _ _ => rfl) (fun d hd _ => hg d hd), List.filter_eq_self.mpr (fun _ _ => rfl)]
@[simp] theorem m_eComp (cap : List Nat) (gi : GI) (q : GT) (g : GD) (S : SS) : eComp cap gi q g S = (gi S).bind fun p => if p.1.length ≤ 100000 then (compL cap q g p.1 p.2 []).map fun r => (.m (.lst r.1), r.2) else none := rfl
theorem m_iAny (g : GD) (S : SS) : iAny g S = (g S).bind fun p => match p.1 with | .tup ds => some (ds, p.2) | .lst ds => some (ds, p.2) | .str z => some (z.cps.toList.map fun c => .str ⟨#[c]⟩, p.2) | _ => none := rfl
theorem bools_map {α : Type} (f : α → Bool) : ∀ ds : List α, boolsD (ds.map fun d => .bl (f d)) = some (ds.map f)
  | [] => rfl
  | d :: ds => by simp [boolsD, bools_map f ds]

end Sw

end
section
set_option Elab.async false
set_option linter.all false
set_option maxRecDepth 100000
namespace Sw
open PySem PySem.Spec PyProof.Rows L2


theorem eqD_isStr {x : D} {z : Str} (h : eqD (.str z) x = true) : x = .str z := by
  cases x <;> simp [eqD] at h
  rw [h]


end Sw

end
section
set_option Elab.async false
set_option linter.all false
set_option maxRecDepth 100000
namespace Sw
open PySem PySem.Spec PyProof.Rows L2
mutual
def Sane : D → Prop
  | .int i => i.natAbs < 10 ^ 30
  | .str z => ∀ c ∈ z.cps.toList, c < 16 ^ 8
  | .tup ds => Sanes ds
  | .lst ds => Sanes ds
  | .non => True
  | .bl _ => True
def Sanes : List D → Prop
  | [] => True
  | d :: ds => Sane d ∧ Sanes ds
end
mutual
def wD : D → Nat
  | .non => 6
  | .bl _ => 6
  | .int _ => 40
  | .str z => 10 * z.length + 2
  | .tup ds => wDs ds + 4
  | .lst ds => wDs ds + 4
def wDs : List D → Nat
  | [] => 0
  | d :: ds => wD d + 2 + wDs ds
end
theorem ofStr_len (s : String) : (Str.ofString s).length = s.length := PySem.ofString_length s
theorem text_le : ∀ (ts : List Str) (k : Nat) (acc : Str), (textFrom k acc ts).length ≤ acc.length + piled ts
  | [], k, acc => Nat.le_refl _
  | t :: ts, k, acc => by
    have ih := text_le ts (k + 1) (acc ++ (if k > 0 then ", " else "" : String) ++ t)
    have e : (acc ++ (if k > 0 then ", " else "" : String) ++ t).length ≤ acc.length + 2 + t.length := by
      rw [strLen_append, strLen_append]
      split
      · show acc.length + 2 + t.length ≤ _; omega
      · show acc.length + 0 + t.length ≤ _; omega
    rw [piled_cons]
    show (textFrom (k + 1) _ ts).length ≤ _
    omega
mutual
theorem shown_le : ∀ d : D, Sane d → (toPy d).shown.length ≤ wD d
  | .non, _ => by show (Str.ofString "None").length ≤ 6; decide
  | .bl b, _ => by cases b <;> (show (Str.ofString _).length ≤ 6; decide)
  | .int i, h => by
    show (Str.ofString (toString i)).length ≤ 40
    rw [ofStr_len]
    exact Nat.le_trans (int_text_length_le10 (k := 30) (by decide) h) (by decide)
  | .str z, h => PySem.StrLaws.reprText_len z h
  | .tup ds, h => by
    have k := shown_les ds h
    show (tupleText (PyData.shownAll (toPys ds))).length ≤ wDs ds + 4
    unfold tupleText
    rw [strLen_append, strLen_append]
    have e1 : ("(" : Str).length = 1 := rfl
    have e2 : ((if (PyData.shownAll (toPys ds)).length == 1 then ",)" else ")" : String) : Str).length ≤ 2 := by split <;> decide
    by_cases hn : PyData.shownAll (toPys ds) = []
    · rw [hn] at e2 ⊢
      have e3 : (Str.join ", " []).length = 0 := rfl
      omega
    · have := join_length_add _ hn
      omega
  | .lst ds, h => by
    have k := shown_les ds h
    show (listText (PyData.shownAll (toPys ds))).length ≤ wDs ds + 4
    unfold listText
    rw [strLen_append]
    have e1 := text_le (PyData.shownAll (toPys ds)) 0 "["
    have e2 : ("[" : Str).length = 1 := rfl
    have e3 : ("]" : Str).length = 1 := rfl
    omega
theorem shown_les : ∀ ds : List D, Sanes ds → piled (PyData.shownAll (toPys ds)) ≤ wDs ds
  | [], _ => Nat.le_refl _
  | d :: ds, h => by
    show piled ((toPy d).shown :: PyData.shownAll (toPys ds)) ≤ wD d + 2 + wDs ds
    rw [piled_cons]
    have := shown_le d h.1
    have := shown_les ds h.2
    omega
end
mutual
theorem showable_of : ∀ d : D, Sane d → (toPy d).showable = true
  | .non, _ => rfl
  | .bl b, _ => rfl
  | .int i, h => by
    show decide (i.natAbs.log2 < 1920) = true
    rw [decide_eq_true_eq]
    by_cases hz : i.natAbs = 0
    · rw [hz]; decide
    · exact (Nat.log2_lt hz).mpr (Nat.lt_trans h (Nat.lt_of_lt_of_le (show (10 : Nat) ^ 30 < 2 ^ 100 by decide) (Nat.pow_le_pow_right (by decide) (by decide))))
  | .str z, _ => rfl
  | .tup ds, h => by show PyData.showableAll (toPys ds) = true; exact showables_of ds h
  | .lst ds, h => by show PyData.showableAll (toPys ds) = true; exact showables_of ds h
theorem showables_of : ∀ ds : List D, Sanes ds → PyData.showableAll (toPys ds) = true
  | [], _ => rfl
  | d :: ds, h => by
    show ((toPy d).showable && PyData.showableAll (toPys ds)) = true
    rw [showable_of d h.1, showables_of ds h.2]
    rfl
end
mutual
theorem depth_eq : ∀ d : D, (toPy d).depth = depD d
  | .non => rfl
  | .bl _ => rfl
  | .int _ => rfl
  | .str _ => rfl
  | .tup ds => by show PyData.depthAll (toPys ds) + 1 = depDs ds + 1; rw [depths_eq ds]
  | .lst ds => by show PyData.depthAll (toPys ds) + 1 = depDs ds + 1; rw [depths_eq ds]
theorem depths_eq : ∀ ds : List D, PyData.depthAll (toPys ds) = depDs ds
  | [] => rfl
  | d :: ds => by show max (toPy d).depth (PyData.depthAll (toPys ds)) = max (depD d) (depDs ds); rw [depth_eq d, depths_eq ds]
end
theorem okR_of {d : D} (h : Sane d) (hw : wD d ≤ 1000000) (hd : depD d ≤ 20) : okR d :=
  ⟨showable_of d h, by rw [depth_eq]; exact hd, Nat.le_trans (shown_le d h) (Nat.le_trans hw (by decide))⟩
theorem wDs_len : ∀ ds : List D, 2 * ds.length ≤ wDs ds
  | [] => Nat.le_refl _
  | d :: ds => by have := wDs_len ds; show 2 * (ds.length + 1) ≤ wD d + 2 + wDs ds; omega
theorem Sanes.append : ∀ {as bs : List D}, Sanes as → Sanes bs → Sanes (as ++ bs)
  | [], _, _, h => h
  | _ :: _, _, h, k => ⟨h.1, Sanes.append h.2 k⟩
theorem Sanes.mem : ∀ {ds : List D} {d : D}, Sanes ds → d ∈ ds → Sane d
  | _ :: _, _, h, m => by
    rcases List.mem_cons.mp m with rfl | m
    · exact h.1
    · exact Sanes.mem h.2 m
theorem Sanes.of : ∀ {ds : List D}, (∀ d ∈ ds, Sane d) → Sanes ds
  | [], _ => True.intro
  | d :: ds, h => ⟨h d List.mem_cons_self, Sanes.of fun e he => h e (List.mem_cons_of_mem _ he)⟩
theorem Sanes.cut {ds : List D} (h : Sanes ds) (lo hi : Option Int) : Sanes (cutD ds lo hi) := Sanes.of fun d hd => h.mem (List.mem_of_mem_drop (List.mem_of_mem_take hd))
theorem depDs_append : ∀ as bs : List D, depDs (as ++ bs) = max (depDs as) (depDs bs)
  | [], bs => by show depDs bs = max 0 (depDs bs); omega
  | a :: as, bs => by show max (depD a) (depDs (as ++ bs)) = max (max (depD a) (depDs as)) (depDs bs); rw [depDs_append as bs]; omega
theorem depDs_le {ds : List D} {n : Nat} (h : ∀ d ∈ ds, depD d ≤ n) : depDs ds ≤ n := by
  induction ds with
  | nil => exact Nat.zero_le _
  | cons d ds ih =>
    show max (depD d) (depDs ds) ≤ n
    have := h d List.mem_cons_self
    have := ih fun e he => h e (List.mem_cons_of_mem _ he)
    omega
theorem depDs_cut (ds : List D) (lo hi : Option Int) : depDs (cutD ds lo hi) ≤ depDs ds := depDs_le fun d hd => mem_depDs (List.mem_of_mem_drop (List.mem_of_mem_take hd))
structure Good (n k : Nat) (d : D) : Prop where
  sane : Sane d
  w : wD d ≤ n
  dep : depD d ≤ k
theorem Good.mono {n k n' k' : Nat} {d : D} (h : Good n k d) (a : n ≤ n') (b : k ≤ k') : Good n' k' d := ⟨h.sane, Nat.le_trans h.w a, Nat.le_trans h.dep b⟩
theorem Good.okR {n k : Nat} {d : D} (h : Good n k d) (a : n ≤ 1000000) (b : k ≤ 20) : L2.okR d := okR_of h.sane (Nat.le_trans h.w a) (Nat.le_trans h.dep b)
end Sw

end
section
set_option Elab.async false
set_option linter.all false
set_option maxRecDepth 100000
namespace Sw
open PySem PySem.Spec PyProof.Rows L2
structure NameOk (z : Str) : Prop where
  len : z.length ≤ 8
  chs : ∀ c ∈ z.cps.toList, c < 16 ^ 8
structure PairOk (p : Str × Int) : Prop where
  nm : NameOk p.1
  lo : 0 ≤ p.2
  hi : p.2 ≤ 10
mutual
theorem fit_of : ∀ {d : D} {n : Nat}, wD d ≤ 2 * n → Fit n d
  | .non, _, _ => True.intro
  | .bl _, _, _ => True.intro
  | .int _, _, _ => True.intro
  | .str z, n, h => by show z.length ≤ n; have : 10 * z.length + 2 ≤ 2 * n := h; omega
  | .tup ds, n, h => by have : wDs ds + 4 ≤ 2 * n := h; have := wDs_len ds; exact ⟨by omega, fits_of (by omega)⟩
  | .lst ds, n, h => by have : wDs ds + 4 ≤ 2 * n := h; have := wDs_len ds; exact ⟨by omega, fits_of (by omega)⟩
theorem fits_of : ∀ {ds : List D} {n : Nat}, wDs ds ≤ 2 * n → Fits n ds
  | [], _, _ => True.intro
  | d :: ds, n, h => by have : wD d + 2 + wDs ds ≤ 2 * n := h; exact ⟨fit_of (by omega), fits_of (by omega)⟩
end
structure TbInv (k : Int) (s : TbS) : Prop where
  nd : (s.tab.map (·.1) ++ s.names).Nodup
  sub : ∀ z ∈ s.names, z ∈ namesL
  ok : ∀ p ∈ s.tab, PairOk p ∧ p.2 ≤ 5
  left : 4 - k ≤ s.left
end Sw

end
section
set_option Elab.async false
set_option linter.all false
set_option maxRecDepth 100000
namespace Sw
open PySem PySem.Spec PyProof.Rows L2
theorem way_n (t : Tape) (d : D) : t.n + 1 ≤ (bentWay t d).2.n ∧ (bentWay t d).2.n ≤ t.n + 2 := by
  unfold bentWay
  cases d <;> dsimp only <;> (try split) <;> simp <;> omega
theorem bent_n : ∀ (k : Nat) (t : Tape) (d : D), t.n + 1 ≤ (bentM k t d).2.n ∧ (bentM k t d).2.n ≤ t.n + 2 * k + 3
  | 0, t, d => by
    have e : bentM 0 t d = bentWay t d := by cases d <;> rfl
    rw [e]; have := way_n t d; omega
  | k + 1, t, d => by
    cases d with
    | tup ds =>
      unfold bentM
      split
      · have := way_n t (.tup ds); omega
      · split
        · have := bent_n k (pickT (pickT t 4) ds.length) (ds.getD (pickV (pickT t 4) ds.length).toNat .non)
          simp only [pickT_n] at this
          constructor <;> dsimp only <;> omega
        · have := way_n (pickT t 4) (.tup ds); simp only [pickT_n] at this; omega
    | non => have := way_n t .non; show t.n + 1 ≤ (bentWay t .non).2.n ∧ (bentWay t .non).2.n ≤ _; omega
    | bl b => have := way_n t (.bl b); show t.n + 1 ≤ (bentWay t (.bl b)).2.n ∧ (bentWay t (.bl b)).2.n ≤ _; omega
    | int b => have := way_n t (.int b); show t.n + 1 ≤ (bentWay t (.int b)).2.n ∧ (bentWay t (.int b)).2.n ≤ _; omega
    | str b => have := way_n t (.str b); show t.n + 1 ≤ (bentWay t (.str b)).2.n ∧ (bentWay t (.str b)).2.n ≤ _; omega
    | lst b => have := way_n t (.lst b); show t.n + 1 ≤ (bentWay t (.lst b)).2.n ∧ (bentWay t (.lst b)).2.n ≤ _; omega
end Sw

end
section
set_option Elab.async false
set_option linter.all false
set_option maxRecDepth 100000
namespace Sw
open PySem PySem.Spec PyProof.Rows L2
def lawF (n : Nat) : FM
  | [.s ns] => if ns.length ≤ n then some (.t (.bl true), []) else none
  | _ => none
theorem bentFn_zero (us : List U) : bentFn 0 us = none := by
  unfold bentFn
  split
  · rename_i kvs d k
    cases tapeOf kvs with
    | none => rfl
    | some t =>
      simp only [Option.bind_some]
      rw [if_neg]
      intro h
      have := h.1
      have := h.2.1
      omega
  · rfl
theorem okNone {P : Program} {w : World} {K : PySem.W.Frag} {mg : Str → Option Value} {base : Heap} {f : Addr} {fd : FuncData} {n k : Nat} {ps : List Str} {fm : FM} (h : ∀ us, fm us = none) : FnOk P w K mg base CX0 n f fd ps (spT K k fm) := by
  have no : ∀ vs H Q E, ¬ spT K k fm vs H Q E := fun vs H Q E ⟨_, F, us, r, outs, _, _, _, e, _⟩ => by rw [h us] at e; cases e
  exact ⟨fun vs H Q E h => absurd h (no vs H Q E), fun A outer s H args us vs Q E _ _ _ _ h => absurd h (no vs H Q E)⟩
theorem law_sp {K : PySem.W.Frag} {H : Hp} {a : Addr} {ns : List Int} {n : Nat} {E : XK} (hl : ns.length ≤ n) (hO : Only H) (hS : SqL K H a (ns.map V.int)) : spT K 1 (lawF n) [.ref a] H (fun v _ => v = .bl true) E := by
  have sc : Scr K H a ns := by
    rcases hS with (h | h) | h
    · rcases hO a with z | ⟨o, xs, z⟩
      · rw [h] at z; cases z
      · rw [h] at z; cases z
    · exact .inl h
    · exact .inr h
  exact ⟨rfl, fun _ => none, [.s ns], .t (.bl true), [], (fun b o z => by cases z), .cons ⟨a, rfl, sc⟩ .nil, List.nodup_nil, by simp [lawF, hl], fun v F' H' _ r => rep_bl r⟩
end Sw

end
section
set_option Elab.async false
set_option linter.all false
set_option maxRecDepth 100000
namespace Sw
open PySem PySem.Spec PyProof.Rows L2
def LET : Str := "abcdefghijklmnopqrstuvwxyz"
def letB (y : Str) : Bool := !(Builtin.Str.occurrences LET y 0 LET.length 1).isEmpty
def signs (z : Str) : List Str := z.cps.toList.map fun c => (⟨#[c]⟩ : Str)
theorem signs_len (z : Str) : (signs z).length = z.length := by unfold signs; rw [List.length_map]; rfl
theorem iAny_str (z : Str) : iAny (eF (eVar 0)) [some (.t (.str z))] = some ((signs z).map D.str, [some (.t (.str z))]) := by unfold signs; rw [List.map_map]; rfl
def nameB : D → Bool
  | .str z => decide (1 ≤ z.length) && decide (z.length ≤ 8) && (signs z).all letB
  | _ => false
theorem in_let (y : Str) : fIn [.str y, .str "abcdefghijklmnopqrstuvwxyz"] = some (.t (.bl (letB y))) := rfl
theorem notin_let (y : Str) : fNotIn [.str y, .str "abcdefghijklmnopqrstuvwxyz"] = some (.t (.bl (!letB y))) := rfl
theorem lenU_str {z : Str} (h : z.length ≤ 20000) : lenU (.t (.str z)) = some z.length := by show (if z.length ≤ 100000 then some z.length else none) = _; rw [if_pos (by omega)]
def g_is_name : GS :=
  (sSeq (sIf (qOr (qNot (qB (eIs ["str"] (eF (eVar 0))))) (qOr (qB (eF (eP fLt (aCons (eLen 0) (aCons (eC (.int 1)) aNil))))) (qB (eF (eP fGt (aCons (eLen 0) (aCons (eC (.int 8)) aNil))))))) (sRet (eT (eC (.bl false)))) sNil)
  (sRet (eP fAll (aCons (eF (eComp [] (iAny (eF (eVar 0))) qTrue (eF (eP fIn (aCons (eF (eVar 0)) (aCons (eC (.str "abcdefghijklmnopqrstuvwxyz")) aNil)))))) aNil))))

def slen : D → Nat
  | .str z => z.length
  | _ => 0
def nameF : FM
  | [.t d] => if slen d ≤ 20000 then some (.t (.bl (nameB d)), []) else none
  | _ => none
theorem name_run : ∀ us r, nameF us = some r → runB 1 g_is_name us = some r := by
  intro us r h
  unfold nameF at h
  split at h
  · rename_i d
    obtain ⟨hb, rfl⟩ := ite_some h
    cases d with
    | str z =>
      have hb : z.length ≤ 20000 := hb
      have lenU_str := lenU_str hb
      by_cases h1 : (z.length : Int) < 1
      · have h2 : ¬ 1 ≤ z.length := by omega
        simp [runB, g_is_name, nameB, isTys, isTy, isStrD, lenU_str, h1, h2]
      · by_cases h3 : (8 : Int) < z.length
        · have h2 : ¬ z.length ≤ 8 := by omega
          simp [runB, g_is_name, nameB, isTys, isTy, isStrD, lenU_str, h1, h2, h3]
        · have h4 : 1 ≤ z.length := by omega
          have h5 : z.length ≤ 8 := by omega
          have h6 : ((signs z).map D.str).length ≤ 100000 := by rw [List.length_map, signs_len]; omega
          have ei := iAny_str z
          generalize hx : signs z = xs at h6 ei
          have e := compL_all (cap := []) (g := eF (eP fIn (aCons (eF (eVar 0)) (aCons (eC (.str "abcdefghijklmnopqrstuvwxyz")) aNil)))) (S := [some (.t (.str z))]) (ts := []) rfl (fun d => match d with | .str y => .bl (letB y) | _ => .non) (xs.map D.str) [] (fun d hd => by
            obtain ⟨c, _, rfl⟩ := List.mem_map.mp hd
            simp [in_let])
          have e2 : ([] : List D) ++ ((xs.map D.str).map fun d => match d with | .str y => D.bl (letB y) | _ => .non) = xs.map fun y => D.bl (letB y) := by rw [List.map_map]; rfl
          have e3 := bools_map letB xs
          rw [e2] at e
          generalize xs.map D.str = L at e ei h6
          generalize (xs.map fun y => D.bl (letB y)) = M at e e3
          simp [runB, g_is_name, nameB, isTys, isTy, isStrD, lenU_str, h1, h3, h4, h5, ei, h6, e, e3, hx]
    | _ => simp [runB, g_is_name, nameB, isTys, isTy, isStrD]
  · cases h
def g__law_is_name : GS :=
  (sSeq (sIf (qOr (qNot (qB (eIs ["str"] (eF (eVar 0))))) (qNot (qB (eCh fLe fLe (eC (.int 1)) (eLen 0) (eC (.int 8)))))) (sRet (eT (eC (.bl false)))) sNil)
  (sRet (eP fEq (aCons (eF (eComp [] (iAny (eF (eVar 0))) (qB (eF (eP fNotIn (aCons (eF (eVar 0)) (aCons (eC (.str "abcdefghijklmnopqrstuvwxyz")) aNil))))) (eF (eVar 0)))) (aCons (eF (eP fLst aNil)) aNil)))))

def notLet : D → Bool
  | .str y => !letB y
  | _ => false
theorem filt_let : ∀ xs : List Str, (xs.map D.str).filter notLet = (xs.filter fun y => !letB y).map D.str
  | [] => rfl
  | y :: xs => by
    by_cases h : letB y = true
    · have e : notLet (.str y) = false := by simp [notLet, h]
      rw [List.map_cons, List.filter_cons_of_neg (by simp [e]), List.filter_cons_of_neg (by simp [h]), filt_let xs]
    · have e : notLet (.str y) = true := by simp [notLet, h]
      rw [List.map_cons, List.filter_cons_of_pos e, List.filter_cons_of_pos (by simp [h]), filt_let xs, List.map_cons]
theorem eq_nil (xs : List Str) : eqD (.lst (xs.map D.str)) (.lst []) = xs.isEmpty := by cases xs <;> simp [eqD, eqDs]
theorem dep_strs (xs : List Str) : depD (.lst (xs.map D.str)) ≤ 40 := by
  have : depDs (xs.map D.str) = 0 := by
    induction xs with
    | nil => rfl
    | cons x xs ih => show max 0 (depDs (xs.map D.str)) = 0; omega
  show depDs (xs.map D.str) + 1 ≤ 40
  omega
theorem none_let : ∀ xs : List Str, (xs.filter fun y => !letB y).isEmpty = xs.all letB
  | [] => rfl
  | y :: xs => by
    by_cases h : letB y = true
    · rw [List.filter_cons_of_neg (by simp [h]), none_let xs, List.all_cons, h, Bool.true_and]
    · rw [List.filter_cons_of_pos (by simp [h]), List.all_cons]
      simp [h]
theorem law_name_run : ∀ us r, nameF us = some r → runB 1 g__law_is_name us = some r := by
  intro us r h
  unfold nameF at h
  split at h
  · rename_i d
    obtain ⟨hb, rfl⟩ := ite_some h
    cases d with
    | str z =>
      have hb : z.length ≤ 20000 := hb
      have lenU_str := lenU_str hb
      by_cases h1 : (1 : Int) ≤ z.length
      · by_cases h3 : (z.length : Int) ≤ 8
        · have h4 : 1 ≤ z.length := by omega
          have h5 : z.length ≤ 8 := by omega
          have h6 : ((signs z).map D.str).length ≤ 100000 := by rw [List.length_map, signs_len]; omega
          have ei := iAny_str z
          generalize hx : signs z = xs at h6 ei
          have e := compL_t (cap := []) (q := qB (eF (eP fNotIn (aCons (eF (eVar 0)) (aCons (eC (.str "abcdefghijklmnopqrstuvwxyz")) aNil))))) (g := eF (eVar 0)) (S := [some (.t (.str z))]) (ts := []) rfl notLet (fun d => d) (xs.map D.str) [] (fun d hd => by
            obtain ⟨c, _, rfl⟩ := List.mem_map.mp hd
            simp [notin_let, notLet]) (fun d hd _ => by
            obtain ⟨c, _, rfl⟩ := List.mem_map.mp hd
            simp)
          have e2 : ([] : List D) ++ ((xs.map D.str).filter notLet).map (fun d => d) = (xs.filter fun y => !letB y).map D.str := by rw [filt_let]; simp
          rw [e2] at e
          have e3 := eq_nil (xs.filter fun y => !letB y)
          have e4 := dep_strs (xs.filter fun y => !letB y)
          rw [none_let xs] at e3
          generalize xs.map D.str = L at e ei h6
          generalize (xs.filter fun y => !letB y).map D.str = M at e e3 e4
          simp [runB, g__law_is_name, nameB, isTys, isTy, isStrD, lenU_str, h1, h3, h4, h5, ei, h6, e, e3, e4, hx]
        · have h2 : ¬ z.length ≤ 8 := by omega
          simp [runB, g__law_is_name, nameB, isTys, isTy, isStrD, lenU_str, h1, h2, h3]
      · have h2 : ¬ 1 ≤ z.length := by omega
        simp [runB, g__law_is_name, nameB, isTys, isTy, isStrD, lenU_str, h1, h2]
    | _ => simp [runB, g__law_is_name, nameB, isTys, isTy, isStrD]
  · cases h
end Sw

end
section
set_option Elab.async false
set_option linter.all false
set_option maxRecDepth 100000
namespace L2
open PySem PySem.Spec PyProof.Rows
section
variable (S : SS) (d : D) (i : Nat) (g ga gb gc : GD) (gA : GA)
@[simp] theorem m_sAug (f : Int → Int → Int) : sAug f i g S = match S[i]? with
  | some (some (.t (.int n))) => (g S).bind fun p => match p.1 with
    | .int m => (setU i (.t (.int (f n m))) p.2).map .nx
    | _ => none
  | _ => none := rfl
@[simp] theorem m_fIsN : fIsN [d, .non] = some (.t (.bl (isNon d))) := rfl
@[simp] theorem m_fIntB (k : Bool) : fInt [.bl k] = some (.t (.int (if k then 1 else 0))) := rfl
@[simp] theorem m_fRep (ds : List D) (k : Int) : fRep [.lst ds, .int k] = if 0 ≤ k ∧ k.toNat ≤ 100000 ∧ ds.length * k.toNat ≤ 100000 then some (.m (.lst (List.replicate k.toNat ds).flatten)) else none := rfl
@[simp] theorem m_hExtend (es ds : List D) : hExtend [.lst es] (.lst ds) = if ds.length + es.length ≤ 100000 then some (.non, .lst (ds ++ es)) else none := rfl
@[simp] theorem m_gEnum : gEnum gA S = (gA S).bind fun p => match p.1 with
  | [d] => (seqD d).map fun q => (enumD q.2, p.2)
  | _ => none := rfl
@[simp] theorem m_gZip2 : gZip2 gA S = (gA S).bind fun p => match p.1 with
  | [d, e] => (seqD d).bind fun q => (seqD e).map fun r => (List.zipWith (fun a b => .tup [a, b]) q.2 r.2, p.2)
  | _ => none := rfl
@[simp] theorem m_seqD_l (ds : List D) : seqD (.lst ds) = some (true, ds) := rfl
@[simp] theorem m_seqD_t (ds : List D) : seqD (.tup ds) = some (false, ds) := rfl
theorem m_eCompQ (cap : List Nat) (gi : GI) (q : GT) : eComp cap gi q g S = (gi S).bind fun p => if p.1.length ≤ 100000 then (compL cap q g p.1 p.2 []).map fun r => (.m (.lst r.1), r.2) else none := rfl
@[simp] theorem m_fMin2 (x y : Int) : fMin2 [.int x, .int y] = some (.t (.int (if y < x then y else x))) := rfl
end
end L2
namespace Sq
open PySem PySem.Spec PyProof.Rows L2 Sw
theorem loop_ok {bd : GB} {body : GS} : ∀ (ds : List D) (I : List D → SS → Prop) (S : SS), I ds S → (∀ d r S, I (d :: r) S → ∃ S1 S2, bd d S = some S1 ∧ body S1 = some (.nx S2) ∧ I r S2) → ∃ S', loop bd body ds S = some (.nx S') ∧ I [] S'
  | [], I, S, h, _ => ⟨S, rfl, h⟩
  | d :: ds, I, S, h, k => by
    obtain ⟨S1, S2, e1, e2, h2⟩ := k d ds S h
    obtain ⟨S', e, h'⟩ := loop_ok ds I S2 h2 k
    refine ⟨S', ?_, h'⟩
    show ((bd d S).bind fun S1 => (body S1).bind _) = _
    rw [e1, Option.bind_some, e2, Option.bind_some]
    exact e
theorem compL_cons (cap : List Nat) (q : GT) (g : GD) (d : D) (ds : List D) (S : SS) (acc : List D) : compL cap q g (d :: ds) S acc = (compL cap q g [d] S acc).bind fun r => compL cap q g ds r.2 r.1 := by
  simp only [compL]
  cases capArgs S cap with
  | none => rfl
  | some us =>
    simp only [Option.bind_some]
    split
    · cases resolves S us with
      | none => rfl
      | some ws =>
        simp only [Option.bind_some]
        cases q (some (.t d) :: ws.map some) with
        | none => rfl
        | some p =>
          simp only [Option.bind_some]
          split
          · cases g p.2 with
            | none => rfl
            | some r =>
              simp only [Option.bind_some]
              cases outsOf (.t d :: ws) r.2 with
              | none => rfl
              | some outs =>
                simp only [Option.bind_some]
                cases wb us outs S with
                | none => rfl
                | some S' => rfl
          · cases outsOf (.t d :: ws) p.2 with
            | none => rfl
            | some outs =>
              simp only [Option.bind_some]
              cases wb us outs S with
              | none => rfl
              | some S' => rfl
    · rfl
theorem atI_nn {α : Type} {l : List α} {i : Int} {x : α} (h0 : 0 ≤ i) (h : l[i.toNat]? = some x) : atI l i = some x := by
  have hl := (List.getElem?_eq_some_iff.mp h).1
  unfold atI ixN
  rw [if_pos h0, if_pos (by omega)]
  exact h
theorem atI_ok {α : Type} {l : List α} {i : Int} (h0 : 0 ≤ i) (h1 : i < l.length) : ∃ x, atI l i = some x ∧ l[i.toNat]? = some x := by
  have h : i.toNat < l.length := by omega
  exact ⟨l[i.toNat], atI_nn h0 (List.getElem?_eq_getElem h), List.getElem?_eq_getElem h⟩
theorem gRng1_int {gA : GA} {S S' : SS} {j : Int} (h : gA S = some ([.int j], S')) (h1 : j < 1000000) (h2 : -1000000 < j) : gRng1 gA S = some (rng 0 j.toNat, S') := by
  unfold gRng1
  rw [h]
  simp only [Option.bind_some]
  rw [if_pos ⟨h1, h2⟩]

abbrev fd (c i l : Int) : MO := .lst [.int c, .int i, .int l]


end Sq

end
section
set_option Elab.async false
set_option linter.all false
set_option maxRecDepth 100000
namespace L2
open PySem PySem.Spec PyProof.Rows
def isB : Option U → Bool
  | some (.b _) => true
  | _ => false
@[simp] theorem isB_n : isB none = false := rfl
@[simp] theorem isB_t (d : D) : isB (some (.t d)) = false := rfl
@[simp] theorem isB_m (o : MO) : isB (some (.m o)) = false := rfl
theorem m_setU2 (i : Nat) (u : U) (S : SS) : setU i u S = (S[i]?).bind fun x => if isB x then none else some (S.set i (some u)) := by
  unfold setU
  cases S[i]? with
  | none => rfl
  | some x => cases x with
    | none => rfl
    | some u => cases u <;> rfl
@[simp] theorem m_bTup (n : Nat) (bs : GBs) (ds : List D) (S : SS) : bTup n bs (.tup ds) S = if ds.length = n then bs ds S else none := rfl
@[simp] theorem m_bCons (b : GB) (bs : GBs) (d : D) (r : List D) (S : SS) : bCons b bs (d :: r) S = (b d S).bind fun S1 => bs r S1 := rfl
@[simp] theorem m_bNil (S : SS) : bNil [] S = some S := rfl
@[simp] theorem m_eNewT (S : SS) : eNewT S = some (.m (.dtt []), S) := rfl
@[simp] theorem m_eNewK (S : SS) : eNewK S = some (.m (.dct []), S) := rfl
@[simp] theorem m_readU_mt (kvs : List (List Key × D)) (k : D) : readU (.m (.dtt kvs)) k = (keyT k).bind (lookD kvs) := by cases k <;> rfl
@[simp] theorem m_readU_bt (kvs : List (List Key × D)) (k : D) : readU (.b (.dtt kvs)) k = (keyT k).bind (lookD kvs) := by cases k <;> rfl
@[simp] theorem m_write_t (kvs : List (List Key × D)) (k d : D) : writeU (.dtt kvs) k d = (keyT k).bind fun kk => if kvs.length < 100000 then some (.dtt (putD kvs kk d)) else none := by cases k <;> rfl
@[simp] theorem m_flat_s (z : Str) : flatD (.str z) = true := rfl
@[simp] theorem m_flat_b (b : Bool) : flatD (.bl b) = true := rfl
@[simp] theorem m_flat_i (b : Int) : flatD (.int b) = true := rfl
@[simp] theorem m_eSl (g : GD) (lo hi : Option GD) (S : SS) : eSl g lo hi S = (g S).bind fun p => (oPart lo p.2).bind fun l => (oPart hi l.2).bind fun h => (fSl p.1 l.1 h.1).map fun u => (u, h.2) := rfl
@[simp] theorem m_oPart_n (S : SS) : oPart none S = some (none, S) := rfl
@[simp] theorem m_oPart_s (g : GD) (S : SS) : oPart (some g) S = (g S).bind fun p => match p.1 with | .int i => some (some i, p.2) | _ => none := rfl
@[simp] theorem m_fSl_t (ds : List D) (lo hi : Option Int) : fSl (.tup ds) lo hi = some (.t (.tup (cutD ds lo hi))) := rfl
@[simp] theorem m_fSl_l (ds : List D) (lo hi : Option Int) : fSl (.lst ds) lo hi = some (.m (.lst (cutD ds lo hi))) := rfl
@[simp] theorem m_hIndex (d : D) (ds : List D) : hIndex [d] (.lst ds) = if depDs ds ≤ 40 ∧ ds.length < 100000 then (idxD d ds).map fun j => (.int (j : Nat), .lst ds) else none := rfl
@[simp] theorem m_hReverse (ds : List D) : hReverse [] (.lst ds) = some (.non, .lst ds.reverse) := rfl
theorem loop_idx {bd : GB} {body : GS} (ds : List D) (I : Nat → SS → Prop) (S : SS) (h0 : I 0 S) (hs : ∀ j d S, ds[j]? = some d → I j S → ∃ S1 S2, bd d S = some S1 ∧ body S1 = some (.nx S2) ∧ I (j + 1) S2) : ∃ S', loop bd body ds S = some (.nx S') ∧ I ds.length S' := by
  obtain ⟨S', e, j, hr, hj, hI⟩ := Sq.loop_ok (bd := bd) (body := body) ds (fun r S => ∃ j, ds.drop j = r ∧ j ≤ ds.length ∧ I j S) S ⟨0, rfl, Nat.zero_le _, h0⟩ (by
    rintro d r S ⟨j, hr, hj, hI⟩
    have hlt : j < ds.length := by
      have := congrArg List.length hr
      rw [List.length_drop, List.length_cons] at this
      omega
    rw [List.drop_eq_getElem_cons hlt] at hr
    injection hr with h1 h2
    obtain ⟨S1, S2, e1, e2, h3⟩ := hs j d S (by rw [List.getElem?_eq_getElem hlt, h1]) hI
    exact ⟨S1, S2, e1, e2, j + 1, h2, hlt, h3⟩)
  have : j = ds.length := by
    have := congrArg List.length hr
    rw [List.length_drop, List.length_nil] at this
    omega
  subst this
  exact ⟨S', e, hI⟩
theorem rng_get {n j : Nat} {d : D} (h : (rng 0 n)[j]? = some d) : j < n ∧ d = .int j := by
  unfold rng at h
  rw [List.getElem?_map] at h
  cases e : (List.range n)[j]? with
  | none => rw [e] at h; cases h
  | some k =>
    rw [e] at h
    obtain ⟨h1, h2⟩ := List.getElem?_eq_some_iff.mp e
    rw [List.getElem_range] at h2
    rw [List.length_range] at h1
    subst h2
    refine ⟨h1, ?_⟩
    have := Option.some.inj h
    rw [← this]
    show D.int (0 + (j : Int)) = _
    rw [Int.zero_add]
theorem loop_cons (bd : GB) (body : GS) (d : D) (ds : List D) (S : SS) : loop bd body (d :: ds) S = (bd d S).bind fun S1 => (body S1).bind fun o => match o with
    | .nx S2 => loop bd body ds S2
    | .ct S2 => loop bd body ds S2
    | .bk S2 => some (.nx S2)
    | .rt u S2 => some (.rt u S2) := rfl
end L2

end
section
set_option Elab.async false
set_option linter.all false
set_option maxRecDepth 100000
namespace Ss
open PySem PySem.Spec PyProof.Rows L2 Sw
@[simp] theorem m_eTab (kvs : List (Str × Int)) (g : GD) (S : SS) : eTab kvs g S = (g S).bind fun p => match p.1 with | .str z => (lookS kvs z).map fun i => (.int i, p.2) | _ => none := rfl
@[simp] theorem m_eTabGet (kvs : List (Str × Int)) (g gd : GD) (S : SS) : eTabGet kvs g gd S = (g S).bind fun p => (gd p.2).bind fun q => match p.1, q.1 with | .str z, .int j => some (.int ((lookS kvs z).getD j), q.2) | _, _ => none := rfl
@[simp] theorem m_eInC (n : Bool) (zs : List Str) (g : GD) (S : SS) : eInC n zs g S = (g S).map fun p => (.bl (n != inD p.1 (zs.map D.str)), p.2) := rfl
def Sm (d : D) : Prop := Fit 20000 d ∧ depD d ≤ 38
theorem fits_mem {n : Nat} : ∀ {ds : List D} {x : D}, Fits n ds → x ∈ ds → Fit n x
  | d :: ds, x, h, hx => by
    rcases List.mem_cons.mp hx with rfl | q
    · exact h.1
    · exact fits_mem h.2 q
theorem Sm.mem {ds : List D} (h : Sm (.tup ds)) {x : D} (hx : x ∈ ds) : Sm x := ⟨fits_mem h.1.2 hx, by have : depDs ds + 1 ≤ 38 := h.2; have := mem_depDs hx; omega⟩
theorem Sm.slen {d : D} (h : Sm d) : slen d ≤ 20000 := by
  cases d with
  | str z => exact h.1
  | _ => exact Nat.zero_le _
theorem tup_at (a : D) (r : List D) : atI (a :: r) 0 = some a := by
  unfold atI ixN
  rw [if_pos (by decide), if_pos (by simp only [List.length_cons]; omega)]
  rfl
theorem tup_at1 (a b : D) (r : List D) : atI (a :: b :: r) 1 = some b := by
  unfold atI ixN
  rw [if_pos (by decide), if_pos (by simp only [List.length_cons]; omega)]
  rfl
theorem tup_at2 (a b c : D) (r : List D) : atI (a :: b :: c :: r) 2 = some c := by
  unfold atI ixN
  rw [if_pos (by decide), if_pos (by simp only [List.length_cons]; omega)]
  rfl
theorem tupleF_eq (d : D) (l m : Int) : tupleF [.t d, .t (.int l), .t (.int m)] = some (.t (.bl (tupleD d l m)), []) := rfl
theorem wholeF_eq (d : D) (l m : Int) : wholeF [.t d, .t (.int l), .t (.int m)] = some (.t (.bl (wholeD d l m)), []) := rfl
theorem wholeToF_eq (d : D) (m : Int) : wholeToF [.t d, .t (.int m)] = some (.t (.bl (wholeD d 0 m)), []) := rfl
theorem nameF_eq {d : D} (h : Sm d) : nameF [.t d] = some (.t (.bl (nameB d)), []) := by
  show (if slen d ≤ 20000 then _ else _) = _
  rw [if_pos h.slen]
theorem fIn_tup (x : D) (zs : List Str) : fIn [x, .tup (zs.map D.str)] = some (.t (.bl (inD x (zs.map D.str)))) := by
  have : depDs (zs.map D.str) ≤ 40 := by rw [L2.dep_strs]; omega
  cases x <;> simp [fIn, this]
theorem fIn_lst (x : D) (zs : List Str) : fIn [x, .lst (zs.map D.str)] = some (.t (.bl (inD x (zs.map D.str)))) := by
  have : depDs (zs.map D.str) ≤ 40 := by rw [L2.dep_strs]; omega
  cases x <;> simp [fIn, this]
def TST3 : List Str := ["less", "same", "more"]
def BND : List Str := ["each", "one"]
def testB (bs : List Str) : D → Bool
  | .tup [a] => eqD a (.str "any")
  | .tup [a, b] => if eqD a (.str "name") then nameB b else inD a (TST3.map D.str) && (wholeD b 0 9 || inD b (bs.map D.str))
  | _ => false
def g_is_test_among (fis_tuple : FM) (fis_name : FM) (fis_whole : FM) : GS :=
  (sSeq (sIf (qNot (qB (eF (eCall fis_tuple (uVal (eF (eVar 0)) (uVal (eC (.int 1)) (uVal (eC (.int 2)) uNil))))))) (sRet (eT (eC (.bl false)))) sNil)
  (sSeq (sIf (qB (eF (eP fEq (aCons (eLen 0) (aCons (eC (.int 1)) aNil))))) (sRet (eP fEq (aCons (eSub 0 (eC (.int 0))) (aCons (eC (.str "any")) aNil)))) sNil)
  (sSeq (sIf (qB (eF (eP fEq (aCons (eSub 0 (eC (.int 0))) (aCons (eC (.str "name")) aNil))))) (sRet (eCall fis_name (uVal (eSub 0 (eC (.int 1))) uNil))) sNil)
  (sRet (eT (eQ (qAnd (qB (eF (eP fIn (aCons (eSub 0 (eC (.int 0))) (aCons (eF (eP fTup (aCons (eC (.str "less")) (aCons (eC (.str "same")) (aCons (eC (.str "more")) aNil))))) aNil))))) (qB (eQ (qOr (qB (eF (eCall fis_whole (uVal (eSub 0 (eC (.int 1))) (uVal (eC (.int 0)) (uVal (eC (.int 9)) uNil)))))) (qB (eF (eP fIn (aCons (eSub 0 (eC (.int 1))) (aCons (eF (eVar 1)) aNil)))))))))))))))

def testF : FM := runB 2 (g_is_test_among tupleF nameF wholeF)
theorem test_run : ∀ us r, testF us = some r → runB 2 (g_is_test_among tupleF nameF wholeF) us = some r := fun _ _ h => h
theorem test_ok {d : D} (h : Sm d) (bs : List Str) : testF [.t d, .t (.tup (bs.map D.str))] = some (.t (.bl (testB bs d)), []) := by
  have e1 := tupleF_eq d 1 2
  cases d with
  | tup ds =>
    match ds, h, e1 with
    | [], h, e1 => simp [testF, runB, g_is_test_among, e1, tupleD, testB, outsOf]
    | [a], h, e1 =>
      have ha := (h.mem (x := a) (by simp)).2
      have hd : depD a ≤ 40 := by omega
      simp [testF, runB, g_is_test_among, e1, tupleD, testB, outsOf, tup_at, hd]
    | [a, b], h, e1 =>
      have ha := (h.mem (x := a) (by simp)).2
      have hd : depD a ≤ 40 := by omega
      have hb := nameF_eq (h.mem (x := b) (by simp))
      have w := wholeF_eq b 0 9
      have i1 := fIn_tup a TST3
      have i2 := fIn_tup b bs
      have tl : TST3.map D.str = [.str "less", .str "same", .str "more"] := rfl
      rw [tl] at i1
      cases q : eqD a (.str "name") with
      | true => simp [testF, runB, g_is_test_among, e1, tupleD, testB, outsOf, tup_at, tup_at1, hd, hb, q]
      | false =>
        cases q2 : inD a [.str "less", .str "same", .str "more"] with
        | true =>
          rw [q2] at i1
          cases q3 : wholeD b 0 9 with
          | true => simp [testF, runB, g_is_test_among, e1, tupleD, testB, outsOf, tup_at, tup_at1, hd, q, tl, i1, q2, w, q3]
          | false => simp [testF, runB, g_is_test_among, e1, tupleD, testB, outsOf, tup_at, tup_at1, hd, q, tl, i1, q2, w, q3, i2]
        | false =>
          rw [q2] at i1
          simp [testF, runB, g_is_test_among, e1, tupleD, testB, outsOf, tup_at, tup_at1, hd, q, tl, i1, q2]
    | a :: b :: c :: r, h, e1 =>
      have : ¬ ((r.length : Int) + 1 + 1 + 1 ≤ 2) := by omega
      have e2 : tupleD (.tup (a :: b :: c :: r)) 1 2 = false := by simp [tupleD, this]
      rw [e2] at e1
      simp [testF, runB, g_is_test_among, e1, testB, outsOf]
  | _ => simp [testF, runB, g_is_test_among, e1, tupleD, testB, outsOf]
def LEN : List (Str × Int) := [("yes", 1), ("no", 1), ("now", 2), ("not", 2), ("both", 3), ("either", 3), ("next", 2), ("till", 3), ("within", 3), ("always", 2), ("some", 2), ("each", 4), ("one", 4)]
def STA : List (Str × Int) := [("yes", 1), ("no", 1), ("now", 2), ("not", 1), ("both", 1), ("either", 1), ("next", 1), ("till", 1), ("within", 2), ("always", 1), ("some", 1), ("each", 3), ("one", 3)]
def longI (z : Str) : Int := (lookS LEN z).getD 0
def startN (z : Str) : Nat := ((lookS STA z).getD 0).toNat
def isBnd (z : Str) : Bool := inD (.str z) (BND.map D.str)
def HEADS : List Str := ["yes", "no", "now", "not", "both", "either", "next", "till", "within", "always", "some", "each", "one"]
theorem look_none_of {kvs : List (Str × Int)} {z : Str} (h : z ∉ kvs.map (·.1)) : lookS kvs z = none := by
  unfold lookS
  have : kvs.find? (fun p => decide (p.1 = z)) = none := List.find?_eq_none.mpr fun p hp q => h (by rw [← of_decide_eq_true q]; exact List.mem_map_of_mem hp)
  rw [this]
  rfl
theorem long_none {z : Str} (h : z ∉ HEADS) : longI z = 0 := by unfold longI; rw [look_none_of (show z ∉ LEN.map (·.1) from h)]; rfl
theorem heads_cases {z : Str} (h : longI z ≠ 0) : z ∈ HEADS := Classical.byContradiction fun q => h (long_none q)
structure HeadOk (z : Str) : Prop where
  sta : lookS STA z = some ((startN z : Nat) : Int)
  s1 : 1 ≤ startN z
  s4 : (startN z : Int) ≤ longI z
  l4 : longI z ≤ 4
  few : longI z - startN z ≤ 2
theorem head_ok : ∀ z ∈ HEADS, HeadOk z := by
  intro z hz
  simp only [HEADS, List.mem_cons, List.not_mem_nil, or_false] at hz
  rcases hz with rfl | rfl | rfl | rfl | rfl | rfl | rfl | rfl | rfl | rfl | rfl | rfl | rfl <;> exact ⟨by decide, by decide, by decide, by decide, by decide⟩
def g_parts_of : GS :=
  (sRet (eSl (eF (eVar 0)) (some (eTab [("yes", 1), ("no", 1), ("now", 2), ("not", 1), ("both", 1), ("either", 1), ("next", 1), ("till", 1), ("within", 2), ("always", 1), ("some", 1), ("each", 3), ("one", 3)] (eSub 0 (eC (.int 0))))) none))

def g_bound_within : GS :=
  (sSeq (sIf (qB (eInC false ["each", "one"] (eSub 0 (eC (.int 0))))) (sRet (eP fAdd (aCons (eF (eVar 1)) (aCons (eF (eP fTup (aCons (eSub 0 (eC (.int 2))) aNil))) aNil)))) sNil)
  (sRet (eVar 1)))

def g_is_shaped (fis_tuple : FM) (fis_test_among : FM) (fis_whole : FM) (fis_name : FM) : GS :=
  (sSeq (sIf (qOr (qNot (qB (eF (eCall fis_tuple (uVal (eF (eVar 0)) (uVal (eC (.int 1)) (uVal (eC (.int 4)) uNil))))))) (qNot (qB (eIs ["str"] (eSub 0 (eC (.int 0))))))) (sRet (eT (eC (.bl false)))) sNil)
  (sSeq (sSet 2 (eT (eSub 0 (eC (.int 0)))))
  (sSeq (sIf (qB (eF (eP fNe (aCons (eTabGet [("yes", 1), ("no", 1), ("now", 2), ("not", 2), ("both", 3), ("either", 3), ("next", 2), ("till", 3), ("within", 3), ("always", 2), ("some", 2), ("each", 4), ("one", 4)] (eF (eVar 2)) (eC (.int 0))) (aCons (eLen 0) aNil))))) (sRet (eT (eC (.bl false)))) sNil)
  (sSeq (sIf (qB (eF (eP fEq (aCons (eF (eVar 2)) (aCons (eC (.str "now")) aNil))))) (sRet (eCall fis_test_among (uVal (eSub 0 (eC (.int 1))) (uVal (eF (eVar 1)) uNil)))) sNil)
  (sSeq (sIf (qB (eF (eP fEq (aCons (eF (eVar 2)) (aCons (eC (.str "within")) aNil))))) (sRet (eCall fis_whole (uVal (eSub 0 (eC (.int 1))) (uVal (eC (.int 0)) (uVal (eC (.int 5)) uNil))))) sNil)
  (sSeq (sIf (qB (eInC false ["each", "one"] (eF (eVar 2)))) (sRet (eT (eQ (qAnd (qB (eF (eCall fis_name (uVal (eSub 0 (eC (.int 1))) uNil)))) (qB (eF (eCall fis_name (uVal (eSub 0 (eC (.int 2))) uNil)))))))) sNil)
  (sRet (eT (eC (.bl true))))))))))

def partsF : FM := runB 1 g_parts_of
theorem parts_run : ∀ us r, partsF us = some r → runB 1 g_parts_of us = some r := fun _ _ h => h
theorem cut_drop (ds : List D) (k : Nat) : L2.cutD ds (some (k : Int)) none = ds.drop k := by
  unfold L2.cutD
  rw [HT.sIx_none, HT.sIx_nat]
  by_cases h : k ≤ ds.length
  · rw [Nat.min_eq_left h, List.take_of_length_le (by rw [List.length_drop]; omega)]
  · rw [Nat.min_eq_right (by omega), List.drop_of_length_le (Nat.le_refl _), List.drop_of_length_le (by omega), List.take_nil]
theorem parts_ok {z : Str} {r : List D} (h : HeadOk z) : partsF [.t (.tup (.str z :: r))] = some (.t (.tup ((.str z :: r).drop (startN z))), []) := by
  have e := h.sta
  unfold STA at e
  have c := cut_drop (.str z :: r) (startN z)
  simp [partsF, runB, g_parts_of, tup_at, e, c, outsOf]
def boundF : FM := runB 2 g_bound_within
theorem bound_run : ∀ us r, boundF us = some r → runB 2 g_bound_within us = some r := fun _ _ h => h
theorem bound_no {z : Str} {r : List D} {bd : D} (h : isBnd z = false) : boundF [.t (.tup (.str z :: r)), .t bd] = some (.t bd, []) := by
  unfold isBnd BND at h
  simp only [List.map_cons, List.map_nil] at h
  simp [boundF, runB, g_bound_within, tup_at, h, outsOf]
theorem bound_yes {z : Str} {a b : D} {r : List D} {bs : List D} (h : isBnd z = true) (hl : bs.length ≤ 1000) : boundF [.t (.tup (.str z :: a :: b :: r)), .t (.tup bs)] = some (.t (.tup (bs ++ [b])), []) := by
  unfold isBnd BND at h
  simp only [List.map_cons, List.map_nil] at h
  have e : bs.length + 1 ≤ 100000 := by omega
  simp [boundF, runB, g_bound_within, tup_at, tup_at2, h, outsOf, e]
def shapeB (bs : List Str) (z : Str) (r : List D) : Bool :=
  if longI z = (r.length : Int) + 1 then
    (match r with
    | [] => true
    | a :: r2 => if z = "now" then testB bs a else if z = "within" then wholeD a 0 5 else if isBnd z then (match r2 with | b :: _ => nameB a && nameB b | [] => false) else true)
  else false
def shapedB (bs : List Str) : D → Bool
  | .tup (.str z :: r) => shapeB bs z r
  | _ => false
def shapedF : FM := runB 3 (g_is_shaped tupleF testF wholeF nameF)
theorem shaped_run : ∀ us r, shapedF us = some r → runB 3 (g_is_shaped tupleF testF wholeF nameF) us = some r := fun _ _ h => h
theorem long_le (z : Str) : longI z ≤ 4 := by
  by_cases h : longI z = 0
  · omega
  · exact (head_ok z (heads_cases h)).l4
theorem shaped_no {d : D} {bd : D} (h : ∀ z r, d ≠ .tup (.str z :: r)) : shapedF [.t d, .t bd] = some (.t (.bl false), []) := by
  have e1 := tupleF_eq d 1 4
  cases d with
  | tup ds =>
    cases ds with
    | nil => simp [shapedF, runB, g_is_shaped, e1, tupleD, outsOf]
    | cons a r =>
      have e2 : isStrD a = false := by
        cases a with
        | str z => exact absurd rfl (h z r)
        | _ => rfl
      cases q : tupleD (.tup (a :: r)) 1 4 with
      | false => rw [q] at e1; simp [shapedF, runB, g_is_shaped, e1, outsOf]
      | true => rw [q] at e1; simp [shapedF, runB, g_is_shaped, e1, outsOf, tup_at, isTys, isTy, e2]
  | _ => simp [shapedF, runB, g_is_shaped, e1, tupleD, outsOf]
theorem isStr_str (z : Str) : isStrD (.str z) = true := rfl
theorem shaped_ok {d : D} (h : Sm d) (bs : List Str) : shapedF [.t d, .t (.tup (bs.map D.str))] = some (.t (.bl (shapedB bs d)), []) := by
  by_cases hz : ∃ z r, d = .tup (.str z :: r)
  · obtain ⟨z, r, rfl⟩ := hz
    have e1 := tupleF_eq (.tup (.str z :: r)) 1 4
    have hl : longI z = (lookS LEN z).getD 0 := rfl
    unfold LEN at hl
    have dz : depD (.str z) = 0 := rfl
    have es : shapedB bs (.tup (.str z :: r)) = shapeB bs z r := rfl
    rw [es]
    by_cases q : (r.length : Int) + 1 ≤ 4
    · have e2 : tupleD (.tup (.str z :: r)) 1 4 = true := by
        have : (1 : Int) ≤ (r.length : Int) + 1 := by omega
        simp [tupleD, q, this]
      rw [e2] at e1
      unfold shapeB
      by_cases c : longI z = (r.length : Int) + 1
      · rw [if_pos c]
        rw [hl] at c
        cases r with
        | nil =>
          by_cases n1 : z = "now"
          · subst n1; exact absurd c (by decide)
          · by_cases n2 : z = "within"
            · subst n2; exact absurd c (by decide)
            · cases n3 : isBnd z with
              | true =>
                exfalso
                simp only [isBnd, BND, inD, List.map_cons, List.map_nil, List.any_cons, List.any_nil, Bool.or_false, m_eqD_s, Bool.or_eq_true, beq_iff_eq] at n3
                rcases n3 with rfl | rfl <;> exact absurd c (by decide)
              | false =>
                unfold isBnd BND at n3
                simp only [List.map_cons, List.map_nil] at n3
                simp at c
                simp [shapedF, runB, g_is_shaped, e1, outsOf, tup_at, isTys, isTy, isStr_str, c, n1, n2, n3]
        | cons a r2 =>
          have ha := h.mem (x := a) (by simp)
          by_cases n1 : z = "now"
          · have t := test_ok ha bs
            simp at c
            simp [shapedF, runB, g_is_shaped, e1, outsOf, tup_at, tup_at1, isTys, isTy, isStr_str, c, eq_true n1, t]
          · by_cases n2 : z = "within"
            · have w := wholeF_eq a 0 5
              simp at c
              simp [shapedF, runB, g_is_shaped, e1, outsOf, tup_at, tup_at1, isTys, isTy, isStr_str, c, n1, eq_true n2, w]
            · cases n3 : isBnd z with
              | true =>
                have n4 := n3
                unfold isBnd BND at n4
                simp only [List.map_cons, List.map_nil] at n4
                have na := nameF_eq ha
                cases r2 with
                | nil =>
                  exfalso
                  simp only [List.length_singleton] at c
                  simp only [isBnd, BND, inD, List.map_cons, List.map_nil, List.any_cons, List.any_nil, Bool.or_false, m_eqD_s, Bool.or_eq_true, beq_iff_eq] at n3
                  rcases n3 with rfl | rfl <;> exact absurd c (by decide)
                | cons b r3 =>
                  have nb := nameF_eq (h.mem (x := b) (by simp))
                  simp at c
                  cases qa : nameB a with
                  | true => rw [qa] at na; simp [shapedF, runB, g_is_shaped, e1, outsOf, tup_at, tup_at1, tup_at2, isTys, isTy, isStr_str, c, n1, n2, n4, na, nb, qa]
                  | false => rw [qa] at na; simp [shapedF, runB, g_is_shaped, e1, outsOf, tup_at, tup_at1, tup_at2, isTys, isTy, isStr_str, c, n1, n2, n4, na, nb, qa]
              | false =>
                have n4 := n3
                unfold isBnd BND at n4
                simp only [List.map_cons, List.map_nil] at n4
                simp at c
                simp [shapedF, runB, g_is_shaped, e1, outsOf, tup_at, tup_at1, isTys, isTy, isStr_str, c, n1, n2, n4]
      · rw [if_neg c]
        rw [hl] at c
        simp [shapedF, runB, g_is_shaped, e1, outsOf, tup_at, isTys, isTy, isStr_str, c]
    · have e2 : tupleD (.tup (.str z :: r)) 1 4 = false := by simp [tupleD, q]
      rw [e2] at e1
      have c : ¬ longI z = (r.length : Int) + 1 := by have := long_le z; omega
      unfold shapeB
      rw [if_neg c]
      simp [shapedF, runB, g_is_shaped, e1, outsOf]
  · have : shapedB bs d = false := by
      unfold shapedB
      split
      · rename_i z r; exact absurd ⟨z, r, rfl⟩ hz
      · rfl
    rw [this]
    exact shaped_no fun z r e => hz ⟨z, r, e⟩
end Ss

end
section
set_option Elab.async false
set_option linter.all false
set_option maxRecDepth 100000
namespace Ss
open PySem PySem.Spec PyProof.Rows L2 Sw
def strOf : D → Str
  | .str z => z
  | _ => ""
def innerB (bs : List Str) (z : Str) (r : List D) : List Str := if isBnd z = true then bs ++ [strOf (r.getD 1 .non)] else bs
def partsL (z : Str) (r : List D) : List D := (.str z :: r).drop (startN z)
def formed : Nat → List Str → D → Bool
  | 0, _, _ => false
  | n + 1, bs, .tup (.str z :: r) => shapeB bs z r && (partsL z r).all (formed n (innerB bs z r))
  | _ + 1, _, _ => false
def g_is_formed (fis_shaped : FM) (fbound_within : FM) (fparts_of : FM) (fis_formed : FM) : GS :=
  (sSeq (sIf (qOr (qB (eF (eP fEq (aCons (eF (eVar 2)) (aCons (eC (.int 0)) aNil))))) (qNot (qB (eF (eCall fis_shaped (uVal (eF (eVar 0)) (uVal (eF (eVar 1)) uNil))))))) (sRet (eT (eC (.bl false)))) sNil)
  (sSeq (sSet 3 (eCall fbound_within (uVal (eF (eVar 0)) (uVal (eF (eVar 1)) uNil))))
  (sRet (eP fAll (aCons (eF (eComp [3, 2] (iAny (eF (eCall fparts_of (uVal (eF (eVar 0)) uNil)))) qTrue (eF (eCall fis_formed (uVal (eF (eVar 0)) (uVal (eF (eVar 1)) (uVal (eF (eP fSub (aCons (eF (eVar 2)) (aCons (eC (.int 1)) aNil)))) uNil))))))) aNil)))))

def formF : Nat → FM
  | 0 => fun _ => none
  | j + 1 => runB 4 (g_is_formed shapedF boundF partsF (formF j))
theorem form_run (j : Nat) : ∀ us r, formF (j + 1) us = some r → runB 4 (g_is_formed shapedF boundF partsF (formF j)) us = some r := fun _ _ h => h
theorem shape_head {bs : List Str} {z : Str} {r : List D} (h : shapeB bs z r = true) : longI z = (r.length : Int) + 1 ∧ HeadOk z ∧ z ∈ HEADS := by
  unfold shapeB at h
  split at h
  · rename_i c
    have := heads_cases (z := z) (by omega)
    exact ⟨c, head_ok z this, this⟩
  · cases h
theorem name_str {d : D} (h : nameB d = true) : ∃ y, d = .str y := by
  cases d with
  | str z => exact ⟨z, rfl⟩
  | _ => cases h
theorem bnd_cases {z : Str} (h : isBnd z = true) : z = "each" ∨ z = "one" := by
  simp only [isBnd, BND, inD, List.map_cons, List.map_nil, List.any_cons, List.any_nil, Bool.or_false, m_eqD_s, Bool.or_eq_true, beq_iff_eq] at h
  rcases h with h | h
  · exact .inl h.symm
  · exact .inr h.symm
theorem shape_bnd {bs : List Str} {z : Str} {r : List D} (h : shapeB bs z r = true) (hb : isBnd z = true) : ∃ a y p, r = [a, .str y, p] ∧ nameB a = true ∧ nameB (.str y) = true := by
  obtain ⟨c, _, _⟩ := shape_head h
  have hl : longI z = 4 := by rcases bnd_cases hb with rfl | rfl <;> decide
  have n1 : ¬ z = "now" := by rcases bnd_cases hb with rfl | rfl <;> decide
  have n2 : ¬ z = "within" := by rcases bnd_cases hb with rfl | rfl <;> decide
  unfold shapeB at h
  rw [if_pos c] at h
  match r, c, h with
  | [], c, h => simp at c; omega
  | [a], c, h => simp at c; omega
  | [a, b], c, h => simp at c; omega
  | [a, b, p], c, h =>
    simp only [n1, n2, if_false, hb, if_true, Bool.and_eq_true] at h
    obtain ⟨y, rfl⟩ := name_str h.2
    exact ⟨a, y, p, rfl, h.1, h.2⟩
  | a :: b :: p :: q :: t, c, h => simp only [List.length_cons] at c; omega
theorem bound_ok {bs : List Str} {z : Str} {r : List D} (h : shapeB bs z r = true) (hl : bs.length ≤ 1000) : boundF [.t (.tup (.str z :: r)), .t (.tup (bs.map D.str))] = some (.t (.tup ((innerB bs z r).map D.str)), []) := by
  cases hb : isBnd z with
  | false =>
    rw [bound_no hb]
    unfold innerB
    rw [hb]
    rfl
  | true =>
    obtain ⟨a, y, p, rfl, _, _⟩ := shape_bnd h hb
    rw [bound_yes hb (by rw [List.length_map]; exact hl)]
    unfold innerB
    rw [if_pos hb, List.map_append]
    rfl
theorem inner_len (bs : List Str) (z : Str) (r : List D) : (innerB bs z r).length ≤ bs.length + 1 := by
  unfold innerB
  split
  · rw [List.length_append]; exact Nat.le_refl _
  · omega
theorem parts_mem {z : Str} {r : List D} {x : D} (h : HeadOk z) (hx : x ∈ partsL z r) : x ∈ r := by
  unfold partsL at hx
  obtain ⟨k, hk⟩ : ∃ k, startN z = k + 1 := ⟨startN z - 1, by have := h.s1; omega⟩
  rw [hk, List.drop_succ_cons] at hx
  exact List.mem_of_mem_drop hx
theorem parts_len {z : Str} {r : List D} (h : HeadOk z) (c : longI z = (r.length : Int) + 1) : (partsL z r).length ≤ 2 := by
  unfold partsL
  rw [List.length_drop, List.length_cons]
  have := h.few
  omega
theorem form_false {f1 f2 f3 f4 : FM} {d bd : D} {m : Int} (m0 : m ≠ 0) (e1 : f1 [.t d, .t bd] = some (.t (.bl false), [])) : runB 4 (g_is_formed f1 f2 f3 f4) [.t d, .t bd, .t (.int m)] = some (.t (.bl false), []) := by
  simp [runB, g_is_formed, outsOf, m0, e1]
theorem form_true {f1 f2 f3 f4 : FM} {d bd ib : D} {m : Int} {pl ql : List D} {qs : List Bool} {b : Bool} (m0 : m ≠ 0) (e1 : f1 [.t d, .t bd] = some (.t (.bl true), [])) (e2 : f2 [.t d, .t bd] = some (.t ib, [])) (e3 : f3 [.t d] = some (.t (.tup pl), []))
    (e4 : compL [3, 2] qTrue (eF (eCall f4 (uVal (eF (eVar 0)) (uVal (eF (eVar 1)) (uVal (eF (eP fSub (aCons (eF (eVar 2)) (aCons (eC (.int 1)) aNil)))) uNil))))) pl [some (.t d), some (.t bd), some (.t (.int m)), some (.t ib)] [] = some (ql, [some (.t d), some (.t bd), some (.t (.int m)), some (.t ib)])) (e5 : pl.length ≤ 100000) (e6 : boolsD ql = some qs) (e7 : qs.all id = b) : runB 4 (g_is_formed f1 f2 f3 f4) [.t d, .t bd, .t (.int m)] = some (.t (.bl b), []) := by
  simp [runB, g_is_formed, outsOf, m0, e1, e2, m_iAny, e3, e4, e5, e6, ← e7]
theorem form_ok : ∀ (n j : Nat), n ≤ j → ∀ (d : D) (bs : List Str), Sm d → bs.length + n ≤ 100 → formF (j + 1) [.t d, .t (.tup (bs.map D.str)), .t (.int (n : Int))] = some (.t (.bl (formed n bs d)), [])
  | 0, j, _, d, bs, _, _ => by simp [formF, runB, g_is_formed, outsOf, formed]
  | n + 1, 0, h, _, _, _, _ => by omega
  | n + 1, j + 1, hj, d, bs, hd, hb => by
    have e1 := shaped_ok hd bs
    have n0 : ¬ ((n : Int) + 1 = 0) := by omega
    have ef : formed (n + 1) bs d = (shapedB bs d && (match d with | .tup (.str z :: r) => (partsL z r).all (formed n (innerB bs z r)) | _ => false)) := by
      cases d with
      | tup ds =>
        cases ds with
        | nil => rfl
        | cons a r => cases a <;> rfl
      | _ => rfl
    rw [ef]
    cases q : shapedB bs d with
    | false =>
      rw [q] at e1
      exact form_false (by omega) e1
    | true =>
      rw [q] at e1
      obtain ⟨z, r, rfl⟩ : ∃ z r, d = .tup (.str z :: r) := by
        unfold shapedB at q
        split at q
        · exact ⟨_, _, rfl⟩
        · cases q
      have hs : shapeB bs z r = true := q
      obtain ⟨c, hh, _⟩ := shape_head hs
      have e2 := bound_ok hs (by omega)
      have e3 := parts_ok (r := r) hh
      have il := inner_len bs z r
      have e4 := compL_all (cap := [3, 2]) (g := eF (eCall (formF (j + 1)) (uVal (eF (eVar 0)) (uVal (eF (eVar 1)) (uVal (eF (eP fSub (aCons (eF (eVar 2)) (aCons (eC (.int 1)) aNil)))) uNil))))) (S := [some (.t (.tup (.str z :: r))), some (.t (.tup (bs.map D.str))), some (.t (.int ((n + 1 : Nat) : Int))), some (.t (.tup ((innerB bs z r).map D.str)))])
        (ts := [.tup ((innerB bs z r).map D.str), .int ((n + 1 : Nat) : Int)]) rfl (fun p => .bl (formed n (innerB bs z r) p)) (partsL z r) [] (by
          intro p hp
          have ih := form_ok n j (by omega) p (innerB bs z r) (hd.mem (List.mem_cons_of_mem _ (parts_mem hh hp))) (by omega)
          have en : ((n + 1 : Nat) : Int) - 1 = (n : Int) := by omega
          simp [-Int.natCast_add, en, ih])
      have e5 : (partsL z r).length ≤ 100000 := by have := parts_len hh c; omega
      have e6 := bools_map (formed n (innerB bs z r)) (partsL z r)
      rw [List.nil_append] at e4
      have e7 : ((partsL z r).map (formed n (innerB bs z r))).all id = (partsL z r).all (formed n (innerB bs z r)) := by rw [List.all_map]; rfl
      exact form_true (by omega) e1 e2 e3 e4 e5 e6 (by rw [e7, Bool.true_and])
def allL : Nat → D → List D
  | 0, _ => []
  | n + 1, .tup (.str z :: r) => .tup (.str z :: r) :: (partsL z r).flatMap (allL n)
  | _ + 1, d => [d]
def w1_all_in (fparts_of : FM) (fall_in : FM) : GS :=
  (sExpr (eT (eM 1 hExtend (aCons (eF (eCall fall_in (uVal (eF (eVar 2)) uNil))) aNil))))
def g_all_in (fparts_of : FM) (fall_in : FM) : GS :=
  (sSeq (sSet 1 (eP fLst (aCons (eF (eVar 0)) aNil)))
  (sSeq (sFor (bName 2) (iAny (eF (eCall fparts_of (uVal (eF (eVar 0)) uNil)))) (w1_all_in fparts_of fall_in))
  (sRet (eVar 1))))

def allF : Nat → FM
  | 0 => fun _ => none
  | j + 1 => runB 3 (g_all_in partsF (allF j))
theorem all_run (j : Nat) : ∀ us r, allF (j + 1) us = some r → runB 3 (g_all_in partsF (allF j)) us = some r := fun _ _ h => h
theorem flat_len {f : D → List D} {k : Nat} : ∀ {ps : List D}, (∀ p ∈ ps, (f p).length ≤ k) → (ps.flatMap f).length ≤ k * ps.length
  | [], _ => Nat.zero_le _
  | p :: ps, h => by
    have ih := flat_len (f := f) (k := k) (ps := ps) fun q hq => h q (List.mem_cons_of_mem _ hq)
    have h1 := h p List.mem_cons_self
    rw [List.flatMap_cons, List.length_append, List.length_cons, Nat.mul_succ]
    omega
theorem formed_inv {n : Nat} {bs : List Str} {d : D} (h : formed (n + 1) bs d = true) : ∃ z r, d = .tup (.str z :: r) ∧ shapeB bs z r = true ∧ ∀ p ∈ partsL z r, formed n (innerB bs z r) p = true := by
  cases d with
  | tup ds =>
    cases ds with
    | nil => cases h
    | cons a r =>
      cases a with
      | str z =>
        obtain ⟨h1, h2⟩ := Bool.and_eq_true_iff.mp (show (shapeB bs z r && (partsL z r).all (formed n (innerB bs z r))) = true from h)
        exact ⟨z, r, rfl, h1, fun p hp => List.all_eq_true.mp h2 p hp⟩
      | _ => cases h
  | _ => cases h
theorem all_len : ∀ {n : Nat} {bs : List Str} {d : D}, formed n bs d = true → (allL n d).length ≤ 3 ^ n
  | 0, _, _, h => by cases h
  | n + 1, bs, d, h => by
    obtain ⟨z, r, rfl, h1, h2⟩ := formed_inv h
    obtain ⟨c, hh, _⟩ := shape_head h1
    have := flat_len (f := allL n) (k := 3 ^ n) (ps := partsL z r) fun p hp => all_len (h2 p hp)
    have h3 := Nat.mul_le_mul_left (3 ^ n) (parts_len hh c)
    have h4 : 1 ≤ 3 ^ n := Nat.one_le_pow _ _ (by decide)
    show ((partsL z r).flatMap (allL n)).length + 1 ≤ 3 ^ (n + 1)
    rw [Nat.pow_succ]
    omega
theorem all_ok : ∀ (n j : Nat), n ≤ j → n ≤ 8 → ∀ (d : D) (bs : List Str), formed n bs d = true → allF j [.t d] = some (.m (.lst (allL n d)), [])
  | 0, _, _, _, _, _, h => by cases h
  | n + 1, 0, h, _, _, _, _ => by omega
  | n + 1, j + 1, hj, h8, d, bs, h => by
    obtain ⟨z, r, rfl, h1, h2⟩ := formed_inv h
    obtain ⟨c, hh, _⟩ := shape_head h1
    have e3 : partsF [.t (.tup (.str z :: r))] = some (.t (.tup (partsL z r)), []) := parts_ok (r := r) hh
    have pl := parts_len hh c
    have pw : 3 ^ n ≤ 3 ^ 7 := Nat.pow_le_pow_right (by decide) (by omega)
    obtain ⟨S', e, x2, q2, hs⟩ := loop_idx (bd := bName 2) (body := w1_all_in partsF (allF j)) (partsL z r)
      (fun k S => ∃ x2, isB x2 = false ∧ S = [some (.t (.tup (.str z :: r))), some (.m (.lst (.tup (.str z :: r) :: ((partsL z r).take k).flatMap (allL n)))), x2])
      [some (.t (.tup (.str z :: r))), some (.m (.lst [.tup (.str z :: r)])), none] ⟨none, rfl, rfl⟩ (by
        rintro k p S hp ⟨x2, q2, rfl⟩
        have hm := List.mem_of_getElem? hp
        have ih := all_ok n j (by omega) (by omega) p _ (h2 p hm)
        have il := all_len (h2 p hm)
        have fl := flat_len (f := allL n) (k := 3 ^ n) (ps := (partsL z r).take k) fun p hp => all_len (h2 p (List.mem_of_mem_take hp))
        have tl : ((partsL z r).take k).length ≤ 2 := by rw [List.length_take]; omega
        have fl2 := Nat.mul_le_mul_left (3 ^ n) tl
        have h37 : (3 : Nat) ^ 7 = 2187 := by decide
        have b1 : (((partsL z r).take k).flatMap (allL n)).length + 1 + (allL n p).length ≤ 100000 := by omega
        refine ⟨[some (.t (.tup (.str z :: r))), some (.m (.lst (.tup (.str z :: r) :: ((partsL z r).take k).flatMap (allL n)))), some (.t p)], _, by simp [-m_setU, m_setU2, q2], ?_, some (.t p), rfl, rfl⟩
        rw [List.take_succ, hp]
        simp only [Option.toList_some]
        rw [List.flatMap_append]
        generalize ((partsL z r).take k).flatMap (allL n) = A at *
        simp [w1_all_in, ih, b1])
    rw [List.take_length] at hs
    subst hs
    show runB 3 _ _ = some (.m (.lst (.tup (.str z :: r) :: (partsL z r).flatMap (allL n))), [])
    simp [runB, g_all_in, outsOf, m_iAny, e3, e]
def sizeN (n : Nat) (d : D) : Nat := (allL n d).length
def bndD : D → Bool
  | .tup (.str z :: _) => isBnd z
  | _ => false
def binN (n : Nat) (d : D) : Nat := ((allL n d).filter bndD).length
theorem all_form : ∀ {n : Nat} {bs : List Str} {d : D}, formed n bs d = true → ∀ x ∈ allL n d, ∃ z r, x = .tup (.str z :: r)
  | 0, _, _, h => by cases h
  | n + 1, bs, d, h => by
    obtain ⟨z, r, rfl, h1, h2⟩ := formed_inv h
    intro x hx
    rcases List.mem_cons.mp (show x ∈ .tup (.str z :: r) :: (partsL z r).flatMap (allL n) from hx) with q | q
    · exact ⟨z, r, q⟩
    · obtain ⟨p, hp, hx⟩ := List.mem_flatMap.mp q
      exact all_form (h2 p hp) x hx
def g_size (fall_in : FM) : GS :=
  (sRet (eP fLen (aCons (eF (eCall fall_in (uVal (eF (eVar 0)) uNil))) aNil)))

def sizeF : FM := runB 1 (g_size (allF 9))
theorem size_run : ∀ us r, sizeF us = some r → runB 1 (g_size (allF 9)) us = some r := fun _ _ h => h
theorem size_ok {n : Nat} {bs : List Str} {d : D} (hn : n ≤ 8) (h : formed n bs d = true) : sizeF [.t d] = some (.t (.int (sizeN n d : Nat)), []) := by
  have e := all_ok n 9 (by omega) hn d bs h
  unfold sizeN
  simp [sizeF, runB, g_size, e, outsOf]
def g_binders_in (fall_in : FM) : GS :=
  (sRet (eP fLen (aCons (eF (eComp [] (iAny (eF (eCall fall_in (uVal (eF (eVar 0)) uNil)))) (qB (eInC false ["each", "one"] (eSub 0 (eC (.int 0))))) (eF (eVar 0)))) aNil)))

def bindF : FM := runB 1 (g_binders_in (allF 9))
theorem bind_run : ∀ us r, bindF us = some r → runB 1 (g_binders_in (allF 9)) us = some r := fun _ _ h => h
theorem bind_ok {n : Nat} {bs : List Str} {d : D} (hn : n ≤ 8) (h : formed n bs d = true) : bindF [.t d] = some (.t (.int (binN n d : Nat)), []) := by
  have e := all_ok n 9 (by omega) hn d bs h
  have pw : 3 ^ n ≤ 3 ^ 8 := Nat.pow_le_pow_right (by decide) (by omega)
  have al := all_len h
  have e2 := compL_t (cap := []) (q := qB (eInC false ["each", "one"] (eSub 0 (eC (.int 0))))) (g := eF (eVar 0)) (S := [some (.t d)]) (ts := []) rfl bndD (fun d => d) (allL n d) [] (by
    intro x hx
    obtain ⟨z, r, rfl⟩ := all_form h x hx
    have : bndD (.tup (.str z :: r)) = isBnd z := rfl
    rw [this]
    unfold isBnd BND
    simp [tup_at]) (by intro x hx _; simp)
  rw [List.nil_append, List.map_id'] at e2
  have h38 : (3 : Nat) ^ 8 = 6561 := by decide
  have e3 : (allL n d).length ≤ 100000 := by omega
  unfold binN
  simp [bindF, runB, g_binders_in, e, m_iAny, e2, e3, outsOf]
def g_is_saying (fis_formed : FM) (fsize : FM) (fbinders_in : FM) : GS :=
  (sSeq (sIf (qNot (qB (eF (eCall fis_formed (uVal (eF (eVar 0)) (uVal (eF (eP fTup aNil)) (uVal (eC (.int 8)) uNil))))))) (sRet (eT (eC (.bl false)))) sNil)
  (sRet (eT (eQ (qAnd (qB (eF (eP fLe (aCons (eF (eCall fsize (uVal (eF (eVar 0)) uNil))) (aCons (eC (.int 16)) aNil))))) (qB (eF (eP fLe (aCons (eF (eCall fbinders_in (uVal (eF (eVar 0)) uNil))) (aCons (eC (.int 3)) aNil))))))))))

def sayB (d : D) : Bool := formed 8 [] d && (decide (sizeN 8 d ≤ 16) && decide (binN 8 d ≤ 3))
def isSayF : FM := runB 1 (g_is_saying (formF 9) sizeF bindF)
theorem isSay_run : ∀ us r, isSayF us = some r → runB 1 (g_is_saying (formF 9) sizeF bindF) us = some r := fun _ _ h => h
theorem isSay_ok {d : D} (h : Sm d) : isSayF [.t d] = some (.t (.bl (sayB d)), []) := by
  have e1 := form_ok 8 8 (Nat.le_refl _) d [] h (by decide)
  simp only [List.map_nil] at e1
  unfold sayB
  have e1 : formF 9 [.t d, .t (.tup []), .t (.int 8)] = some (.t (.bl (formed 8 [] d)), []) := e1
  cases q : formed 8 [] d with
  | false => rw [q] at e1; simp [isSayF, runB, g_is_saying, e1, outsOf]
  | true =>
    rw [q] at e1
    have e2 := size_ok (by decide) q
    have e3 := bind_ok (by decide) q
    by_cases c1 : sizeN 8 d ≤ 16
    · have c2 : (sizeN 8 d : Int) ≤ 16 := by omega
      by_cases c3 : binN 8 d ≤ 3
      · have c4 : (binN 8 d : Int) ≤ 3 := by omega
        simp [isSayF, runB, g_is_saying, e1, e2, e3, outsOf, c1, c2, c3, c4]
      · have c4 : ¬ (binN 8 d : Int) ≤ 3 := by omega
        simp [isSayF, runB, g_is_saying, e1, e2, e3, outsOf, c1, c2, c3, c4]
    · have c2 : ¬ (sizeN 8 d : Int) ≤ 16 := by omega
      simp [isSayF, runB, g_is_saying, e1, e2, outsOf, c1, c2]
end Ss

end
section
set_option Elab.async false
set_option linter.all false
set_option maxRecDepth 100000
namespace Ss
open PySem PySem.Spec PyProof.Rows L2 Sw
@[simp] theorem m_eDict (kgs : List (Str × GD)) (S : SS) : eDict kgs S = (ePairs kgs S).map fun p => (.m (.dct (mergeD [] p.1)), p.2) := rfl
@[simp] theorem m_ePairs_nil (S : SS) : ePairs [] S = some ([], S) := rfl
@[simp] theorem m_ePairs_cons (z : Str) (g : GD) (r : List (Str × GD)) (S : SS) : ePairs ((z, g) :: r) S = (g S).bind fun p => (ePairs r p.2).map fun q => ((.inr z, p.1) :: q.1, q.2) := rfl
@[simp] theorem m_eDUpd (i : Nat) (ge : GE) (S : SS) : eDUpd i ge S = match S[i]? with
  | some (some u) => if isDct u then (ge S).bind fun p => match p.1 with
    | .m (.dct more) => mutU p.2 i fun o => match o with
      | .dct kvs => if kvs.length + more.length ≤ 100000 then some (.non, .dct (mergeD kvs more)) else none
      | _ => none
    | _ => none
    else none
  | _ => none := rfl
@[simp] theorem m_eDGet (i : Nat) (gk gd : GD) (S : SS) : eDGet i gk gd S = match S[i]? with
  | some (some u) => if isDct u then (gk S).bind fun p => (gd p.2).bind fun q => match q.2[i]? with
    | some (some u2) => (getU u2 p.1).map fun o => (o.getD q.1, q.2)
    | _ => none
    else none
  | _ => none := rfl
@[simp] theorem isDct_m (kvs : List (Key × D)) : isDct (.m (.dct kvs)) = true := rfl
@[simp] theorem getU_m (kvs : List (Key × D)) (k : D) : getU (.m (.dct kvs)) k = (keyOf k).map (lookD kvs) := rfl
def shT (n : Int) (ps : List Int) : D := .tup [.int n, .lst (ps.map D.int)]
def SH1 : List (Key × D) := [(.inr "yes", shT 1 []), (.inr "no", shT 1 []), (.inr "now", shT 2 []), (.inr "not", shT 2 [1]), (.inr "next", shT 2 [1]), (.inr "always", shT 2 [1])]
def SH2 : List (Key × D) := [(.inr "some", shT 2 [1]), (.inr "both", shT 3 [1, 2]), (.inr "either", shT 3 [1, 2]), (.inr "till", shT 3 [1, 2])]
def SH3 : List (Key × D) := [(.inr "within", shT 3 [2]), (.inr "each", shT 4 [3]), (.inr "one", shT 4 [3])]
def SHP : List (Key × D) := mergeD (mergeD (mergeD [] SH1) (mergeD [] SH2)) (mergeD [] SH3)
theorem put_len (kvs : List (Key × D)) (k : Key) (d : D) : (putD kvs k d).length ≤ kvs.length + 1 := by
  unfold putD
  split
  · rw [List.length_map]; omega
  · rw [List.length_append]; exact Nat.le_refl _
theorem merge_len : ∀ (more kvs : List (Key × D)), (mergeD kvs more).length ≤ kvs.length + more.length
  | [], kvs => Nat.le_refl _
  | p :: r, kvs => by
    have h1 := merge_len r (putD kvs p.1 p.2)
    have h2 := put_len kvs p.1 p.2
    show (mergeD (putD kvs p.1 p.2) r).length ≤ _
    rw [List.length_cons]
    omega
def g__law_shape : GS :=
  (sSeq (sSet 1 (eDict [("yes", (eF (eP fTup (aCons (eC (.int 1)) (aCons (eF (eP fLst aNil)) aNil))))), ("no", (eF (eP fTup (aCons (eC (.int 1)) (aCons (eF (eP fLst aNil)) aNil))))), ("now", (eF (eP fTup (aCons (eC (.int 2)) (aCons (eF (eP fLst aNil)) aNil))))), ("not", (eF (eP fTup (aCons (eC (.int 2)) (aCons (eF (eP fLst (aCons (eC (.int 1)) aNil))) aNil))))), ("next", (eF (eP fTup (aCons (eC (.int 2)) (aCons (eF (eP fLst (aCons (eC (.int 1)) aNil))) aNil))))), ("always", (eF (eP fTup (aCons (eC (.int 2)) (aCons (eF (eP fLst (aCons (eC (.int 1)) aNil))) aNil)))))]))
  (sSeq (sExpr (eT (eDUpd 1 (eDict [("some", (eF (eP fTup (aCons (eC (.int 2)) (aCons (eF (eP fLst (aCons (eC (.int 1)) aNil))) aNil))))), ("both", (eF (eP fTup (aCons (eC (.int 3)) (aCons (eF (eP fLst (aCons (eC (.int 1)) (aCons (eC (.int 2)) aNil)))) aNil))))), ("either", (eF (eP fTup (aCons (eC (.int 3)) (aCons (eF (eP fLst (aCons (eC (.int 1)) (aCons (eC (.int 2)) aNil)))) aNil))))), ("till", (eF (eP fTup (aCons (eC (.int 3)) (aCons (eF (eP fLst (aCons (eC (.int 1)) (aCons (eC (.int 2)) aNil)))) aNil)))))]))))
  (sSeq (sExpr (eT (eDUpd 1 (eDict [("within", (eF (eP fTup (aCons (eC (.int 3)) (aCons (eF (eP fLst (aCons (eC (.int 2)) aNil))) aNil))))), ("each", (eF (eP fTup (aCons (eC (.int 4)) (aCons (eF (eP fLst (aCons (eC (.int 3)) aNil))) aNil))))), ("one", (eF (eP fTup (aCons (eC (.int 4)) (aCons (eF (eP fLst (aCons (eC (.int 3)) aNil))) aNil)))))]))))
  (sRet (eT (eDGet 1 (eF (eVar 0)) (eF (eP fTup (aCons (eC (.int 0)) (aCons (eF (eP fLst aNil)) aNil))))))))))

def shapeF : FM := runB 2 g__law_shape
theorem shape_run : ∀ us r, shapeF us = some r → runB 2 g__law_shape us = some r := fun _ _ h => h
theorem shape_raw (z : Str) : shapeF [.t (.str z)] = some (.t ((lookD SHP (.inr z)).getD (shT 0 [])), []) := by
  have l1 := merge_len SH1 []
  have l2 := merge_len SH2 []
  have l3 := merge_len SH3 []
  have l4 := merge_len (mergeD [] SH2) (mergeD [] SH1)
  have k1 : SH1.length = 6 := rfl
  have k2 : SH2.length = 4 := rfl
  have k3 : SH3.length = 3 := rfl
  rw [List.length_nil] at l1 l2 l3
  have b1 : (mergeD [] SH1).length + (mergeD [] SH2).length ≤ 100000 := by omega
  have b2 : (mergeD (mergeD [] SH1) (mergeD [] SH2)).length + (mergeD [] SH3).length ≤ 100000 := by omega
  clear l1 l2 l3 l4 k1 k2 k3
  unfold SHP
  unfold SH1 SH2 SH3 at *
  simp only [shT, List.map_nil, List.map_cons] at *
  simp [shapeF, runB, g__law_shape, outsOf, b1, b2]
def plc (z : Str) : List Int := (List.range (longI z - startN z).toNat).map fun (k : Nat) => (startN z : Int) + k
theorem put_keys {kvs : List (Key × D)} {k : Key} {d : D} {x : Key} (h : x ∈ (putD kvs k d).map (·.1)) : x ∈ kvs.map (·.1) ∨ x = k := by
  unfold putD at h
  split at h
  · rw [List.map_map] at h
    obtain ⟨kv, h1, h2⟩ := List.mem_map.mp h
    simp only [Function.comp] at h2
    split at h2
    · exact .inl (List.mem_map.mpr ⟨kv, h1, h2⟩)
    · exact .inl (List.mem_map.mpr ⟨kv, h1, h2⟩)
  · rw [List.map_append] at h
    rcases List.mem_append.mp h with q | q
    · exact .inl q
    · exact .inr (by simpa using q)
theorem merge_keys : ∀ {more kvs : List (Key × D)} {x : Key}, x ∈ (mergeD kvs more).map (·.1) → x ∈ kvs.map (·.1) ∨ x ∈ more.map (·.1)
  | [], kvs, x, h => .inl h
  | p :: r, kvs, x, h => by
    rcases merge_keys (more := r) (kvs := putD kvs p.1 p.2) h with q | q
    · rcases put_keys q with y | y
      · exact .inl y
      · exact .inr (by rw [y]; exact List.mem_cons_self)
    · exact .inr (List.mem_cons_of_mem _ q)
theorem lookD_none {kvs : List (Key × D)} {k : Key} (h : k ∉ kvs.map (·.1)) : lookD kvs k = none := by
  unfold lookD
  have : kvs.find? (fun kv => decide (kv.1 = k)) = none := List.find?_eq_none.mpr fun p hp q => h (by rw [← of_decide_eq_true q]; exact List.mem_map_of_mem hp)
  rw [this]
  rfl
theorem shape_ok2 (z : Str) : shapeF [.t (.str z)] = some (.t (.tup [.int (longI z), .lst ((plc z).map D.int)]), []) := by
  rw [shape_raw]
  by_cases h : z ∈ HEADS
  · simp only [HEADS, List.mem_cons, List.not_mem_nil, or_false] at h
    rcases h with rfl | rfl | rfl | rfl | rfl | rfl | rfl | rfl | rfl | rfl | rfl | rfl | rfl <;> rfl
  · have e1 : lookD SHP (.inr z) = none := lookD_none fun q => by
      unfold SHP at q
      have k1 : (.inr z : Key) ∈ SH1.map (·.1) → False := fun q => by
        apply h
        simp only [SH1, List.map_cons, List.map_nil, List.mem_cons, List.not_mem_nil, or_false, Sum.inr.injEq] at q
        rcases q with rfl | rfl | rfl | rfl | rfl | rfl <;> decide
      have k2 : (.inr z : Key) ∈ SH2.map (·.1) → False := fun q => by
        apply h
        simp only [SH2, List.map_cons, List.map_nil, List.mem_cons, List.not_mem_nil, or_false, Sum.inr.injEq] at q
        rcases q with rfl | rfl | rfl | rfl <;> decide
      have k3 : (.inr z : Key) ∈ SH3.map (·.1) → False := fun q => by
        apply h
        simp only [SH3, List.map_cons, List.map_nil, List.mem_cons, List.not_mem_nil, or_false, Sum.inr.injEq] at q
        rcases q with rfl | rfl | rfl <;> decide
      have one : ∀ L : List (Key × D), ((.inr z : Key) ∈ L.map (·.1) → False) → (.inr z : Key) ∈ (mergeD [] L).map (·.1) → False := fun L k q => by
        rcases merge_keys q with q | q
        · cases q
        · exact k q
      rcases merge_keys q with q | q
      · rcases merge_keys q with q | q
        · exact one _ k1 q
        · exact one _ k2 q
      · exact one _ k3 q
    rw [e1]
    have e2 : longI z = 0 := long_none h
    have e3 : plc z = [] := by unfold plc; rw [e2]; rw [show ((0 : Int) - startN z).toNat = 0 by omega]; rfl
    rw [e2, e3]
    rfl
theorem in_nonstr {b : D} (h : isStrD b = false) (zs : List Str) : inD b (zs.map D.str) = false := by
  unfold inD
  rw [List.any_map, List.any_eq_false]
  intro z _ q
  have := eqD_isStr (show eqD (.str z) b = true from q)
  subst this
  cases h
def g__law_is_test (f_law_is_name : FM) (f_law_whole_to : FM) : GS :=
  (sSeq (sIf (qOr (qNot (qB (eIs ["tuple"] (eF (eVar 0))))) (qOr (qB (eF (eP fEq (aCons (eLen 0) (aCons (eC (.int 0)) aNil))))) (qNot (qB (eIs ["str"] (eSub 0 (eC (.int 0)))))))) (sRet (eT (eC (.bl false)))) sNil)
  (sSeq (sIf (qB (eF (eP fEq (aCons (eSub 0 (eC (.int 0))) (aCons (eC (.str "any")) aNil))))) (sRet (eP fEq (aCons (eLen 0) (aCons (eC (.int 1)) aNil)))) sNil)
  (sSeq (sIf (qOr (qB (eF (eP fNe (aCons (eLen 0) (aCons (eC (.int 2)) aNil))))) (qB (eF (eP fNotIn (aCons (eSub 0 (eC (.int 0))) (aCons (eF (eP fTup (aCons (eC (.str "name")) (aCons (eC (.str "less")) (aCons (eC (.str "same")) (aCons (eC (.str "more")) aNil)))))) aNil)))))) (sRet (eT (eC (.bl false)))) sNil)
  (sSeq (sIf (qB (eF (eP fEq (aCons (eSub 0 (eC (.int 0))) (aCons (eC (.str "name")) aNil))))) (sRet (eCall f_law_is_name (uVal (eSub 0 (eC (.int 1))) uNil))) sNil)
  (sRet (eT (eQ (qOr (qB (eF (eCall f_law_whole_to (uVal (eSub 0 (eC (.int 1))) (uVal (eC (.int 9)) uNil))))) (qB (eQ (qAnd (qB (eIs ["str"] (eSub 0 (eC (.int 1))))) (qB (eF (eP fIn (aCons (eSub 0 (eC (.int 1))) (aCons (eF (eVar 1)) aNil))))))))))))))))

def lTestF : FM := runB 2 (g__law_is_test nameF wholeToF)
theorem lTest_run : ∀ us r, lTestF us = some r → runB 2 (g__law_is_test nameF wholeToF) us = some r := fun _ _ h => h
def NLSM : List Str := ["name", "less", "same", "more"]
theorem fNotIn_tup (x : D) (zs : List Str) : fNotIn [x, .tup (zs.map D.str)] = some (.t (.bl (!inD x (zs.map D.str)))) := by
  have : depDs (zs.map D.str) ≤ 40 := by rw [L2.dep_strs]; omega
  cases x <;> simp [fNotIn, this]
theorem lTest_ok {d : D} (h : Sm d) (bs : List Str) : lTestF [.t d, .t (.lst (bs.map D.str))] = some (.t (.bl (testB bs d)), []) := by
  cases d with
  | tup ds =>
    cases ds with
    | nil => simp [lTestF, runB, g__law_is_test, outsOf, isTys, isTy, isTupD, testB]
    | cons a r =>
      cases qa : isStrD a with
      | false =>
        have e : testB bs (.tup (a :: r)) = false := by
          have n1 : eqD a (.str "any") = false := by cases a <;> simp [eqD] <;> cases qa
          have n2 : eqD a (.str "name") = false := by cases a <;> simp [eqD] <;> cases qa
          have n3 := in_nonstr qa TST3
          match r with
          | [] => exact n1
          | [b] => simp [testB, n2, n3]
          | _ :: _ :: _ => rfl
        rw [e]
        simp [lTestF, runB, g__law_is_test, outsOf, isTys, isTy, isTupD, tup_at, qa]
      | true =>
        obtain ⟨s, rfl⟩ : ∃ s, a = .str s := by
          cases a with
          | str s => exact ⟨s, rfl⟩
          | _ => cases qa
        have i1 := fNotIn_tup (.str s) NLSM
        have tl : NLSM.map D.str = [.str "name", .str "less", .str "same", .str "more"] := rfl
        rw [tl] at i1
        have dz : depD (.str s) = 0 := rfl
        by_cases n1 : s = "any"
        · have e : testB bs (.tup (.str s :: r)) = r.isEmpty := by
            subst n1
            match r with
            | [] => rfl
            | [b] => rfl
            | _ :: _ :: _ => rfl
          rw [e]
          cases r with
          | nil => simp [lTestF, runB, g__law_is_test, outsOf, isTys, isTy, isTupD, tup_at, isStr_str, eq_true n1]
          | cons b r =>
            have : ¬ ((r.length : Int) + 1 + 1 = 1) := by omega
            have z0 : ¬ ((r.length : Int) + 1 + 1 = 0) := by omega
            simp [lTestF, runB, g__law_is_test, outsOf, isTys, isTy, isTupD, tup_at, isStr_str, eq_true n1, this, z0]
        · match r, h with
          | [], h =>
            have e : testB bs (.tup [.str s]) = false := by simp [testB, n1]
            rw [e]
            simp [lTestF, runB, g__law_is_test, outsOf, isTys, isTy, isTupD, tup_at, isStr_str, n1]
          | [b], h =>
            have hb := h.mem (x := b) (by simp)
            have nb := nameF_eq hb
            have w := wholeToF_eq b 9
            have i2 := fIn_lst b bs
            by_cases n2 : s = "name"
            · have q1 : inD (.str s) [.str "name", .str "less", .str "same", .str "more"] = true := by subst n2; decide
              rw [q1] at i1
              simp [lTestF, runB, g__law_is_test, outsOf, isTys, isTy, isTupD, tup_at, tup_at1, isStr_str, n1, i1, eq_true n2, nb, testB]
            · have q0 : inD (.str s) [.str "name", .str "less", .str "same", .str "more"] = inD (.str s) (TST3.map D.str) := by
                have n2' : ¬ (Str.ofString "name" = s) := fun z => n2 z.symm
                unfold inD TST3
                simp only [List.map_cons, List.map_nil, List.any_cons, List.any_nil, m_eqD_s, beq_eq_false_iff_ne.mpr n2', Bool.false_or]
              rw [q0] at i1
              have e : testB bs (.tup [.str s, b]) = (inD (.str s) (TST3.map D.str) && (wholeD b 0 9 || inD b (bs.map D.str))) := by simp [testB, n2]
              rw [e]
              cases q1 : inD (.str s) (TST3.map D.str) with
              | false =>
                rw [q1] at i1
                simp [lTestF, runB, g__law_is_test, outsOf, isTys, isTy, isTupD, tup_at, tup_at1, isStr_str, n1, i1]
              | true =>
                rw [q1] at i1
                cases q3 : wholeD b 0 9 with
                | true => rw [q3] at w; simp [lTestF, runB, g__law_is_test, outsOf, isTys, isTy, isTupD, tup_at, tup_at1, isStr_str, n1, i1, n2, w]
                | false =>
                  rw [q3] at w
                  cases q4 : isStrD b with
                  | true => simp [lTestF, runB, g__law_is_test, outsOf, isTys, isTy, isTupD, tup_at, tup_at1, isStr_str, n1, i1, n2, w, q4, i2]
                  | false =>
                    have := in_nonstr q4 bs
                    simp [lTestF, runB, g__law_is_test, outsOf, isTys, isTy, isTupD, tup_at, tup_at1, isStr_str, n1, i1, n2, w, q4, this]
          | b :: c :: r, h =>
            have : ¬ ((r.length : Int) + 1 + 1 + 1 = 2) := by omega
            have z0 : ¬ ((r.length : Int) + 1 + 1 + 1 = 0) := by omega
            have e : testB bs (.tup (.str s :: b :: c :: r)) = false := rfl
            rw [e]
            simp [lTestF, runB, g__law_is_test, outsOf, isTys, isTy, isTupD, tup_at, isStr_str, n1, this, z0]
  | _ => simp [lTestF, runB, g__law_is_test, outsOf, isTys, isTy, isTupD, testB]
end Ss

end
section
set_option Elab.async false
set_option linter.all false
set_option maxRecDepth 100000
namespace Ss
open PySem PySem.Spec PyProof.Rows L2 Sw
abbrev CC := Int × Int
def goJ (f : D → CC → Bool × CC) : List D → CC → Bool × CC
  | [], c => (true, c)
  | p :: ps, c => ((f p c).1 && (goJ f ps (f p c).2).1, (goJ f ps (f p c).2).2)
def stepJ (rec_ : List Str → D → CC → Bool × CC) (last : Bool) (bs : List Str) (z : Str) (r : List D) (c : CC) : Bool × CC :=
  if (¬ longI z = (r.length : Int) + 1) ∨ last = true ∨ 16 < c.1 + 1 then (false, (c.1 + 1, c.2))
  else if z = "now" then (testB bs (r.getD 0 .non), (c.1 + 1, c.2))
  else if z = "within" ∧ wholeD (r.getD 0 .non) 0 5 = false then (false, (c.1 + 1, c.2))
  else if isBnd z = true then
    (if 3 < c.2 + 1 ∨ nameB (r.getD 0 .non) = false ∨ nameB (r.getD 1 .non) = false then (false, (c.1 + 1, c.2 + 1))
    else goJ (rec_ (bs ++ [strOf (r.getD 1 .non)])) (partsL z r) (c.1 + 1, c.2 + 1))
  else goJ (rec_ bs) (partsL z r) (c.1 + 1, c.2)
def lawJ : Nat → List Str → D → CC → Bool × CC
  | 0, bs, .tup (.str z :: r), c => stepJ (fun _ _ c => (false, c)) true bs z r c
  | n + 1, bs, .tup (.str z :: r), c => stepJ (lawJ n) false bs z r c
  | _, _, _, c => (false, c)
def g__law_is_saying (f_law_shape : FM) (f_law_is_test : FM) (f_law_whole_to : FM) (f_law_is_name : FM) (f_law_is_saying : FM) : GS :=
  (sSeq (sIf (qOr (qNot (qB (eIs ["tuple"] (eF (eVar 0))))) (qOr (qB (eF (eP fEq (aCons (eLen 0) (aCons (eC (.int 0)) aNil))))) (qNot (qB (eIs ["str"] (eSub 0 (eC (.int 0)))))))) (sRet (eT (eC (.bl false)))) sNil)
  (sSeq (sPut 3 (eC (.int 0)) (eF (eP fAdd (aCons (eSub 3 (eC (.int 0))) (aCons (eC (.int 1)) aNil)))))
  (sSeq (sAsg (bTup 2 (bCons (bName 4) (bCons (bName 5) bNil))) (eF (eCall f_law_shape (uVal (eSub 0 (eC (.int 0))) uNil))))
  (sSeq (sIf (qOr (qB (eF (eP fNe (aCons (eLen 0) (aCons (eF (eVar 4)) aNil))))) (qOr (qB (eF (eP fGt (aCons (eF (eVar 2)) (aCons (eC (.int 8)) aNil))))) (qB (eF (eP fGt (aCons (eSub 3 (eC (.int 0))) (aCons (eC (.int 16)) aNil))))))) (sRet (eT (eC (.bl false)))) sNil)
  (sSeq (sIf (qB (eF (eP fEq (aCons (eSub 0 (eC (.int 0))) (aCons (eC (.str "now")) aNil))))) (sRet (eCall f_law_is_test (uVal (eSub 0 (eC (.int 1))) (uVal (eF (eVar 1)) uNil)))) sNil)
  (sSeq (sIf (qAnd (qB (eF (eP fEq (aCons (eSub 0 (eC (.int 0))) (aCons (eC (.str "within")) aNil))))) (qNot (qB (eF (eCall f_law_whole_to (uVal (eSub 0 (eC (.int 1))) (uVal (eC (.int 5)) uNil))))))) (sRet (eT (eC (.bl false)))) sNil)
  (sSeq (sIf (qB (eF (eP fIn (aCons (eSub 0 (eC (.int 0))) (aCons (eF (eP fTup (aCons (eC (.str "each")) (aCons (eC (.str "one")) aNil)))) aNil))))) (sSeq (sPut 3 (eC (.int 1)) (eF (eP fAdd (aCons (eSub 3 (eC (.int 1))) (aCons (eC (.int 1)) aNil)))))
  (sSeq (sIf (qOr (qB (eF (eP fGt (aCons (eSub 3 (eC (.int 1))) (aCons (eC (.int 3)) aNil))))) (qOr (qNot (qB (eF (eCall f_law_is_name (uVal (eSub 0 (eC (.int 1))) uNil))))) (qNot (qB (eF (eCall f_law_is_name (uVal (eSub 0 (eC (.int 2))) uNil))))))) (sRet (eT (eC (.bl false)))) sNil)
  (sSet 1 (eP fAdd (aCons (eF (eVar 1)) (aCons (eF (eP fLst (aCons (eSub 0 (eC (.int 2))) aNil))) aNil)))))) sNil)
  (sRet (eP fEq (aCons (eF (eFrz 1 (eComp [3, 2, 0, 1] (iAny (eF (eVar 5))) (qNot (qB (eF (eCall f_law_is_saying (uVal (eSub 3 (eF (eVar 0))) (uVal (eF (eVar 4)) (uVal (eF (eP fAdd (aCons (eF (eVar 2)) (aCons (eC (.int 1)) aNil)))) (uMut (eVar 1) uNil)))))))) (eF (eVar 0))))) (aCons (eF (eP fLst aNil)) aNil)))))))))))

@[simp] theorem m_eFrz (i : Nat) (g : GE) (S : SS) : eFrz i g S = g (frzAt i S) := rfl
section
variable {f1 f2 f3 f4 f5 : FM} {z : Str} {r : List D} {vs dp : D} {c0 c1 : Int}
abbrev cn (a b : Int) : MO := .lst [.int a, .int b]
theorem cn_at (a b : D) : atI [a, b] 0 = some a ∧ atI [a, b] 1 = some b := ⟨rfl, rfl⟩
theorem ix2 : ixN 2 0 = some 0 ∧ ixN 2 1 = some 1 := ⟨rfl, rfl⟩
theorem ls_no {d : D} (h : ∀ z r, d ≠ .tup (.str z :: r)) : runB 6 (g__law_is_saying f1 f2 f3 f4 f5) [.t d, .t vs, .t dp, .b (cn c0 c1)] = some (.t (.bl false), [cn c0 c1]) := by
  cases d with
  | tup ds =>
    cases ds with
    | nil => simp [runB, g__law_is_saying, outsOf, isTys, isTy, isTupD]
    | cons a r =>
      have e2 : isStrD a = false := by
        cases a with
        | str z => exact absurd rfl (h z r)
        | _ => rfl
      have z0 : ¬ ((r.length : Int) + 1 = 0) := by omega
      simp [runB, g__law_is_saying, outsOf, isTys, isTy, isTupD, tup_at, e2, z0]
  | _ => simp [runB, g__law_is_saying, outsOf, isTys, isTy, isTupD]
theorem ls_1 {lg deep : Int} {pls : List D} (e1 : f1 [.t (.str z)] = some (.t (.tup [.int lg, .lst pls]), [])) (h : ¬ ((r.length : Int) + 1 = lg) ∨ 8 < deep ∨ 16 < c0 + 1) : runB 6 (g__law_is_saying f1 f2 f3 f4 f5) [.t (.tup (.str z :: r)), .t vs, .t (.int deep), .b (cn c0 c1)] = some (.t (.bl false), [cn (c0 + 1) c1]) := by
  have z0 : ¬ ((r.length : Int) + 1 = 0) := by omega
  by_cases a : (r.length : Int) + 1 = lg
  · subst a
    by_cases b : 8 < deep
    · simp [runB, g__law_is_saying, outsOf, isTys, isTy, isTupD, tup_at, isStr_str, z0, cn_at, ix2, e1, b]
    · have c : 16 < c0 + 1 := by rcases h with h | h | h; exact absurd rfl h; exact absurd h b; exact h
      simp [runB, g__law_is_saying, outsOf, isTys, isTy, isTupD, tup_at, isStr_str, z0, cn_at, ix2, e1, b, c]
  · simp [runB, g__law_is_saying, outsOf, isTys, isTy, isTupD, tup_at, isStr_str, z0, cn_at, ix2, e1, a]
theorem ls_now {deep : Int} {pls : List D} {a : D} {b : Bool} (e1 : f1 [.t (.str z)] = some (.t (.tup [.int ((r.length : Int) + 1 + 1), .lst pls]), [])) (h1 : ¬ 8 < deep) (h2 : ¬ 16 < c0 + 1) (hz : z = "now") (e2 : f2 [.t a, .t vs] = some (.t (.bl b), [])) : runB 6 (g__law_is_saying f1 f2 f3 f4 f5) [.t (.tup (.str z :: a :: r)), .t vs, .t (.int deep), .b (cn c0 c1)] = some (.t (.bl b), [cn (c0 + 1) c1]) := by
  have z0 : ¬ ((r.length : Int) + 1 + 1 = 0) := by omega
  simp [runB, g__law_is_saying, outsOf, isTys, isTy, isTupD, tup_at, tup_at1, isStr_str, z0, cn_at, ix2, e1, h1, h2, eq_true hz, e2]
theorem ls_within {deep : Int} {pls : List D} {a : D} (e1 : f1 [.t (.str z)] = some (.t (.tup [.int ((r.length : Int) + 1 + 1), .lst pls]), [])) (h1 : ¬ 8 < deep) (h2 : ¬ 16 < c0 + 1) (hz1 : ¬ z = "now") (hz : z = "within") (e2 : f3 [.t a, .t (.int 5)] = some (.t (.bl false), [])) : runB 6 (g__law_is_saying f1 f2 f3 f4 f5) [.t (.tup (.str z :: a :: r)), .t vs, .t (.int deep), .b (cn c0 c1)] = some (.t (.bl false), [cn (c0 + 1) c1]) := by
  have z0 : ¬ ((r.length : Int) + 1 + 1 = 0) := by omega
  simp [runB, g__law_is_saying, outsOf, isTys, isTy, isTupD, tup_at, tup_at1, isStr_str, z0, cn_at, ix2, e1, h1, h2, hz1, eq_true hz, e2]
abbrev QJ (f5 : FM) : GT := qNot (qB (eF (eCall f5 (uVal (eSub 3 (eF (eVar 0))) (uVal (eF (eVar 4)) (uVal (eF (eP fAdd (aCons (eF (eVar 2)) (aCons (eC (.int 1)) aNil)))) (uMut (eVar 1) uNil)))))))
theorem fIn_bnd (z : Str) : fIn [.str z, .tup [.str "each", .str "one"]] = some (.t (.bl (isBnd z))) := fIn_tup (.str z) BND
theorem ls_bad {deep : Int} {pls : List D} {a b : D} {na nb : Bool} (e1 : f1 [.t (.str z)] = some (.t (.tup [.int ((r.length : Int) + 1 + 1 + 1), .lst pls]), [])) (h1 : ¬ 8 < deep) (h2 : ¬ 16 < c0 + 1) (hz1 : ¬ z = "now") (hz2 : ¬ z = "within") (hz : isBnd z = true)
    (e2 : f4 [.t a] = some (.t (.bl na), [])) (e3 : f4 [.t b] = some (.t (.bl nb), [])) (hb : 3 < c1 + 1 ∨ na = false ∨ nb = false) : runB 6 (g__law_is_saying f1 f2 f3 f4 f5) [.t (.tup (.str z :: a :: b :: r)), .t vs, .t (.int deep), .b (cn c0 c1)] = some (.t (.bl false), [cn (c0 + 1) (c1 + 1)]) := by
  have z0 : ¬ ((r.length : Int) + 1 + 1 + 1 = 0) := by omega
  have fb := fIn_bnd z
  rw [hz] at fb
  by_cases k1 : 3 < c1 + 1
  · simp [runB, g__law_is_saying, outsOf, isTys, isTy, isTupD, tup_at, tup_at1, tup_at2, isStr_str, z0, cn_at, ix2, e1, h1, h2, hz1, hz2, fb, e2, e3, k1]
  · cases na with
    | false => simp [runB, g__law_is_saying, outsOf, isTys, isTy, isTupD, tup_at, tup_at1, tup_at2, isStr_str, z0, cn_at, ix2, e1, h1, h2, hz1, hz2, fb, e2, e3, k1]
    | true => cases nb with
      | false => simp [runB, g__law_is_saying, outsOf, isTys, isTy, isTupD, tup_at, tup_at1, tup_at2, isStr_str, z0, cn_at, ix2, e1, h1, h2, hz1, hz2, fb, e2, e3, k1]
      | true => rcases hb with q | q | q; exact absurd q k1; cases q; cases q
theorem ls_bnd {deep a0 a1 : Int} {pls vl fl : List D} {a b : D} (e1 : f1 [.t (.str z)] = some (.t (.tup [.int ((r.length : Int) + 1 + 1 + 1), .lst pls]), [])) (h1 : ¬ 8 < deep) (h2 : ¬ 16 < c0 + 1) (hz1 : ¬ z = "now") (hz2 : ¬ z = "within") (hz : isBnd z = true)
    (e2 : f4 [.t a] = some (.t (.bl true), [])) (e3 : f4 [.t b] = some (.t (.bl true), [])) (hb : ¬ 3 < c1 + 1) (hv : vl.length + 1 ≤ 100000) (hp : pls.length ≤ 100000)
    (hc : compL [3, 2, 0, 1] (QJ f5) (eF (eVar 0)) pls [some (.t (.tup (.str z :: a :: b :: r))), some (.t (.lst (vl ++ [b]))), some (.t (.int deep)), some (.b (cn (c0 + 1) (c1 + 1))), some (.t (.int ((r.length : Int) + 1 + 1 + 1))), some (.t (.lst pls))] [] = some (fl, [some (.t (.tup (.str z :: a :: b :: r))), some (.t (.lst (vl ++ [b]))), some (.t (.int deep)), some (.b (cn a0 a1)), some (.t (.int ((r.length : Int) + 1 + 1 + 1))), some (.t (.lst pls))]))
    (hd : depD (.lst fl) ≤ 40) : runB 6 (g__law_is_saying f1 f2 f3 f4 f5) [.t (.tup (.str z :: a :: b :: r)), .t (.lst vl), .t (.int deep), .b (cn c0 c1)] = some (.t (.bl (eqD (.lst fl) (.lst []))), [cn a0 a1]) := by
  have z0 : ¬ ((r.length : Int) + 1 + 1 + 1 = 0) := by omega
  have fb := fIn_bnd z
  rw [hz] at fb
  simp only [QJ, cn] at hc
  simp [runB, g__law_is_saying, outsOf, isTys, isTy, isTupD, tup_at, tup_at1, tup_at2, isStr_str, z0, cn_at, ix2, e1, h1, h2, hz1, hz2, fb, e2, e3, hb, hv, hp, m_iAny, frzAt, hc, hd]
theorem ls_go {deep a0 a1 : Int} {pls vl fl : List D} (e1 : f1 [.t (.str z)] = some (.t (.tup [.int ((r.length : Int) + 1), .lst pls]), [])) (h1 : ¬ 8 < deep) (h2 : ¬ 16 < c0 + 1) (hz1 : ¬ z = "now") (hz2 : ¬ z = "within" ∨ ∃ a q, r = a :: q ∧ f3 [.t a, .t (.int 5)] = some (.t (.bl true), [])) (hz : isBnd z = false) (hp : pls.length ≤ 100000)
    (hc : compL [3, 2, 0, 1] (QJ f5) (eF (eVar 0)) pls [some (.t (.tup (.str z :: r))), some (.t (.lst vl)), some (.t (.int deep)), some (.b (cn (c0 + 1) c1)), some (.t (.int ((r.length : Int) + 1))), some (.t (.lst pls))] [] = some (fl, [some (.t (.tup (.str z :: r))), some (.t (.lst vl)), some (.t (.int deep)), some (.b (cn a0 a1)), some (.t (.int ((r.length : Int) + 1))), some (.t (.lst pls))]))
    (hd : depD (.lst fl) ≤ 40) : runB 6 (g__law_is_saying f1 f2 f3 f4 f5) [.t (.tup (.str z :: r)), .t (.lst vl), .t (.int deep), .b (cn c0 c1)] = some (.t (.bl (eqD (.lst fl) (.lst []))), [cn a0 a1]) := by
  have z0 : ¬ ((r.length : Int) + 1 = 0) := by omega
  have fb := fIn_bnd z
  rw [hz] at fb
  simp only [QJ, cn] at hc
  by_cases k : z = "within"
  · rcases hz2 with q | ⟨a, q, rfl, e2⟩
    · exact absurd k q
    · simp only [List.length_cons] at *
      have z0 : ¬ ((q.length : Int) + 1 + 1 = 0) := by omega
      simp at hc e1
      simp [runB, g__law_is_saying, outsOf, isTys, isTy, isTupD, tup_at, tup_at1, isStr_str, z0, cn_at, ix2, e1, h1, h2, hz1, eq_true k, e2, fb, hp, m_iAny, frzAt, hc, hd]
  · simp [runB, g__law_is_saying, outsOf, isTys, isTy, isTupD, tup_at, isStr_str, z0, cn_at, ix2, e1, h1, h2, hz1, k, fb, hp, m_iAny, frzAt, hc, hd]
end
end Ss

end
section
set_option Elab.async false
set_option linter.all false
set_option maxRecDepth 100000
namespace Ss
open PySem PySem.Spec PyProof.Rows L2 Sw
theorem comp_go {f5 : FM} {vs : D} {tl : List D} {deep : Int} {x4 x5 : Option U} {F : D → CC → Bool × CC} : ∀ (ks : List Int) (ps acc : List D) (c : CC), ks.map (atI tl) = ps.map some →
    (∀ p ∈ ps, ∀ c : CC, f5 [.t p, .t vs, .t (.int (deep + 1)), .b (cn c.1 c.2)] = some (.t (.bl (F p c).1), [cn (F p c).2.1 (F p c).2.2])) →
    ∃ is : List Int, compL [3, 2, 0, 1] (QJ f5) (eF (eVar 0)) (ks.map D.int) [some (.t (.tup tl)), some (.t vs), some (.t (.int deep)), some (.b (cn c.1 c.2)), x4, x5] acc = some (acc ++ is.map D.int, [some (.t (.tup tl)), some (.t vs), some (.t (.int deep)), some (.b (cn (goJ F ps c).2.1 (goJ F ps c).2.2)), x4, x5]) ∧ is.isEmpty = (goJ F ps c).1
  | [], [], acc, c, _, _ => ⟨[], by simp [compL, goJ], rfl⟩
  | [], _ :: _, _, _, h, _ => by cases h
  | _ :: _, [], _, _, h, _ => by cases h
  | k :: ks, p :: ps, acc, c, h, hf => by
    rw [List.map_cons, List.map_cons] at h
    injection h with h1 h2
    have e1 := hf p List.mem_cons_self c
    rw [List.map_cons, Sq.compL_cons]
    obtain ⟨c0, c1⟩ := c
    simp only at e1
    cases q : (F p (c0, c1)).1 with
    | true =>
      rw [q] at e1
      obtain ⟨is, g1, g2⟩ := comp_go (f5 := f5) (vs := vs) (deep := deep) (x4 := x4) (x5 := x5) (F := F) ks ps acc (F p (c0, c1)).2 h2 fun x hx => hf x (List.mem_cons_of_mem _ hx)
      refine ⟨is, ?_, ?_⟩
      · have st : compL [3, 2, 0, 1] (QJ f5) (eF (eVar 0)) [.int k] [some (.t (.tup tl)), some (.t vs), some (.t (.int deep)), some (.b (cn c0 c1)), x4, x5] acc = some (acc, [some (.t (.tup tl)), some (.t vs), some (.t (.int deep)), some (.b (cn (F p (c0, c1)).2.1 (F p (c0, c1)).2.2)), x4, x5]) := by
          simp only [cn] at e1 ⊢
          simp [compL, capArgs, capArg, h1, e1, outsOf]
        rw [st, Option.bind_some]
        exact g1
      · rw [g2]
        show (goJ F ps (F p (c0, c1)).2).1 = ((F p (c0, c1)).1 && (goJ F ps (F p (c0, c1)).2).1)
        rw [q, Bool.true_and]
    | false =>
      rw [q] at e1
      obtain ⟨is, g1, g2⟩ := comp_go (f5 := f5) (vs := vs) (deep := deep) (x4 := x4) (x5 := x5) (F := F) ks ps (acc ++ [.int k]) (F p (c0, c1)).2 h2 fun x hx => hf x (List.mem_cons_of_mem _ hx)
      refine ⟨k :: is, ?_, ?_⟩
      · have st : compL [3, 2, 0, 1] (QJ f5) (eF (eVar 0)) [.int k] [some (.t (.tup tl)), some (.t vs), some (.t (.int deep)), some (.b (cn c0 c1)), x4, x5] acc = some (acc ++ [.int k], [some (.t (.tup tl)), some (.t vs), some (.t (.int deep)), some (.b (cn (F p (c0, c1)).2.1 (F p (c0, c1)).2.2)), x4, x5]) := by
          simp only [cn] at e1 ⊢
          simp [compL, capArgs, capArg, h1, e1, outsOf]
        rw [st, Option.bind_some]
        simp only
        rw [g1]
        show _ = some (acc ++ (.int k :: is.map D.int), _)
        rw [List.append_assoc]
        rfl
      · show false = ((F p (c0, c1)).1 && _)
        rw [q]
        rfl
theorem plc_parts {z : Str} {r : List D} (hh : HeadOk z) (c : longI z = (r.length : Int) + 1) : (plc z).map (atI (.str z :: r)) = (partsL z r).map some := by
  have s1 := hh.s1
  have s4 := hh.s4
  unfold plc partsL
  rw [List.map_map]
  apply List.ext_getElem?
  intro i
  rw [List.getElem?_map, List.getElem?_map, List.getElem?_drop]
  by_cases hi : i < (longI z - startN z).toNat
  · rw [List.getElem?_range hi]
    have hlt : startN z + i < (D.str z :: r).length := by rw [List.length_cons]; omega
    rw [List.getElem?_eq_getElem hlt]
    show some (atI (.str z :: r) ((startN z : Int) + i)) = some (some _)
    rw [Sq.atI_nn (x := (D.str z :: r)[startN z + i]) (by omega) (by rw [show ((startN z : Int) + (i : Int)).toNat = startN z + i by omega]; exact List.getElem?_eq_getElem hlt)]
  · rw [List.getElem?_eq_none (by rw [List.length_range]; omega), List.getElem?_eq_none (by rw [List.length_cons]; omega)]
    rfl
def lawSF : Nat → FM
  | 0 => fun _ => none
  | j + 1 => runB 6 (g__law_is_saying shapeF lTestF wholeToF nameF (lawSF j))
theorem lawS_run (j : Nat) : ∀ us r, lawSF (j + 1) us = some r → runB 6 (g__law_is_saying shapeF lTestF wholeToF nameF (lawSF j)) us = some r := fun _ _ h => h
theorem ints_dep (is : List Int) : depD (.lst (is.map D.int)) ≤ 40 := by
  have : depDs (is.map D.int) ≤ 0 := depDs_le fun d hd => by obtain ⟨i, _, rfl⟩ := List.mem_map.mp hd; exact Nat.le_refl _
  show depDs (is.map D.int) + 1 ≤ 40
  omega
theorem ints_nil (is : List Int) : eqD (.lst (is.map D.int)) (.lst []) = is.isEmpty := by cases is <;> rfl
theorem lawJ_no (n : Nat) (bs : List Str) {d : D} (c : CC) (h : ∀ z r, d ≠ .tup (.str z :: r)) : lawJ n bs d c = (false, c) := by
  cases d with
  | tup ds =>
    cases ds with
    | nil => cases n <;> rfl
    | cons a r =>
      cases a with
      | str z => exact absurd rfl (h z r)
      | _ => cases n <;> rfl
  | _ => cases n <;> rfl
theorem now_len : longI "now" = 2 ∧ longI "within" = 3 := by decide
theorem lawS_ok : ∀ (n j : Nat), n ≤ j → ∀ (d : D) (bs : List Str) (c : CC), Sm d → bs.length + n ≤ 100 → lawSF (j + 1) [.t d, .t (.lst (bs.map D.str)), .t (.int (9 - (n : Int))), .b (cn c.1 c.2)] = some (.t (.bl (lawJ n bs d c).1), [cn (lawJ n bs d c).2.1 (lawJ n bs d c).2.2]) := by
  intro n
  induction n with
  | zero =>
    intro j hj d bs c hd hb
    by_cases hz : ∃ z r, d = .tup (.str z :: r)
    · obtain ⟨z, r, rfl⟩ := hz
      have e : lawJ 0 bs (.tup (.str z :: r)) c = (false, (c.1 + 1, c.2)) := by
        show stepJ _ true bs z r c = _
        unfold stepJ
        rw [if_pos (.inr (.inl rfl))]
      rw [e]
      exact ls_1 (shape_ok2 z) (.inr (.inl (by omega)))
    · rw [lawJ_no 0 bs c fun z r e => hz ⟨z, r, e⟩]
      exact ls_no fun z r e => hz ⟨z, r, e⟩
  | succ n ih =>
    intro j hj d bs c hd hb
    obtain ⟨c0, c1⟩ := c
    by_cases hz : ∃ z r, d = .tup (.str z :: r)
    · obtain ⟨z, r, rfl⟩ := hz
      have e1 := shape_ok2 z
      obtain ⟨j, rfl⟩ : ∃ i, j = i + 1 := ⟨j - 1, by omega⟩
      have eJ : lawJ (n + 1) bs (.tup (.str z :: r)) (c0, c1) = stepJ (lawJ n) false bs z r (c0, c1) := rfl
      rw [eJ]
      unfold stepJ
      by_cases A : (¬ longI z = (r.length : Int) + 1) ∨ (false = true) ∨ 16 < (c0, c1).1 + 1
      · rw [if_pos A]
        refine ls_1 e1 ?_
        rcases A with q | q | q
        · exact .inl fun z => q z.symm
        · cases q
        · exact .inr (.inr q)
      · rw [if_neg A]
        have cl : longI z = (r.length : Int) + 1 := Classical.byContradiction fun q => A (.inl q)
        have c16 : ¬ 16 < c0 + 1 := fun q => A (.inr (.inr q))
        have hh := head_ok z (heads_cases (by omega))
        have d8 : ¬ (8 : Int) < 9 - ((n + 1 : Nat) : Int) := by omega
        have en : 9 - ((n + 1 : Nat) : Int) + 1 = 9 - (n : Int) := by omega
        rw [cl] at e1
        have pl := plc_parts hh cl
        have pll : (plc z).length ≤ 100000 := by
          have := congrArg List.length pl
          rw [List.length_map, List.length_map] at this
          have := parts_len hh cl
          omega
        have pll2 : ((plc z).map D.int).length ≤ 100000 := by rw [List.length_map]; exact pll
        have psm : ∀ p ∈ partsL z r, Sm p := fun p hp => hd.mem (List.mem_cons_of_mem _ (parts_mem hh hp))
        by_cases n1 : z = "now"
        · rw [if_pos n1]
          have : longI z = 2 := by rw [n1]; exact now_len.1
          match r, hd, cl, e1 with
          | [], hd, cl, e1 => simp at cl; omega
          | a :: r2, hd, cl, e1 =>
            simp only [List.length_cons] at e1
            exact ls_now (by simpa using e1) d8 c16 n1 (lTest_ok (hd.mem (x := a) (by simp)) bs)
        · rw [if_neg n1]
          by_cases n2 : z = "within" ∧ wholeD (r.getD 0 .non) 0 5 = false
          · rw [if_pos n2]
            have : longI z = 3 := by rw [n2.1]; exact now_len.2
            match r, hd, cl, e1, n2 with
            | [], hd, cl, e1, n2 => simp at cl; omega
            | a :: r2, hd, cl, e1, n2 =>
              simp only [List.length_cons] at e1
              exact ls_within (by simpa using e1) d8 c16 n1 n2.1 (by rw [wholeToF_eq]; rw [show wholeD a 0 5 = false from n2.2])
          · rw [if_neg n2]
            cases hb2 : isBnd z with
            | true =>
              rw [if_pos rfl]
              have n3 : ¬ z = "within" := by rcases bnd_cases hb2 with rfl | rfl <;> decide
              have l4 : longI z = 4 := by rcases bnd_cases hb2 with rfl | rfl <;> decide
              match r, hd, cl, e1, pl, psm with
              | [], hd, cl, e1, _, _ => simp at cl; omega
              | [a], hd, cl, e1, _, _ => simp at cl; omega
              | a :: b :: r2, hd, cl, e1, pl, psm =>
                have na := nameF_eq (hd.mem (x := a) (by simp))
                have nb := nameF_eq (hd.mem (x := b) (by simp))
                simp only [List.length_cons] at e1
                have e1 : shapeF [.t (.str z)] = some (.t (.tup [.int ((r2.length : Int) + 1 + 1 + 1), .lst ((plc z).map D.int)]), []) := by simpa using e1
                by_cases B : 3 < (c0, c1).2 + 1 ∨ nameB ((a :: b :: r2).getD 0 .non) = false ∨ nameB ((a :: b :: r2).getD 1 .non) = false
                · rw [if_pos B]
                  exact ls_bad e1 d8 c16 n1 n3 hb2 na nb B
                · rw [if_neg B]
                  have b3 : ¬ 3 < c1 + 1 := fun q => B (.inl q)
                  have ba : nameB a = true := by
                    cases q : nameB a with
                    | true => rfl
                    | false => exact absurd (.inr (.inl q)) B
                  have bb : nameB b = true := by
                    cases q : nameB b with
                    | true => rfl
                    | false => exact absurd (.inr (.inr q)) B
                  obtain ⟨y, rfl⟩ := name_str bb
                  rw [ba] at na
                  rw [bb] at nb
                  obtain ⟨is, g1, g2⟩ := comp_go (f5 := lawSF (j + 1)) (vs := .lst ((bs ++ [y]).map D.str)) (tl := .str z :: a :: .str y :: r2) (deep := 9 - ((n + 1 : Nat) : Int)) (x4 := some (.t (.int ((r2.length : Int) + 1 + 1 + 1)))) (x5 := some (.t (.lst ((plc z).map D.int)))) (F := lawJ n (bs ++ [y])) (plc z) (partsL z (a :: .str y :: r2)) [] (c0 + 1, c1 + 1) pl (fun p hp c => by
                    rw [en]
                    exact ih j (by omega) p (bs ++ [y]) c (psm p hp) (by rw [List.length_append, List.length_singleton]; omega))
                  rw [List.nil_append] at g1
                  have vl : (bs ++ [y]).map D.str = bs.map D.str ++ [.str y] := by rw [List.map_append]; rfl
                  rw [vl] at g1
                  have := ls_bnd (f2 := lTestF) (f3 := wholeToF) (c0 := c0) (c1 := c1) (fl := is.map D.int) e1 d8 c16 n1 n3 hb2 na nb b3 (by rw [List.length_map]; omega) pll2 g1 (ints_dep is)
                  rw [ints_nil, g2] at this
                  exact this
            | false =>
              rw [if_neg (by simp)]
              obtain ⟨is, g1, g2⟩ := comp_go (f5 := lawSF (j + 1)) (vs := .lst (bs.map D.str)) (tl := .str z :: r) (deep := 9 - ((n + 1 : Nat) : Int)) (x4 := some (.t (.int ((r.length : Int) + 1)))) (x5 := some (.t (.lst ((plc z).map D.int)))) (F := lawJ n bs) (plc z) (partsL z r) [] (c0 + 1, c1) pl (fun p hp c => by
                rw [en]
                exact ih j (by omega) p bs c (psm p hp) (by omega))
              rw [List.nil_append] at g1
              have wz : ¬ z = "within" ∨ ∃ a q, r = a :: q ∧ wholeToF [.t a, .t (.int 5)] = some (.t (.bl true), []) := by
                by_cases n3 : z = "within"
                · right
                  have : longI z = 3 := by rw [n3]; exact now_len.2
                  match r, cl, n2 with
                  | [], cl, n2 => simp at cl; omega
                  | a :: r2, cl, n2 =>
                    refine ⟨a, r2, rfl, ?_⟩
                    rw [wholeToF_eq]
                    cases q : wholeD a 0 5 with
                    | true => rfl
                    | false => exact absurd ⟨n3, q⟩ n2
                · exact .inl n3
              have := ls_go (f2 := lTestF) (f4 := nameF) (c0 := c0) (c1 := c1) (fl := is.map D.int) e1 d8 c16 n1 wz hb2 pll2 g1 (ints_dep is)
              rw [ints_nil, g2] at this
              exact this
    · rw [lawJ_no (n + 1) bs (c0, c1) fun z r e => hz ⟨z, r, e⟩]
      exact ls_no fun z r e => hz ⟨z, r, e⟩
end Ss

end
section
set_option Elab.async false
set_option linter.all false
set_option maxRecDepth 100000
namespace Ss
open PySem PySem.Spec PyProof.Rows L2 Sw
def EqvAt (n : Nat) (bs : List Str) (d : D) (f : D → CC → Bool × CC) : Prop := ∀ c0 c1 : Int, c0 ≤ 16 → c1 ≤ 3 →
  ((f d (c0, c1)).1 = true ↔ formed n bs d = true ∧ c0 + (sizeN n d : Int) ≤ 16 ∧ c1 + (binN n d : Int) ≤ 3) ∧ ((f d (c0, c1)).1 = true → (f d (c0, c1)).2 = (c0 + (sizeN n d : Int), c1 + (binN n d : Int)))
theorem go_eqv {n : Nat} {bs : List Str} {f : D → CC → Bool × CC} : ∀ (ps : List D), (∀ p ∈ ps, EqvAt n bs p f) → ∀ c0 c1 : Int, c0 ≤ 16 → c1 ≤ 3 →
    ((goJ f ps (c0, c1)).1 = true ↔ (∀ p ∈ ps, formed n bs p = true) ∧ c0 + ((ps.flatMap (allL n)).length : Int) ≤ 16 ∧ c1 + (((ps.flatMap (allL n)).filter bndD).length : Int) ≤ 3) ∧ ((goJ f ps (c0, c1)).1 = true → (goJ f ps (c0, c1)).2 = (c0 + ((ps.flatMap (allL n)).length : Int), c1 + (((ps.flatMap (allL n)).filter bndD).length : Int)))
  | [], _, c0, c1, h0, h1 => by
    refine ⟨⟨fun _ => ⟨by simp, by simpa using h0, by simpa using h1⟩, fun _ => rfl⟩, fun _ => ?_⟩
    show (c0, c1) = _
    simp
  | p :: ps, hp, c0, c1, h0, h1 => by
    obtain ⟨a1, a2⟩ := hp p List.mem_cons_self c0 c1 h0 h1
    have hps : ∀ q ∈ ps, EqvAt n bs q f := fun q hq => hp q (List.mem_cons_of_mem _ hq)
    have el : (((p :: ps).flatMap (allL n)).length : Int) = (sizeN n p : Int) + ((ps.flatMap (allL n)).length : Int) := by rw [List.flatMap_cons, List.length_append]; unfold sizeN; push_cast; rfl
    have eb : ((((p :: ps).flatMap (allL n)).filter bndD).length : Int) = (binN n p : Int) + (((ps.flatMap (allL n)).filter bndD).length : Int) := by rw [List.flatMap_cons, List.filter_append, List.length_append]; unfold binN; push_cast; rfl
    rw [el, eb]
    have eg : goJ f (p :: ps) (c0, c1) = ((f p (c0, c1)).1 && (goJ f ps (f p (c0, c1)).2).1, (goJ f ps (f p (c0, c1)).2).2) := rfl
    rw [eg]
    simp only
    cases q : (f p (c0, c1)).1 with
    | false =>
      rw [Bool.false_and]
      refine ⟨⟨fun z => (by cases z), fun ⟨z1, z2, z3⟩ => ?_⟩, fun z => (by cases z)⟩
      exfalso
      have : (f p (c0, c1)).1 = true := a1.mpr ⟨z1 p List.mem_cons_self, by omega, by omega⟩
      rw [q] at this
      cases this
    | true =>
      obtain ⟨b1, b2, b3⟩ := a1.mp q
      have e2 := a2 q
      rw [e2, Bool.true_and]
      obtain ⟨i1, i2⟩ := go_eqv ps hps (c0 + sizeN n p) (c1 + binN n p) b2 b3
      refine ⟨⟨fun z => ?_, fun ⟨z1, z2, z3⟩ => ?_⟩, fun z => ?_⟩
      · obtain ⟨y1, y2, y3⟩ := i1.mp z
        refine ⟨fun x hx => ?_, by omega, by omega⟩
        rcases List.mem_cons.mp hx with rfl | w
        · exact b1
        · exact y1 x w
      · exact i1.mpr ⟨fun x hx => z1 x (List.mem_cons_of_mem _ hx), by omega, by omega⟩
      · rw [i2 z]
        exact Prod.ext (by simp only; omega) (by simp only; omega)
theorem size_tup (n : Nat) (z : Str) (r : List D) : (sizeN (n + 1) (.tup (.str z :: r)) : Int) = 1 + (((partsL z r).flatMap (allL n)).length : Int) := by
  unfold sizeN
  show (((.tup (.str z :: r) : D) :: (partsL z r).flatMap (allL n)).length : Int) = _
  rw [List.length_cons]
  push_cast
  omega
theorem bin_tup (n : Nat) (z : Str) (r : List D) : (binN (n + 1) (.tup (.str z :: r)) : Int) = (if isBnd z = true then 1 else 0) + ((((partsL z r).flatMap (allL n)).filter bndD).length : Int) := by
  unfold binN
  show ((((.tup (.str z :: r) : D) :: (partsL z r).flatMap (allL n)).filter bndD).length : Int) = _
  by_cases h : isBnd z = true
  · rw [List.filter_cons_of_pos (by exact h), if_pos h, List.length_cons]
    push_cast
    omega
  · rw [List.filter_cons_of_neg (by exact h), if_neg h]
    omega
theorem formed_tup (n : Nat) (bs : List Str) (z : Str) (r : List D) : formed (n + 1) bs (.tup (.str z :: r)) = true ↔ shapeB bs z r = true ∧ ∀ p ∈ partsL z r, formed n (innerB bs z r) p = true := by
  show (shapeB bs z r && (partsL z r).all (formed n (innerB bs z r))) = true ↔ _
  rw [Bool.and_eq_true_iff, List.all_eq_true]
theorem shape_other {bs : List Str} {z : Str} {r : List D} (c : longI z = (r.length : Int) + 1) (n1 : ¬ z = "now") (n2 : ¬ (z = "within" ∧ wholeD (r.getD 0 .non) 0 5 = false)) (hb : isBnd z = false) : shapeB bs z r = true := by
  unfold shapeB
  rw [if_pos c]
  cases r with
  | nil => rfl
  | cons a q =>
    simp only [n1, if_false, hb]
    by_cases k : z = "within"
    · rw [if_pos k]
      cases w : wholeD a 0 5 with
      | true => rfl
      | false => exact absurd ⟨k, w⟩ n2
    · rw [if_neg k]
      rfl
theorem lawJ_eqv : ∀ (n : Nat) (bs : List Str) (d : D), EqvAt n bs d (lawJ n bs) := by
  intro n
  induction n with
  | zero =>
    intro bs d c0 c1 h0 h1
    have e : (lawJ 0 bs d (c0, c1)).1 = false := by
      by_cases hz : ∃ z r, d = .tup (.str z :: r)
      · obtain ⟨z, r, rfl⟩ := hz
        show (stepJ _ true bs z r (c0, c1)).1 = _
        unfold stepJ
        rw [if_pos (.inr (.inl rfl))]
      · rw [lawJ_no 0 bs _ fun z r e => hz ⟨z, r, e⟩]
    rw [e]
    exact ⟨⟨fun z => (by cases z), fun z => (by cases z.1)⟩, fun z => (by cases z)⟩
  | succ n ih =>
    intro bs d c0 c1 h0 h1
    by_cases hz : ∃ z r, d = .tup (.str z :: r)
    · obtain ⟨z, r, rfl⟩ := hz
      have es := size_tup n z r
      have eb := bin_tup n z r
      have ef := formed_tup n bs z r
      have eJ : lawJ (n + 1) bs (.tup (.str z :: r)) (c0, c1) = stepJ (lawJ n) false bs z r (c0, c1) := rfl
      rw [eJ]
      have no : ∀ x : Bool × CC, x.1 = false → ¬ (formed (n + 1) bs (.tup (.str z :: r)) = true ∧ c0 + (sizeN (n + 1) (.tup (.str z :: r)) : Int) ≤ 16 ∧ c1 + (binN (n + 1) (.tup (.str z :: r)) : Int) ≤ 3) →
          (x.1 = true ↔ formed (n + 1) bs (.tup (.str z :: r)) = true ∧ c0 + (sizeN (n + 1) (.tup (.str z :: r)) : Int) ≤ 16 ∧ c1 + (binN (n + 1) (.tup (.str z :: r)) : Int) ≤ 3) ∧ (x.1 = true → x.2 = (c0 + (sizeN (n + 1) (.tup (.str z :: r)) : Int), c1 + (binN (n + 1) (.tup (.str z :: r)) : Int))) := fun x hx hn => by
        rw [hx]
        exact ⟨⟨fun y => (by cases y), fun y => absurd y hn⟩, fun y => (by cases y)⟩
      unfold stepJ
      by_cases A : (¬ longI z = (r.length : Int) + 1) ∨ (false = true) ∨ 16 < (c0, c1).1 + 1
      · rw [if_pos A]
        refine no _ rfl fun ⟨y1, y2, y3⟩ => ?_
        rcases A with q | q | q
        · exact q (shape_head (ef.mp y1).1).1
        · cases q
        · have q : 16 < c0 + 1 := q
          omega
      · rw [if_neg A]
        have cl : longI z = (r.length : Int) + 1 := Classical.byContradiction fun q => A (.inl q)
        have c16 : ¬ 16 < c0 + 1 := fun q => A (.inr (.inr q))
        by_cases n1 : z = "now"
        · rw [if_pos n1]
          have l2 : longI z = 2 := by rw [n1]; exact now_len.1
          have s2 : startN z = 2 := by rw [n1]; decide
          have nb : isBnd z = false := by rw [n1]; decide
          match r, cl, es, eb, ef, no with
          | [], cl, es, eb, ef, no => simp at cl; omega
          | a :: b :: q, cl, es, eb, ef, no => simp only [List.length_cons] at cl; omega
          | [a], cl, es, eb, ef, no =>
            have pn : partsL z [a] = [] := by unfold partsL; rw [s2]; rfl
            have sh : shapeB bs z [a] = testB bs a := by unfold shapeB; rw [if_pos cl]; simp only [if_pos n1]
            rw [pn] at es eb ef
            rw [sh] at ef
            rw [nb] at eb
            simp at es eb ef
            have e1 : ([a] : List D).getD 0 .non = a := rfl
            rw [e1]
            simp only
            refine ⟨⟨fun y => ⟨ef.trans y, by omega, by omega⟩, fun y => ef.symm.trans y.1⟩, fun y => ?_⟩
            rw [es, eb]
            simp
        · rw [if_neg n1]
          by_cases n2 : z = "within" ∧ wholeD (r.getD 0 .non) 0 5 = false
          · rw [if_pos n2]
            refine no _ rfl fun ⟨y1, y2, y3⟩ => ?_
            have sh := (ef.mp y1).1
            unfold shapeB at sh
            rw [if_pos cl] at sh
            have l3 : longI z = 3 := by rw [n2.1]; exact now_len.2
            match r, cl, n2, sh with
            | [], cl, n2, sh => simp at cl; omega
            | a :: q, cl, n2, sh =>
              simp only at sh
              rw [if_neg n1, if_pos n2.1, show wholeD a 0 5 = false from n2.2] at sh
              cases sh
          · rw [if_neg n2]
            cases hb : isBnd z with
            | true =>
              rw [if_pos rfl]
              rw [hb, if_pos rfl] at eb
              have n3 : ¬ z = "within" := by rcases bnd_cases hb with rfl | rfl <;> decide
              by_cases B : 3 < (c0, c1).2 + 1 ∨ nameB (r.getD 0 .non) = false ∨ nameB (r.getD 1 .non) = false
              · rw [if_pos B]
                refine no _ rfl fun ⟨y1, y2, y3⟩ => ?_
                obtain ⟨a, y, p, rfl, k1, k2⟩ := shape_bnd (ef.mp y1).1 hb
                rcases B with q | q | q
                · have q : 3 < c1 + 1 := q
                  omega
                · rw [show nameB a = false from q] at k1; cases k1
                · rw [show nameB (.str y) = false from q] at k2; cases k2
              · rw [if_neg B]
                have b3 : ¬ 3 < c1 + 1 := fun q => B (.inl q)
                have ib : innerB bs z r = bs ++ [strOf (r.getD 1 .non)] := by unfold innerB; rw [if_pos hb]
                have sh : shapeB bs z r = true := by
                  unfold shapeB
                  rw [if_pos cl]
                  have l4 : longI z = 4 := by rcases bnd_cases hb with rfl | rfl <;> decide
                  match r, cl, B with
                  | [], cl, B => simp at cl; omega
                  | [a], cl, B => simp at cl; omega
                  | a :: b :: q, cl, B =>
                    simp only [n1, n3, if_false, hb, if_true]
                    cases qa : nameB a with
                    | false => exact absurd (.inr (.inl qa)) B
                    | true => cases qb : nameB b with
                      | false => exact absurd (.inr (.inr qb)) B
                      | true => rfl
                obtain ⟨i1, i2⟩ := go_eqv (n := n) (bs := bs ++ [strOf (r.getD 1 .non)]) (f := lawJ n (bs ++ [strOf (r.getD 1 .non)])) (partsL z r) (fun p _ => ih _ p) (c0 + 1) (c1 + 1) (by omega) (by omega)
                rw [ib] at ef
                refine ⟨⟨fun y => ?_, fun ⟨y1, y2, y3⟩ => ?_⟩, fun y => ?_⟩
                · obtain ⟨k1, k2, k3⟩ := i1.mp y
                  exact ⟨ef.mpr ⟨sh, k1⟩, by omega, by omega⟩
                · exact i1.mpr ⟨(ef.mp y1).2, by omega, by omega⟩
                · rw [i2 y]
                  exact Prod.ext (by simp only; omega) (by simp only; omega)
            | false =>
              rw [if_neg (by simp)]
              rw [hb, if_neg (by simp)] at eb
              have ib : innerB bs z r = bs := by unfold innerB; rw [if_neg (by rw [hb]; simp)]
              have sh := shape_other (bs := bs) cl n1 n2 hb
              obtain ⟨i1, i2⟩ := go_eqv (n := n) (bs := bs) (f := lawJ n bs) (partsL z r) (fun p _ => ih _ p) (c0 + 1) c1 (by omega) h1
              rw [ib] at ef
              refine ⟨⟨fun y => ?_, fun ⟨y1, y2, y3⟩ => ?_⟩, fun y => ?_⟩
              · obtain ⟨k1, k2, k3⟩ := i1.mp y
                exact ⟨ef.mpr ⟨sh, k1⟩, by omega, by omega⟩
              · exact i1.mpr ⟨(ef.mp y1).2, by omega, by omega⟩
              · rw [i2 y]
                exact Prod.ext (by simp only; omega) (by simp only; omega)
    · have e1 := lawJ_no (n + 1) bs (c0, c1) fun z r e => hz ⟨z, r, e⟩
      rw [e1]
      have e2 : formed (n + 1) bs d = false := by
        cases q : formed (n + 1) bs d with
        | false => rfl
        | true => obtain ⟨z, r, e, _⟩ := formed_inv q; exact absurd ⟨z, r, e⟩ hz
      rw [e2]
      exact ⟨⟨fun y => (by cases y), fun y => (by cases y.1)⟩, fun y => (by cases y)⟩
theorem say_same (d : D) : (lawJ 8 [] d (0, 0)).1 = sayB d := by
  obtain ⟨h1, _⟩ := lawJ_eqv 8 [] d 0 0 (by decide) (by decide)
  rw [Bool.eq_iff_iff, h1]
  unfold sayB
  simp only [Bool.and_eq_true, decide_eq_true_eq]
  constructor
  · rintro ⟨a, b, c⟩; exact ⟨a, by omega, by omega⟩
  · rintro ⟨a, b, c⟩; exact ⟨a, by omega, by omega⟩
end Ss

end
section
set_option Elab.async false
set_option linter.all false
set_option maxRecDepth 100000
namespace Ss
open PySem PySem.Spec PyProof.Rows L2 Sw
structure Dr (deep : Nat) (bs : List Str) (room : Nat) (bin : Nat) (d : D) : Prop where
  fm : formed deep bs d = true
  sz : sizeN deep d ≤ room
  bn : binN deep d = bin
  fit : Fit 8 d
  dep : depD d ≤ deep + 1
def nmL : List D := namesL.map D.str
theorem nm_ok : ∀ z ∈ namesL, nameB (.str z) = true ∧ z.length ≤ 8 := by decide +kernel
def wKv (b : Int) : List (Key × D) := [(.inr "names", .lst nmL), (.inr "binders", .int b)]
theorem wKv_n (b : Int) : lookD (wKv b) (.inr "names") = some (.lst nmL) := rfl
theorem wKv_b (b : Int) : lookD (wKv b) (.inr "binders") = some (.int b) := rfl
theorem wKv_p (b x : Int) : putD (wKv b) (.inr "binders") (.int x) = wKv x := rfl
theorem nmL_len : nmL.length = 8 := rfl
theorem nm_at {i : Int} (h0 : 0 ≤ i) (h1 : i < 8) : ∃ z, atI nmL i = some (.str z) ∧ nameB (.str z) = true ∧ z.length ≤ 8 := by
  have h : i.toNat < namesL.length := by show _ < 8; omega
  refine ⟨namesL[i.toNat], Sq.atI_nn h0 (by unfold nmL; rw [List.getElem?_map, List.getElem?_eq_getElem h]; rfl), ?_⟩
  exact nm_ok _ (List.getElem_mem h)
abbrev tp (t : Tape) : MO := .dct (tapeKvs t)
theorem pick_eq {t : Tape} {m : Int} (h1 : 0 < m) (h2 : m < 1000) (h3 : 0 ≤ t.n) (h4 : t.n < 900000) : pickF [.b (tp t), .t (.int m)] = some (.t (.int (pickV t m)), [tp (pickT t m)]) := pickF_eq h1 (by omega) h3 (by omega)
def g__law_test (f_law_pick : FM) : GS :=
  (sSeq (sSet 3 (eCall f_law_pick (uMut (eVar 0) (uVal (eC (.int 5)) uNil))))
  (sSeq (sIf (qB (eF (eP fEq (aCons (eF (eVar 3)) (aCons (eC (.int 0)) aNil))))) (sRet (eP fTup (aCons (eC (.str "any")) aNil))) sNil)
  (sSeq (sIf (qB (eF (eP fEq (aCons (eF (eVar 3)) (aCons (eC (.int 1)) aNil))))) (sRet (eP fTup (aCons (eC (.str "name")) (aCons (eSub 1 (eF (eCall f_law_pick (uMut (eVar 0) (uVal (eLen 1) uNil))))) aNil)))) sNil)
  (sSeq (sSet 4 (eP fIx (aCons (eF (eP fLst (aCons (eC (.int 0)) (aCons (eC (.int 1)) (aCons (eC (.int 2)) (aCons (eC (.int 3)) (aCons (eC (.int 5)) (aCons (eC (.int 9)) aNil)))))))) (aCons (eF (eCall f_law_pick (uMut (eVar 0) (uVal (eC (.int 6)) uNil)))) aNil))))
  (sSeq (sIf (qAnd (qB (eF (eP fNe (aCons (eF (eVar 2)) (aCons (eF (eP fTup aNil)) aNil))))) (qB (eF (eP fGt (aCons (eF (eCall f_law_pick (uMut (eVar 0) (uVal (eC (.int 3)) uNil)))) (aCons (eC (.int 0)) aNil)))))) (sSet 4 (eT (eSub 2 (eF (eCall f_law_pick (uMut (eVar 0) (uVal (eLen 2) uNil))))))) sNil)
  (sRet (eP fTup (aCons (eF (eP fIx (aCons (eF (eP fLst (aCons (eC (.str "less")) (aCons (eC (.str "same")) (aCons (eC (.str "more")) aNil))))) (aCons (eF (eP fSub (aCons (eF (eVar 3)) (aCons (eC (.int 2)) aNil)))) aNil)))) (aCons (eF (eVar 4)) aNil)))))))))

def gtestF : FM := runB 5 (g__law_test pickF)
theorem gtest_run : ∀ us r, gtestF us = some r → runB 5 (g__law_test pickF) us = some r := fun _ _ h => h
theorem at_or {x : D} {l : List D} {i : Int} (h0 : 0 ≤ i) (h1 : i < l.length) : ∃ y, atI l i = some y ∧ y ∈ l := by
  obtain ⟨y, a, b⟩ := Sq.atI_ok (l := l) h0 h1
  exact ⟨y, a, List.mem_of_getElem? b⟩
theorem test_two (bs : List Str) (a b : D) : testB bs (.tup [a, b]) = if eqD a (.str "name") = true then nameB b else inD a (TST3.map D.str) && (wholeD b 0 9 || inD b (bs.map D.str)) := rfl
theorem gtest_ok {t : Tape} {bs : List Str} (h0 : 0 ≤ t.n) (h1 : t.n < 800000) (hb : bs.length < 900) (hs : ∀ z ∈ bs, z.length ≤ 8) :
    ∃ d t', gtestF [.b (tp t), .t (.lst nmL), .t (.tup (bs.map D.str))] = some (.t d, [tp t']) ∧ testB bs d = true ∧ Fit 8 d ∧ depD d ≤ 1 ∧ t.n ≤ t'.n ∧ t'.n ≤ t.n + 4 := by
  have p1 := pick_eq (t := t) (m := 5) (by omega) (by omega) h0 (by omega)
  obtain ⟨w0, w1⟩ := pickV_range (t := t) (m := 5) (by omega)
  generalize hw : pickV t 5 = w at *
  have t1n : (pickT t 5).n = t.n + 1 := pickT_n t 5
  generalize pickT t 5 = t1 at *
  by_cases c0 : w = 0
  · subst c0
    exact ⟨.tup [.str "any"], t1, by simp [gtestF, runB, g__law_test, p1, outsOf], rfl, ⟨(by show 1 ≤ 8; omega), (by show 3 ≤ 8; omega), True.intro⟩, by decide, by omega, by omega⟩
  · by_cases c1 : w = 1
    · subst c1
      have p2 := pick_eq (t := t1) (m := 8) (by omega) (by omega) (by omega) (by omega)
      obtain ⟨v0, v1⟩ := pickV_range (t := t1) (m := 8) (by omega)
      generalize pickV t1 8 = v at *
      have t2n : (pickT t1 8).n = t1.n + 1 := pickT_n t1 8
      generalize pickT t1 8 = t2 at *
      obtain ⟨z, a1, a2, a3⟩ := nm_at v0 v1
      have nl : (nmL.length : Int) = 8 := rfl
      refine ⟨.tup [.str "name", .str z], t2, by simp [gtestF, runB, g__law_test, p1, outsOf, nl, p2, a1], ?_, ⟨(by show 2 ≤ 8; omega), (by show 4 ≤ 8; omega), a3, True.intro⟩, by show max 0 (max 0 0) + 1 ≤ 1; omega, by omega, by omega⟩
      rw [test_two, if_pos (eqD_refl _)]
      exact a2
    · have p2 := pick_eq (t := t1) (m := 6) (by omega) (by omega) (by omega) (by omega)
      obtain ⟨v0, v1⟩ := pickV_range (t := t1) (m := 6) (by omega)
      generalize pickV t1 6 = v at *
      have t2n : (pickT t1 6).n = t1.n + 1 := pickT_n t1 6
      generalize pickT t1 6 = t2 at *
      obtain ⟨nb, b1, b2⟩ := at_or (x := .non) (l := [.int 0, .int 1, .int 2, .int 3, .int 5, .int 9]) v0 v1
      have hnb : wholeD nb 0 9 = true ∧ Fit 8 nb ∧ depD nb = 0 := by
        simp only [List.mem_cons, List.not_mem_nil, or_false] at b2
        rcases b2 with rfl | rfl | rfl | rfl | rfl | rfl <;> exact ⟨by decide, True.intro, rfl⟩
      obtain ⟨hd, d1, d2⟩ := at_or (x := .non) (l := [.str "less", .str "same", .str "more"]) (i := w - 2) (by omega) (by simp only [List.length_cons, List.length_nil]; omega)
      have hhd : inD hd (TST3.map D.str) = true ∧ eqD hd (.str "name") = false ∧ Fit 8 hd ∧ depD hd = 0 := by
        simp only [List.mem_cons, List.not_mem_nil, or_false] at d2
        rcases d2 with rfl | rfl | rfl <;> exact ⟨by decide, by decide, (by show _ ≤ 8; decide), rfl⟩
      have fin : ∀ x : D, (wholeD x 0 9 = true ∨ inD x (bs.map D.str) = true) → Fit 8 x → depD x = 0 → testB bs (.tup [hd, x]) = true ∧ Fit 8 (.tup [hd, x]) ∧ depD (.tup [hd, x]) ≤ 1 := fun x h1 h2 h3 => by
        refine ⟨?_, ⟨(by show 2 ≤ 8; omega), hhd.2.2.1, h2, True.intro⟩, by show max (depD hd) (max (depD x) 0) + 1 ≤ 1; rw [hhd.2.2.2, h3]; decide⟩
        rw [test_two, hhd.2.1, hhd.1]
        rcases h1 with q | q
        · rw [q]; rfl
        · rw [q]; simp
      have dv : depD (.tup (bs.map D.str)) ≤ 40 := by show depDs (bs.map D.str) + 1 ≤ 40; rw [L2.dep_strs]; omega
      cases bs with
      | nil =>
        obtain ⟨f1, f2, f3⟩ := fin nb (.inl hnb.1) hnb.2.1 hnb.2.2
        refine ⟨.tup [hd, nb], t2, ?_, f1, f2, f3, by omega, by omega⟩
        have q : eqD (.tup []) (.tup []) = true := rfl
        simp only [List.map_nil] at dv ⊢
        simp [gtestF, runB, g__law_test, p1, outsOf, c0, c1, p2, b1, dv, q, d1]
      | cons y ys =>
        have q : eqD (.tup ((y :: ys).map D.str)) (.tup []) = false := rfl
        have p3 := pick_eq (t := t2) (m := 3) (by omega) (by omega) (by omega) (by omega)
        have t3n : (pickT t2 3).n = t2.n + 1 := pickT_n t2 3
        generalize pickV t2 3 = u at *
        generalize pickT t2 3 = t3 at *
        by_cases c3 : 0 < u
        · have p4 := pick_eq (t := t3) (m := ((y :: ys).map D.str).length) (by rw [List.length_map]; simp only [List.length_cons]; omega) (by rw [List.length_map]; omega) (by omega) (by omega)
          have t4n : (pickT t3 ((y :: ys).map D.str).length).n = t3.n + 1 := pickT_n t3 _
          obtain ⟨x0, x1⟩ := pickV_range (t := t3) (m := ((y :: ys).map D.str).length) (by rw [List.length_map]; simp only [List.length_cons]; omega)
          obtain ⟨vv, g1, g2⟩ := at_or (x := .non) (l := (y :: ys).map D.str) x0 x1
          generalize pickT t3 ((y :: ys).map D.str).length = t4 at *
          generalize pickV t3 ((y :: ys).map D.str).length = x at *
          obtain ⟨vs, m1, rfl⟩ := List.mem_map.mp g2
          have iv : inD (.str vs) ((y :: ys).map D.str) = true := by
            unfold inD
            exact List.any_eq_true.mpr ⟨.str vs, g2, eqD_refl _⟩
          obtain ⟨f1, f2, f3⟩ := fin (.str vs) (.inr iv) (hs vs m1) rfl
          refine ⟨.tup [hd, .str vs], t4, ?_, f1, f2, f3, by omega, by omega⟩
          generalize (y :: ys).map D.str = L at *
          simp [gtestF, runB, g__law_test, p1, outsOf, c0, c1, p2, b1, dv, q, p3, c3, p4, g1, d1]
        · obtain ⟨f1, f2, f3⟩ := fin nb (.inl hnb.1) hnb.2.1 hnb.2.2
          refine ⟨.tup [hd, nb], t3, ?_, f1, f2, f3, by omega, by omega⟩
          generalize (y :: ys).map D.str = L at *
          simp [gtestF, runB, g__law_test, p1, outsOf, c0, c1, p2, b1, dv, q, p3, c3, d1]
end Ss

end
section
set_option Elab.async false
set_option linter.all false
set_option maxRecDepth 100000
namespace Ss
open PySem PySem.Spec PyProof.Rows L2 Sw
theorem dr0 {n room : Nat} {bs : List Str} {z : Str} {r : List D} (sh : shapeB bs z r = true) (pl : partsL z r = []) (nb : isBnd z = false) (hr : 1 ≤ room) (fit : Fit 8 (.tup (.str z :: r))) (dep : depD (.tup (.str z :: r)) ≤ n + 2) : Dr (n + 1) bs room 0 (.tup (.str z :: r)) := by
  have es := size_tup n z r
  have eb := bin_tup n z r
  rw [pl] at es eb
  rw [nb] at eb
  simp at es eb
  exact ⟨(formed_tup n bs z r).mpr ⟨sh, by rw [pl]; simp⟩, by omega, by omega, fit, dep⟩
theorem dr1 {n room b : Nat} {bs : List Str} {z : Str} {r : List D} {p : D} (sh : shapeB bs z r = true) (pl : partsL z r = [p]) (h : Dr n (innerB bs z r) room b p) (fit : Fit 8 (.tup (.str z :: r))) (dep : depD (.tup (.str z :: r)) ≤ n + 2) : Dr (n + 1) bs (room + 1) ((if isBnd z = true then 1 else 0) + b) (.tup (.str z :: r)) := by
  have es := size_tup n z r
  have eb := bin_tup n z r
  rw [pl] at es eb
  have e1 : ([p].flatMap (allL n)).length = sizeN n p := by simp [sizeN]
  have e2 : (([p].flatMap (allL n)).filter bndD).length = binN n p := by simp [binN]
  rw [e1] at es
  rw [e2] at eb
  have := h.sz
  have := h.bn
  refine ⟨(formed_tup n bs z r).mpr ⟨sh, by rw [pl]; intro q hq; rw [show q = p by simpa using hq]; exact h.fm⟩, by omega, ?_, fit, dep⟩
  by_cases hb : isBnd z = true
  · rw [if_pos hb] at eb ⊢; omega
  · rw [if_neg hb] at eb ⊢; omega
theorem dr2 {n r1 r2 b1 b2 : Nat} {bs : List Str} {z : Str} {r : List D} {p q : D} (sh : shapeB bs z r = true) (pl : partsL z r = [p, q]) (nb : isBnd z = false) (h1 : Dr n bs r1 b1 p) (h2 : Dr n bs r2 b2 q) (fit : Fit 8 (.tup (.str z :: r))) (dep : depD (.tup (.str z :: r)) ≤ n + 2) : Dr (n + 1) bs (r1 + r2 + 1) (b1 + b2) (.tup (.str z :: r)) := by
  have es := size_tup n z r
  have eb := bin_tup n z r
  rw [pl] at es eb
  have e1 : ([p, q].flatMap (allL n)).length = sizeN n p + sizeN n q := by simp [sizeN]
  have e2 : (([p, q].flatMap (allL n)).filter bndD).length = binN n p + binN n q := by simp [binN]
  rw [e1] at es
  rw [e2, nb] at eb
  simp at eb
  have := h1.sz
  have := h1.bn
  have := h2.sz
  have := h2.bn
  have ib : innerB bs z r = bs := by unfold innerB; rw [if_neg (by rw [nb]; simp)]
  refine ⟨(formed_tup n bs z r).mpr ⟨sh, by rw [pl, ib]; intro x hx; simp at hx; rcases hx with rfl | rfl; exact h1.fm; exact h2.fm⟩, by omega, by omega, fit, dep⟩
theorem Dr.more {n room room2 b : Nat} {bs : List Str} {d : D} (h : Dr n bs room b d) (hr : room ≤ room2) : Dr n bs room2 b d := ⟨h.fm, Nat.le_trans h.sz hr, h.bn, h.fit, h.dep⟩
def g__law_saying (f_law_pick : FM) (f_law_test : FM) (f_law_saying : FM) (f_law_inner : FM) : GS :=
  (sSeq (sSet 5 (eCall f_law_pick (uMut (eVar 0) (uVal (eC (.int 9)) uNil))))
  (sSeq (sIf (qOr (qB (eF (eP fLt (aCons (eF (eVar 3)) (aCons (eC (.int 2)) aNil))))) (qOr (qB (eF (eP fLt (aCons (eF (eVar 4)) (aCons (eC (.int 2)) aNil))))) (qB (eF (eP fEq (aCons (eF (eVar 5)) (aCons (eC (.int 0)) aNil))))))) (sSeq (sIf (qB (eF (eP fEq (aCons (eF (eP fMod (aCons (eF (eVar 5)) (aCons (eC (.int 5)) aNil)))) (aCons (eC (.int 4)) aNil))))) (sRet (eP fTup (aCons (eF (eP fIx (aCons (eF (eP fLst (aCons (eC (.str "yes")) (aCons (eC (.str "no")) aNil)))) (aCons (eF (eCall f_law_pick (uMut (eVar 0) (uVal (eC (.int 2)) uNil)))) aNil)))) aNil))) sNil)
  (sRet (eP fTup (aCons (eC (.str "now")) (aCons (eF (eCall f_law_test (uMut (eVar 0) (uVal (eSub 1 (eC (.str "names"))) (uVal (eF (eVar 2)) uNil))))) aNil))))) sNil)
  (sSeq (sIf (qAnd (qB (eF (eP fLt (aCons (eF (eVar 5)) (aCons (eC (.int 5)) aNil))))) (qB (eF (eP fGt (aCons (eF (eVar 3)) (aCons (eC (.int 2)) aNil)))))) (sSeq (sSet 6 (eP fAdd (aCons (eC (.int 1)) (aCons (eF (eCall f_law_pick (uMut (eVar 0) (uVal (eF (eP fSub (aCons (eF (eVar 3)) (aCons (eC (.int 2)) aNil)))) uNil)))) aNil))))
  (sSeq (sSet 7 (eCall f_law_saying (uMut (eVar 0) (uMut (eVar 1) (uVal (eF (eVar 2)) (uVal (eF (eVar 6)) (uVal (eF (eP fSub (aCons (eF (eVar 4)) (aCons (eC (.int 1)) aNil)))) uNil)))))))
  (sSeq (sSet 8 (eCall f_law_saying (uMut (eVar 0) (uMut (eVar 1) (uVal (eF (eVar 2)) (uVal (eF (eP fSub (aCons (eF (eP fSub (aCons (eF (eVar 3)) (aCons (eC (.int 1)) aNil)))) (aCons (eF (eVar 6)) aNil)))) (uVal (eF (eP fSub (aCons (eF (eVar 4)) (aCons (eC (.int 1)) aNil)))) uNil)))))))
  (sRet (eP fTup (aCons (eF (eP fIx (aCons (eF (eP fLst (aCons (eC (.str "both")) (aCons (eC (.str "either")) (aCons (eC (.str "till")) (aCons (eC (.str "till")) aNil)))))) (aCons (eF (eP fSub (aCons (eF (eVar 5)) (aCons (eC (.int 1)) aNil)))) aNil)))) (aCons (eF (eVar 7)) (aCons (eF (eVar 8)) aNil)))))))) sNil)
  (sRet (eCall f_law_inner (uMut (eVar 0) (uMut (eVar 1) (uVal (eF (eVar 2)) (uVal (eF (eVar 3)) (uVal (eF (eVar 4)) uNil))))))))))

def g__law_inner (f_law_pick : FM) (f_law_saying : FM) : GS :=
  (sSeq (sSet 5 (eCall f_law_pick (uMut (eVar 0) (uVal (eC (.int 8)) uNil))))
  (sSeq (sIf (qAnd (qB (eF (eP fLt (aCons (eF (eVar 5)) (aCons (eC (.int 3)) aNil))))) (qB (eF (eP fLt (aCons (eSub 1 (eC (.str "binders"))) (aCons (eC (.int 3)) aNil)))))) (sSeq (sPut 1 (eC (.str "binders")) (eF (eP fAdd (aCons (eSub 1 (eC (.str "binders"))) (aCons (eC (.int 1)) aNil)))))
  (sSeq (sSet 6 (eT (eSub 1 (eC (.str "names")))))
  (sSeq (sSet 7 (eP fIx (aCons (eF (eP fLst (aCons (eC (.str "x")) (aCons (eC (.str "k")) (aCons (eC (.str "a")) (aCons (eC (.str "ab")) aNil)))))) (aCons (eF (eCall f_law_pick (uMut (eVar 0) (uVal (eC (.int 4)) uNil)))) aNil))))
  (sSeq (sSet 8 (eP fTup (aCons (eF (eP fIx (aCons (eF (eP fLst (aCons (eC (.str "each")) (aCons (eC (.str "one")) aNil)))) (aCons (eF (eP fMod (aCons (eF (eVar 5)) (aCons (eC (.int 2)) aNil)))) aNil)))) (aCons (eSub 6 (eF (eCall f_law_pick (uMut (eVar 0) (uVal (eLen 6) uNil))))) (aCons (eF (eVar 7)) aNil)))))
  (sRet (eP fAdd (aCons (eF (eVar 8)) (aCons (eF (eP fTup (aCons (eF (eCall f_law_saying (uMut (eVar 0) (uMut (eVar 1) (uVal (eF (eP fAdd (aCons (eF (eVar 2)) (aCons (eF (eP fTup (aCons (eF (eVar 7)) aNil))) aNil)))) (uVal (eF (eP fSub (aCons (eF (eVar 3)) (aCons (eC (.int 1)) aNil)))) (uVal (eF (eP fSub (aCons (eF (eVar 4)) (aCons (eC (.int 1)) aNil)))) uNil))))))) aNil))) aNil)))))))) sNil)
  (sSeq (sSet 8 (eP fTup (aCons (eF (eP fIx (aCons (eF (eP fLst (aCons (eC (.str "not")) (aCons (eC (.str "next")) (aCons (eC (.str "always")) (aCons (eC (.str "some")) aNil)))))) (aCons (eF (eP fMod (aCons (eF (eVar 5)) (aCons (eC (.int 4)) aNil)))) aNil)))) aNil)))
  (sSeq (sIf (qB (eF (eP fEq (aCons (eF (eVar 5)) (aCons (eC (.int 3)) aNil))))) (sSet 8 (eP fTup (aCons (eC (.str "within")) (aCons (eF (eCall f_law_pick (uMut (eVar 0) (uVal (eC (.int 6)) uNil)))) aNil)))) sNil)
  (sRet (eP fAdd (aCons (eF (eVar 8)) (aCons (eF (eP fTup (aCons (eF (eCall f_law_saying (uMut (eVar 0) (uMut (eVar 1) (uVal (eF (eVar 2)) (uVal (eF (eP fSub (aCons (eF (eVar 3)) (aCons (eC (.int 1)) aNil)))) (uVal (eF (eP fSub (aCons (eF (eVar 4)) (aCons (eC (.int 1)) aNil)))) uNil))))))) aNil))) aNil))))))))

section
variable {f1 f2 f3 f4 : FM} {T0 T1 T2 T3 T4 : MO} {ws ws1 ws2 : List (Key × D)} {vs nd d1 d2 : D} {room deep w : Int}
theorem sv_yes {v : Int} {y : D} (p1 : f1 [.b T0, .t (.int 9)] = some (.t (.int w), [T1])) (h : room < 2 ∨ deep < 2 ∨ w = 0) (h5 : w % 5 = 4) (p2 : f1 [.b T1, .t (.int 2)] = some (.t (.int v), [T2])) (hy : atI [.str "yes", .str "no"] v = some y) :
    runB 9 (g__law_saying f1 f2 f3 f4) [.b T0, .b (.dct ws), .t vs, .t (.int room), .t (.int deep)] = some (.t (.tup [y]), [T2, .dct ws]) := by
  by_cases a : room < 2
  · simp [runB, g__law_saying, p1, a, h5, p2, hy, outsOf]
  · by_cases b : deep < 2
    · simp [runB, g__law_saying, p1, a, b, h5, p2, hy, outsOf]
    · have c : w = 0 := by rcases h with h | h | h; exact absurd h a; exact absurd h b; exact h
      subst c
      exact absurd h5 (by decide)
theorem sv_now {d : D} (p1 : f1 [.b T0, .t (.int 9)] = some (.t (.int w), [T1])) (h : room < 2 ∨ deep < 2 ∨ w = 0) (h5 : ¬ w % 5 = 4) (hn : lookD ws (.inr "names") = some nd) (p2 : f2 [.b T1, .t nd, .t vs] = some (.t d, [T2])) :
    runB 9 (g__law_saying f1 f2 f3 f4) [.b T0, .b (.dct ws), .t vs, .t (.int room), .t (.int deep)] = some (.t (.tup [.str "now", d]), [T2, .dct ws]) := by
  by_cases a : room < 2
  · simp [runB, g__law_saying, p1, a, h5, hn, p2, outsOf]
  · by_cases b : deep < 2
    · simp [runB, g__law_saying, p1, a, b, h5, hn, p2, outsOf]
    · have c : w = 0 := by rcases h with h | h | h; exact absurd h a; exact absurd h b; exact h
      subst c
      simp [runB, g__law_saying, p1, a, b, hn, p2, outsOf]
theorem sv_two {fi : Int} {y : D} (p1 : f1 [.b T0, .t (.int 9)] = some (.t (.int w), [T1])) (ha : ¬ room < 2) (hb : ¬ deep < 2) (hc : ¬ w = 0) (h5 : w < 5) (h2 : 2 < room) (p2 : f1 [.b T1, .t (.int (room - 2))] = some (.t (.int fi), [T2]))
    (p3 : f3 [.b T2, .b (.dct ws), .t vs, .t (.int (1 + fi)), .t (.int (deep - 1))] = some (.t d1, [T3, .dct ws1])) (p4 : f3 [.b T3, .b (.dct ws1), .t vs, .t (.int (room - 1 - (1 + fi))), .t (.int (deep - 1))] = some (.t d2, [T4, .dct ws2])) (hy : atI [.str "both", .str "either", .str "till", .str "till"] (w - 1) = some y) :
    runB 9 (g__law_saying f1 f2 f3 f4) [.b T0, .b (.dct ws), .t vs, .t (.int room), .t (.int deep)] = some (.t (.tup [y, d1, d2]), [T4, .dct ws2]) := by
  simp [runB, g__law_saying, p1, ha, hb, hc, h5, h2, p2, p3, p4, hy, outsOf]
theorem sv_in (p1 : f1 [.b T0, .t (.int 9)] = some (.t (.int w), [T1])) (ha : ¬ room < 2) (hb : ¬ deep < 2) (hc : ¬ w = 0) (h : ¬ (w < 5 ∧ 2 < room)) (p2 : f4 [.b T1, .b (.dct ws), .t vs, .t (.int room), .t (.int deep)] = some (.t d1, [T2, .dct ws1])) :
    runB 9 (g__law_saying f1 f2 f3 f4) [.b T0, .b (.dct ws), .t vs, .t (.int room), .t (.int deep)] = some (.t d1, [T2, .dct ws1]) := by
  by_cases a : w < 5
  · have b : ¬ 2 < room := fun q => h ⟨a, q⟩
    simp [runB, g__law_saying, p1, ha, hb, hc, a, b, p2, outsOf]
  · simp [runB, g__law_saying, p1, ha, hb, hc, a, p2, outsOf]
theorem iv_bnd {b x n : Int} {bl nl : List D} {xd hd nm : D} (p1 : f1 [.b T0, .t (.int 8)] = some (.t (.int w), [T1])) (h3 : w < 3) (hb : lookD ws (.inr "binders") = some (.int b)) (b3 : b < 3) (hl : ws.length < 100000) (hp : putD ws (.inr "binders") (.int (b + 1)) = ws1) (hn : lookD ws1 (.inr "names") = some (.lst nl))
    (p2 : f1 [.b T1, .t (.int 4)] = some (.t (.int x), [T2])) (hx : atI [.str "x", .str "k", .str "a", .str "ab"] x = some xd) (hh : atI [.str "each", .str "one"] (w % 2) = some hd) (p3 : f1 [.b T2, .t (.int (nl.length : Nat))] = some (.t (.int n), [T3])) (hm : atI nl n = some nm) (hv : bl.length + 1 ≤ 100000)
    (p4 : f2 [.b T3, .b (.dct ws1), .t (.tup (bl ++ [xd])), .t (.int (room - 1)), .t (.int (deep - 1))] = some (.t d1, [T4, .dct ws2])) :
    runB 9 (g__law_inner f1 f2) [.b T0, .b (.dct ws), .t (.tup bl), .t (.int room), .t (.int deep)] = some (.t (.tup [hd, nm, xd, d1]), [T4, .dct ws2]) := by
  simp [runB, g__law_inner, p1, h3, hb, b3, hl, hp, hn, p2, hx, hh, p3, hm, hv, p4, outsOf]
theorem iv_one {b : Int} {hd : D} (p1 : f1 [.b T0, .t (.int 8)] = some (.t (.int w), [T1])) (hb : lookD ws (.inr "binders") = some (.int b)) (h3 : ¬ (w < 3 ∧ b < 3)) (hw : ¬ w = 3) (hh : atI [.str "not", .str "next", .str "always", .str "some"] (w % 4) = some hd)
    (p4 : f2 [.b T1, .b (.dct ws), .t vs, .t (.int (room - 1)), .t (.int (deep - 1))] = some (.t d1, [T4, .dct ws2])) :
    runB 9 (g__law_inner f1 f2) [.b T0, .b (.dct ws), .t vs, .t (.int room), .t (.int deep)] = some (.t (.tup [hd, d1]), [T4, .dct ws2]) := by
  by_cases a : w < 3
  · have b : ¬ b < 3 := fun q => h3 ⟨a, q⟩
    simp [runB, g__law_inner, p1, a, hb, b, hw, hh, p4, outsOf]
  · simp [runB, g__law_inner, p1, a, hw, hh, p4, outsOf]
theorem iv_within {k : Int} (p1 : f1 [.b T0, .t (.int 8)] = some (.t (.int 3), [T1])) (p2 : f1 [.b T1, .t (.int 6)] = some (.t (.int k), [T2]))
    (p4 : f2 [.b T2, .b (.dct ws), .t vs, .t (.int (room - 1)), .t (.int (deep - 1))] = some (.t d1, [T4, .dct ws2])) :
    runB 9 (g__law_inner f1 f2) [.b T0, .b (.dct ws), .t vs, .t (.int room), .t (.int deep)] = some (.t (.tup [.str "within", .int k, d1]), [T4, .dct ws2]) := by
  have hh : atI [D.str "not", .str "next", .str "always", .str "some"] 3 = some (.str "some") := rfl
  simp [runB, g__law_inner, p1, p2, hh, p4, outsOf]
end
end Ss

end
section
set_option Elab.async false
set_option linter.all false
set_option maxRecDepth 100000
namespace Ss
open PySem PySem.Spec PyProof.Rows L2 Sw
def siF : Nat → FM × FM
  | 0 => (fun _ => none, fun _ => none)
  | j + 1 => (runB 9 (g__law_saying pickF gtestF (siF j).1 (siF j).2), runB 9 (g__law_inner pickF (siF j).1))
def sayF (j : Nat) : FM := (siF j).1
def innF (j : Nat) : FM := (siF j).2
theorem say_run (j : Nat) : ∀ us r, sayF (j + 1) us = some r → runB 9 (g__law_saying pickF gtestF (sayF j) (innF j)) us = some r := fun _ _ h => h
theorem inn_run (j : Nat) : ∀ us r, innF (j + 1) us = some r → runB 9 (g__law_inner pickF (sayF j)) us = some r := fun _ _ h => h
theorem sayF_zero (us : List U) : sayF 0 us = none := rfl
theorem innF_zero (us : List U) : innF 0 us = none := rfl
def SayOk (f : FM) (deep room : Nat) : Prop := ∀ (t : Tape) (bs : List Str) (b : Nat), 0 ≤ t.n → t.n + 8 * room < 700000 → bs.length + deep < 800 → (∀ z ∈ bs, z.length ≤ 8) → b ≤ 3 →
  ∃ (d : D) (t' : Tape) (bin : Nat), f [.b (tp t), .b (.dct (wKv b)), .t (.tup (bs.map D.str)), .t (.int room), .t (.int deep)] = some (.t d, [tp t', .dct (wKv ((b + bin : Nat) : Int))]) ∧ Dr deep bs room bin d ∧ b + bin ≤ 3 ∧ t.n ≤ t'.n ∧ t'.n ≤ t.n + 8 * room
theorem fit1 {z : Str} (h : z.length ≤ 8) : Fit 8 (.str z) := h
theorem shape_of {bs : List Str} {z : Str} {r : List D} (c : longI z = (r.length : Int) + 1) (n1 : z ≠ "now") (n2 : z ≠ "within") (hb : isBnd z = false) : shapeB bs z r = true := shape_other c n1 (fun q => n2 q.1) hb
theorem inn_step {f : FM} {deep room : Nat} (hr : 2 ≤ room) (hd : 2 ≤ deep) (ih : SayOk f (deep - 1) (room - 1)) :
    ∀ (t : Tape) (bs : List Str) (b : Nat), 0 ≤ t.n → t.n + 8 * room < 700002 → bs.length + deep < 800 → (∀ z ∈ bs, z.length ≤ 8) → b ≤ 3 →
    ∃ (d : D) (t' : Tape) (bin : Nat), runB 9 (g__law_inner pickF f) [.b (tp t), .b (.dct (wKv b)), .t (.tup (bs.map D.str)), .t (.int room), .t (.int deep)] = some (.t d, [tp t', .dct (wKv ((b + bin : Nat) : Int))]) ∧ Dr deep bs room bin d ∧ b + bin ≤ 3 ∧ t.n ≤ t'.n ∧ t'.n + 1 ≤ t.n + 8 * room := by
  intro t bs b t0 t1 hl hs hb
  obtain ⟨n, rfl⟩ : ∃ n, deep = n + 1 := ⟨deep - 1, by omega⟩
  obtain ⟨rm, rfl⟩ : ∃ m, room = m + 1 := ⟨room - 1, by omega⟩
  have ih : SayOk f n rm := ih
  have er : (((rm + 1 : Nat) : Int) - 1) = (rm : Int) := by omega
  have ed : (((n + 1 : Nat) : Int) - 1) = (n : Int) := by omega
  have p1 := pick_eq (t := t) (m := 8) (by omega) (by omega) t0 (by omega)
  obtain ⟨w0, w1⟩ := pickV_range (t := t) (m := 8) (by omega)
  have t1n : (pickT t 8).n = t.n + 1 := pickT_n t 8
  generalize pickV t 8 = w at *
  generalize pickT t 8 = ta at *
  by_cases c : w < 3 ∧ (b : Int) < 3
  · have p2 := pick_eq (t := ta) (m := 4) (by omega) (by omega) (by omega) (by omega)
    obtain ⟨x0, x1⟩ := pickV_range (t := ta) (m := 4) (by omega)
    have t2n : (pickT ta 4).n = ta.n + 1 := pickT_n ta 4
    generalize pickV ta 4 = x at *
    generalize pickT ta 4 = tb at *
    have p3 := pick_eq (t := tb) (m := (nmL.length : Nat)) (by rw [nmL_len]; omega) (by rw [nmL_len]; omega) (by omega) (by omega)
    obtain ⟨m0, m1⟩ := pickV_range (t := tb) (m := (nmL.length : Nat)) (by rw [nmL_len]; omega)
    have t3n : (pickT tb (nmL.length : Nat)).n = tb.n + 1 := pickT_n tb _
    generalize pickV tb (nmL.length : Nat) = m at *
    generalize pickT tb (nmL.length : Nat) = tc at *
    obtain ⟨nm, a1, a2, a3⟩ := nm_at m0 (by rw [nmL_len] at m1; exact m1)
    obtain ⟨xd, b1, b2⟩ := at_or (x := .non) (l := [.str "x", .str "k", .str "a", .str "ab"]) x0 x1
    obtain ⟨hd, d1, d2⟩ := at_or (x := .non) (l := [.str "each", .str "one"]) (i := w % 2) (Int.emod_nonneg _ (by decide)) (Int.emod_lt_of_pos _ (by decide))
    obtain ⟨xs, rfl, xn, xl⟩ : ∃ xs, xd = .str xs ∧ nameB (.str xs) = true ∧ xs.length ≤ 8 := by
      simp only [List.mem_cons, List.not_mem_nil, or_false] at b2
      rcases b2 with rfl | rfl | rfl | rfl <;> exact ⟨_, rfl, by decide +kernel, by decide⟩
    obtain ⟨hs2, rfl, hbn, hhl, hlong⟩ : ∃ z, hd = .str z ∧ isBnd z = true ∧ z.length ≤ 8 ∧ longI z = 4 ∧ startN z = 3 ∧ z ≠ "now" ∧ z ≠ "within" := by
      simp only [List.mem_cons, List.not_mem_nil, or_false] at d2
      rcases d2 with rfl | rfl <;> exact ⟨_, rfl, by decide, by decide, by decide, by decide, by decide, by decide⟩
    obtain ⟨l4, s3, n1, n2⟩ := hlong
    obtain ⟨d, t', bin, g1, g2, g3, g4, g5⟩ := ih tc (bs ++ [xs]) (b + 1) (by omega) (by omega) (by rw [List.length_append, List.length_singleton]; omega) (by
      intro z hz
      rcases List.mem_append.mp hz with q | q
      · exact hs z q
      · rw [show z = xs by simpa using q]; exact xl) (by omega)
    have ev : (bs ++ [xs]).map D.str = bs.map D.str ++ [.str xs] := by rw [List.map_append]; rfl
    have eb1 : ((b + 1 : Nat) : Int) = (b : Int) + 1 := by omega
    rw [ev, eb1] at g1
    have sh : shapeB bs hs2 [.str nm, .str xs, d] = true := by
      unfold shapeB
      rw [if_pos (by rw [l4]; rfl)]
      simp only [n1, n2, if_false, hbn, if_true, a2, xn]
      rfl
    have pl : partsL hs2 [.str nm, .str xs, d] = [d] := by unfold partsL; rw [s3]; rfl
    have ib : innerB bs hs2 [.str nm, .str xs, d] = bs ++ [xs] := by unfold innerB; rw [if_pos hbn]; rfl
    have dr := dr1 (n := n) (room := rm) (b := bin) (bs := bs) (z := hs2) (r := [.str nm, .str xs, d]) sh pl (by rw [ib]; exact g2) ⟨(by show 4 ≤ 8; omega), fit1 hhl, fit1 a3, fit1 xl, g2.fit, True.intro⟩ (by
      have := g2.dep
      show max 0 (max 0 (max 0 (max (depD d) 0))) + 1 ≤ n + 2
      omega)
    rw [if_pos hbn] at dr
    refine ⟨_, t', 1 + bin, ?_, dr, by omega, by omega, by omega⟩
    have ebb : ((b + (1 + bin) : Nat) : Int) = ((b + 1 + bin : Nat) : Int) := by omega
    rw [ebb]
    exact iv_bnd (f1 := pickF) (f2 := f) (ws := wKv b) (ws1 := wKv ((b : Int) + 1)) (ws2 := wKv ((b + 1 + bin : Nat) : Int)) p1 c.1 (wKv_b b) c.2 (by show 2 < 100000; omega) (wKv_p b _) (wKv_n _) p2 b1 d1 p3 a1 (by rw [List.length_map]; omega) (by rw [er, ed]; exact g1)
  · by_cases cw : w = 3
    · subst cw
      have p2 := pick_eq (t := ta) (m := 6) (by omega) (by omega) (by omega) (by omega)
      obtain ⟨x0, x1⟩ := pickV_range (t := ta) (m := 6) (by omega)
      have t2n : (pickT ta 6).n = ta.n + 1 := pickT_n ta 6
      generalize pickV ta 6 = x at *
      generalize pickT ta 6 = tb at *
      obtain ⟨d, t', bin, g1, g2, g3, g4, g5⟩ := ih tb bs b (by omega) (by omega) (by omega) hs hb
      have sh : shapeB bs "within" [.int x, d] = true := by
        unfold shapeB
        rw [if_pos (by rw [now_len.2]; rfl)]
        simp only [show ¬ (("within" : Str) = "now") by decide, if_false, if_true]
        show (decide (0 ≤ x) && decide (x ≤ 5)) = true
        simp only [Bool.and_eq_true, decide_eq_true_eq]
        omega
      have pl : partsL "within" [.int x, d] = [d] := by unfold partsL; rw [show startN "within" = 2 by decide]; rfl
      have nb : isBnd "within" = false := by decide
      have ib : innerB bs "within" [.int x, d] = bs := by unfold innerB; rw [if_neg (by rw [nb]; simp)]
      have dr := dr1 (n := n) (room := rm) (b := bin) (bs := bs) (z := "within") (r := [.int x, d]) sh pl (by rw [ib]; exact g2) ⟨(by show 3 ≤ 8; omega), (by show 6 ≤ 8; omega), True.intro, g2.fit, True.intro⟩ (by
        have := g2.dep
        show max 0 (max 0 (max (depD d) 0)) + 1 ≤ n + 2
        omega)
      rw [if_neg (by rw [nb]; simp), Nat.zero_add] at dr
      exact ⟨_, t', bin, iv_within p1 p2 (by rw [er, ed]; exact g1), dr, g3, by omega, by omega⟩
    · obtain ⟨d, t', bin, g1, g2, g3, g4, g5⟩ := ih ta bs b (by omega) (by omega) (by omega) hs hb
      obtain ⟨hd, d1, d2⟩ := at_or (x := .non) (l := [.str "not", .str "next", .str "always", .str "some"]) (i := w % 4) (Int.emod_nonneg _ (by decide)) (Int.emod_lt_of_pos _ (by decide))
      obtain ⟨z, rfl, nb, zl, l2, s1, n1, n2⟩ : ∃ z, hd = .str z ∧ isBnd z = false ∧ z.length ≤ 8 ∧ longI z = 2 ∧ startN z = 1 ∧ z ≠ "now" ∧ z ≠ "within" := by
        simp only [List.mem_cons, List.not_mem_nil, or_false] at d2
        rcases d2 with rfl | rfl | rfl | rfl <;> exact ⟨_, rfl, by decide, by decide, by decide, by decide, by decide, by decide⟩
      have sh : shapeB bs z [d] = true := shape_of (by rw [l2]; rfl) n1 n2 nb
      have pl : partsL z [d] = [d] := by unfold partsL; rw [s1]; rfl
      have ib : innerB bs z [d] = bs := by unfold innerB; rw [if_neg (by rw [nb]; simp)]
      have dr := dr1 (n := n) (room := rm) (b := bin) (bs := bs) (z := z) (r := [d]) sh pl (by rw [ib]; exact g2) ⟨(by show 2 ≤ 8; omega), fit1 zl, g2.fit, True.intro⟩ (by
        have := g2.dep
        show max 0 (max (depD d) 0) + 1 ≤ n + 2
        omega)
      rw [if_neg (by rw [nb]; simp), Nat.zero_add] at dr
      exact ⟨_, t', bin, iv_one p1 (wKv_b b) c cw d1 (by rw [er, ed]; exact g1), dr, g3, by omega, by omega⟩
theorem say_ok : ∀ (deep : Nat), 1 ≤ deep → ∀ (j room : Nat), 2 * deep ≤ j → 1 ≤ room → room ≤ 100 → SayOk (sayF j) deep room := by
  intro deep
  induction deep with
  | zero => intro h; omega
  | succ n ih =>
    intro _ j room hj hr hr9 t bs b t0 t1 hl hs hb
    obtain ⟨i, rfl⟩ : ∃ i, j = i + 2 := ⟨j - 2, by omega⟩
    have p1 := pick_eq (t := t) (m := 9) (by omega) (by omega) t0 (by omega)
    obtain ⟨w0, w1⟩ := pickV_range (t := t) (m := 9) (by omega)
    have t1n : (pickT t 9).n = t.n + 1 := pickT_n t 9
    generalize pickV t 9 = w at *
    generalize pickT t 9 = ta at *
    show ∃ d t' bin, runB 9 (g__law_saying pickF gtestF (sayF (i + 1)) (innF (i + 1))) _ = _ ∧ _
    by_cases c : (room : Int) < 2 ∨ ((n + 1 : Nat) : Int) < 2 ∨ w = 0
    · by_cases c5 : w % 5 = 4
      · have p2 := pick_eq (t := ta) (m := 2) (by omega) (by omega) (by omega) (by omega)
        obtain ⟨v0, v1⟩ := pickV_range (t := ta) (m := 2) (by omega)
        have t2n : (pickT ta 2).n = ta.n + 1 := pickT_n ta 2
        generalize pickV ta 2 = v at *
        generalize pickT ta 2 = tb at *
        obtain ⟨y, y1, y2⟩ := at_or (x := .non) (l := [.str "yes", .str "no"]) v0 v1
        obtain ⟨z, rfl, nb, zl, l2, s1, n1, n2⟩ : ∃ z, y = .str z ∧ isBnd z = false ∧ z.length ≤ 8 ∧ longI z = 1 ∧ startN z = 1 ∧ z ≠ "now" ∧ z ≠ "within" := by
          simp only [List.mem_cons, List.not_mem_nil, or_false] at y2
          rcases y2 with rfl | rfl <;> exact ⟨_, rfl, by decide, by decide, by decide, by decide, by decide, by decide⟩
        refine ⟨_, tb, 0, sv_yes p1 c c5 p2 y1, dr0 (shape_of (by rw [l2]; rfl) n1 n2 nb) (by unfold partsL; rw [s1]; rfl) nb hr ⟨(by show 1 ≤ 8; omega), fit1 zl, True.intro⟩ (by show max 0 0 + 1 ≤ n + 2; omega), hb, by omega, by omega⟩
      · obtain ⟨d, t', g1, g2, g3, g4, g5, g6⟩ := gtest_ok (t := ta) (bs := bs) (by omega) (by omega) (by omega) hs
        refine ⟨_, t', 0, sv_now p1 c c5 (wKv_n b) g1, dr0 (z := "now") (r := [d]) ?_ (by unfold partsL; rw [show startN "now" = 2 by decide]; rfl) (by decide) hr ⟨(by show 2 ≤ 8; omega), (by show 3 ≤ 8; omega), g3, True.intro⟩ (by show max 0 (max (depD d) 0) + 1 ≤ n + 2; omega), hb, by omega, by omega⟩
        unfold shapeB
        rw [if_pos (by rw [now_len.1]; rfl)]
        simp only [if_true]
        exact g2
    · have c1 : ¬ (room : Int) < 2 := fun q => c (.inl q)
      have c2 : ¬ ((n + 1 : Nat) : Int) < 2 := fun q => c (.inr (.inl q))
      have c3 : ¬ w = 0 := fun q => c (.inr (.inr q))
      have ed : (((n + 1 : Nat) : Int) - 1) = (n : Int) := by omega
      by_cases c4 : w < 5 ∧ 2 < (room : Int)
      · have p2 := pick_eq (t := ta) (m := (room : Int) - 2) (by omega) (by omega) (by omega) (by omega)
        obtain ⟨v0, v1⟩ := pickV_range (t := ta) (m := (room : Int) - 2) (by omega)
        have t2n : (pickT ta ((room : Int) - 2)).n = ta.n + 1 := pickT_n ta _
        generalize pickV ta ((room : Int) - 2) = v at *
        generalize pickT ta ((room : Int) - 2) = tb at *
        obtain ⟨r1, hr1⟩ : ∃ r1 : Nat, (r1 : Int) = 1 + v := ⟨(1 + v).toNat, by omega⟩
        obtain ⟨r2, hr2⟩ : ∃ r2 : Nat, (r2 : Int) = (room : Int) - 1 - (1 + v) := ⟨((room : Int) - 1 - (1 + v)).toNat, by omega⟩
        obtain ⟨d1, ta1, b1, g1, g2, g3, g4, g5⟩ := ih (by omega) (i + 1) r1 (by omega) (by omega) (by omega) tb bs b (by omega) (by omega) (by omega) hs hb
        obtain ⟨d2, ta2, b2, k1, k2, k3, k4, k5⟩ := ih (by omega) (i + 1) r2 (by omega) (by omega) (by omega) ta1 bs (b + b1) (by omega) (by omega) (by omega) hs g3
        obtain ⟨y, y1, y2⟩ := at_or (x := .non) (l := [.str "both", .str "either", .str "till", .str "till"]) (i := w - 1) (by omega) (by simp only [List.length_cons, List.length_nil]; omega)
        obtain ⟨z, rfl, nb, zl, l2, s1, n1, n2⟩ : ∃ z, y = .str z ∧ isBnd z = false ∧ z.length ≤ 8 ∧ longI z = 3 ∧ startN z = 1 ∧ z ≠ "now" ∧ z ≠ "within" := by
          simp only [List.mem_cons, List.not_mem_nil, or_false] at y2
          rcases y2 with rfl | rfl | rfl | rfl <;> exact ⟨_, rfl, by decide, by decide, by decide, by decide, by decide, by decide⟩
        have dr := dr2 (n := n) (bs := bs) (z := z) (r := [d1, d2]) (shape_of (by rw [l2]; rfl) n1 n2 nb) (by unfold partsL; rw [s1]; rfl) nb g2 k2 ⟨(by show 3 ≤ 8; omega), fit1 zl, g2.fit, k2.fit, True.intro⟩ (by
          have := g2.dep
          have := k2.dep
          show max 0 (max (depD d1) (max (depD d2) 0)) + 1 ≤ n + 2
          omega)
        have ebb : ((b + (b1 + b2) : Nat) : Int) = ((b + b1 + b2 : Nat) : Int) := by omega
        refine ⟨_, ta2, b1 + b2, ?_, dr.more (by omega), by omega, by omega, by omega⟩
        rw [ebb]
        rw [hr1] at g1
        rw [hr2] at k1
        exact sv_two p1 c1 c2 c3 c4.1 c4.2 p2 (by rw [ed]; exact g1) (by rw [ed]; exact k1) y1
      · obtain ⟨d, t', bin, g1, g2, g3, g4, g5⟩ := inn_step (f := sayF i) (deep := n + 1) (room := room) (by omega) (by omega) (ih (by omega) i (room - 1) (by omega) (by omega) (by omega)) ta bs b (by omega) (by omega) hl hs hb
        exact ⟨d, t', bin, sv_in p1 c1 c2 c3 c4 g1, g2, g3, by omega, by omega⟩
end Ss

end
section
set_option Elab.async false
set_option linter.all false
set_option maxRecDepth 100000
namespace Ss
open PySem PySem.Spec PyProof.Rows L2 Sw
theorem flat_congr {f g : D → List D} : ∀ {ps : List D}, (∀ p ∈ ps, f p = g p) → ps.flatMap f = ps.flatMap g
  | [], _ => rfl
  | p :: ps, h => by rw [List.flatMap_cons, List.flatMap_cons, h p List.mem_cons_self, flat_congr fun q hq => h q (List.mem_cons_of_mem _ hq)]
theorem rng_len5 (n : Nat) : (rng 0 n).length = n := by unfold rng; rw [List.length_map, List.length_range]
theorem formed_up : ∀ {n : Nat} {bs : List Str} {d : D}, formed n bs d = true → formed (n + 1) bs d = true ∧ allL (n + 1) d = allL n d
  | 0, _, _, h => by cases h
  | n + 1, bs, d, h => by
    obtain ⟨z, r, rfl, h1, h2⟩ := formed_inv h
    have up := fun p hp => formed_up (h2 p hp)
    refine ⟨(formed_tup (n + 1) bs z r).mpr ⟨h1, fun p hp => (up p hp).1⟩, ?_⟩
    show (.tup (.str z :: r) : D) :: (partsL z r).flatMap (allL (n + 1)) = .tup (.str z :: r) :: (partsL z r).flatMap (allL n)
    rw [flat_congr fun p hp => (up p hp).2]
theorem formed_to {n m : Nat} {bs : List Str} {d : D} (hm : n ≤ m) (h : formed n bs d = true) : formed m bs d = true ∧ allL m d = allL n d := by
  induction m with
  | zero => obtain rfl : n = 0 := by omega
            exact ⟨h, rfl⟩
  | succ m ih =>
    by_cases e : n = m + 1
    · subst e; exact ⟨h, rfl⟩
    · obtain ⟨a, b⟩ := ih (by omega)
      obtain ⟨c, d⟩ := formed_up a
      exact ⟨c, d.trans b⟩
theorem Dr.say {deep room bin : Nat} {d : D} (h : Dr deep [] room bin d) (h1 : deep ≤ 8) (h2 : room ≤ 16) (h3 : bin ≤ 3) : sayB d = true := by
  obtain ⟨a, b⟩ := formed_to h1 h.fm
  have s := h.sz
  have n := h.bn
  unfold sizeN at s
  unfold binN at n
  unfold sayB sizeN binN
  rw [a, b]
  simp only [Bool.true_and, Bool.and_eq_true, decide_eq_true_eq]
  omega
def g__law_whole (f_law_saying : FM) : GS :=
  (sRet (eCall f_law_saying (uMut (eVar 0) (uMut (eDict [("names", (eF (eVar 1))), ("binders", (eC (.int 0)))]) (uVal (eF (eP fTup aNil)) (uVal (eF (eVar 2)) (uVal (eF (eVar 3)) uNil)))))))

def wholeG : FM := runB 4 (g__law_whole (sayF 17))
theorem wholeG_run : ∀ us r, wholeG us = some r → runB 4 (g__law_whole (sayF 17)) us = some r := fun _ _ h => h
theorem wKv_0 : mergeD [] [((.inr "names" : Key), D.lst nmL), (.inr "binders", .int 0)] = wKv 0 := rfl
theorem wholeG_ok {t : Tape} {room deep : Nat} (h0 : 0 ≤ t.n) (h1 : t.n < 600000) (r1 : 1 ≤ room) (r2 : room ≤ 16) (d1 : 1 ≤ deep) (d2 : deep ≤ 8) :
    ∃ d t', wholeG [.b (tp t), .t (.lst nmL), .t (.int room), .t (.int deep)] = some (.t d, [tp t']) ∧ sayB d = true ∧ Fit 8 d ∧ depD d ≤ 9 ∧ t.n ≤ t'.n ∧ t'.n ≤ t.n + 128 := by
  obtain ⟨d, t', bin, g1, g2, g3, g4, g5⟩ := say_ok deep d1 17 room (by omega) r1 (by omega) t [] 0 h0 (by omega) (by simp only [List.length_nil]; omega) (by simp) (by omega)
  have dp := g2.dep
  refine ⟨d, t', ?_, g2.say d2 r2 (by omega), g2.fit, by omega, g4, by omega⟩
  have g1 : sayF 17 [.b (tp t), .b (.dct (wKv 0)), .t (.tup []), .t (.int room), .t (.int deep)] = some (.t d, [tp t', .dct (wKv ((0 + bin : Nat) : Int))]) := g1
  have w0 := wKv_0
  show runB 4 (g__law_whole (sayF 17)) _ = _
  generalize sayF 17 = f at *
  generalize nmL = nl at *
  simp [runB, g__law_whole, outsOf, w0, g1]
def w1__law_grown (f_law_pick : FM) : GS :=
  (sSet 1 (eP fTup (aCons (eC (.str "next")) (aCons (eF (eVar 1)) aNil))))
def g__law_grown (f_law_pick : FM) : GS :=
  (sSeq (sSet 2 (eCall f_law_pick (uMut (eVar 0) (uVal (eC (.int 6)) uNil))))
  (sSeq (sIf (qB (eF (eP fLt (aCons (eF (eVar 2)) (aCons (eC (.int 2)) aNil))))) (sRet (eP fTup (aCons (eF (eP fIx (aCons (eF (eP fLst (aCons (eC (.str "always")) (aCons (eC (.str "not")) aNil)))) (aCons (eF (eVar 2)) aNil)))) (aCons (eF (eVar 1)) aNil)))) sNil)
  (sSeq (sIf (qB (eF (eP fEq (aCons (eF (eVar 2)) (aCons (eC (.int 2)) aNil))))) (sRet (eP fTup (aCons (eC (.str "both")) (aCons (eF (eVar 1)) (aCons (eF (eP fTup (aCons (eC (.str "now")) (aCons (eF (eP fTup (aCons (eC (.str "any")) aNil))) aNil)))) aNil))))) sNil)
  (sSeq (sIf (qB (eF (eP fEq (aCons (eF (eVar 2)) (aCons (eC (.int 3)) aNil))))) (sRet (eP fTup (aCons (eC (.str "each")) (aCons (eC (.str "a")) (aCons (eC (.str "x")) (aCons (eF (eP fTup (aCons (eC (.str "one")) (aCons (eC (.str "b")) (aCons (eC (.str "k")) (aCons (eF (eP fTup (aCons (eC (.str "both")) (aCons (eF (eP fTup (aCons (eC (.str "now")) (aCons (eF (eP fTup (aCons (eC (.str "less")) (aCons (eC (.str "k")) aNil)))) aNil)))) (aCons (eF (eVar 1)) aNil))))) aNil)))))) aNil)))))) sNil)
  (sSeq (sIf (qB (eF (eP fEq (aCons (eF (eVar 2)) (aCons (eC (.int 4)) aNil))))) (sRet (eP fTup (aCons (eC (.str "both")) (aCons (eF (eP fTup (aCons (eC (.str "each")) (aCons (eC (.str "a")) (aCons (eC (.str "x")) (aCons (eF (eP fTup (aCons (eC (.str "yes")) aNil))) aNil)))))) (aCons (eF (eP fTup (aCons (eC (.str "now")) (aCons (eF (eP fTup (aCons (eC (.str "same")) (aCons (eC (.str "x")) aNil)))) aNil)))) aNil))))) sNil)
  (sSeq (sFor (bName 3) (gRng1 (aCons (eF (eCall f_law_pick (uMut (eVar 0) (uVal (eC (.int 9)) uNil)))) aNil)) (w1__law_grown f_law_pick))
  (sRet (eVar 1))))))))

def grownF : FM := runB 4 (g__law_grown pickF)
theorem grown_run : ∀ us r, grownF us = some r → runB 4 (g__law_grown pickF) us = some r := fun _ _ h => h
theorem fit_tup {n : Nat} {ds : List D} (h : ds.length ≤ n) (hf : ∀ d ∈ ds, Fit n d) : Fit n (.tup ds) := by
  refine ⟨h, ?_⟩
  clear h
  induction ds with
  | nil => exact True.intro
  | cons d ds ih => exact ⟨hf d List.mem_cons_self, ih fun e he => hf e (List.mem_cons_of_mem _ he)⟩
theorem dep_tup {k : Nat} {ds : List D} (hf : ∀ d ∈ ds, depD d ≤ k) : depD (.tup ds) ≤ k + 1 := by
  have := depDs_le hf
  show depDs ds + 1 ≤ k + 1
  omega
theorem str_sm (n k : Nat) (z : Str) (h : z.length ≤ 8) (hn : 8 ≤ n) : Fit n (.str z) ∧ depD (.str z) ≤ k := ⟨Nat.le_trans h hn, Nat.zero_le _⟩
theorem tup_sm {n k : Nat} {ds : List D} (hl : ds.length ≤ n) (h : ∀ d ∈ ds, Fit n d ∧ depD d ≤ k) : Fit n (.tup ds) ∧ depD (.tup ds) ≤ k + 1 := ⟨fit_tup hl fun d hd => (h d hd).1, dep_tup fun d hd => (h d hd).2⟩
theorem grown_ok {t : Tape} {s : D} {n k : Nat} (h0 : 0 ≤ t.n) (h1 : t.n < 600000) (hn : 8 ≤ n) (hf : Fit n s) (hd : depD s ≤ k) :
    ∃ d t', grownF [.b (tp t), .t s] = some (.t d, [tp t']) ∧ Fit n d ∧ depD d ≤ k + 9 ∧ t.n ≤ t'.n ∧ t'.n ≤ t.n + 2 := by
  have p1 := pick_eq (t := t) (m := 6) (by omega) (by omega) h0 (by omega)
  obtain ⟨w0, w1⟩ := pickV_range (t := t) (m := 6) (by omega)
  have t1n : (pickT t 6).n = t.n + 1 := pickT_n t 6
  generalize pickV t 6 = w at *
  generalize pickT t 6 = ta at *
  have ss : Fit n s ∧ depD s ≤ k := ⟨hf, hd⟩
  have up : ∀ {d : D} {a b : Nat}, Fit n d ∧ depD d ≤ a → a ≤ b → Fit n d ∧ depD d ≤ b := fun h1 h2 => ⟨h1.1, Nat.le_trans h1.2 h2⟩
  have st : ∀ (z : Str) (b : Nat), z.length ≤ 8 → Fit n (.str z) ∧ depD (.str z) ≤ b := fun z b h => str_sm n b z h hn
  by_cases c1 : w < 2
  · obtain ⟨y, y1, y2⟩ := at_or (x := .non) (l := [.str "always", .str "not"]) w0 (by simp only [List.length_cons, List.length_nil]; omega)
    have hy : Fit n y ∧ depD y ≤ k := by
      simp only [List.mem_cons, List.not_mem_nil, or_false] at y2
      rcases y2 with rfl | rfl <;> exact st _ _ (by decide)
    have fin : Fit n (.tup [y, s]) ∧ depD (.tup [y, s]) ≤ k + 1 := tup_sm (by simp; omega) (by simp only [List.mem_cons, List.not_mem_nil, or_false]; rintro x (rfl | rfl); exact hy; exact ss)
    exact ⟨_, ta, by simp [grownF, runB, g__law_grown, p1, c1, y1, outsOf], fin.1, by omega, by omega, by omega⟩
  · by_cases c2 : w = 2
    · subst c2
      have a1 : Fit n (.tup [.str "any"]) ∧ depD (.tup [.str "any"]) ≤ k + 1 := tup_sm (by simp; omega) (by simp only [List.mem_cons, List.not_mem_nil, or_false]; rintro x rfl; exact st _ _ (by decide))
      have a2 : Fit n (.tup [.str "now", .tup [.str "any"]]) ∧ depD (.tup [.str "now", .tup [.str "any"]]) ≤ k + 2 := tup_sm (by simp; omega) (by simp only [List.mem_cons, List.not_mem_nil, or_false]; rintro x (rfl | rfl); exact st _ _ (by decide); exact a1)
      have fin : Fit n (.tup [.str "both", s, .tup [.str "now", .tup [.str "any"]]]) ∧ depD (.tup [.str "both", s, .tup [.str "now", .tup [.str "any"]]]) ≤ k + 3 := tup_sm (by simp; omega) (by simp only [List.mem_cons, List.not_mem_nil, or_false]; rintro x (rfl | rfl | rfl); exact st _ _ (by decide); exact up ss (by omega); exact a2)
      exact ⟨_, ta, by simp [grownF, runB, g__law_grown, p1, outsOf], fin.1, by omega, by omega, by omega⟩
    · by_cases c3 : w = 3
      · subst c3
        have a1 : Fit n (.tup [.str "less", .str "k"]) ∧ depD (.tup [.str "less", .str "k"]) ≤ k + 1 := tup_sm (by simp; omega) (by simp only [List.mem_cons, List.not_mem_nil, or_false]; rintro x (rfl | rfl) <;> exact st _ _ (by decide))
        have a2 : Fit n (.tup [.str "now", .tup [.str "less", .str "k"]]) ∧ depD (.tup [.str "now", .tup [.str "less", .str "k"]]) ≤ k + 2 := tup_sm (by simp; omega) (by simp only [List.mem_cons, List.not_mem_nil, or_false]; rintro x (rfl | rfl); exact st _ _ (by decide); exact a1)
        have a3 : Fit n (.tup [.str "both", .tup [.str "now", .tup [.str "less", .str "k"]], s]) ∧ depD (.tup [.str "both", .tup [.str "now", .tup [.str "less", .str "k"]], s]) ≤ k + 3 := tup_sm (by simp; omega) (by simp only [List.mem_cons, List.not_mem_nil, or_false]; rintro x (rfl | rfl | rfl); exact st _ _ (by decide); exact a2; exact up ss (by omega))
        have a4 : Fit n (.tup [.str "one", .str "b", .str "k", .tup [.str "both", .tup [.str "now", .tup [.str "less", .str "k"]], s]]) ∧ depD (.tup [.str "one", .str "b", .str "k", .tup [.str "both", .tup [.str "now", .tup [.str "less", .str "k"]], s]]) ≤ k + 4 := tup_sm (by simp; omega) (by simp only [List.mem_cons, List.not_mem_nil, or_false]; rintro x (rfl | rfl | rfl | rfl); exact st _ _ (by decide); exact st _ _ (by decide); exact st _ _ (by decide); exact a3)
        have fin : Fit n (.tup [.str "each", .str "a", .str "x", .tup [.str "one", .str "b", .str "k", .tup [.str "both", .tup [.str "now", .tup [.str "less", .str "k"]], s]]]) ∧ depD (.tup [.str "each", .str "a", .str "x", .tup [.str "one", .str "b", .str "k", .tup [.str "both", .tup [.str "now", .tup [.str "less", .str "k"]], s]]]) ≤ k + 5 := tup_sm (by simp; omega) (by simp only [List.mem_cons, List.not_mem_nil, or_false]; rintro x (rfl | rfl | rfl | rfl); exact st _ _ (by decide); exact st _ _ (by decide); exact st _ _ (by decide); exact a4)
        exact ⟨_, ta, by simp [grownF, runB, g__law_grown, p1, outsOf], fin.1, by omega, by omega, by omega⟩
      · by_cases c4 : w = 4
        · subst c4
          have a1 : Fit n (.tup [.str "yes"]) ∧ depD (.tup [.str "yes"]) ≤ k + 1 := tup_sm (by simp; omega) (by simp only [List.mem_cons, List.not_mem_nil, or_false]; rintro x rfl; exact st _ _ (by decide))
          have a2 : Fit n (.tup [.str "each", .str "a", .str "x", .tup [.str "yes"]]) ∧ depD (.tup [.str "each", .str "a", .str "x", .tup [.str "yes"]]) ≤ k + 2 := tup_sm (by simp; omega) (by simp only [List.mem_cons, List.not_mem_nil, or_false]; rintro x (rfl | rfl | rfl | rfl); exact st _ _ (by decide); exact st _ _ (by decide); exact st _ _ (by decide); exact a1)
          have a3 : Fit n (.tup [.str "same", .str "x"]) ∧ depD (.tup [.str "same", .str "x"]) ≤ k + 1 := tup_sm (by simp; omega) (by simp only [List.mem_cons, List.not_mem_nil, or_false]; rintro x (rfl | rfl) <;> exact st _ _ (by decide))
          have a4 : Fit n (.tup [.str "now", .tup [.str "same", .str "x"]]) ∧ depD (.tup [.str "now", .tup [.str "same", .str "x"]]) ≤ k + 2 := tup_sm (by simp; omega) (by simp only [List.mem_cons, List.not_mem_nil, or_false]; rintro x (rfl | rfl); exact st _ _ (by decide); exact a3)
          have fin : Fit n (.tup [.str "both", .tup [.str "each", .str "a", .str "x", .tup [.str "yes"]], .tup [.str "now", .tup [.str "same", .str "x"]]]) ∧ depD (.tup [.str "both", .tup [.str "each", .str "a", .str "x", .tup [.str "yes"]], .tup [.str "now", .tup [.str "same", .str "x"]]]) ≤ k + 3 := tup_sm (by simp; omega) (by simp only [List.mem_cons, List.not_mem_nil, or_false]; rintro x (rfl | rfl | rfl); exact st _ _ (by decide); exact a2; exact a4)
          exact ⟨_, ta, by simp [grownF, runB, g__law_grown, p1, outsOf], fin.1, by omega, by omega, by omega⟩
        · have p2 := pick_eq (t := ta) (m := 9) (by omega) (by omega) (by omega) (by omega)
          obtain ⟨v0, v1⟩ := pickV_range (t := ta) (m := 9) (by omega)
          have t2n : (pickT ta 9).n = ta.n + 1 := pickT_n ta 9
          generalize pickV ta 9 = v at *
          generalize pickT ta 9 = tb at *
          obtain ⟨S', e, d, x3, q3, f1, f2, rfl⟩ := loop_idx (bd := bName 3) (body := w1__law_grown pickF) (rng 0 v.toNat)
            (fun j S => ∃ d x3, isB x3 = false ∧ Fit n d ∧ depD d ≤ k + j ∧ S = [some (.b (tp tb)), some (.t d), some (.t (.int w)), x3])
            [some (.b (tp tb)), some (.t s), some (.t (.int w)), none] ⟨s, none, rfl, hf, hd, rfl⟩ (by
              rintro j d S hj ⟨d0, x3, q3, f1, f2, rfl⟩
              refine ⟨[some (.b (tp tb)), some (.t d0), some (.t (.int w)), some (.t d)], [some (.b (tp tb)), some (.t (.tup [.str "next", d0])), some (.t (.int w)), some (.t d)], by simp [-m_setU, m_setU2, q3], by simp [w1__law_grown], .tup [.str "next", d0], some (.t d), rfl, ?_⟩
              have := tup_sm (n := n) (k := k + j) (ds := [.str "next", d0]) (by simp; omega) (by simp only [List.mem_cons, List.not_mem_nil, or_false]; rintro x (rfl | rfl); exact st _ _ (by decide); exact ⟨f1, f2⟩)
              exact ⟨this.1, this.2, rfl⟩)
          rw [rng_len5] at f2
          refine ⟨d, tb, ?_, f1, by omega, by omega, by omega⟩
          have e4 : gRng1 (aCons (eF (eCall pickF (uMut (eVar 0) (uVal (eC (.int 9)) uNil)))) aNil) [some (.b (tp ta)), some (.t s), some (.t (.int w)), none] = some (rng 0 v.toNat, [some (.b (tp tb)), some (.t s), some (.t (.int w)), none]) := Sq.gRng1_int (by simp [p2]) (by omega) (by omega)
          simp [grownF, runB, g__law_grown, p1, c1, c2, c3, c4, -m_gRng1, e4, e, outsOf]
def g__law_beside : GS :=
  (sSeq (sSet 1 (eP fTup (aCons (eC (.str "both")) (aCons (eF (eP fTup (aCons (eC (.str "one")) (aCons (eC (.str "ab")) (aCons (eC (.str "x")) (aCons (eF (eP fTup (aCons (eC (.str "no")) aNil))) aNil)))))) (aCons (eF (eVar 0)) aNil)))))
  (sRet (eP fTup (aCons (eC (.str "both")) (aCons (eF (eP fTup (aCons (eC (.str "each")) (aCons (eC (.str "a")) (aCons (eC (.str "x")) (aCons (eF (eP fTup (aCons (eC (.str "yes")) aNil))) aNil)))))) (aCons (eF (eP fTup (aCons (eC (.str "either")) (aCons (eF (eP fTup (aCons (eC (.str "each")) (aCons (eC (.str "a")) (aCons (eC (.str "k")) (aCons (eF (eP fTup (aCons (eC (.str "now")) (aCons (eF (eP fTup (aCons (eC (.str "same")) (aCons (eC (.str "k")) aNil)))) aNil)))) aNil)))))) (aCons (eF (eVar 1)) aNil))))) aNil))))))

def besideF : FM := runB 2 g__law_beside
theorem beside_run : ∀ us r, besideF us = some r → runB 2 g__law_beside us = some r := fun _ _ h => h
def besD (l : D) : D := .tup [.str "both", .tup [.str "each", .str "a", .str "x", .tup [.str "yes"]], .tup [.str "either", .tup [.str "each", .str "a", .str "k", .tup [.str "now", .tup [.str "same", .str "k"]]], .tup [.str "both", .tup [.str "one", .str "ab", .str "x", .tup [.str "no"]], l]]]
theorem beside_ok (l : D) : besideF [.t l] = some (.t (besD l), []) := by simp [besideF, runB, g__law_beside, besD, outsOf]
theorem odd_sm {n k : Nat} (hn : 20 ≤ n) (hk : 1 ≤ k) (t : Tape) : Fit n (oddM t) ∧ depD (oddM t) ≤ k := by
  have p := pickV_range (t := t) (m := 17) (by omega)
  have hm : oddM t ∈ oddL := cons_get p.1 p.2
  have : ∀ x ∈ oddL, Fit 20 x ∧ depD x ≤ 1 := by
    intro x hx
    simp only [oddL, List.mem_cons, List.not_mem_nil, or_false] at hx
    rcases hx with rfl | rfl | rfl | rfl | rfl | rfl | rfl | rfl | rfl | rfl | rfl | rfl | rfl | rfl | rfl | rfl | rfl <;> refine ⟨?_, by decide⟩ <;> first | exact True.intro | (show _ ≤ 20; decide) | exact ⟨by decide, True.intro⟩ | exact ⟨by decide, (by show _ ≤ 20; decide), True.intro⟩ | exact ⟨by decide, (by show _ ≤ 20; decide), True.intro, True.intro⟩
  obtain ⟨a, b⟩ := this _ hm
  exact ⟨a.mono hn, Nat.le_trans b hk⟩
theorem way_sm {n k : Nat} (hn : 20 ≤ n) (t : Tape) {d : D} (h : Fit n d) (hd : depD d ≤ k) : Fit (2 * n + 2) (bentWay t d).1 ∧ depD (bentWay t d).1 ≤ k + 2 := by
  have od : ∀ t, Fit (2 * n + 2) (oddM t) ∧ depD (oddM t) ≤ k + 2 := fun t => odd_sm (by omega) (by omega) t
  unfold bentWay
  cases d with
  | tup ds =>
    dsimp only
    split
    · rename_i c
      have p := pickV_range (t := t) (m := 8) (by omega)
      have hlt : (pickV t 8).toNat < 5 := by omega
      have hl : ds.length ≤ n := h.1
      have hfs : Fits (2 * n + 2) ds := Fits.mono (by omega) h.2
      have hds : depDs ds + 1 ≤ k := hd
      have cl := fun lo hi => cutD_length ds lo hi
      have cd := fun lo hi => depDs_cut ds lo hi
      have all : ∀ y ∈ ([.tup (L2.cutD ds none (some (pickV (pickT t 8) (ds.length + 1)))), .tup (ds ++ L2.cutD ds (some (pickV (pickT t 8) (ds.length + 1))) none), .tup (L2.cutD ds none (some (pickV (pickT t 8) (ds.length + 1))) ++ L2.cutD ds (some (pickV (pickT t 8) (ds.length + 1) + 1)) none), .lst ds, .tup (ds ++ [.tup ds])] : List D), Fit (2 * n + 2) y ∧ depD y ≤ k + 2 := by
        intro y hy
        simp only [List.mem_cons, List.not_mem_nil, or_false] at hy
        rcases hy with rfl | rfl | rfl | rfl | rfl
        · exact ⟨⟨by have := cl none (some (pickV (pickT t 8) (ds.length + 1))); omega, hfs.cut _ _⟩, by show depDs _ + 1 ≤ _; have := cd none (some (pickV (pickT t 8) (ds.length + 1))); omega⟩
        · exact ⟨⟨by rw [List.length_append]; have := cl (some (pickV (pickT t 8) (ds.length + 1))) none; omega, hfs.append (hfs.cut _ _)⟩, by show depDs _ + 1 ≤ _; rw [depDs_append]; have := cd (some (pickV (pickT t 8) (ds.length + 1))) none; omega⟩
        · exact ⟨⟨by rw [List.length_append]; have := cl none (some (pickV (pickT t 8) (ds.length + 1))); have := cl (some (pickV (pickT t 8) (ds.length + 1) + 1)) none; omega, (hfs.cut _ _).append (hfs.cut _ _)⟩, by show depDs _ + 1 ≤ _; rw [depDs_append]; have := cd none (some (pickV (pickT t 8) (ds.length + 1))); have := cd (some (pickV (pickT t 8) (ds.length + 1) + 1)) none; omega⟩
        · exact ⟨⟨by omega, hfs⟩, by show depDs _ + 1 ≤ _; omega⟩
        · exact ⟨⟨by rw [List.length_append, List.length_singleton]; omega, hfs.append ⟨⟨by omega, hfs⟩, True.intro⟩⟩, by show depDs _ + 1 ≤ _; rw [depDs_append]; show max _ (max (depDs ds + 1) 0) + 1 ≤ _; omega⟩
      have hm := cons_get (α := D) (l := [.tup (L2.cutD ds none (some (pickV (pickT t 8) (ds.length + 1)))), .tup (ds ++ L2.cutD ds (some (pickV (pickT t 8) (ds.length + 1))) none), .tup (L2.cutD ds none (some (pickV (pickT t 8) (ds.length + 1))) ++ L2.cutD ds (some (pickV (pickT t 8) (ds.length + 1) + 1)) none), .lst ds, .tup (ds ++ [.tup ds])]) (i := pickV t 8) (x := .non) p.1 (by simp only [List.length_cons, List.length_nil]; omega)
      exact all _ hm
    · exact od _
  | int i =>
    dsimp only
    split
    · rename_i c
      have p := pickV_range (t := t) (m := 8) (by omega)
      have hm := cons_get (α := D) (l := [.int (i + 1), .int (i - 1), .int 5, .int 9, .int 10]) (i := pickV t 8) (x := .non) p.1 (by simp only [List.length_cons, List.length_nil]; omega)
      have all : ∀ y ∈ ([.int (i + 1), .int (i - 1), .int 5, .int 9, .int 10] : List D), Fit (2 * n + 2) y ∧ depD y ≤ k + 2 := by
        intro y hy
        simp only [List.mem_cons, List.not_mem_nil, or_false] at hy
        rcases hy with rfl | rfl | rfl | rfl | rfl <;> exact ⟨True.intro, Nat.zero_le _⟩
      exact all _ hm
    · exact od _
  | str z =>
    dsimp only
    split
    · rename_i c
      have p := pickV_range (t := t) (m := 8) (by omega)
      have hz : z.length ≤ n := h
      have hm := cons_get (α := D) (l := [.str (z ++ ("a" : Str)), .str (Txt.slice z (some 1) none), .str (z ++ ("A" : Str)), .str "x", .str "now", .str "less"]) (i := pickV t 8) (x := .non) p.1 (by simp only [List.length_cons, List.length_nil]; omega)
      have all : ∀ y ∈ ([.str (z ++ ("a" : Str)), .str (Txt.slice z (some 1) none), .str (z ++ ("A" : Str)), .str "x", .str "now", .str "less"] : List D), Fit (2 * n + 2) y ∧ depD y ≤ k + 2 := by
        intro y hy
        simp only [List.mem_cons, List.not_mem_nil, or_false] at hy
        rcases hy with rfl | rfl | rfl | rfl | rfl | rfl
        · exact ⟨(by show (z ++ ("a" : Str)).length ≤ _; rw [strLen_append]; show z.length + 1 ≤ _; omega), Nat.zero_le _⟩
        · exact ⟨Nat.le_trans (Txt.slice_le z _ _) (by omega), Nat.zero_le _⟩
        · exact ⟨(by show (z ++ ("A" : Str)).length ≤ _; rw [strLen_append]; show z.length + 1 ≤ _; omega), Nat.zero_le _⟩
        · exact ⟨(by show 1 ≤ _; omega), Nat.zero_le _⟩
        · exact ⟨(by show 3 ≤ _; omega), Nat.zero_le _⟩
        · exact ⟨(by show 4 ≤ _; omega), Nat.zero_le _⟩
      exact all _ hm
    · exact od _
  | non => exact od _
  | bl b => exact od _
  | lst ds => exact od _
theorem bent_sm {n : Nat} (hn : 20 ≤ n) : ∀ (k : Nat) (t : Tape) (d : D) (dd : Nat), Fit n d → depD d ≤ dd → Fit (2 * n + 2) (bentM k t d).1 ∧ depD (bentM k t d).1 ≤ dd + 2
  | 0, t, d, dd, h, hd => by
    have e : bentM 0 t d = bentWay t d := by cases d <;> rfl
    rw [e]; exact way_sm hn t h hd
  | k + 1, t, d, dd, h, hd => by
    cases d with
    | tup ds =>
      unfold bentM
      split
      · exact way_sm hn t h hd
      · rename_i hl
        split
        · have c1 : (0 : Int) < ds.length := by omega
          have p2 := pickV_range (t := pickT t 4) (m := ds.length) c1
          have hmem := cons_get (α := D) (x := .non) p2.1 p2.2
          have d0 : depDs ds + 1 ≤ dd := hd
          have dx := mem_depDs hmem
          have ih := bent_sm hn k (pickT (pickT t 4) ds.length) _ (dd - 1) (Fits.mem h.2 hmem) (by omega)
          generalize (bentM k (pickT (pickT t 4) ds.length) (ds.getD (pickV (pickT t 4) ds.length).toNat .non)).1 = x at ih
          have hfs : Fits (2 * n + 2) ds := Fits.mono (by omega) h.2
          have hl5 : ds.length ≤ n := h.1
          have c2 := cutD_length ds none (some (pickV (pickT t 4) ds.length))
          have c3 := cutD_length ds (some (pickV (pickT t 4) ds.length + 1)) none
          have e1 := depDs_cut ds none (some (pickV (pickT t 4) ds.length))
          have e2 := depDs_cut ds (some (pickV (pickT t 4) ds.length + 1)) none
          refine ⟨⟨?_, ((hfs.cut _ _).append (show Fits (2 * n + 2) [x] from ⟨ih.1, True.intro⟩)).append (hfs.cut _ _)⟩, ?_⟩
          · rw [List.length_append, List.length_append, List.length_singleton]; omega
          · show depDs _ + 1 ≤ dd + 2
            rw [depDs_append, depDs_append]
            show max (max _ (max (depD x) 0)) _ + 1 ≤ _
            have := ih.2
            omega
        · exact way_sm hn _ h hd
    | non => exact way_sm hn t h hd
    | bl b => exact way_sm hn t h hd
    | int b => exact way_sm hn t h hd
    | str b => exact way_sm hn t h hd
    | lst b => exact way_sm hn t h hd
theorem bentF_eq5 {j : Nat} {t : Tape} {d : D} {k : Int} (h0 : 0 ≤ k) (h1 : k < j) (hf : Fit 5000 d) (h : 0 ≤ t.n) (h2 : t.n + 2 * k < 600000) : bentFn j [.b (tp t), .t d, .t (.int k)] = some (.t (bentM k.toNat t d).1, [tp (bentM k.toNat t d).2]) := by
  unfold bentFn
  simp only [tp, tapeOf_kvs, Option.bind_some]
  rw [if_pos ⟨h0, h1, hf, h, h2⟩]
end Ss

end
section
set_option Elab.async false
set_option linter.all false
set_option maxRecDepth 100000
namespace Ss
open PySem PySem.Spec PyProof.Rows L2 Sw
def w1_law (f_law_beside : FM) (fis_saying : FM) (f_law_is_saying : FM) (f_law_tape : FM) (f_law_whole : FM) (f_law_names : FM) (f_law_pick : FM) (f_law_bent : FM) (f_law_grown : FM) (f_law_odd : FM) : GS :=
  (sSeq (sSet 3 (eCall fis_saying (uVal (eF (eVar 2)) uNil)))
  (sIf (qOr (qNot (qB (eIs ["bool"] (eF (eVar 3))))) (qB (eF (eP fNe (aCons (eF (eVar 3)) (aCons (eF (eCall f_law_is_saying (uVal (eF (eVar 2)) (uVal (eF (eP fLst aNil)) (uVal (eC (.int 1)) (uMut (eP fLst (aCons (eC (.int 0)) (aCons (eC (.int 0)) aNil))) uNil)))))) aNil)))))) (sRet (eT (eC (.bl false)))) sNil))
def w2_law (f_law_beside : FM) (fis_saying : FM) (f_law_is_saying : FM) (f_law_tape : FM) (f_law_whole : FM) (f_law_names : FM) (f_law_pick : FM) (f_law_bent : FM) (f_law_grown : FM) (f_law_odd : FM) : GS :=
  (sSeq (sSet 3 (eCall fis_saying (uVal (eF (eVar 2)) uNil)))
  (sIf (qOr (qNot (qB (eIs ["bool"] (eF (eVar 3))))) (qB (eF (eP fNe (aCons (eF (eVar 3)) (aCons (eF (eCall f_law_is_saying (uVal (eF (eVar 2)) (uVal (eF (eP fLst aNil)) (uVal (eC (.int 1)) (uMut (eP fLst (aCons (eC (.int 0)) (aCons (eC (.int 0)) aNil))) uNil)))))) aNil)))))) (sRet (eT (eC (.bl false)))) sNil))
def w3_law (f_law_beside : FM) (fis_saying : FM) (f_law_is_saying : FM) (f_law_tape : FM) (f_law_whole : FM) (f_law_names : FM) (f_law_pick : FM) (f_law_bent : FM) (f_law_grown : FM) (f_law_odd : FM) : GS :=
  (sSeq (sSet 5 (eCall f_law_tape (uMut (eVar 0) (uVal (eF (eVar 4)) uNil))))
  (sSeq (sSet 6 (eCall f_law_whole (uMut (eVar 5) (uVal (eF (eCall f_law_names uNil)) (uVal (eF (eP fAdd (aCons (eC (.int 1)) (aCons (eF (eCall f_law_pick (uMut (eVar 5) (uVal (eC (.int 16)) uNil)))) aNil)))) (uVal (eF (eP fAdd (aCons (eC (.int 1)) (aCons (eF (eCall f_law_pick (uMut (eVar 5) (uVal (eC (.int 8)) uNil)))) aNil)))) uNil))))))
  (sSeq (sIf (qB (eF (eP fIsNotB (aCons (eF (eCall fis_saying (uVal (eF (eVar 6)) uNil))) (aCons (eC (.bl true)) aNil))))) (sRet (eT (eC (.bl false)))) sNil)
  (sSeq (sSet 7 (eCall f_law_bent (uMut (eVar 5) (uVal (eF (eVar 6)) (uVal (eC (.int 6)) uNil)))))
  (sSeq (sSet 1 (eP fLst (aCons (eF (eVar 7)) (aCons (eF (eCall f_law_bent (uMut (eVar 5) (uVal (eF (eVar 7)) (uVal (eC (.int 6)) uNil))))) (aCons (eF (eCall f_law_grown (uMut (eVar 5) (uVal (eF (eVar 6)) uNil)))) (aCons (eF (eP fList (aCons (eF (eVar 6)) aNil))) (aCons (eF (eCall f_law_odd (uMut (eVar 5) uNil))) aNil)))))))
  (sFor (bName 2) (iAny (eF (eP fAdd (aCons (eF (eVar 1)) (aCons (eF (eP fLst (aCons (eF (eCall f_law_grown (uMut (eVar 5) (uVal (eF (eCall f_law_grown (uMut (eVar 5) (uVal (eF (eVar 6)) uNil)))) uNil)))) aNil))) aNil))))) (w2_law f_law_beside fis_saying f_law_is_saying f_law_tape f_law_whole f_law_names f_law_pick f_law_bent f_law_grown f_law_odd)))))))
def g_law (f_law_beside : FM) (fis_saying : FM) (f_law_is_saying : FM) (f_law_tape : FM) (f_law_whole : FM) (f_law_names : FM) (f_law_pick : FM) (f_law_bent : FM) (f_law_grown : FM) (f_law_odd : FM) : GS :=
  (sSeq (sSet 1 (eP fLst (aCons (eF (eCall f_law_beside (uVal (eF (eP fTup (aCons (eC (.str "yes")) aNil))) uNil))) (aCons (eF (eCall f_law_beside (uVal (eF (eP fTup (aCons (eC (.str "one")) (aCons (eC (.str "a")) (aCons (eC (.str "x")) (aCons (eF (eP fTup (aCons (eC (.str "yes")) aNil))) aNil)))))) uNil))) (aCons (eF (eP fTup (aCons (eF (eP fLst (aCons (eC (.str "now")) aNil))) (aCons (eF (eP fTup (aCons (eC (.str "any")) aNil))) aNil)))) (aCons (eF (eP fTup (aCons (eF (eP fLst aNil)) (aCons (eC (.int 0)) aNil)))) (aCons (eF (eP fLst (aCons (eF (eP fTup (aCons (eC (.str "yes")) aNil))) aNil))) aNil)))))))
  (sSeq (sSet 1 (eP fAdd (aCons (eF (eVar 1)) (aCons (eF (eP fLst (aCons (eF (eP fTup (aCons (eC (.str "now")) (aCons (eF (eP fTup (aCons (eF (eP fLst (aCons (eC (.str "any")) aNil))) aNil))) aNil)))) (aCons (eF (eP fTup (aCons (eC (.str "now")) (aCons (eF (eP fLst (aCons (eC (.str "any")) aNil))) aNil)))) (aCons (eF (eP fTup (aCons (eC (.str "now")) (aCons (eF (eP fTup (aCons (eF (eP fLst aNil)) (aCons (eC (.int 1)) aNil)))) aNil)))) (aCons (eF (eP fTup (aCons (eC (.str "each")) (aCons (eF (eP fLst (aCons (eC (.str "a")) aNil))) (aCons (eC (.str "x")) (aCons (eF (eP fTup (aCons (eC (.str "yes")) aNil))) aNil)))))) aNil)))))) aNil))))
  (sSeq (sFor (bName 2) (iAny (eF (eP fAdd (aCons (eF (eVar 1)) (aCons (eF (eP fLst (aCons (eF (eP fTup (aCons (eC (.str "each")) (aCons (eC (.str "a")) (aCons (eF (eP fLst (aCons (eC (.str "x")) aNil))) (aCons (eF (eP fTup (aCons (eC (.str "yes")) aNil))) aNil)))))) (aCons (eF (eP fTup (aCons (eC (.str "within")) (aCons (eF (eP fLst (aCons (eC (.int 1)) aNil))) (aCons (eF (eP fTup (aCons (eC (.str "yes")) aNil))) aNil))))) (aCons (eF (eP fTup (aCons (eC (.str "not")) (aCons (eF (eP fLst (aCons (eF (eP fTup (aCons (eC (.str "yes")) aNil))) aNil))) aNil)))) aNil))))) aNil))))) (w1_law f_law_beside fis_saying f_law_is_saying f_law_tape f_law_whole f_law_names f_law_pick f_law_bent f_law_grown f_law_odd))
  (sSeq (sFor (bName 4) (gRng1 (aCons (eF (eP fAdd (aCons (eC (.int 1)) (aCons (eF (eP fLen (aCons (eF (eSlS 0 none (some (eC (.int 14))))) aNil))) aNil)))) aNil)) (w3_law f_law_beside fis_saying f_law_is_saying f_law_tape f_law_whole f_law_names f_law_pick f_law_bent f_law_grown f_law_odd))
  (sRet (eT (eC (.bl true))))))))

def lw0 (f_law_beside : FM) (fis_saying : FM) (f_law_is_saying : FM) (f_law_tape : FM) (f_law_whole : FM) (f_law_names : FM) (f_law_pick : FM) (f_law_bent : FM) (f_law_grown : FM) (f_law_odd : FM) : GS :=
  (sSet 1 (eP fLst (aCons (eF (eCall f_law_beside (uVal (eF (eP fTup (aCons (eC (.str "yes")) aNil))) uNil))) (aCons (eF (eCall f_law_beside (uVal (eF (eP fTup (aCons (eC (.str "one")) (aCons (eC (.str "a")) (aCons (eC (.str "x")) (aCons (eF (eP fTup (aCons (eC (.str "yes")) aNil))) aNil)))))) uNil))) (aCons (eF (eP fTup (aCons (eF (eP fLst (aCons (eC (.str "now")) aNil))) (aCons (eF (eP fTup (aCons (eC (.str "any")) aNil))) aNil)))) (aCons (eF (eP fTup (aCons (eF (eP fLst aNil)) (aCons (eC (.int 0)) aNil)))) (aCons (eF (eP fLst (aCons (eF (eP fTup (aCons (eC (.str "yes")) aNil))) aNil))) aNil)))))))
def lw1 (f_law_beside : FM) (fis_saying : FM) (f_law_is_saying : FM) (f_law_tape : FM) (f_law_whole : FM) (f_law_names : FM) (f_law_pick : FM) (f_law_bent : FM) (f_law_grown : FM) (f_law_odd : FM) : GS :=
  (sSet 1 (eP fAdd (aCons (eF (eVar 1)) (aCons (eF (eP fLst (aCons (eF (eP fTup (aCons (eC (.str "now")) (aCons (eF (eP fTup (aCons (eF (eP fLst (aCons (eC (.str "any")) aNil))) aNil))) aNil)))) (aCons (eF (eP fTup (aCons (eC (.str "now")) (aCons (eF (eP fLst (aCons (eC (.str "any")) aNil))) aNil)))) (aCons (eF (eP fTup (aCons (eC (.str "now")) (aCons (eF (eP fTup (aCons (eF (eP fLst aNil)) (aCons (eC (.int 1)) aNil)))) aNil)))) (aCons (eF (eP fTup (aCons (eC (.str "each")) (aCons (eF (eP fLst (aCons (eC (.str "a")) aNil))) (aCons (eC (.str "x")) (aCons (eF (eP fTup (aCons (eC (.str "yes")) aNil))) aNil)))))) aNil)))))) aNil))))
def lw2 (f_law_beside : FM) (fis_saying : FM) (f_law_is_saying : FM) (f_law_tape : FM) (f_law_whole : FM) (f_law_names : FM) (f_law_pick : FM) (f_law_bent : FM) (f_law_grown : FM) (f_law_odd : FM) : GS :=
  (sFor (bName 2) (iAny (eF (eP fAdd (aCons (eF (eVar 1)) (aCons (eF (eP fLst (aCons (eF (eP fTup (aCons (eC (.str "each")) (aCons (eC (.str "a")) (aCons (eF (eP fLst (aCons (eC (.str "x")) aNil))) (aCons (eF (eP fTup (aCons (eC (.str "yes")) aNil))) aNil)))))) (aCons (eF (eP fTup (aCons (eC (.str "within")) (aCons (eF (eP fLst (aCons (eC (.int 1)) aNil))) (aCons (eF (eP fTup (aCons (eC (.str "yes")) aNil))) aNil))))) (aCons (eF (eP fTup (aCons (eC (.str "not")) (aCons (eF (eP fLst (aCons (eF (eP fTup (aCons (eC (.str "yes")) aNil))) aNil))) aNil)))) aNil))))) aNil))))) (w1_law f_law_beside fis_saying f_law_is_saying f_law_tape f_law_whole f_law_names f_law_pick f_law_bent f_law_grown f_law_odd))
def lw3 (f_law_beside : FM) (fis_saying : FM) (f_law_is_saying : FM) (f_law_tape : FM) (f_law_whole : FM) (f_law_names : FM) (f_law_pick : FM) (f_law_bent : FM) (f_law_grown : FM) (f_law_odd : FM) : GS :=
  (sFor (bName 4) (gRng1 (aCons (eF (eP fAdd (aCons (eC (.int 1)) (aCons (eF (eP fLen (aCons (eF (eSlS 0 none (some (eC (.int 14))))) aNil))) aNil)))) aNil)) (w3_law f_law_beside fis_saying f_law_is_saying f_law_tape f_law_whole f_law_names f_law_pick f_law_bent f_law_grown f_law_odd))
def lw4 (f_law_beside : FM) (fis_saying : FM) (f_law_is_saying : FM) (f_law_tape : FM) (f_law_whole : FM) (f_law_names : FM) (f_law_pick : FM) (f_law_bent : FM) (f_law_grown : FM) (f_law_odd : FM) : GS :=
  (sRet (eT (eC (.bl true))))
theorem lw_eq (f_law_beside : FM) (fis_saying : FM) (f_law_is_saying : FM) (f_law_tape : FM) (f_law_whole : FM) (f_law_names : FM) (f_law_pick : FM) (f_law_bent : FM) (f_law_grown : FM) (f_law_odd : FM) : g_law f_law_beside fis_saying f_law_is_saying f_law_tape f_law_whole f_law_names f_law_pick f_law_bent f_law_grown f_law_odd = sSeq (lw0 f_law_beside fis_saying f_law_is_saying f_law_tape f_law_whole f_law_names f_law_pick f_law_bent f_law_grown f_law_odd) (sSeq (lw1 f_law_beside fis_saying f_law_is_saying f_law_tape f_law_whole f_law_names f_law_pick f_law_bent f_law_grown f_law_odd) (sSeq (lw2 f_law_beside fis_saying f_law_is_saying f_law_tape f_law_whole f_law_names f_law_pick f_law_bent f_law_grown f_law_odd) (sSeq (lw3 f_law_beside fis_saying f_law_is_saying f_law_tape f_law_whole f_law_names f_law_pick f_law_bent f_law_grown f_law_odd) (lw4 f_law_beside fis_saying f_law_is_saying f_law_tape f_law_whole f_law_names f_law_pick f_law_bent f_law_grown f_law_odd)))) := rfl

def OkT (f2 f3 : FM) (d : D) : Prop := ∃ b o, f2 [.t d] = some (.t (.bl b), []) ∧ f3 [.t d, .t (.lst []), .t (.int 1), .b (cn 0 0)] = some (.t (.bl b), [o])
section
variable {f1 f2 f3 f4 f5 f6 f7 f8 f9 f10 : FM} {a0 a1 a4 a5 a6 a7 : Option U}
theorem lw_turn {x3 : Option U} {d : D} (h3 : isB x3 = false) (h : OkT f2 f3 d) : ∃ y3, isB y3 = false ∧ w1_law f1 f2 f3 f4 f5 f6 f7 f8 f9 f10 [a0, a1, some (.t d), x3, a4, a5, a6, a7] = some (.nx [a0, a1, some (.t d), y3, a4, a5, a6, a7]) := by
  obtain ⟨b, o, e1, e2⟩ := h
  refine ⟨some (.t (.bl b)), rfl, ?_⟩
  simp only [cn] at e2
  simp [w1_law, -m_setU, m_setU2, h3, e1, isTys, isTy, isBlD, e2]
theorem lw_loop : ∀ (L : List D) (x2 x3 : Option U), isB x2 = false → isB x3 = false → (∀ d ∈ L, OkT f2 f3 d) → ∃ y2 y3, isB y2 = false ∧ isB y3 = false ∧ loop (bName 2) (w1_law f1 f2 f3 f4 f5 f6 f7 f8 f9 f10) L [a0, a1, x2, x3, a4, a5, a6, a7] = some (.nx [a0, a1, y2, y3, a4, a5, a6, a7])
  | [], x2, x3, h2, h3, _ => ⟨x2, x3, h2, h3, rfl⟩
  | d :: L, x2, x3, h2, h3, h => by
    obtain ⟨y3, q3, e⟩ := lw_turn (f1 := f1) (f4 := f4) (f5 := f5) (f6 := f6) (f7 := f7) (f8 := f8) (f9 := f9) (f10 := f10) (a0 := a0) (a1 := a1) (a4 := a4) (a5 := a5) (a6 := a6) (a7 := a7) h3 (h d List.mem_cons_self)
    obtain ⟨z2, z3, r2, r3, e2⟩ := lw_loop L (some (.t d)) y3 rfl q3 fun x hx => h x (List.mem_cons_of_mem _ hx)
    refine ⟨z2, z3, r2, r3, ?_⟩
    have eb : bName 2 d [a0, a1, x2, x3, a4, a5, a6, a7] = some [a0, a1, some (.t d), x3, a4, a5, a6, a7] := by simp [-m_setU, m_setU2, h2]
    rw [loop_cons, eb, Option.bind_some, e, Option.bind_some]
    exact e2
theorem w21 : w2_law f1 f2 f3 f4 f5 f6 f7 f8 f9 f10 = w1_law f1 f2 f3 f4 f5 f6 f7 f8 f9 f10 := rfl
theorem w3_turn {ns : List Int} {k a b : Int} {x1 x2 x3 x5 x6 x7 : Option U} {T0 T1 T2 T3 T4 T5 T6 T7 T8 T9 : MO} {nl dl : List D} {d1 d2 d3 d4 d5 d6 : D} (h1 : isB x1 = false) (h2 : isB x2 = false) (h3 : isB x3 = false) (h5 : isB x5 = false) (h6 : isB x6 = false) (h7 : isB x7 = false)
    (e4 : f4 [.s ns, .t (.int k)] = some (.m T0, [])) (e6 : f6 [] = some (.m (.lst nl), [])) (p1 : f7 [.b T0, .t (.int 16)] = some (.t (.int a), [T1])) (p2 : f7 [.b T1, .t (.int 8)] = some (.t (.int b), [T2]))
    (e5 : f5 [.b T2, .t (.lst nl), .t (.int (1 + a)), .t (.int (1 + b))] = some (.t (.tup dl), [T3])) (e2 : f2 [.t (.tup dl)] = some (.t (.bl true), []))
    (e8 : f8 [.b T3, .t (.tup dl), .t (.int 6)] = some (.t d1, [T4])) (e81 : f8 [.b T4, .t d1, .t (.int 6)] = some (.t d2, [T5])) (e9 : f9 [.b T5, .t (.tup dl)] = some (.t d3, [T6])) (e10 : f10 [.b T6] = some (.t d4, [T7]))
    (e91 : f9 [.b T7, .t (.tup dl)] = some (.t d5, [T8])) (e92 : f9 [.b T8, .t d5] = some (.t d6, [T9])) (ok : ∀ d ∈ [d1, d2, d3, .lst dl, d4, d6], OkT f2 f3 d) :
    ∃ y1 y2 y3 y5 y6 y7, isB y1 = false ∧ isB y2 = false ∧ isB y3 = false ∧ isB y5 = false ∧ isB y6 = false ∧ isB y7 = false ∧ w3_law f1 f2 f3 f4 f5 f6 f7 f8 f9 f10 [some (.s ns), x1, x2, x3, some (.t (.int k)), x5, x6, x7] = some (.nx [some (.s ns), y1, y2, y3, some (.t (.int k)), y5, y6, y7]) := by
  obtain ⟨y2, y3, q2, q3, lp⟩ := lw_loop (f1 := f1) (f2 := f2) (f3 := f3) (f4 := f4) (f5 := f5) (f6 := f6) (f7 := f7) (f8 := f8) (f9 := f9) (f10 := f10) (a0 := some (.s ns)) (a1 := some (.t (.lst [d1, d2, d3, .lst dl, d4]))) (a4 := some (.t (.int k))) (a5 := some (.m T9)) (a6 := some (.t (.tup dl))) (a7 := some (.t d1)) [d1, d2, d3, .lst dl, d4, d6] x2 x3 h2 h3 ok
  refine ⟨some (.t (.lst [d1, d2, d3, .lst dl, d4])), y2, y3, some (.m T9), some (.t (.tup dl)), some (.t d1), rfl, q2, q3, rfl, rfl, rfl, ?_⟩
  unfold w3_law
  rw [w21]
  have s1 : sSet 5 (eCall f4 (uMut (eVar 0) (uVal (eF (eVar 4)) uNil))) [some (.s ns), x1, x2, x3, some (.t (.int k)), x5, x6, x7] = some (.nx [some (.s ns), x1, x2, x3, some (.t (.int k)), some (.m T0), x6, x7]) := by simp [-m_setU, m_setU2, h5, e4]
  have s2 : sSet 6 (eCall f5 (uMut (eVar 5) (uVal (eF (eCall f6 uNil)) (uVal (eF (eP fAdd (aCons (eC (.int 1)) (aCons (eF (eCall f7 (uMut (eVar 5) (uVal (eC (.int 16)) uNil)))) aNil)))) (uVal (eF (eP fAdd (aCons (eC (.int 1)) (aCons (eF (eCall f7 (uMut (eVar 5) (uVal (eC (.int 8)) uNil)))) aNil)))) uNil))))) [some (.s ns), x1, x2, x3, some (.t (.int k)), some (.m T0), x6, x7] = some (.nx [some (.s ns), x1, x2, x3, some (.t (.int k)), some (.m T3), some (.t (.tup dl)), x7]) := by simp [-m_setU, m_setU2, h6, e6, p1, p2, e5]
  have s3 : sIf (qB (eF (eP fIsNotB (aCons (eF (eCall f2 (uVal (eF (eVar 6)) uNil))) (aCons (eC (.bl true)) aNil))))) (sRet (eT (eC (.bl false)))) sNil [some (.s ns), x1, x2, x3, some (.t (.int k)), some (.m T3), some (.t (.tup dl)), x7] = some (.nx [some (.s ns), x1, x2, x3, some (.t (.int k)), some (.m T3), some (.t (.tup dl)), x7]) := by simp [e2, fIsNotB]
  have s4 : sSet 7 (eCall f8 (uMut (eVar 5) (uVal (eF (eVar 6)) (uVal (eC (.int 6)) uNil)))) [some (.s ns), x1, x2, x3, some (.t (.int k)), some (.m T3), some (.t (.tup dl)), x7] = some (.nx [some (.s ns), x1, x2, x3, some (.t (.int k)), some (.m T4), some (.t (.tup dl)), some (.t d1)]) := by simp [-m_setU, m_setU2, h7, e8]
  have s5 : sSet 1 (eP fLst (aCons (eF (eVar 7)) (aCons (eF (eCall f8 (uMut (eVar 5) (uVal (eF (eVar 7)) (uVal (eC (.int 6)) uNil))))) (aCons (eF (eCall f9 (uMut (eVar 5) (uVal (eF (eVar 6)) uNil)))) (aCons (eF (eP fList (aCons (eF (eVar 6)) aNil))) (aCons (eF (eCall f10 (uMut (eVar 5) uNil))) aNil)))))) [some (.s ns), x1, x2, x3, some (.t (.int k)), some (.m T4), some (.t (.tup dl)), some (.t d1)] = some (.nx [some (.s ns), some (.m (.lst [d1, d2, d3, .lst dl, d4])), x2, x3, some (.t (.int k)), some (.m T7), some (.t (.tup dl)), some (.t d1)]) := by simp [-m_setU, m_setU2, h1, e81, e9, e10]
  have s6 : iAny (eF (eP fAdd (aCons (eF (eVar 1)) (aCons (eF (eP fLst (aCons (eF (eCall f9 (uMut (eVar 5) (uVal (eF (eCall f9 (uMut (eVar 5) (uVal (eF (eVar 6)) uNil)))) uNil)))) aNil))) aNil)))) [some (.s ns), some (.m (.lst [d1, d2, d3, .lst dl, d4])), x2, x3, some (.t (.int k)), some (.m T7), some (.t (.tup dl)), some (.t d1)] = some ([d1, d2, d3, .lst dl, d4, d6], [some (.s ns), some (.t (.lst [d1, d2, d3, .lst dl, d4])), x2, x3, some (.t (.int k)), some (.m T9), some (.t (.tup dl)), some (.t d1)]) := by simp [m_iAny, e91, e92]
  rw [m_sSeq, s1, Option.bind_some]
  simp only
  rw [m_sSeq, s2, Option.bind_some]
  simp only
  rw [m_sSeq, s3, Option.bind_some]
  simp only
  rw [m_sSeq, s4, Option.bind_some]
  simp only
  rw [m_sSeq, s5, Option.bind_some]
  simp only
  rw [m_sFor, s6, Option.bind_some]
  exact lp
end
mutual
def fitB : D → Bool
  | .str z => decide (z.length ≤ 20000)
  | .tup ds => decide (ds.length ≤ 20000) && fitsB ds
  | .lst ds => decide (ds.length ≤ 20000) && fitsB ds
  | .non => true
  | .bl _ => true
  | .int _ => true
def fitsB : List D → Bool
  | [] => true
  | d :: ds => fitB d && fitsB ds
end
mutual
theorem fitB_ok : ∀ {d : D}, fitB d = true → Fit 20000 d
  | .str z, h => by
    have q : decide (z.length ≤ 20000) = true := h
    have p : z.length ≤ 20000 := of_decide_eq_true q
    exact p
  | .tup ds, h => by
    obtain ⟨a, b⟩ := Bool.and_eq_true_iff.mp (show (decide (ds.length ≤ 20000) && fitsB ds) = true from h)
    exact ⟨of_decide_eq_true a, fitsB_ok b⟩
  | .lst ds, h => by
    obtain ⟨a, b⟩ := Bool.and_eq_true_iff.mp (show (decide (ds.length ≤ 20000) && fitsB ds) = true from h)
    exact ⟨of_decide_eq_true a, fitsB_ok b⟩
  | .non, _ => True.intro
  | .bl _, _ => True.intro
  | .int _, _ => True.intro
theorem fitsB_ok : ∀ {ds : List D}, fitsB ds = true → Fits 20000 ds
  | [], _ => True.intro
  | d :: ds, h => by
    obtain ⟨a, b⟩ := Bool.and_eq_true_iff.mp (show (fitB d && fitsB ds) = true from h)
    exact ⟨fitB_ok a, fitsB_ok b⟩
end
theorem sm_ok {d : D} (h : Sm d) : OkT isSayF (lawSF 10) d := by
  have e := lawS_ok 8 9 (by omega) d [] (0, 0) h (by decide)
  rw [say_same] at e
  exact ⟨sayB d, _, isSay_ok h, e⟩
def lst9 : List D := [besD (.tup [.str "yes"]), besD (.tup [.str "one", .str "a", .str "x", .tup [.str "yes"]]), .tup [.lst [.str "now"], .tup [.str "any"]], .tup [.lst [], .int 0], .lst [.tup [.str "yes"]],
  .tup [.str "now", .tup [.lst [.str "any"]]], .tup [.str "now", .lst [.str "any"]], .tup [.str "now", .tup [.lst [], .int 1]], .tup [.str "each", .lst [.str "a"], .str "x", .tup [.str "yes"]]]
def lst12 : List D := lst9 ++ [.tup [.str "each", .str "a", .lst [.str "x"], .tup [.str "yes"]], .tup [.str "within", .lst [.int 1], .tup [.str "yes"]], .tup [.str "not", .lst [.tup [.str "yes"]]]]
theorem lst12_sm : ∀ d ∈ lst12, Sm d := by
  have h : (lst12.all fun d => fitB d && decide (depD d ≤ 38)) = true := by decide +kernel
  intro d hd
  obtain ⟨a, b⟩ := Bool.and_eq_true_iff.mp (List.all_eq_true.mp h d hd)
  exact ⟨fitB_ok a, of_decide_eq_true b⟩
theorem formF_zero (us : List U) : formF 0 us = none := rfl
theorem allF_zero (us : List U) : allF 0 us = none := rfl
theorem lawSF_zero (us : List U) : lawSF 0 us = none := rfl
noncomputable abbrev F05 (g : FM → FM → FM → FM → FM → FM → FM → FM → FM → FM → GS) : GS := g besideF isSayF (lawSF 10) tapeF wholeG namesF pickF (bentFn 7) grownF oddF
theorem tapeF_eq5 {ns : List Int} {k : Int} (h : 0 ≤ k) (h1 : k < 1000000) (h2 : ns.length < 1000000) : tapeF [.s ns, .t (.int k)] = some (.m (tp (tapeM ns k)), []) := by simp [tapeF, h, h1, h2]
theorem oddF_eq5 {t : Tape} (h : 0 ≤ t.n) (h1 : t.n < 900000) : oddF [.b (tp t)] = some (.t (oddM t), [tp (pickT t 17)]) := by simp [oddF, tp, h, h1]
theorem turn5 {ns : List Int} {k : Int} {x1 x2 x3 x5 x6 x7 : Option U} (k0 : 0 ≤ k) (k1 : k < 1000) (hns : ns.length < 1000) (h1 : isB x1 = false) (h2 : isB x2 = false) (h3 : isB x3 = false) (h5 : isB x5 = false) (h6 : isB x6 = false) (h7 : isB x7 = false) :
    ∃ y1 y2 y3 y5 y6 y7, isB y1 = false ∧ isB y2 = false ∧ isB y3 = false ∧ isB y5 = false ∧ isB y6 = false ∧ isB y7 = false ∧ F05 w3_law [some (.s ns), x1, x2, x3, some (.t (.int k)), x5, x6, x7] = some (.nx [some (.s ns), y1, y2, y3, some (.t (.int k)), y5, y6, y7]) := by
  have e4 := tapeF_eq5 (ns := ns) (k := k) k0 (by omega) (by omega)
  have t0n : (tapeM ns k).n = 0 := rfl
  generalize tapeM ns k = t0 at *
  have p1 := pick_eq (t := t0) (m := 16) (by omega) (by omega) (by omega) (by omega)
  obtain ⟨a0, a1⟩ := pickV_range (t := t0) (m := 16) (by omega)
  have t1n : (pickT t0 16).n = t0.n + 1 := pickT_n t0 16
  generalize pickV t0 16 = a at *
  generalize pickT t0 16 = t1 at *
  have p2 := pick_eq (t := t1) (m := 8) (by omega) (by omega) (by omega) (by omega)
  obtain ⟨b0, b1⟩ := pickV_range (t := t1) (m := 8) (by omega)
  have t2n : (pickT t1 8).n = t1.n + 1 := pickT_n t1 8
  generalize pickV t1 8 = b at *
  generalize pickT t1 8 = t2 at *
  obtain ⟨ra, hra⟩ : ∃ r : Nat, (r : Int) = 1 + a := ⟨(1 + a).toNat, by omega⟩
  obtain ⟨rb, hrb⟩ : ∃ r : Nat, (r : Int) = 1 + b := ⟨(1 + b).toNat, by omega⟩
  obtain ⟨d, t3, e5, sy, ft, dp, g4, g5⟩ := wholeG_ok (t := t2) (room := ra) (deep := rb) (by omega) (by omega) (by omega) (by omega) (by omega) (by omega)
  rw [hra, hrb] at e5
  have smd : ∀ {x : D} {n m : Nat}, Fit n x → n ≤ 20000 → depD x ≤ m → m ≤ 38 → Sm x := fun f h d k => ⟨f.mono h, Nat.le_trans d k⟩
  obtain ⟨dl, rfl⟩ : ∃ dl, d = .tup dl := by
    have : formed 8 [] d = true := by
      unfold sayB at sy
      exact (Bool.and_eq_true_iff.mp sy).1
    obtain ⟨z, r, e, _⟩ := formed_inv this
    exact ⟨_, e⟩
  have ft20 : Fit 20 (.tup dl) := ft.mono (by omega)
  have e8 := bentF_eq5 (j := 7) (t := t3) (d := .tup dl) (k := 6) (by omega) (by omega) (ft.mono (by omega)) (by omega) (by omega)
  obtain ⟨s1, s2⟩ := bent_sm (n := 20) (by omega) 6 t3 (.tup dl) 9 ft20 dp
  have n4 := bent_n 6 t3 (.tup dl)
  have e8 : bentFn 7 [.b (tp t3), .t (.tup dl), .t (.int 6)] = some (.t (bentM 6 t3 (.tup dl)).1, [tp (bentM 6 t3 (.tup dl)).2]) := e8
  generalize bentM 6 t3 (.tup dl) = B1 at *
  have e81 := bentF_eq5 (j := 7) (t := B1.2) (d := B1.1) (k := 6) (by omega) (by omega) (s1.mono (by omega)) (by omega) (by omega)
  obtain ⟨s3, s4⟩ := bent_sm (n := 2 * 20 + 2) (by omega) 6 B1.2 B1.1 11 s1 s2
  have n5 := bent_n 6 B1.2 B1.1
  have e81 : bentFn 7 [.b (tp B1.2), .t B1.1, .t (.int 6)] = some (.t (bentM 6 B1.2 B1.1).1, [tp (bentM 6 B1.2 B1.1).2]) := e81
  generalize bentM 6 B1.2 B1.1 = B2 at *
  obtain ⟨d3, t6, e9, u1, u2, u3, u4⟩ := grown_ok (t := B2.2) (s := .tup dl) (n := 8) (k := 9) (by omega) (by omega) (by omega) ft dp
  have e10 := oddF_eq5 (t := t6) (by omega) (by omega)
  have o1 := odd_sm (n := 20) (k := 1) (by omega) (by omega) t6
  have t7n : (pickT t6 17).n = t6.n + 1 := pickT_n t6 17
  generalize oddM t6 = d4 at *
  generalize pickT t6 17 = t7 at *
  obtain ⟨d5, t8, e91, v1, v2, v3, v4⟩ := grown_ok (t := t7) (s := .tup dl) (n := 8) (k := 9) (by omega) (by omega) (by omega) ft dp
  obtain ⟨d6, t9, e92, z1, z2, z3, z4⟩ := grown_ok (t := t8) (s := d5) (n := 8) (k := 18) (by omega) (by omega) (by omega) v1 v2
  refine w3_turn h1 h2 h3 h5 h6 h7 e4 (show namesF [] = some (.m (.lst nmL), []) from rfl) p1 p2 e5 ?_ e8 e81 e9 e10 e91 e92 ?_
  · rw [isSay_ok (smd ft (by omega) dp (by omega)), sy]
  · intro x hx
    simp only [List.mem_cons, List.not_mem_nil, or_false] at hx
    rcases hx with rfl | rfl | rfl | rfl | rfl | rfl
    · exact sm_ok (smd s1 (by omega) s2 (by omega))
    · exact sm_ok (smd s3 (by omega) s4 (by omega))
    · exact sm_ok (smd u1 (by omega) u2 (by omega))
    · exact sm_ok ⟨(ft.mono (show 8 ≤ 20000 by omega)), Nat.le_trans (show depD (.lst dl) ≤ 9 from dp) (by omega)⟩
    · exact sm_ok (smd o1.1 (by omega) o1.2 (by omega))
    · exact sm_ok (smd z1 (by omega) z2 (by omega))
theorem cut14 (ns : List Int) : (cutI ns none (some 14)).length ≤ 14 := by
  unfold cutI
  rw [List.length_take]
  have : HT.sIx ns.length ns.length (some 14) ≤ 14 := by
    have := HT.sIx_nat ns.length ns.length 14
    have e : HT.sIx ns.length ns.length (some ((14 : Nat) : Int)) = HT.sIx ns.length ns.length (some 14) := rfl
    rw [← e, this]
    exact Nat.min_le_left _ _
  have : HT.sIx ns.length 0 none = 0 := rfl
  omega
theorem law05_run : ∀ us r, lawF 63 us = some r → runB 8 (F05 g_law) us = some r := by
  intro us r h
  unfold lawF at h
  split at h
  · rename_i ns
    obtain ⟨hl, rfl⟩ := ite_some h
    have b1 := beside_ok (.tup [.str "yes"])
    have b2 := beside_ok (.tup [.str "one", .str "a", .str "x", .tup [.str "yes"]])
    show ((F05 g_law) [some (.s ns), none, none, none, none, none, none, none]).bind _ = _
    simp only [F05]
    rw [lw_eq]
    have s0 : F05 lw0 [some (.s ns), none, none, none, none, none, none, none] = some (.nx [some (.s ns), some (.m (.lst (lst9.take 5))), none, none, none, none, none, none]) := by simp [lw0, b1, b2, lst9]
    have s1 : F05 lw1 [some (.s ns), some (.m (.lst (lst9.take 5))), none, none, none, none, none, none] = some (.nx [some (.s ns), some (.m (.lst lst9)), none, none, none, none, none, none]) := by simp [lw1, lst9]
    obtain ⟨y2, y3, q2, q3, lp⟩ := lw_loop (f1 := besideF) (f2 := isSayF) (f3 := lawSF 10) (f4 := tapeF) (f5 := wholeG) (f6 := namesF) (f7 := pickF) (f8 := bentFn 7) (f9 := grownF) (f10 := oddF) (a0 := some (.s ns)) (a1 := some (.t (.lst lst9))) (a4 := none) (a5 := none) (a6 := none) (a7 := none) lst12 none none rfl rfl fun d hd => sm_ok (lst12_sm d hd)
    have s2 : F05 lw2 [some (.s ns), some (.m (.lst lst9)), none, none, none, none, none, none] = some (.nx [some (.s ns), some (.t (.lst lst9)), y2, y3, none, none, none, none]) := by
      have i1 : iAny (eF (eP fAdd (aCons (eF (eVar 1)) (aCons (eF (eP fLst (aCons (eF (eP fTup (aCons (eC (.str "each")) (aCons (eC (.str "a")) (aCons (eF (eP fLst (aCons (eC (.str "x")) aNil))) (aCons (eF (eP fTup (aCons (eC (.str "yes")) aNil))) aNil)))))) (aCons (eF (eP fTup (aCons (eC (.str "within")) (aCons (eF (eP fLst (aCons (eC (.int 1)) aNil))) (aCons (eF (eP fTup (aCons (eC (.str "yes")) aNil))) aNil))))) (aCons (eF (eP fTup (aCons (eC (.str "not")) (aCons (eF (eP fLst (aCons (eF (eP fTup (aCons (eC (.str "yes")) aNil))) aNil))) aNil)))) aNil))))) aNil)))) [some (.s ns), some (.m (.lst lst9)), none, none, none, none, none, none] = some (lst12, [some (.s ns), some (.t (.lst lst9)), none, none, none, none, none, none]) := by simp [m_iAny, lst12, lst9]
      show sFor _ _ _ _ = _
      rw [m_sFor, i1, Option.bind_some]
      exact lp
    obtain ⟨S', e3, y1, x2, x3, x4, x5, x6, x7, r1, r2, r3, r4, r5, r6, r7, hS⟩ := loop_idx (bd := bName 4) (body := F05 w3_law) (rng 0 (1 + (cutI ns none (some 14)).length))
      (fun j S => ∃ x1 x2 x3 x4 x5 x6 x7 : Option U, isB x1 = false ∧ isB x2 = false ∧ isB x3 = false ∧ isB x4 = false ∧ isB x5 = false ∧ isB x6 = false ∧ isB x7 = false ∧ S = [some (.s ns), x1, x2, x3, x4, x5, x6, x7])
      [some (.s ns), some (.t (.lst lst9)), y2, y3, none, none, none, none] ⟨_, _, _, _, _, _, _, rfl, q2, q3, rfl, rfl, rfl, rfl, rfl⟩ (by
        rintro j d S hd ⟨x1, x2, x3, x4, x5, x6, x7, r1, r2, r3, r4, r5, r6, r7, rfl⟩
        obtain ⟨hj, rfl⟩ := rng_get hd
        have := cut14 ns
        obtain ⟨z1, z2, z3, z5, z6, z7, g1, g2, g3, g5, g6, g7, e⟩ := turn5 (ns := ns) (k := j) (by omega) (by omega) (by omega) r1 r2 r3 r5 r6 r7
        exact ⟨_, _, by simp [-m_setU, m_setU2, r4], e, z1, z2, z3, _, z5, z6, z7, g1, g2, g3, rfl, g5, g6, g7, rfl⟩)
    have s3 : F05 lw3 [some (.s ns), some (.t (.lst lst9)), y2, y3, none, none, none, none] = some (.nx S') := by
      have c := cut14 ns
      have g1 : gRng1 (aCons (eF (eP fAdd (aCons (eC (.int 1)) (aCons (eF (eP fLen (aCons (eF (eSlS 0 none (some (eC (.int 14))))) aNil))) aNil)))) aNil) [some (.s ns), some (.t (.lst lst9)), y2, y3, none, none, none, none] = some (rng 0 (1 + (cutI ns none (some 14)).length), [some (.s ns), some (.t (.lst lst9)), y2, y3, none, none, none, none]) := by
        have : (1 + ((cutI ns none (some 14)).length : Int)).toNat = 1 + (cutI ns none (some 14)).length := by omega
        rw [← this]
        refine Sq.gRng1_int ?_ (by omega) (by omega)
        simp [eSlS]
      show sFor _ _ _ _ = _
      rw [m_sFor, g1, Option.bind_some]
      exact e3
    simp only [F05] at s0 s1 s2 s3
    rw [m_sSeq, s0, Option.bind_some]
    simp only
    rw [m_sSeq, s1, Option.bind_some]
    simp only
    rw [m_sSeq, s2, Option.bind_some]
    simp only
    rw [m_sSeq, s3, Option.bind_some]
    simp only
    subst hS
    simp [lw4, outsOf]
  · cases h
end Ss

end
section
set_option Elab.async false
set_option linter.all false
set_option maxRecDepth 100000
namespace K05
open PySem PySem.Spec PyProof.Rows L2
def top (i : Nat) : Stmt := PySem.Challenge.pw_surewatch_k05_sayings.main.body.getD i (.Pass ⟨0, 0, 0, 0⟩)
def g_is_whole : GS :=
  (sSeq (sIf (qOr (qNot (qB (eIs ["int"] (eF (eVar 0))))) (qB (eIs ["bool"] (eF (eVar 0))))) (sRet (eT (eC (.bl false)))) sNil)
  (sRet (eT (eQ (qAnd (qB (eF (eP fLe (aCons (eF (eVar 1)) (aCons (eF (eVar 0)) aNil))))) (qB (eF (eP fLe (aCons (eF (eVar 0)) (aCons (eF (eVar 2)) aNil))))))))))

abbrev s_is_whole : Stmt := top 3
theorem sc_is_whole : FnScope ["thing", "least", "most"] ["thing", "least", "most"] (defScope s_is_whole) := ⟨rfl, rfl, rfl, by decide +kernel, rfl, by decide +kernel, by decide +kernel⟩
theorem ok_is_whole {P : Program} {w : World} {K : PySem.W.Frag} {mg : Str → Option Value} {base : Heap} {f : Addr} {fd : FuncData} {n : Nat} {fm : FM} (F : Fun K "is_whole" "is_whole" s_is_whole f fd) (misinstance : mg "isinstance" = none) (mint : mg "int" = none) (mbool : mg "bool" = none)
    (hf : ∀ us r, fm us = some r → runB 3 (g_is_whole) us = some r) : FnOk P w K mg base CX0 (n + 1) f fd ["thing", "least", "most"] (spT K 3 fm) :=
  okT (g := g_is_whole) F sc_is_whole (fun cdv A outer s H E hr => (jb_cons (js_if (JW.t (jw_or (jt_not (jt_val (jd_isinst rfl misinstance rfl mint PyProof.Rows.Boot.int (JE.d (je_var 0))))) (jw_one_or (jt_val (jd_isinst rfl misinstance rfl mbool PyProof.Rows.Boot.bool (JE.d (je_var 0))))))) (jb_one (js_ret (JD.e jd_bl))) jb_nil)
    (jb_one (js_ret (JD.e (jd_and (JE.d (je_cmp op_leP (JE.d (je_var 1)) (JE.d (je_var 0)))) (jd_one (JE.d (je_cmp op_leP (JE.d (je_var 0)) (JE.d (je_var 2))))))))))) hf

def g_is_tuple : GS :=
  (sRet (eT (eQ (qAnd (qB (eIs ["tuple"] (eF (eVar 0)))) (qAnd (qB (eF (eP fLe (aCons (eF (eVar 1)) (aCons (eLen 0) aNil))))) (qB (eF (eP fLe (aCons (eLen 0) (aCons (eF (eVar 2)) aNil))))))))))

abbrev s_is_tuple : Stmt := top 4
theorem sc_is_tuple : FnScope ["thing", "least", "most"] ["thing", "least", "most"] (defScope s_is_tuple) := ⟨rfl, rfl, rfl, by decide +kernel, rfl, by decide +kernel, by decide +kernel⟩
theorem ok_is_tuple {P : Program} {w : World} {K : PySem.W.Frag} {mg : Str → Option Value} {base : Heap} {f : Addr} {fd : FuncData} {n : Nat} {fm : FM} (F : Fun K "is_tuple" "is_tuple" s_is_tuple f fd) (misinstance : mg "isinstance" = none) (mtuple : mg "tuple" = none) (mlen : mg "len" = none)
    (hf : ∀ us r, fm us = some r → runB 3 (g_is_tuple) us = some r) : FnOk P w K mg base CX0 (n + 1) f fd ["thing", "least", "most"] (spT K 3 fm) :=
  okT (g := g_is_tuple) F sc_is_tuple (fun cdv A outer s H E hr => (jb_one (js_ret (JD.e (jd_and (jd_isinst rfl misinstance rfl mtuple PyProof.Rows.Boot.tuple (JE.d (je_var 0))) (jd_and (JE.d (je_cmp op_leP (JE.d (je_var 1)) (jd_len (i := 0) rfl mlen))) (jd_one (JE.d (je_cmp op_leP (jd_len (i := 0) rfl mlen) (JE.d (je_var 2))))))))))) hf

def g_is_name : GS :=
  (sSeq (sIf (qOr (qNot (qB (eIs ["str"] (eF (eVar 0))))) (qOr (qB (eF (eP fLt (aCons (eLen 0) (aCons (eC (.int 1)) aNil))))) (qB (eF (eP fGt (aCons (eLen 0) (aCons (eC (.int 8)) aNil))))))) (sRet (eT (eC (.bl false)))) sNil)
  (sRet (eP fAll (aCons (eF (eComp [] (iAny (eF (eVar 0))) qTrue (eF (eP fIn (aCons (eF (eVar 0)) (aCons (eC (.str "abcdefghijklmnopqrstuvwxyz")) aNil)))))) aNil))))

abbrev s_is_name : Stmt := top 5
theorem sc_is_name : FnScope ["thing"] ["thing"] (defScope s_is_name) := ⟨rfl, rfl, rfl, by decide +kernel, rfl, by decide +kernel, by decide +kernel⟩
theorem ok_is_name {P : Program} {w : World} {K : PySem.W.Frag} {mg : Str → Option Value} {base : Heap} {f : Addr} {fd : FuncData} {n : Nat} {fm : FM} (F : Fun K "is_name" "is_name" s_is_name f fd) (misinstance : mg "isinstance" = none) (mstr : mg "str" = none) (mlen : mg "len" = none) (mall : mg "all" = none) {tLONGEST_NAME : Tok} (mLONGEST_NAME : mg "LONGEST_NAME" = some (.int 8 tLONGEST_NAME)) {tLETTERS : Tok} (mLETTERS : mg "LETTERS" = some (.str "abcdefghijklmnopqrstuvwxyz" tLETTERS))
    (hf : ∀ us r, fm us = some r → runB 1 (g_is_name) us = some r) : FnOk P w K mg base CX0 (n + 1) f fd ["thing"] (spT K 1 fm) :=
  okT (g := g_is_name) F sc_is_name (fun cdv A outer s H E hr => (jb_cons (js_if (JW.t (jw_or (jt_not (jt_val (jd_isinst rfl misinstance rfl mstr PyProof.Rows.Boot.str (JE.d (je_var 0))))) (jw_or (jt_cmp op_ltP (jd_len (i := 0) rfl mlen) jd_int) (jw_one_or (jt_cmp op_gtP (jd_len (i := 0) rfl mlen) (jd_gint rfl mLONGEST_NAME)))))) (jb_one (js_ret (JD.e jd_bl))) jb_nil)
    (jb_one (js_ret (je_callB (call_allP rfl) rfl mall PyProof.Rows.Boot.all (ja_cons (JE.d (je_comp (comp_plain (by decide) (by decide) rfl (by decide) rfl) rfl (ji_any (JE.d (je_var 0))) (fun _ _ _ _ => jts_nil) (fun _ _ _ _ => (JE.d (je_cmp (op_inP hr.units) (JE.d (je_var 0)) (jd_gstr rfl mLETTERS) (by with_unfolding_all rfl)))))) ja_nil)))))) hf

def g_is_test_among (fis_tuple : FM) (fis_name : FM) (fis_whole : FM) : GS :=
  (sSeq (sIf (qNot (qB (eF (eCall fis_tuple (uVal (eF (eVar 0)) (uVal (eC (.int 1)) (uVal (eC (.int 2)) uNil))))))) (sRet (eT (eC (.bl false)))) sNil)
  (sSeq (sIf (qB (eF (eP fEq (aCons (eLen 0) (aCons (eC (.int 1)) aNil))))) (sRet (eP fEq (aCons (eSub 0 (eC (.int 0))) (aCons (eC (.str "any")) aNil)))) sNil)
  (sSeq (sIf (qB (eF (eP fEq (aCons (eSub 0 (eC (.int 0))) (aCons (eC (.str "name")) aNil))))) (sRet (eCall fis_name (uVal (eSub 0 (eC (.int 1))) uNil))) sNil)
  (sRet (eT (eQ (qAnd (qB (eF (eP fIn (aCons (eSub 0 (eC (.int 0))) (aCons (eF (eP fTup (aCons (eC (.str "less")) (aCons (eC (.str "same")) (aCons (eC (.str "more")) aNil))))) aNil))))) (qB (eQ (qOr (qB (eF (eCall fis_whole (uVal (eSub 0 (eC (.int 1))) (uVal (eC (.int 0)) (uVal (eC (.int 9)) uNil)))))) (qB (eF (eP fIn (aCons (eSub 0 (eC (.int 1))) (aCons (eF (eVar 1)) aNil)))))))))))))))

abbrev s_is_test_among : Stmt := top 8
theorem sc_is_test_among : FnScope ["thing", "bound"] ["thing", "bound"] (defScope s_is_test_among) := ⟨rfl, rfl, rfl, by decide +kernel, rfl, by decide +kernel, by decide +kernel⟩
theorem ok_is_test_among {P : Program} {w : World} {K : PySem.W.Frag} {mg : Str → Option Value} {base : Heap} {f : Addr} {fd : FuncData} {n : Nat} {fm : FM} (F : Fun K "is_test_among" "is_test_among" s_is_test_among f fd) (mlen : mg "len" = none) {tGREATEST_NUMBER : Tok} (mGREATEST_NUMBER : mg "GREATEST_NUMBER" = some (.int 9 tGREATEST_NUMBER))
    {ais_tuple : Addr} {dis_tuple : FuncData} {fis_tuple : FM} (Gis_tuple : FnOk P w K mg base CX0 n ais_tuple dis_tuple ["thing", "least", "most"] (spT K 3 fis_tuple)) (bis_tuple : Binds K dis_tuple ["thing", "least", "most"] []) (kis_tuple : PySem.W.keepIn K (.ref ais_tuple) = true) (nis_tuple : mg "is_tuple" = some (.ref ais_tuple))
    {ais_name : Addr} {dis_name : FuncData} {fis_name : FM} (Gis_name : FnOk P w K mg base CX0 n ais_name dis_name ["thing"] (spT K 1 fis_name)) (bis_name : Binds K dis_name ["thing"] []) (kis_name : PySem.W.keepIn K (.ref ais_name) = true) (nis_name : mg "is_name" = some (.ref ais_name))
    {ais_whole : Addr} {dis_whole : FuncData} {fis_whole : FM} (Gis_whole : FnOk P w K mg base CX0 n ais_whole dis_whole ["thing", "least", "most"] (spT K 3 fis_whole)) (bis_whole : Binds K dis_whole ["thing", "least", "most"] []) (kis_whole : PySem.W.keepIn K (.ref ais_whole) = true) (nis_whole : mg "is_whole" = some (.ref ais_whole))
    (hf : ∀ us r, fm us = some r → runB 2 (g_is_test_among fis_tuple fis_name fis_whole) us = some r) : FnOk P w K mg base CX0 (n + 1) f fd ["thing", "bound"] (spT K 2 fm) :=
  okT (g := g_is_test_among fis_tuple fis_name fis_whole) F sc_is_test_among (fun cdv A outer s H E hr => (jb_cons (js_if (jt_not (jt_val (JE.d (je_call Gis_tuple hr rfl nis_tuple kis_tuple bis_tuple (ju_val (JE.d (je_var 0)) (ju_val jd_int (ju_val jd_int ju_nil))))))) (jb_one (js_ret (JD.e jd_bl))) jb_nil)
    (jb_cons (js_if (jt_cmp (op_eqP hr.units) (jd_len (i := 0) rfl mlen) jd_int) (jb_one (js_ret (je_cmp (op_eqP hr.units) (jd_sub (i := 0) (hu_of hr) jd_int (fun _ _ => rfl)) jd_str))) jb_nil)
    (jb_cons (js_if (jt_cmp (op_eqP hr.units) (jd_sub (i := 0) (hu_of hr) jd_int (fun _ _ => rfl)) jd_str) (jb_one (js_ret (je_call Gis_name hr rfl nis_name kis_name bis_name (ju_val (jd_sub (i := 0) (hu_of hr) jd_int (fun _ _ => rfl)) ju_nil)))) jb_nil)
    (jb_one (js_ret (JD.e (jd_and (JE.d (je_cmp (op_inP hr.units) (jd_sub (i := 0) (hu_of hr) jd_int (fun _ _ => rfl)) (JE.d (je_tup (ja_cons jd_str (ja_cons jd_str (ja_cons jd_str ja_nil))))) (by with_unfolding_all rfl))) (jd_one (jd_or (JE.d (je_call Gis_whole hr rfl nis_whole kis_whole bis_whole (ju_val (jd_sub (i := 0) (hu_of hr) jd_int (fun _ _ => rfl)) (ju_val jd_int (ju_val (jd_gint rfl mGREATEST_NUMBER) ju_nil))))) (jd_one (JE.d (je_cmp (op_inP hr.units) (jd_sub (i := 0) (hu_of hr) jd_int (fun _ _ => rfl)) (JE.d (je_var 1)) (by with_unfolding_all rfl)))))))))))))) hf

def g_parts_of : GS :=
  (sRet (eSl (eF (eVar 0)) (some (eTab [("yes", 1), ("no", 1), ("now", 2), ("not", 1), ("both", 1), ("either", 1), ("next", 1), ("till", 1), ("within", 2), ("always", 1), ("some", 1), ("each", 3), ("one", 3)] (eSub 0 (eC (.int 0))))) none))

abbrev s_parts_of : Stmt := top 17
theorem sc_parts_of : FnScope ["saying"] ["saying"] (defScope s_parts_of) := ⟨rfl, rfl, rfl, by decide +kernel, rfl, by decide +kernel, by decide +kernel⟩
theorem ok_parts_of {P : Program} {w : World} {K : PySem.W.Frag} {mg : Str → Option Value} {base : Heap} {f : Addr} {fd : FuncData} {n : Nat} {fm : FM} (F : Fun K "parts_of" "parts_of" s_parts_of f fd) {gSTARTS : Addr} (mSTARTS : mg "STARTS" = some (.ref gSTARTS)) (tSTARTS : KTab P w K gSTARTS [("yes", 1), ("no", 1), ("now", 2), ("not", 1), ("both", 1), ("either", 1), ("next", 1), ("till", 1), ("within", 2), ("always", 1), ("some", 1), ("each", 3), ("one", 3)])
    (hf : ∀ us r, fm us = some r → runB 1 (g_parts_of) us = some r) : FnOk P w K mg base CX0 (n + 1) f fd ["saying"] (spT K 1 fm) :=
  okT (g := g_parts_of) F sc_parts_of (fun cdv A outer s H E hr => (jb_one (js_ret (je_slice (JE.d (je_var 0)) (jo_some (jd_tab rfl mSTARTS tSTARTS (jd_sub (i := 0) (hu_of hr) jd_int (fun _ _ => rfl)))) jo_none)))) hf

def g_bound_within : GS :=
  (sSeq (sIf (qB (eInC false ["each", "one"] (eSub 0 (eC (.int 0))))) (sRet (eP fAdd (aCons (eF (eVar 1)) (aCons (eF (eP fTup (aCons (eSub 0 (eC (.int 2))) aNil))) aNil)))) sNil)
  (sRet (eVar 1)))

abbrev s_bound_within : Stmt := top 18
theorem sc_bound_within : FnScope ["saying", "bound"] ["saying", "bound"] (defScope s_bound_within) := ⟨rfl, rfl, rfl, by decide +kernel, rfl, by decide +kernel, by decide +kernel⟩
theorem ok_bound_within {P : Program} {w : World} {K : PySem.W.Frag} {mg : Str → Option Value} {base : Heap} {f : Addr} {fd : FuncData} {n : Nat} {fm : FM} (F : Fun K "bound_within" "bound_within" s_bound_within f fd) {gBINDERS : Addr} (mBINDERS : mg "BINDERS" = some (.ref gBINDERS)) (tBINDERS : KTup K gBINDERS ["each", "one"])
    (hf : ∀ us r, fm us = some r → runB 2 (g_bound_within) us = some r) : FnOk P w K mg base CX0 (n + 1) f fd ["saying", "bound"] (spT K 2 fm) :=
  okT (g := g_bound_within) F sc_bound_within (fun cdv A outer s H E hr => (jb_cons (js_if (jt_inC hr.units rfl mBINDERS tBINDERS (jd_sub (i := 0) (hu_of hr) jd_int (fun _ _ => rfl))) (jb_one (js_ret (je_op op_addP (JE.d (je_var 1)) (JE.d (je_tup (ja_cons (jd_sub (i := 0) (hu_of hr) jd_int (fun _ _ => rfl)) ja_nil)))))) jb_nil)
    (jb_one (js_ret (je_var 1))))) hf

def g_is_shaped (fis_tuple : FM) (fis_test_among : FM) (fis_whole : FM) (fis_name : FM) : GS :=
  (sSeq (sIf (qOr (qNot (qB (eF (eCall fis_tuple (uVal (eF (eVar 0)) (uVal (eC (.int 1)) (uVal (eC (.int 4)) uNil))))))) (qNot (qB (eIs ["str"] (eSub 0 (eC (.int 0))))))) (sRet (eT (eC (.bl false)))) sNil)
  (sSeq (sSet 2 (eT (eSub 0 (eC (.int 0)))))
  (sSeq (sIf (qB (eF (eP fNe (aCons (eTabGet [("yes", 1), ("no", 1), ("now", 2), ("not", 2), ("both", 3), ("either", 3), ("next", 2), ("till", 3), ("within", 3), ("always", 2), ("some", 2), ("each", 4), ("one", 4)] (eF (eVar 2)) (eC (.int 0))) (aCons (eLen 0) aNil))))) (sRet (eT (eC (.bl false)))) sNil)
  (sSeq (sIf (qB (eF (eP fEq (aCons (eF (eVar 2)) (aCons (eC (.str "now")) aNil))))) (sRet (eCall fis_test_among (uVal (eSub 0 (eC (.int 1))) (uVal (eF (eVar 1)) uNil)))) sNil)
  (sSeq (sIf (qB (eF (eP fEq (aCons (eF (eVar 2)) (aCons (eC (.str "within")) aNil))))) (sRet (eCall fis_whole (uVal (eSub 0 (eC (.int 1))) (uVal (eC (.int 0)) (uVal (eC (.int 5)) uNil))))) sNil)
  (sSeq (sIf (qB (eInC false ["each", "one"] (eF (eVar 2)))) (sRet (eT (eQ (qAnd (qB (eF (eCall fis_name (uVal (eSub 0 (eC (.int 1))) uNil)))) (qB (eF (eCall fis_name (uVal (eSub 0 (eC (.int 2))) uNil)))))))) sNil)
  (sRet (eT (eC (.bl true))))))))))

abbrev s_is_shaped : Stmt := top 19
theorem sc_is_shaped : FnScope ["thing", "bound", "head"] ["thing", "bound"] (defScope s_is_shaped) := ⟨rfl, rfl, rfl, by decide +kernel, rfl, by decide +kernel, by decide +kernel⟩
theorem ok_is_shaped {P : Program} {w : World} {K : PySem.W.Frag} {mg : Str → Option Value} {base : Heap} {f : Addr} {fd : FuncData} {n : Nat} {fm : FM} (F : Fun K "is_shaped" "is_shaped" s_is_shaped f fd) (misinstance : mg "isinstance" = none) (mstr : mg "str" = none) (mlen : mg "len" = none) {gLENGTHS : Addr} (mLENGTHS : mg "LENGTHS" = some (.ref gLENGTHS)) (tLENGTHS : KTab P w K gLENGTHS [("yes", 1), ("no", 1), ("now", 2), ("not", 2), ("both", 3), ("either", 3), ("next", 2), ("till", 3), ("within", 3), ("always", 2), ("some", 2), ("each", 4), ("one", 4)]) {tGREATEST_WITHIN : Tok} (mGREATEST_WITHIN : mg "GREATEST_WITHIN" = some (.int 5 tGREATEST_WITHIN)) {gBINDERS : Addr} (mBINDERS : mg "BINDERS" = some (.ref gBINDERS)) (tBINDERS : KTup K gBINDERS ["each", "one"])
    {ais_tuple : Addr} {dis_tuple : FuncData} {fis_tuple : FM} (Gis_tuple : FnOk P w K mg base CX0 n ais_tuple dis_tuple ["thing", "least", "most"] (spT K 3 fis_tuple)) (bis_tuple : Binds K dis_tuple ["thing", "least", "most"] []) (kis_tuple : PySem.W.keepIn K (.ref ais_tuple) = true) (nis_tuple : mg "is_tuple" = some (.ref ais_tuple))
    {ais_test_among : Addr} {dis_test_among : FuncData} {fis_test_among : FM} (Gis_test_among : FnOk P w K mg base CX0 n ais_test_among dis_test_among ["thing", "bound"] (spT K 2 fis_test_among)) (bis_test_among : Binds K dis_test_among ["thing", "bound"] []) (kis_test_among : PySem.W.keepIn K (.ref ais_test_among) = true) (nis_test_among : mg "is_test_among" = some (.ref ais_test_among))
    {ais_whole : Addr} {dis_whole : FuncData} {fis_whole : FM} (Gis_whole : FnOk P w K mg base CX0 n ais_whole dis_whole ["thing", "least", "most"] (spT K 3 fis_whole)) (bis_whole : Binds K dis_whole ["thing", "least", "most"] []) (kis_whole : PySem.W.keepIn K (.ref ais_whole) = true) (nis_whole : mg "is_whole" = some (.ref ais_whole))
    {ais_name : Addr} {dis_name : FuncData} {fis_name : FM} (Gis_name : FnOk P w K mg base CX0 n ais_name dis_name ["thing"] (spT K 1 fis_name)) (bis_name : Binds K dis_name ["thing"] []) (kis_name : PySem.W.keepIn K (.ref ais_name) = true) (nis_name : mg "is_name" = some (.ref ais_name))
    (hf : ∀ us r, fm us = some r → runB 3 (g_is_shaped fis_tuple fis_test_among fis_whole fis_name) us = some r) : FnOk P w K mg base CX0 (n + 1) f fd ["thing", "bound"] (spT K 2 fm) :=
  okT (g := g_is_shaped fis_tuple fis_test_among fis_whole fis_name) F sc_is_shaped (fun cdv A outer s H E hr => (jb_cons (js_if (JW.t (jw_or (jt_not (jt_val (JE.d (je_call Gis_tuple hr rfl nis_tuple kis_tuple bis_tuple (ju_val (JE.d (je_var 0)) (ju_val jd_int (ju_val jd_int ju_nil))))))) (jw_one_or (jt_not (jt_val (jd_isinst rfl misinstance rfl mstr PyProof.Rows.Boot.str (jd_sub (i := 0) (hu_of hr) jd_int (fun _ _ => rfl)))))))) (jb_one (js_ret (JD.e jd_bl))) jb_nil)
    (jb_cons (js_set (i := 2) sc_is_shaped.nd rfl (by first | exact Or.inl rfl | exact Or.inr rfl) (JD.e (jd_sub (i := 0) (hu_of hr) jd_int (fun _ _ => rfl))))
    (jb_cons (js_if (jt_cmp (op_neP hr.units) (jd_tabGet rfl mLENGTHS tLENGTHS (JE.d (je_var 2)) jd_int) (jd_len (i := 0) rfl mlen)) (jb_one (js_ret (JD.e jd_bl))) jb_nil)
    (jb_cons (js_if (jt_cmp (op_eqP hr.units) (JE.d (je_var 2)) jd_str) (jb_one (js_ret (je_call Gis_test_among hr rfl nis_test_among kis_test_among bis_test_among (ju_val (jd_sub (i := 0) (hu_of hr) jd_int (fun _ _ => rfl)) (ju_val (JE.d (je_var 1)) ju_nil))))) jb_nil)
    (jb_cons (js_if (jt_cmp (op_eqP hr.units) (JE.d (je_var 2)) jd_str) (jb_one (js_ret (je_call Gis_whole hr rfl nis_whole kis_whole bis_whole (ju_val (jd_sub (i := 0) (hu_of hr) jd_int (fun _ _ => rfl)) (ju_val jd_int (ju_val (jd_gint rfl mGREATEST_WITHIN) ju_nil)))))) jb_nil)
    (jb_cons (js_if (jt_inC hr.units rfl mBINDERS tBINDERS (JE.d (je_var 2))) (jb_one (js_ret (JD.e (jd_and (JE.d (je_call Gis_name hr rfl nis_name kis_name bis_name (ju_val (jd_sub (i := 0) (hu_of hr) jd_int (fun _ _ => rfl)) ju_nil))) (jd_one (JE.d (je_call Gis_name hr rfl nis_name kis_name bis_name (ju_val (jd_sub (i := 0) (hu_of hr) jd_int (fun _ _ => rfl)) ju_nil)))))))) jb_nil)
    (jb_one (js_ret (JD.e jd_bl)))))))))) hf

def g_is_formed (fis_shaped : FM) (fbound_within : FM) (fparts_of : FM) (fis_formed : FM) : GS :=
  (sSeq (sIf (qOr (qB (eF (eP fEq (aCons (eF (eVar 2)) (aCons (eC (.int 0)) aNil))))) (qNot (qB (eF (eCall fis_shaped (uVal (eF (eVar 0)) (uVal (eF (eVar 1)) uNil))))))) (sRet (eT (eC (.bl false)))) sNil)
  (sSeq (sSet 3 (eCall fbound_within (uVal (eF (eVar 0)) (uVal (eF (eVar 1)) uNil))))
  (sRet (eP fAll (aCons (eF (eComp [3, 2] (iAny (eF (eCall fparts_of (uVal (eF (eVar 0)) uNil)))) qTrue (eF (eCall fis_formed (uVal (eF (eVar 0)) (uVal (eF (eVar 1)) (uVal (eF (eP fSub (aCons (eF (eVar 2)) (aCons (eC (.int 1)) aNil)))) uNil))))))) aNil)))))

abbrev s_is_formed : Stmt := top 20
theorem sc_is_formed : FnScope ["thing", "bound", "room", "inner"] ["thing", "bound", "room"] (defScope s_is_formed) := ⟨rfl, rfl, rfl, by decide +kernel, rfl, by decide +kernel, by decide +kernel⟩
theorem ok_is_formed {P : Program} {w : World} {K : PySem.W.Frag} {mg : Str → Option Value} {base : Heap} {f : Addr} {fd : FuncData} {n : Nat} {fm : FM} (F : Fun K "is_formed" "is_formed" s_is_formed f fd) (mall : mg "all" = none)
    {ais_shaped : Addr} {dis_shaped : FuncData} {fis_shaped : FM} (Gis_shaped : FnOk P w K mg base CX0 n ais_shaped dis_shaped ["thing", "bound"] (spT K 2 fis_shaped)) (bis_shaped : Binds K dis_shaped ["thing", "bound"] []) (kis_shaped : PySem.W.keepIn K (.ref ais_shaped) = true) (nis_shaped : mg "is_shaped" = some (.ref ais_shaped))
    {abound_within : Addr} {dbound_within : FuncData} {fbound_within : FM} (Gbound_within : FnOk P w K mg base CX0 n abound_within dbound_within ["saying", "bound"] (spT K 2 fbound_within)) (bbound_within : Binds K dbound_within ["saying", "bound"] []) (kbound_within : PySem.W.keepIn K (.ref abound_within) = true) (nbound_within : mg "bound_within" = some (.ref abound_within))
    {aparts_of : Addr} {dparts_of : FuncData} {fparts_of : FM} (Gparts_of : FnOk P w K mg base CX0 n aparts_of dparts_of ["saying"] (spT K 1 fparts_of)) (bparts_of : Binds K dparts_of ["saying"] []) (kparts_of : PySem.W.keepIn K (.ref aparts_of) = true) (nparts_of : mg "parts_of" = some (.ref aparts_of))
    {ais_formed : Addr} {dis_formed : FuncData} {fis_formed : FM} (Gis_formed : FnOk P w K mg base CX0 n ais_formed dis_formed ["thing", "bound", "room"] (spT K 3 fis_formed)) (bis_formed : Binds K dis_formed ["thing", "bound", "room"] []) (kis_formed : PySem.W.keepIn K (.ref ais_formed) = true) (nis_formed : mg "is_formed" = some (.ref ais_formed))
    (hf : ∀ us r, fm us = some r → runB 4 (g_is_formed fis_shaped fbound_within fparts_of fis_formed) us = some r) : FnOk P w K mg base CX0 (n + 1) f fd ["thing", "bound", "room"] (spT K 3 fm) :=
  okT (g := g_is_formed fis_shaped fbound_within fparts_of fis_formed) F sc_is_formed (fun cdv A outer s H E hr => (jb_cons (js_if (JW.t (jw_or (jt_cmp (op_eqP hr.units) (JE.d (je_var 2)) jd_int) (jw_one_or (jt_not (jt_val (JE.d (je_call Gis_shaped hr rfl nis_shaped kis_shaped bis_shaped (ju_val (JE.d (je_var 0)) (ju_val (JE.d (je_var 1)) ju_nil))))))))) (jb_one (js_ret (JD.e jd_bl))) jb_nil)
    (jb_cons (js_set (i := 3) sc_is_formed.nd rfl (by first | exact Or.inl rfl | exact Or.inr rfl) (je_call Gbound_within hr rfl nbound_within kbound_within bbound_within (ju_val (JE.d (je_var 0)) (ju_val (JE.d (je_var 1)) ju_nil))))
    (jb_one (js_ret (je_callB (call_allP rfl) rfl mall PyProof.Rows.Boot.all (ja_cons (JE.d (je_comp (comp_capsD (capN := ["inner", "room"]) (cap := [3, 2]) rfl (by decide) rfl (by decide) rfl rfl (by decide) (by first | exact Or.inl rfl | exact Or.inr rfl) (by decide) rfl rfl rfl) rfl (ji_any (JE.d (je_call Gparts_of hr rfl nparts_of kparts_of bparts_of (ju_val (JE.d (je_var 0)) ju_nil)))) (fun _ _ _ _ => jts_nil) (fun _ _ _ _ => (JE.d (je_call Gis_formed hr rfl nis_formed kis_formed bis_formed (ju_val (JE.d (je_var 0)) (ju_val (JE.d (je_var 1)) (ju_val (JE.d (je_op op_subP (JE.d (je_var 2)) jd_int)) ju_nil)))))))) ja_nil))))))) hf

def w1_all_in (fparts_of : FM) (fall_in : FM) : GS :=
  (sExpr (eT (eM 1 hExtend (aCons (eF (eCall fall_in (uVal (eF (eVar 2)) uNil))) aNil))))
def g_all_in (fparts_of : FM) (fall_in : FM) : GS :=
  (sSeq (sSet 1 (eP fLst (aCons (eF (eVar 0)) aNil)))
  (sSeq (sFor (bName 2) (iAny (eF (eCall fparts_of (uVal (eF (eVar 0)) uNil)))) (w1_all_in fparts_of fall_in))
  (sRet (eVar 1))))

abbrev s_all_in : Stmt := top 21
theorem sc_all_in : FnScope ["saying", "found", "part"] ["saying"] (defScope s_all_in) := ⟨rfl, rfl, rfl, by decide +kernel, rfl, by decide +kernel, by decide +kernel⟩
theorem ok_all_in {P : Program} {w : World} {K : PySem.W.Frag} {mg : Str → Option Value} {base : Heap} {f : Addr} {fd : FuncData} {n : Nat} {fm : FM} (F : Fun K "all_in" "all_in" s_all_in f fd)
    {aparts_of : Addr} {dparts_of : FuncData} {fparts_of : FM} (Gparts_of : FnOk P w K mg base CX0 n aparts_of dparts_of ["saying"] (spT K 1 fparts_of)) (bparts_of : Binds K dparts_of ["saying"] []) (kparts_of : PySem.W.keepIn K (.ref aparts_of) = true) (nparts_of : mg "parts_of" = some (.ref aparts_of))
    {aall_in : Addr} {dall_in : FuncData} {fall_in : FM} (Gall_in : FnOk P w K mg base CX0 n aall_in dall_in ["saying"] (spT K 1 fall_in)) (ball_in : Binds K dall_in ["saying"] []) (kall_in : PySem.W.keepIn K (.ref aall_in) = true) (nall_in : mg "all_in" = some (.ref aall_in))
    (hf : ∀ us r, fm us = some r → runB 3 (g_all_in fparts_of fall_in) us = some r) : FnOk P w K mg base CX0 (n + 1) f fd ["saying"] (spT K 1 fm) :=
  okT (g := g_all_in fparts_of fall_in) F sc_all_in (fun cdv A outer s H E hr => (jb_cons (js_set (i := 1) sc_all_in.nd rfl (by first | exact Or.inl rfl | exact Or.inr rfl) (je_lst (ja_cons (JE.d (je_var 0)) ja_nil)))
    (jb_cons (js_for PassesOwn.never rfl (ji_any (JE.d (je_call Gparts_of hr rfl nparts_of kparts_of bparts_of (ju_val (JE.d (je_var 0)) ju_nil)))) (jg_name (i := 2) sc_all_in.nd rfl (by first | exact Or.inl rfl | exact Or.inr rfl)) (jb_one (js_expr (JD.e (jd_meth (i := 1) PySem.F.slot_list_extend PySem.F.type_list_extend mt_extendR mp_extend hd_extend (ja_cons (JE.d (je_call Gall_in hr rfl nall_in kall_in ball_in (ju_val (JE.d (je_var 2)) ju_nil))) ja_nil))))))
    (jb_one (js_ret (je_var 1)))))) hf

def g_binders_in (fall_in : FM) : GS :=
  (sRet (eP fLen (aCons (eF (eComp [] (iAny (eF (eCall fall_in (uVal (eF (eVar 0)) uNil)))) (qB (eInC false ["each", "one"] (eSub 0 (eC (.int 0))))) (eF (eVar 0)))) aNil)))

abbrev s_binders_in : Stmt := top 22
theorem sc_binders_in : FnScope ["saying"] ["saying"] (defScope s_binders_in) := ⟨rfl, rfl, rfl, by decide +kernel, rfl, by decide +kernel, by decide +kernel⟩
theorem ok_binders_in {P : Program} {w : World} {K : PySem.W.Frag} {mg : Str → Option Value} {base : Heap} {f : Addr} {fd : FuncData} {n : Nat} {fm : FM} (F : Fun K "binders_in" "binders_in" s_binders_in f fd) (mlen : mg "len" = none) {gBINDERS : Addr} (mBINDERS : mg "BINDERS" = some (.ref gBINDERS)) (tBINDERS : KTup K gBINDERS ["each", "one"])
    {aall_in : Addr} {dall_in : FuncData} {fall_in : FM} (Gall_in : FnOk P w K mg base CX0 n aall_in dall_in ["saying"] (spT K 1 fall_in)) (ball_in : Binds K dall_in ["saying"] []) (kall_in : PySem.W.keepIn K (.ref aall_in) = true) (nall_in : mg "all_in" = some (.ref aall_in))
    (hf : ∀ us r, fm us = some r → runB 1 (g_binders_in fall_in) us = some r) : FnOk P w K mg base CX0 (n + 1) f fd ["saying"] (spT K 1 fm) :=
  okT (g := g_binders_in fall_in) F sc_binders_in (fun cdv A outer s H E hr => (jb_one (js_ret (je_callB call_lenP rfl mlen PySem.boot_len (ja_cons (JE.d (je_comp (comp_plain (by decide) (by decide) rfl (by decide) rfl) rfl (ji_any (JE.d (je_call Gall_in hr rfl nall_in kall_in ball_in (ju_val (JE.d (je_var 0)) ju_nil)))) (fun _ _ _ _ => (jts_one (jt_inC hr.units rfl mBINDERS tBINDERS (jd_sub (i := 0) (hu_of hr) jd_int (fun _ _ => rfl))))) (fun _ _ _ _ => (JE.d (je_var 0))))) ja_nil))))) hf

def g_is_saying (fis_formed : FM) (fsize : FM) (fbinders_in : FM) : GS :=
  (sSeq (sIf (qNot (qB (eF (eCall fis_formed (uVal (eF (eVar 0)) (uVal (eF (eP fTup aNil)) (uVal (eC (.int 8)) uNil))))))) (sRet (eT (eC (.bl false)))) sNil)
  (sRet (eT (eQ (qAnd (qB (eF (eP fLe (aCons (eF (eCall fsize (uVal (eF (eVar 0)) uNil))) (aCons (eC (.int 16)) aNil))))) (qB (eF (eP fLe (aCons (eF (eCall fbinders_in (uVal (eF (eVar 0)) uNil))) (aCons (eC (.int 3)) aNil))))))))))

abbrev s_is_saying : Stmt := top 23
theorem sc_is_saying : FnScope ["thing"] ["thing"] (defScope s_is_saying) := ⟨rfl, rfl, rfl, by decide +kernel, rfl, by decide +kernel, by decide +kernel⟩
theorem ok_is_saying {P : Program} {w : World} {K : PySem.W.Frag} {mg : Str → Option Value} {base : Heap} {f : Addr} {fd : FuncData} {n : Nat} {fm : FM} (F : Fun K "is_saying" "is_saying" s_is_saying f fd) {tMOST_WITHIN : Tok} (mMOST_WITHIN : mg "MOST_WITHIN" = some (.int 8 tMOST_WITHIN)) {tMOST_SAYINGS : Tok} (mMOST_SAYINGS : mg "MOST_SAYINGS" = some (.int 16 tMOST_SAYINGS)) {tMOST_BINDERS : Tok} (mMOST_BINDERS : mg "MOST_BINDERS" = some (.int 3 tMOST_BINDERS))
    {ais_formed : Addr} {dis_formed : FuncData} {fis_formed : FM} (Gis_formed : FnOk P w K mg base CX0 n ais_formed dis_formed ["thing", "bound", "room"] (spT K 3 fis_formed)) (bis_formed : Binds K dis_formed ["thing", "bound", "room"] []) (kis_formed : PySem.W.keepIn K (.ref ais_formed) = true) (nis_formed : mg "is_formed" = some (.ref ais_formed))
    {asize : Addr} {dsize : FuncData} {fsize : FM} (Gsize : FnOk P w K mg base CX0 n asize dsize ["saying"] (spT K 1 fsize)) (bsize : Binds K dsize ["saying"] []) (ksize : PySem.W.keepIn K (.ref asize) = true) (nsize : mg "size" = some (.ref asize))
    {abinders_in : Addr} {dbinders_in : FuncData} {fbinders_in : FM} (Gbinders_in : FnOk P w K mg base CX0 n abinders_in dbinders_in ["saying"] (spT K 1 fbinders_in)) (bbinders_in : Binds K dbinders_in ["saying"] []) (kbinders_in : PySem.W.keepIn K (.ref abinders_in) = true) (nbinders_in : mg "binders_in" = some (.ref abinders_in))
    (hf : ∀ us r, fm us = some r → runB 1 (g_is_saying fis_formed fsize fbinders_in) us = some r) : FnOk P w K mg base CX0 (n + 1) f fd ["thing"] (spT K 1 fm) :=
  okT (g := g_is_saying fis_formed fsize fbinders_in) F sc_is_saying (fun cdv A outer s H E hr => (jb_cons (js_if (jt_not (jt_val (JE.d (je_call Gis_formed hr rfl nis_formed kis_formed bis_formed (ju_val (JE.d (je_var 0)) (ju_val (JE.d (je_tup ja_nil)) (ju_val (jd_gint rfl mMOST_WITHIN) ju_nil))))))) (jb_one (js_ret (JD.e jd_bl))) jb_nil)
    (jb_one (js_ret (JD.e (jd_and (JE.d (je_cmp op_leP (JE.d (je_call Gsize hr rfl nsize ksize bsize (ju_val (JE.d (je_var 0)) ju_nil))) (jd_gint rfl mMOST_SAYINGS))) (jd_one (JE.d (je_cmp op_leP (JE.d (je_call Gbinders_in hr rfl nbinders_in kbinders_in bbinders_in (ju_val (JE.d (je_var 0)) ju_nil))) (jd_gint rfl mMOST_BINDERS)))))))))) hf

def g_size (fall_in : FM) : GS :=
  (sRet (eP fLen (aCons (eF (eCall fall_in (uVal (eF (eVar 0)) uNil))) aNil)))

abbrev s_size : Stmt := top 24
theorem sc_size : FnScope ["saying"] ["saying"] (defScope s_size) := ⟨rfl, rfl, rfl, by decide +kernel, rfl, by decide +kernel, by decide +kernel⟩
theorem ok_size {P : Program} {w : World} {K : PySem.W.Frag} {mg : Str → Option Value} {base : Heap} {f : Addr} {fd : FuncData} {n : Nat} {fm : FM} (F : Fun K "size" "size" s_size f fd) (mlen : mg "len" = none)
    {aall_in : Addr} {dall_in : FuncData} {fall_in : FM} (Gall_in : FnOk P w K mg base CX0 n aall_in dall_in ["saying"] (spT K 1 fall_in)) (ball_in : Binds K dall_in ["saying"] []) (kall_in : PySem.W.keepIn K (.ref aall_in) = true) (nall_in : mg "all_in" = some (.ref aall_in))
    (hf : ∀ us r, fm us = some r → runB 1 (g_size fall_in) us = some r) : FnOk P w K mg base CX0 (n + 1) f fd ["saying"] (spT K 1 fm) :=
  okT (g := g_size fall_in) F sc_size (fun cdv A outer s H E hr => (jb_one (js_ret (je_callB call_lenP rfl mlen PySem.boot_len (ja_cons (JE.d (je_call Gall_in hr rfl nall_in kall_in ball_in (ju_val (JE.d (je_var 0)) ju_nil))) ja_nil))))) hf

def g__law_tape : GS :=
  (sSeq (sSet 2 (eVar 1))
  (sSeq (sIf (qB (eF (eP fGt (aCons (eLen 0) (aCons (eC (.int 0)) aNil))))) (sSet 2 (eP fAdd (aCons (eSub 0 (eF (eP fMod (aCons (eF (eVar 1)) (aCons (eLen 0) aNil))))) (aCons (eF (eP fDiv (aCons (eF (eVar 1)) (aCons (eLen 0) aNil)))) aNil)))) sNil)
  (sRet (eDict [("cell", (eF (eVar 2))), ("left", (eF (eP fMax2 (aCons (eC (.int 0)) (aCons (eF (eP fSub (aCons (eF (eVar 2)) (aCons (eF (eP fPow (aCons (eC (.int 10)) (aCons (eC (.int 18)) aNil)))) aNil)))) aNil))))), ("turn", (eC (.int 0)))]))))

abbrev s__law_tape : Stmt := top 26
theorem sc__law_tape : FnScope ["_law_script", "_law_at", "_law_cell"] ["_law_script", "_law_at"] (defScope s__law_tape) := ⟨rfl, rfl, rfl, by decide +kernel, rfl, by decide +kernel, by decide +kernel⟩
theorem ok__law_tape {P : Program} {w : World} {K : PySem.W.Frag} {mg : Str → Option Value} {base : Heap} {f : Addr} {fd : FuncData} {n : Nat} {fm : FM} (F : Fun K "_law_tape" "_law_tape" s__law_tape f fd) (mlen : mg "len" = none) (mmax : mg "max" = none)
    (hf : ∀ us r, fm us = some r → runB 3 (g__law_tape) us = some r) : FnOk P w K mg base CX0 (n + 1) f fd ["_law_script", "_law_at"] (spT K 2 fm) :=
  okT (g := g__law_tape) F sc__law_tape (fun cdv A outer s H E hr => (jb_cons (js_set (i := 2) sc__law_tape.nd rfl (by first | exact Or.inl rfl | exact Or.inr rfl) (je_var 1))
    (jb_cons (js_if (jt_cmp op_gtP (jd_len (i := 0) rfl mlen) jd_int) (jb_one (js_set (i := 2) sc__law_tape.nd rfl (by first | exact Or.inl rfl | exact Or.inr rfl) (je_op op_addP (jd_sub (i := 0) (hu_of hr) (JE.d (je_op op_modP (JE.d (je_var 1)) (jd_len (i := 0) rfl mlen))) (fun _ _ => rfl)) (JE.d (je_op op_divP (JE.d (je_var 1)) (jd_len (i := 0) rfl mlen)))))) jb_nil)
    (jb_one (js_ret (je_dict (jps_cons (JE.d (je_var 2)) (jps_cons (JE.d (je_callB (call_max2P rfl) rfl mmax PyProof.Rows.Boot.max (ja_cons jd_int (ja_cons (JE.d (je_op op_subP (JE.d (je_var 2)) (JE.d (je_op op_powP jd_int jd_int)))) ja_nil)))) (jps_cons jd_int jps_nil))))))))) hf

def g__law_pick : GS :=
  (sSeq (sSet 2 (eP fAdd (aCons (eSub 0 (eC (.str "turn"))) (aCons (eC (.int 1)) aNil))))
  (sSeq (sPut 0 (eC (.str "turn")) (eF (eVar 2)))
  (sSeq (sIf (qB (eF (eP fGt (aCons (eSub 0 (eC (.str "left"))) (aCons (eC (.int 0)) aNil))))) (sSeq (sSet 3 (eP fMod (aCons (eSub 0 (eC (.str "left"))) (aCons (eF (eVar 1)) aNil))))
  (sSeq (sPut 0 (eC (.str "left")) (eF (eP fDiv (aCons (eSub 0 (eC (.str "left"))) (aCons (eF (eVar 1)) aNil)))))
  (sRet (eVar 3)))) sNil)
  (sSeq (sSet 4 (eP fMul (aCons (eF (eP fAdd (aCons (eF (eP fAdd (aCons (eF (eP fMod (aCons (eSub 0 (eC (.str "cell"))) (aCons (eC (.int 2147483647)) aNil)))) (aCons (eF (eP fMul (aCons (eF (eP fMul (aCons (eC (.int 31)) (aCons (eF (eVar 2)) aNil)))) (aCons (eF (eVar 2)) aNil)))) aNil)))) (aCons (eC (.int 1)) aNil)))) (aCons (eC (.int 48271)) aNil))))
  (sSeq (sSet 4 (eP fMul (aCons (eF (eP fAdd (aCons (eF (eP fMod (aCons (eF (eVar 4)) (aCons (eC (.int 2147483629)) aNil)))) (aCons (eF (eP fMul (aCons (eC (.int 7)) (aCons (eF (eVar 2)) aNil)))) aNil)))) (aCons (eC (.int 69621)) aNil))))
  (sRet (eP fMod (aCons (eF (eP fDiv (aCons (eF (eP fMod (aCons (eF (eVar 4)) (aCons (eC (.int 2147483587)) aNil)))) (aCons (eC (.int 7)) aNil)))) (aCons (eF (eVar 1)) aNil)))))))))

abbrev s__law_pick : Stmt := top 27
theorem sc__law_pick : FnScope ["_law_tape_here", "_law_many", "_law_turn", "_law_found", "_law_mixed"] ["_law_tape_here", "_law_many"] (defScope s__law_pick) := ⟨rfl, rfl, rfl, by decide +kernel, rfl, by decide +kernel, by decide +kernel⟩
theorem ok__law_pick {P : Program} {w : World} {K : PySem.W.Frag} {mg : Str → Option Value} {base : Heap} {f : Addr} {fd : FuncData} {n : Nat} {fm : FM} (F : Fun K "_law_pick" "_law_pick" s__law_pick f fd)
    (hf : ∀ us r, fm us = some r → runB 5 (g__law_pick) us = some r) : FnOk P w K mg base CX0 (n + 1) f fd ["_law_tape_here", "_law_many"] (spT K 2 fm) :=
  okT (g := g__law_pick) F sc__law_pick (fun cdv A outer s H E hr => (jb_cons (js_set (i := 2) sc__law_pick.nd rfl (by first | exact Or.inl rfl | exact Or.inr rfl) (je_op op_addP (jd_sub (i := 0) (hu_of hr) jd_str (fun _ _ => rfl)) jd_int))
    (jb_cons (js_put (i := 0) (hu_of hr) jd_str (JE.d (je_var 2)))
    (jb_cons (js_if (jt_cmp op_gtP (jd_sub (i := 0) (hu_of hr) jd_str (fun _ _ => rfl)) jd_int) (jb_cons (js_set (i := 3) sc__law_pick.nd rfl (by first | exact Or.inl rfl | exact Or.inr rfl) (je_op op_modP (jd_sub (i := 0) (hu_of hr) jd_str (fun _ _ => rfl)) (JE.d (je_var 1))))
    (jb_cons (js_put (i := 0) (hu_of hr) jd_str (JE.d (je_op op_divP (jd_sub (i := 0) (hu_of hr) jd_str (fun _ _ => rfl)) (JE.d (je_var 1)))))
    (jb_one (js_ret (je_var 3))))) jb_nil)
    (jb_cons (js_set (i := 4) sc__law_pick.nd rfl (by first | exact Or.inl rfl | exact Or.inr rfl) (je_op op_mulP (JE.d (je_op op_addP (JE.d (je_op op_addP (JE.d (je_op op_modP (jd_sub (i := 0) (hu_of hr) jd_str (fun _ _ => rfl)) jd_int)) (JE.d (je_op op_mulP (JE.d (je_op op_mulP jd_int (JE.d (je_var 2)))) (JE.d (je_var 2)))))) jd_int)) jd_int))
    (jb_cons (js_set (i := 4) sc__law_pick.nd rfl (by first | exact Or.inl rfl | exact Or.inr rfl) (je_op op_mulP (JE.d (je_op op_addP (JE.d (je_op op_modP (JE.d (je_var 4)) jd_int)) (JE.d (je_op op_mulP jd_int (JE.d (je_var 2)))))) jd_int))
    (jb_one (js_ret (je_op op_modP (JE.d (je_op op_divP (JE.d (je_op op_modP (JE.d (je_var 4)) jd_int)) jd_int)) (JE.d (je_var 1))))))))))) hf

def g__law_is_name : GS :=
  (sSeq (sIf (qOr (qNot (qB (eIs ["str"] (eF (eVar 0))))) (qNot (qB (eCh fLe fLe (eC (.int 1)) (eLen 0) (eC (.int 8)))))) (sRet (eT (eC (.bl false)))) sNil)
  (sRet (eP fEq (aCons (eF (eComp [] (iAny (eF (eVar 0))) (qB (eF (eP fNotIn (aCons (eF (eVar 0)) (aCons (eC (.str "abcdefghijklmnopqrstuvwxyz")) aNil))))) (eF (eVar 0)))) (aCons (eF (eP fLst aNil)) aNil)))))

abbrev s__law_is_name : Stmt := top 28
theorem sc__law_is_name : FnScope ["_law_thing"] ["_law_thing"] (defScope s__law_is_name) := ⟨rfl, rfl, rfl, by decide +kernel, rfl, by decide +kernel, by decide +kernel⟩
theorem ok__law_is_name {P : Program} {w : World} {K : PySem.W.Frag} {mg : Str → Option Value} {base : Heap} {f : Addr} {fd : FuncData} {n : Nat} {fm : FM} (F : Fun K "_law_is_name" "_law_is_name" s__law_is_name f fd) (misinstance : mg "isinstance" = none) (mstr : mg "str" = none) (mlen : mg "len" = none)
    (hf : ∀ us r, fm us = some r → runB 1 (g__law_is_name) us = some r) : FnOk P w K mg base CX0 (n + 1) f fd ["_law_thing"] (spT K 1 fm) :=
  okT (g := g__law_is_name) F sc__law_is_name (fun cdv A outer s H E hr => (jb_cons (js_if (JW.t (jw_or (jt_not (jt_val (jd_isinst rfl misinstance rfl mstr PyProof.Rows.Boot.str (JE.d (je_var 0))))) (jw_one_or (jt_not (jt_chain op_leP op_leP jd_int (jd_len (i := 0) rfl mlen) jd_int))))) (jb_one (js_ret (JD.e jd_bl))) jb_nil)
    (jb_one (js_ret (je_cmp (op_eqP hr.units) (JE.d (je_comp (comp_plain (by decide) (by decide) rfl (by decide) rfl) rfl (ji_any (JE.d (je_var 0))) (fun _ _ _ _ => (jts_one (jt_cmp (op_notInP hr.units) (JE.d (je_var 0)) jd_str (by with_unfolding_all rfl)))) (fun _ _ _ _ => (JE.d (je_var 0))))) (JE.d (je_lst ja_nil))))))) hf

def g__law_whole_to : GS :=
  (sRet (eT (eQ (qAnd (qB (eIs ["int"] (eF (eVar 0)))) (qAnd (qB (eQ (qNot (qB (eIs ["bool"] (eF (eVar 0))))))) (qB (eCh fLe fLe (eC (.int 0)) (eF (eVar 0)) (eF (eVar 1)))))))))

abbrev s__law_whole_to : Stmt := top 29
theorem sc__law_whole_to : FnScope ["_law_thing", "_law_most"] ["_law_thing", "_law_most"] (defScope s__law_whole_to) := ⟨rfl, rfl, rfl, by decide +kernel, rfl, by decide +kernel, by decide +kernel⟩
theorem ok__law_whole_to {P : Program} {w : World} {K : PySem.W.Frag} {mg : Str → Option Value} {base : Heap} {f : Addr} {fd : FuncData} {n : Nat} {fm : FM} (F : Fun K "_law_whole_to" "_law_whole_to" s__law_whole_to f fd) (misinstance : mg "isinstance" = none) (mint : mg "int" = none) (mbool : mg "bool" = none)
    (hf : ∀ us r, fm us = some r → runB 2 (g__law_whole_to) us = some r) : FnOk P w K mg base CX0 (n + 1) f fd ["_law_thing", "_law_most"] (spT K 2 fm) :=
  okT (g := g__law_whole_to) F sc__law_whole_to (fun cdv A outer s H E hr => (jb_one (js_ret (JD.e (jd_and (jd_isinst rfl misinstance rfl mint PyProof.Rows.Boot.int (JE.d (je_var 0))) (jd_and (jd_not (jd_isinst rfl misinstance rfl mbool PyProof.Rows.Boot.bool (JE.d (je_var 0)))) (jd_one (jd_chain op_leP op_leP jd_int (JE.d (je_var 0)) (JE.d (je_var 1)))))))))) hf

def g__law_names : GS :=
  (sRet (eP fLst (aCons (eC (.str "a")) (aCons (eC (.str "ab")) (aCons (eC (.str "abc")) (aCons (eC (.str "b")) (aCons (eC (.str "any")) (aCons (eC (.str "name")) (aCons (eC (.str "x")) (aCons (eC (.str "zzzzzzzz")) aNil))))))))))

abbrev s__law_names : Stmt := top 30
theorem sc__law_names : FnScope [] [] (defScope s__law_names) := ⟨rfl, rfl, rfl, by decide +kernel, rfl, by decide +kernel, by decide +kernel⟩
theorem ok__law_names {P : Program} {w : World} {K : PySem.W.Frag} {mg : Str → Option Value} {base : Heap} {f : Addr} {fd : FuncData} {n : Nat} {fm : FM} (F : Fun K "_law_names" "_law_names" s__law_names f fd)
    (hf : ∀ us r, fm us = some r → runB 0 (g__law_names) us = some r) : FnOk P w K mg base CX0 (n + 1) f fd [] (spT K 0 fm) :=
  okT (g := g__law_names) F sc__law_names (fun cdv A outer s H E hr => (jb_one (js_ret (je_lst (ja_cons jd_str (ja_cons jd_str (ja_cons jd_str (ja_cons jd_str (ja_cons jd_str (ja_cons jd_str (ja_cons jd_str (ja_cons jd_str ja_nil)))))))))))) hf

def g__law_test (f_law_pick : FM) : GS :=
  (sSeq (sSet 3 (eCall f_law_pick (uMut (eVar 0) (uVal (eC (.int 5)) uNil))))
  (sSeq (sIf (qB (eF (eP fEq (aCons (eF (eVar 3)) (aCons (eC (.int 0)) aNil))))) (sRet (eP fTup (aCons (eC (.str "any")) aNil))) sNil)
  (sSeq (sIf (qB (eF (eP fEq (aCons (eF (eVar 3)) (aCons (eC (.int 1)) aNil))))) (sRet (eP fTup (aCons (eC (.str "name")) (aCons (eSub 1 (eF (eCall f_law_pick (uMut (eVar 0) (uVal (eLen 1) uNil))))) aNil)))) sNil)
  (sSeq (sSet 4 (eP fIx (aCons (eF (eP fLst (aCons (eC (.int 0)) (aCons (eC (.int 1)) (aCons (eC (.int 2)) (aCons (eC (.int 3)) (aCons (eC (.int 5)) (aCons (eC (.int 9)) aNil)))))))) (aCons (eF (eCall f_law_pick (uMut (eVar 0) (uVal (eC (.int 6)) uNil)))) aNil))))
  (sSeq (sIf (qAnd (qB (eF (eP fNe (aCons (eF (eVar 2)) (aCons (eF (eP fTup aNil)) aNil))))) (qB (eF (eP fGt (aCons (eF (eCall f_law_pick (uMut (eVar 0) (uVal (eC (.int 3)) uNil)))) (aCons (eC (.int 0)) aNil)))))) (sSet 4 (eT (eSub 2 (eF (eCall f_law_pick (uMut (eVar 0) (uVal (eLen 2) uNil))))))) sNil)
  (sRet (eP fTup (aCons (eF (eP fIx (aCons (eF (eP fLst (aCons (eC (.str "less")) (aCons (eC (.str "same")) (aCons (eC (.str "more")) aNil))))) (aCons (eF (eP fSub (aCons (eF (eVar 3)) (aCons (eC (.int 2)) aNil)))) aNil)))) (aCons (eF (eVar 4)) aNil)))))))))

abbrev s__law_test : Stmt := top 31
theorem sc__law_test : FnScope ["_law_tape_here", "_law_names_here", "_law_variables", "_law_way", "_law_number"] ["_law_tape_here", "_law_names_here", "_law_variables"] (defScope s__law_test) := ⟨rfl, rfl, rfl, by decide +kernel, rfl, by decide +kernel, by decide +kernel⟩
theorem ok__law_test {P : Program} {w : World} {K : PySem.W.Frag} {mg : Str → Option Value} {base : Heap} {f : Addr} {fd : FuncData} {n : Nat} {fm : FM} (F : Fun K "_law_test" "_law_test" s__law_test f fd) (mlen : mg "len" = none)
    {a_law_pick : Addr} {d_law_pick : FuncData} {f_law_pick : FM} (G_law_pick : FnOk P w K mg base CX0 n a_law_pick d_law_pick ["_law_tape_here", "_law_many"] (spT K 2 f_law_pick)) (b_law_pick : Binds K d_law_pick ["_law_tape_here", "_law_many"] []) (k_law_pick : PySem.W.keepIn K (.ref a_law_pick) = true) (n_law_pick : mg "_law_pick" = some (.ref a_law_pick))
    (hf : ∀ us r, fm us = some r → runB 5 (g__law_test f_law_pick) us = some r) : FnOk P w K mg base CX0 (n + 1) f fd ["_law_tape_here", "_law_names_here", "_law_variables"] (spT K 3 fm) :=
  okT (g := g__law_test f_law_pick) F sc__law_test (fun cdv A outer s H E hr => (jb_cons (js_set (i := 3) sc__law_test.nd rfl (by first | exact Or.inl rfl | exact Or.inr rfl) (je_call G_law_pick hr rfl n_law_pick k_law_pick b_law_pick (ju_mut (je_var 0) (ju_val jd_int ju_nil))))
    (jb_cons (js_if (jt_cmp (op_eqP hr.units) (JE.d (je_var 3)) jd_int) (jb_one (js_ret (je_tup (ja_cons jd_str ja_nil)))) jb_nil)
    (jb_cons (js_if (jt_cmp (op_eqP hr.units) (JE.d (je_var 3)) jd_int) (jb_one (js_ret (je_tup (ja_cons jd_str (ja_cons (jd_sub (i := 1) (hu_of hr) (JE.d (je_call G_law_pick hr rfl n_law_pick k_law_pick b_law_pick (ju_mut (je_var 0) (ju_val (jd_len (i := 1) rfl mlen) ju_nil)))) (fun _ _ => rfl)) ja_nil))))) jb_nil)
    (jb_cons (js_set (i := 4) sc__law_test.nd rfl (by first | exact Or.inl rfl | exact Or.inr rfl) (je_ix ix_P (JE.d (je_lst (ja_cons jd_int (ja_cons jd_int (ja_cons jd_int (ja_cons jd_int (ja_cons jd_int (ja_cons jd_int ja_nil)))))))) (JE.d (je_call G_law_pick hr rfl n_law_pick k_law_pick b_law_pick (ju_mut (je_var 0) (ju_val jd_int ju_nil)))) (fun _ _ => rfl)))
    (jb_cons (js_if (JW.t (jw_and (jt_cmp (op_neP hr.units) (JE.d (je_var 2)) (JE.d (je_tup ja_nil))) (jw_one_and (jt_cmp op_gtP (JE.d (je_call G_law_pick hr rfl n_law_pick k_law_pick b_law_pick (ju_mut (je_var 0) (ju_val jd_int ju_nil)))) jd_int)))) (jb_one (js_set (i := 4) sc__law_test.nd rfl (by first | exact Or.inl rfl | exact Or.inr rfl) (JD.e (jd_sub (i := 2) (hu_of hr) (JE.d (je_call G_law_pick hr rfl n_law_pick k_law_pick b_law_pick (ju_mut (je_var 0) (ju_val (jd_len (i := 2) rfl mlen) ju_nil)))) (fun _ _ => rfl))))) jb_nil)
    (jb_one (js_ret (je_tup (ja_cons (JE.d (je_ix ix_P (JE.d (je_lst (ja_cons jd_str (ja_cons jd_str (ja_cons jd_str ja_nil))))) (JE.d (je_op op_subP (JE.d (je_var 3)) jd_int)) (fun _ _ => rfl))) (ja_cons (JE.d (je_var 4)) ja_nil))))))))))) hf

def g__law_inner (f_law_pick : FM) (f_law_saying : FM) : GS :=
  (sSeq (sSet 5 (eCall f_law_pick (uMut (eVar 0) (uVal (eC (.int 8)) uNil))))
  (sSeq (sIf (qAnd (qB (eF (eP fLt (aCons (eF (eVar 5)) (aCons (eC (.int 3)) aNil))))) (qB (eF (eP fLt (aCons (eSub 1 (eC (.str "binders"))) (aCons (eC (.int 3)) aNil)))))) (sSeq (sPut 1 (eC (.str "binders")) (eF (eP fAdd (aCons (eSub 1 (eC (.str "binders"))) (aCons (eC (.int 1)) aNil)))))
  (sSeq (sSet 6 (eT (eSub 1 (eC (.str "names")))))
  (sSeq (sSet 7 (eP fIx (aCons (eF (eP fLst (aCons (eC (.str "x")) (aCons (eC (.str "k")) (aCons (eC (.str "a")) (aCons (eC (.str "ab")) aNil)))))) (aCons (eF (eCall f_law_pick (uMut (eVar 0) (uVal (eC (.int 4)) uNil)))) aNil))))
  (sSeq (sSet 8 (eP fTup (aCons (eF (eP fIx (aCons (eF (eP fLst (aCons (eC (.str "each")) (aCons (eC (.str "one")) aNil)))) (aCons (eF (eP fMod (aCons (eF (eVar 5)) (aCons (eC (.int 2)) aNil)))) aNil)))) (aCons (eSub 6 (eF (eCall f_law_pick (uMut (eVar 0) (uVal (eLen 6) uNil))))) (aCons (eF (eVar 7)) aNil)))))
  (sRet (eP fAdd (aCons (eF (eVar 8)) (aCons (eF (eP fTup (aCons (eF (eCall f_law_saying (uMut (eVar 0) (uMut (eVar 1) (uVal (eF (eP fAdd (aCons (eF (eVar 2)) (aCons (eF (eP fTup (aCons (eF (eVar 7)) aNil))) aNil)))) (uVal (eF (eP fSub (aCons (eF (eVar 3)) (aCons (eC (.int 1)) aNil)))) (uVal (eF (eP fSub (aCons (eF (eVar 4)) (aCons (eC (.int 1)) aNil)))) uNil))))))) aNil))) aNil)))))))) sNil)
  (sSeq (sSet 8 (eP fTup (aCons (eF (eP fIx (aCons (eF (eP fLst (aCons (eC (.str "not")) (aCons (eC (.str "next")) (aCons (eC (.str "always")) (aCons (eC (.str "some")) aNil)))))) (aCons (eF (eP fMod (aCons (eF (eVar 5)) (aCons (eC (.int 4)) aNil)))) aNil)))) aNil)))
  (sSeq (sIf (qB (eF (eP fEq (aCons (eF (eVar 5)) (aCons (eC (.int 3)) aNil))))) (sSet 8 (eP fTup (aCons (eC (.str "within")) (aCons (eF (eCall f_law_pick (uMut (eVar 0) (uVal (eC (.int 6)) uNil)))) aNil)))) sNil)
  (sRet (eP fAdd (aCons (eF (eVar 8)) (aCons (eF (eP fTup (aCons (eF (eCall f_law_saying (uMut (eVar 0) (uMut (eVar 1) (uVal (eF (eVar 2)) (uVal (eF (eP fSub (aCons (eF (eVar 3)) (aCons (eC (.int 1)) aNil)))) (uVal (eF (eP fSub (aCons (eF (eVar 4)) (aCons (eC (.int 1)) aNil)))) uNil))))))) aNil))) aNil))))))))

abbrev s__law_inner : Stmt := top 32
theorem sc__law_inner : FnScope ["_law_tape_here", "_law_world", "_law_variables", "_law_room", "_law_deep", "_law_way", "_law_names_here", "_law_x", "_law_head"] ["_law_tape_here", "_law_world", "_law_variables", "_law_room", "_law_deep"] (defScope s__law_inner) := ⟨rfl, rfl, rfl, by decide +kernel, rfl, by decide +kernel, by decide +kernel⟩
theorem ok__law_inner {P : Program} {w : World} {K : PySem.W.Frag} {mg : Str → Option Value} {base : Heap} {f : Addr} {fd : FuncData} {n : Nat} {fm : FM} (F : Fun K "_law_inner" "_law_inner" s__law_inner f fd) (mlen : mg "len" = none)
    {a_law_pick : Addr} {d_law_pick : FuncData} {f_law_pick : FM} (G_law_pick : FnOk P w K mg base CX0 n a_law_pick d_law_pick ["_law_tape_here", "_law_many"] (spT K 2 f_law_pick)) (b_law_pick : Binds K d_law_pick ["_law_tape_here", "_law_many"] []) (k_law_pick : PySem.W.keepIn K (.ref a_law_pick) = true) (n_law_pick : mg "_law_pick" = some (.ref a_law_pick))
    {a_law_saying : Addr} {d_law_saying : FuncData} {f_law_saying : FM} (G_law_saying : FnOk P w K mg base CX0 n a_law_saying d_law_saying ["_law_tape_here", "_law_world", "_law_variables", "_law_room", "_law_deep"] (spT K 5 f_law_saying)) (b_law_saying : Binds K d_law_saying ["_law_tape_here", "_law_world", "_law_variables", "_law_room", "_law_deep"] []) (k_law_saying : PySem.W.keepIn K (.ref a_law_saying) = true) (n_law_saying : mg "_law_saying" = some (.ref a_law_saying))
    (hf : ∀ us r, fm us = some r → runB 9 (g__law_inner f_law_pick f_law_saying) us = some r) : FnOk P w K mg base CX0 (n + 1) f fd ["_law_tape_here", "_law_world", "_law_variables", "_law_room", "_law_deep"] (spT K 5 fm) :=
  okT (g := g__law_inner f_law_pick f_law_saying) F sc__law_inner (fun cdv A outer s H E hr => (jb_cons (js_set (i := 5) sc__law_inner.nd rfl (by first | exact Or.inl rfl | exact Or.inr rfl) (je_call G_law_pick hr rfl n_law_pick k_law_pick b_law_pick (ju_mut (je_var 0) (ju_val jd_int ju_nil))))
    (jb_cons (js_if (JW.t (jw_and (jt_cmp op_ltP (JE.d (je_var 5)) jd_int) (jw_one_and (jt_cmp op_ltP (jd_sub (i := 1) (hu_of hr) jd_str (fun _ _ => rfl)) jd_int)))) (jb_cons (js_put (i := 1) (hu_of hr) jd_str (JE.d (je_op op_addP (jd_sub (i := 1) (hu_of hr) jd_str (fun _ _ => rfl)) jd_int)))
    (jb_cons (js_set (i := 6) sc__law_inner.nd rfl (by first | exact Or.inl rfl | exact Or.inr rfl) (JD.e (jd_sub (i := 1) (hu_of hr) jd_str (fun _ _ => rfl))))
    (jb_cons (js_set (i := 7) sc__law_inner.nd rfl (by first | exact Or.inl rfl | exact Or.inr rfl) (je_ix ix_P (JE.d (je_lst (ja_cons jd_str (ja_cons jd_str (ja_cons jd_str (ja_cons jd_str ja_nil)))))) (JE.d (je_call G_law_pick hr rfl n_law_pick k_law_pick b_law_pick (ju_mut (je_var 0) (ju_val jd_int ju_nil)))) (fun _ _ => rfl)))
    (jb_cons (js_set (i := 8) sc__law_inner.nd rfl (by first | exact Or.inl rfl | exact Or.inr rfl) (je_tup (ja_cons (JE.d (je_ix ix_P (JE.d (je_lst (ja_cons jd_str (ja_cons jd_str ja_nil)))) (JE.d (je_op op_modP (JE.d (je_var 5)) jd_int)) (fun _ _ => rfl))) (ja_cons (jd_sub (i := 6) (hu_of hr) (JE.d (je_call G_law_pick hr rfl n_law_pick k_law_pick b_law_pick (ju_mut (je_var 0) (ju_val (jd_len (i := 6) rfl mlen) ju_nil)))) (fun _ _ => rfl)) (ja_cons (JE.d (je_var 7)) ja_nil)))))
    (jb_one (js_ret (je_op op_addP (JE.d (je_var 8)) (JE.d (je_tup (ja_cons (JE.d (je_call G_law_saying hr rfl n_law_saying k_law_saying b_law_saying (ju_mut (je_var 0) (ju_mut (je_var 1) (ju_val (JE.d (je_op op_addP (JE.d (je_var 2)) (JE.d (je_tup (ja_cons (JE.d (je_var 7)) ja_nil))))) (ju_val (JE.d (je_op op_subP (JE.d (je_var 3)) jd_int)) (ju_val (JE.d (je_op op_subP (JE.d (je_var 4)) jd_int)) ju_nil))))))) ja_nil)))))))))) jb_nil)
    (jb_cons (js_set (i := 8) sc__law_inner.nd rfl (by first | exact Or.inl rfl | exact Or.inr rfl) (je_tup (ja_cons (JE.d (je_ix ix_P (JE.d (je_lst (ja_cons jd_str (ja_cons jd_str (ja_cons jd_str (ja_cons jd_str ja_nil)))))) (JE.d (je_op op_modP (JE.d (je_var 5)) jd_int)) (fun _ _ => rfl))) ja_nil)))
    (jb_cons (js_if (jt_cmp (op_eqP hr.units) (JE.d (je_var 5)) jd_int) (jb_one (js_set (i := 8) sc__law_inner.nd rfl (by first | exact Or.inl rfl | exact Or.inr rfl) (je_tup (ja_cons jd_str (ja_cons (JE.d (je_call G_law_pick hr rfl n_law_pick k_law_pick b_law_pick (ju_mut (je_var 0) (ju_val jd_int ju_nil)))) ja_nil))))) jb_nil)
    (jb_one (js_ret (je_op op_addP (JE.d (je_var 8)) (JE.d (je_tup (ja_cons (JE.d (je_call G_law_saying hr rfl n_law_saying k_law_saying b_law_saying (ju_mut (je_var 0) (ju_mut (je_var 1) (ju_val (JE.d (je_var 2)) (ju_val (JE.d (je_op op_subP (JE.d (je_var 3)) jd_int)) (ju_val (JE.d (je_op op_subP (JE.d (je_var 4)) jd_int)) ju_nil))))))) ja_nil))))))))))) hf

def g__law_saying (f_law_pick : FM) (f_law_test : FM) (f_law_saying : FM) (f_law_inner : FM) : GS :=
  (sSeq (sSet 5 (eCall f_law_pick (uMut (eVar 0) (uVal (eC (.int 9)) uNil))))
  (sSeq (sIf (qOr (qB (eF (eP fLt (aCons (eF (eVar 3)) (aCons (eC (.int 2)) aNil))))) (qOr (qB (eF (eP fLt (aCons (eF (eVar 4)) (aCons (eC (.int 2)) aNil))))) (qB (eF (eP fEq (aCons (eF (eVar 5)) (aCons (eC (.int 0)) aNil))))))) (sSeq (sIf (qB (eF (eP fEq (aCons (eF (eP fMod (aCons (eF (eVar 5)) (aCons (eC (.int 5)) aNil)))) (aCons (eC (.int 4)) aNil))))) (sRet (eP fTup (aCons (eF (eP fIx (aCons (eF (eP fLst (aCons (eC (.str "yes")) (aCons (eC (.str "no")) aNil)))) (aCons (eF (eCall f_law_pick (uMut (eVar 0) (uVal (eC (.int 2)) uNil)))) aNil)))) aNil))) sNil)
  (sRet (eP fTup (aCons (eC (.str "now")) (aCons (eF (eCall f_law_test (uMut (eVar 0) (uVal (eSub 1 (eC (.str "names"))) (uVal (eF (eVar 2)) uNil))))) aNil))))) sNil)
  (sSeq (sIf (qAnd (qB (eF (eP fLt (aCons (eF (eVar 5)) (aCons (eC (.int 5)) aNil))))) (qB (eF (eP fGt (aCons (eF (eVar 3)) (aCons (eC (.int 2)) aNil)))))) (sSeq (sSet 6 (eP fAdd (aCons (eC (.int 1)) (aCons (eF (eCall f_law_pick (uMut (eVar 0) (uVal (eF (eP fSub (aCons (eF (eVar 3)) (aCons (eC (.int 2)) aNil)))) uNil)))) aNil))))
  (sSeq (sSet 7 (eCall f_law_saying (uMut (eVar 0) (uMut (eVar 1) (uVal (eF (eVar 2)) (uVal (eF (eVar 6)) (uVal (eF (eP fSub (aCons (eF (eVar 4)) (aCons (eC (.int 1)) aNil)))) uNil)))))))
  (sSeq (sSet 8 (eCall f_law_saying (uMut (eVar 0) (uMut (eVar 1) (uVal (eF (eVar 2)) (uVal (eF (eP fSub (aCons (eF (eP fSub (aCons (eF (eVar 3)) (aCons (eC (.int 1)) aNil)))) (aCons (eF (eVar 6)) aNil)))) (uVal (eF (eP fSub (aCons (eF (eVar 4)) (aCons (eC (.int 1)) aNil)))) uNil)))))))
  (sRet (eP fTup (aCons (eF (eP fIx (aCons (eF (eP fLst (aCons (eC (.str "both")) (aCons (eC (.str "either")) (aCons (eC (.str "till")) (aCons (eC (.str "till")) aNil)))))) (aCons (eF (eP fSub (aCons (eF (eVar 5)) (aCons (eC (.int 1)) aNil)))) aNil)))) (aCons (eF (eVar 7)) (aCons (eF (eVar 8)) aNil)))))))) sNil)
  (sRet (eCall f_law_inner (uMut (eVar 0) (uMut (eVar 1) (uVal (eF (eVar 2)) (uVal (eF (eVar 3)) (uVal (eF (eVar 4)) uNil))))))))))

abbrev s__law_saying : Stmt := top 33
theorem sc__law_saying : FnScope ["_law_tape_here", "_law_world", "_law_variables", "_law_room", "_law_deep", "_law_way", "_law_first", "_law_one", "_law_other"] ["_law_tape_here", "_law_world", "_law_variables", "_law_room", "_law_deep"] (defScope s__law_saying) := ⟨rfl, rfl, rfl, by decide +kernel, rfl, by decide +kernel, by decide +kernel⟩
theorem ok__law_saying {P : Program} {w : World} {K : PySem.W.Frag} {mg : Str → Option Value} {base : Heap} {f : Addr} {fd : FuncData} {n : Nat} {fm : FM} (F : Fun K "_law_saying" "_law_saying" s__law_saying f fd)
    {a_law_pick : Addr} {d_law_pick : FuncData} {f_law_pick : FM} (G_law_pick : FnOk P w K mg base CX0 n a_law_pick d_law_pick ["_law_tape_here", "_law_many"] (spT K 2 f_law_pick)) (b_law_pick : Binds K d_law_pick ["_law_tape_here", "_law_many"] []) (k_law_pick : PySem.W.keepIn K (.ref a_law_pick) = true) (n_law_pick : mg "_law_pick" = some (.ref a_law_pick))
    {a_law_test : Addr} {d_law_test : FuncData} {f_law_test : FM} (G_law_test : FnOk P w K mg base CX0 n a_law_test d_law_test ["_law_tape_here", "_law_names_here", "_law_variables"] (spT K 3 f_law_test)) (b_law_test : Binds K d_law_test ["_law_tape_here", "_law_names_here", "_law_variables"] []) (k_law_test : PySem.W.keepIn K (.ref a_law_test) = true) (n_law_test : mg "_law_test" = some (.ref a_law_test))
    {a_law_saying : Addr} {d_law_saying : FuncData} {f_law_saying : FM} (G_law_saying : FnOk P w K mg base CX0 n a_law_saying d_law_saying ["_law_tape_here", "_law_world", "_law_variables", "_law_room", "_law_deep"] (spT K 5 f_law_saying)) (b_law_saying : Binds K d_law_saying ["_law_tape_here", "_law_world", "_law_variables", "_law_room", "_law_deep"] []) (k_law_saying : PySem.W.keepIn K (.ref a_law_saying) = true) (n_law_saying : mg "_law_saying" = some (.ref a_law_saying))
    {a_law_inner : Addr} {d_law_inner : FuncData} {f_law_inner : FM} (G_law_inner : FnOk P w K mg base CX0 n a_law_inner d_law_inner ["_law_tape_here", "_law_world", "_law_variables", "_law_room", "_law_deep"] (spT K 5 f_law_inner)) (b_law_inner : Binds K d_law_inner ["_law_tape_here", "_law_world", "_law_variables", "_law_room", "_law_deep"] []) (k_law_inner : PySem.W.keepIn K (.ref a_law_inner) = true) (n_law_inner : mg "_law_inner" = some (.ref a_law_inner))
    (hf : ∀ us r, fm us = some r → runB 9 (g__law_saying f_law_pick f_law_test f_law_saying f_law_inner) us = some r) : FnOk P w K mg base CX0 (n + 1) f fd ["_law_tape_here", "_law_world", "_law_variables", "_law_room", "_law_deep"] (spT K 5 fm) :=
  okT (g := g__law_saying f_law_pick f_law_test f_law_saying f_law_inner) F sc__law_saying (fun cdv A outer s H E hr => (jb_cons (js_set (i := 5) sc__law_saying.nd rfl (by first | exact Or.inl rfl | exact Or.inr rfl) (je_call G_law_pick hr rfl n_law_pick k_law_pick b_law_pick (ju_mut (je_var 0) (ju_val jd_int ju_nil))))
    (jb_cons (js_if (JW.t (jw_or (jt_cmp op_ltP (JE.d (je_var 3)) jd_int) (jw_or (jt_cmp op_ltP (JE.d (je_var 4)) jd_int) (jw_one_or (jt_cmp (op_eqP hr.units) (JE.d (je_var 5)) jd_int))))) (jb_cons (js_if (jt_cmp (op_eqP hr.units) (JE.d (je_op op_modP (JE.d (je_var 5)) jd_int)) jd_int) (jb_one (js_ret (je_tup (ja_cons (JE.d (je_ix ix_P (JE.d (je_lst (ja_cons jd_str (ja_cons jd_str ja_nil)))) (JE.d (je_call G_law_pick hr rfl n_law_pick k_law_pick b_law_pick (ju_mut (je_var 0) (ju_val jd_int ju_nil)))) (fun _ _ => rfl))) ja_nil)))) jb_nil)
    (jb_one (js_ret (je_tup (ja_cons jd_str (ja_cons (JE.d (je_call G_law_test hr rfl n_law_test k_law_test b_law_test (ju_mut (je_var 0) (ju_val (jd_sub (i := 1) (hu_of hr) jd_str (fun _ _ => rfl)) (ju_val (JE.d (je_var 2)) ju_nil))))) ja_nil)))))) jb_nil)
    (jb_cons (js_if (JW.t (jw_and (jt_cmp op_ltP (JE.d (je_var 5)) jd_int) (jw_one_and (jt_cmp op_gtP (JE.d (je_var 3)) jd_int)))) (jb_cons (js_set (i := 6) sc__law_saying.nd rfl (by first | exact Or.inl rfl | exact Or.inr rfl) (je_op op_addP jd_int (JE.d (je_call G_law_pick hr rfl n_law_pick k_law_pick b_law_pick (ju_mut (je_var 0) (ju_val (JE.d (je_op op_subP (JE.d (je_var 3)) jd_int)) ju_nil))))))
    (jb_cons (js_set (i := 7) sc__law_saying.nd rfl (by first | exact Or.inl rfl | exact Or.inr rfl) (je_call G_law_saying hr rfl n_law_saying k_law_saying b_law_saying (ju_mut (je_var 0) (ju_mut (je_var 1) (ju_val (JE.d (je_var 2)) (ju_val (JE.d (je_var 6)) (ju_val (JE.d (je_op op_subP (JE.d (je_var 4)) jd_int)) ju_nil)))))))
    (jb_cons (js_set (i := 8) sc__law_saying.nd rfl (by first | exact Or.inl rfl | exact Or.inr rfl) (je_call G_law_saying hr rfl n_law_saying k_law_saying b_law_saying (ju_mut (je_var 0) (ju_mut (je_var 1) (ju_val (JE.d (je_var 2)) (ju_val (JE.d (je_op op_subP (JE.d (je_op op_subP (JE.d (je_var 3)) jd_int)) (JE.d (je_var 6)))) (ju_val (JE.d (je_op op_subP (JE.d (je_var 4)) jd_int)) ju_nil)))))))
    (jb_one (js_ret (je_tup (ja_cons (JE.d (je_ix ix_P (JE.d (je_lst (ja_cons jd_str (ja_cons jd_str (ja_cons jd_str (ja_cons jd_str ja_nil)))))) (JE.d (je_op op_subP (JE.d (je_var 5)) jd_int)) (fun _ _ => rfl))) (ja_cons (JE.d (je_var 7)) (ja_cons (JE.d (je_var 8)) ja_nil))))))))) jb_nil)
    (jb_one (js_ret (je_call G_law_inner hr rfl n_law_inner k_law_inner b_law_inner (ju_mut (je_var 0) (ju_mut (je_var 1) (ju_val (JE.d (je_var 2)) (ju_val (JE.d (je_var 3)) (ju_val (JE.d (je_var 4)) ju_nil)))))))))))) hf

def g__law_whole (f_law_saying : FM) : GS :=
  (sRet (eCall f_law_saying (uMut (eVar 0) (uMut (eDict [("names", (eF (eVar 1))), ("binders", (eC (.int 0)))]) (uVal (eF (eP fTup aNil)) (uVal (eF (eVar 2)) (uVal (eF (eVar 3)) uNil)))))))

abbrev s__law_whole : Stmt := top 34
theorem sc__law_whole : FnScope ["_law_tape_here", "_law_names_here", "_law_room", "_law_deep"] ["_law_tape_here", "_law_names_here", "_law_room", "_law_deep"] (defScope s__law_whole) := ⟨rfl, rfl, rfl, by decide +kernel, rfl, by decide +kernel, by decide +kernel⟩
theorem ok__law_whole {P : Program} {w : World} {K : PySem.W.Frag} {mg : Str → Option Value} {base : Heap} {f : Addr} {fd : FuncData} {n : Nat} {fm : FM} (F : Fun K "_law_whole" "_law_whole" s__law_whole f fd)
    {a_law_saying : Addr} {d_law_saying : FuncData} {f_law_saying : FM} (G_law_saying : FnOk P w K mg base CX0 n a_law_saying d_law_saying ["_law_tape_here", "_law_world", "_law_variables", "_law_room", "_law_deep"] (spT K 5 f_law_saying)) (b_law_saying : Binds K d_law_saying ["_law_tape_here", "_law_world", "_law_variables", "_law_room", "_law_deep"] []) (k_law_saying : PySem.W.keepIn K (.ref a_law_saying) = true) (n_law_saying : mg "_law_saying" = some (.ref a_law_saying))
    (hf : ∀ us r, fm us = some r → runB 4 (g__law_whole f_law_saying) us = some r) : FnOk P w K mg base CX0 (n + 1) f fd ["_law_tape_here", "_law_names_here", "_law_room", "_law_deep"] (spT K 4 fm) :=
  okT (g := g__law_whole f_law_saying) F sc__law_whole (fun cdv A outer s H E hr => (jb_one (js_ret (je_call G_law_saying hr rfl n_law_saying k_law_saying b_law_saying (ju_mut (je_var 0) (ju_mut (je_dict (jps_cons (JE.d (je_var 1)) (jps_cons jd_int jps_nil))) (ju_val (JE.d (je_tup ja_nil)) (ju_val (JE.d (je_var 2)) (ju_val (JE.d (je_var 3)) ju_nil))))))))) hf

def g__law_shape : GS :=
  (sSeq (sSet 1 (eDict [("yes", (eF (eP fTup (aCons (eC (.int 1)) (aCons (eF (eP fLst aNil)) aNil))))), ("no", (eF (eP fTup (aCons (eC (.int 1)) (aCons (eF (eP fLst aNil)) aNil))))), ("now", (eF (eP fTup (aCons (eC (.int 2)) (aCons (eF (eP fLst aNil)) aNil))))), ("not", (eF (eP fTup (aCons (eC (.int 2)) (aCons (eF (eP fLst (aCons (eC (.int 1)) aNil))) aNil))))), ("next", (eF (eP fTup (aCons (eC (.int 2)) (aCons (eF (eP fLst (aCons (eC (.int 1)) aNil))) aNil))))), ("always", (eF (eP fTup (aCons (eC (.int 2)) (aCons (eF (eP fLst (aCons (eC (.int 1)) aNil))) aNil)))))]))
  (sSeq (sExpr (eT (eDUpd 1 (eDict [("some", (eF (eP fTup (aCons (eC (.int 2)) (aCons (eF (eP fLst (aCons (eC (.int 1)) aNil))) aNil))))), ("both", (eF (eP fTup (aCons (eC (.int 3)) (aCons (eF (eP fLst (aCons (eC (.int 1)) (aCons (eC (.int 2)) aNil)))) aNil))))), ("either", (eF (eP fTup (aCons (eC (.int 3)) (aCons (eF (eP fLst (aCons (eC (.int 1)) (aCons (eC (.int 2)) aNil)))) aNil))))), ("till", (eF (eP fTup (aCons (eC (.int 3)) (aCons (eF (eP fLst (aCons (eC (.int 1)) (aCons (eC (.int 2)) aNil)))) aNil)))))]))))
  (sSeq (sExpr (eT (eDUpd 1 (eDict [("within", (eF (eP fTup (aCons (eC (.int 3)) (aCons (eF (eP fLst (aCons (eC (.int 2)) aNil))) aNil))))), ("each", (eF (eP fTup (aCons (eC (.int 4)) (aCons (eF (eP fLst (aCons (eC (.int 3)) aNil))) aNil))))), ("one", (eF (eP fTup (aCons (eC (.int 4)) (aCons (eF (eP fLst (aCons (eC (.int 3)) aNil))) aNil)))))]))))
  (sRet (eT (eDGet 1 (eF (eVar 0)) (eF (eP fTup (aCons (eC (.int 0)) (aCons (eF (eP fLst aNil)) aNil))))))))))

abbrev s__law_shape : Stmt := top 35
theorem sc__law_shape : FnScope ["_law_head", "_law_shapes"] ["_law_head"] (defScope s__law_shape) := ⟨rfl, rfl, rfl, by decide +kernel, rfl, by decide +kernel, by decide +kernel⟩
theorem ok__law_shape {P : Program} {w : World} {K : PySem.W.Frag} {mg : Str → Option Value} {base : Heap} {f : Addr} {fd : FuncData} {n : Nat} {fm : FM} (F : Fun K "_law_shape" "_law_shape" s__law_shape f fd)
    (hf : ∀ us r, fm us = some r → runB 2 (g__law_shape) us = some r) : FnOk P w K mg base CX0 (n + 1) f fd ["_law_head"] (spT K 1 fm) :=
  okT (g := g__law_shape) F sc__law_shape (fun cdv A outer s H E hr => (jb_cons (js_set (i := 1) sc__law_shape.nd rfl (by first | exact Or.inl rfl | exact Or.inr rfl) (je_dict (jps_cons (JE.d (je_tup (ja_cons jd_int (ja_cons (JE.d (je_lst ja_nil)) ja_nil)))) (jps_cons (JE.d (je_tup (ja_cons jd_int (ja_cons (JE.d (je_lst ja_nil)) ja_nil)))) (jps_cons (JE.d (je_tup (ja_cons jd_int (ja_cons (JE.d (je_lst ja_nil)) ja_nil)))) (jps_cons (JE.d (je_tup (ja_cons jd_int (ja_cons (JE.d (je_lst (ja_cons jd_int ja_nil))) ja_nil)))) (jps_cons (JE.d (je_tup (ja_cons jd_int (ja_cons (JE.d (je_lst (ja_cons jd_int ja_nil))) ja_nil)))) (jps_cons (JE.d (je_tup (ja_cons jd_int (ja_cons (JE.d (je_lst (ja_cons jd_int ja_nil))) ja_nil)))) jps_nil))))))))
    (jb_cons (js_expr (JD.e (jd_dupd (i := 1) (je_dict (jps_cons (JE.d (je_tup (ja_cons jd_int (ja_cons (JE.d (je_lst (ja_cons jd_int ja_nil))) ja_nil)))) (jps_cons (JE.d (je_tup (ja_cons jd_int (ja_cons (JE.d (je_lst (ja_cons jd_int (ja_cons jd_int ja_nil)))) ja_nil)))) (jps_cons (JE.d (je_tup (ja_cons jd_int (ja_cons (JE.d (je_lst (ja_cons jd_int (ja_cons jd_int ja_nil)))) ja_nil)))) (jps_cons (JE.d (je_tup (ja_cons jd_int (ja_cons (JE.d (je_lst (ja_cons jd_int (ja_cons jd_int ja_nil)))) ja_nil)))) jps_nil))))))))
    (jb_cons (js_expr (JD.e (jd_dupd (i := 1) (je_dict (jps_cons (JE.d (je_tup (ja_cons jd_int (ja_cons (JE.d (je_lst (ja_cons jd_int ja_nil))) ja_nil)))) (jps_cons (JE.d (je_tup (ja_cons jd_int (ja_cons (JE.d (je_lst (ja_cons jd_int ja_nil))) ja_nil)))) (jps_cons (JE.d (je_tup (ja_cons jd_int (ja_cons (JE.d (je_lst (ja_cons jd_int ja_nil))) ja_nil)))) jps_nil)))))))
    (jb_one (js_ret (JD.e (jd_dget (i := 1) (hu_of hr) (JE.d (je_var 0)) (JE.d (je_tup (ja_cons jd_int (ja_cons (JE.d (je_lst ja_nil)) ja_nil)))))))))))) hf

def g__law_is_test (f_law_is_name : FM) (f_law_whole_to : FM) : GS :=
  (sSeq (sIf (qOr (qNot (qB (eIs ["tuple"] (eF (eVar 0))))) (qOr (qB (eF (eP fEq (aCons (eLen 0) (aCons (eC (.int 0)) aNil))))) (qNot (qB (eIs ["str"] (eSub 0 (eC (.int 0)))))))) (sRet (eT (eC (.bl false)))) sNil)
  (sSeq (sIf (qB (eF (eP fEq (aCons (eSub 0 (eC (.int 0))) (aCons (eC (.str "any")) aNil))))) (sRet (eP fEq (aCons (eLen 0) (aCons (eC (.int 1)) aNil)))) sNil)
  (sSeq (sIf (qOr (qB (eF (eP fNe (aCons (eLen 0) (aCons (eC (.int 2)) aNil))))) (qB (eF (eP fNotIn (aCons (eSub 0 (eC (.int 0))) (aCons (eF (eP fTup (aCons (eC (.str "name")) (aCons (eC (.str "less")) (aCons (eC (.str "same")) (aCons (eC (.str "more")) aNil)))))) aNil)))))) (sRet (eT (eC (.bl false)))) sNil)
  (sSeq (sIf (qB (eF (eP fEq (aCons (eSub 0 (eC (.int 0))) (aCons (eC (.str "name")) aNil))))) (sRet (eCall f_law_is_name (uVal (eSub 0 (eC (.int 1))) uNil))) sNil)
  (sRet (eT (eQ (qOr (qB (eF (eCall f_law_whole_to (uVal (eSub 0 (eC (.int 1))) (uVal (eC (.int 9)) uNil))))) (qB (eQ (qAnd (qB (eIs ["str"] (eSub 0 (eC (.int 1))))) (qB (eF (eP fIn (aCons (eSub 0 (eC (.int 1))) (aCons (eF (eVar 1)) aNil))))))))))))))))

abbrev s__law_is_test : Stmt := top 36
theorem sc__law_is_test : FnScope ["_law_thing", "_law_variables"] ["_law_thing", "_law_variables"] (defScope s__law_is_test) := ⟨rfl, rfl, rfl, by decide +kernel, rfl, by decide +kernel, by decide +kernel⟩
theorem ok__law_is_test {P : Program} {w : World} {K : PySem.W.Frag} {mg : Str → Option Value} {base : Heap} {f : Addr} {fd : FuncData} {n : Nat} {fm : FM} (F : Fun K "_law_is_test" "_law_is_test" s__law_is_test f fd) (misinstance : mg "isinstance" = none) (mtuple : mg "tuple" = none) (mlen : mg "len" = none) (mstr : mg "str" = none)
    {a_law_is_name : Addr} {d_law_is_name : FuncData} {f_law_is_name : FM} (G_law_is_name : FnOk P w K mg base CX0 n a_law_is_name d_law_is_name ["_law_thing"] (spT K 1 f_law_is_name)) (b_law_is_name : Binds K d_law_is_name ["_law_thing"] []) (k_law_is_name : PySem.W.keepIn K (.ref a_law_is_name) = true) (n_law_is_name : mg "_law_is_name" = some (.ref a_law_is_name))
    {a_law_whole_to : Addr} {d_law_whole_to : FuncData} {f_law_whole_to : FM} (G_law_whole_to : FnOk P w K mg base CX0 n a_law_whole_to d_law_whole_to ["_law_thing", "_law_most"] (spT K 2 f_law_whole_to)) (b_law_whole_to : Binds K d_law_whole_to ["_law_thing", "_law_most"] []) (k_law_whole_to : PySem.W.keepIn K (.ref a_law_whole_to) = true) (n_law_whole_to : mg "_law_whole_to" = some (.ref a_law_whole_to))
    (hf : ∀ us r, fm us = some r → runB 2 (g__law_is_test f_law_is_name f_law_whole_to) us = some r) : FnOk P w K mg base CX0 (n + 1) f fd ["_law_thing", "_law_variables"] (spT K 2 fm) :=
  okT (g := g__law_is_test f_law_is_name f_law_whole_to) F sc__law_is_test (fun cdv A outer s H E hr => (jb_cons (js_if (JW.t (jw_or (jt_not (jt_val (jd_isinst rfl misinstance rfl mtuple PyProof.Rows.Boot.tuple (JE.d (je_var 0))))) (jw_or (jt_cmp (op_eqP hr.units) (jd_len (i := 0) rfl mlen) jd_int) (jw_one_or (jt_not (jt_val (jd_isinst rfl misinstance rfl mstr PyProof.Rows.Boot.str (jd_sub (i := 0) (hu_of hr) jd_int (fun _ _ => rfl))))))))) (jb_one (js_ret (JD.e jd_bl))) jb_nil)
    (jb_cons (js_if (jt_cmp (op_eqP hr.units) (jd_sub (i := 0) (hu_of hr) jd_int (fun _ _ => rfl)) jd_str) (jb_one (js_ret (je_cmp (op_eqP hr.units) (jd_len (i := 0) rfl mlen) jd_int))) jb_nil)
    (jb_cons (js_if (JW.t (jw_or (jt_cmp (op_neP hr.units) (jd_len (i := 0) rfl mlen) jd_int) (jw_one_or (jt_cmp (op_notInP hr.units) (jd_sub (i := 0) (hu_of hr) jd_int (fun _ _ => rfl)) (JE.d (je_tup (ja_cons jd_str (ja_cons jd_str (ja_cons jd_str (ja_cons jd_str ja_nil)))))) (by with_unfolding_all rfl))))) (jb_one (js_ret (JD.e jd_bl))) jb_nil)
    (jb_cons (js_if (jt_cmp (op_eqP hr.units) (jd_sub (i := 0) (hu_of hr) jd_int (fun _ _ => rfl)) jd_str) (jb_one (js_ret (je_call G_law_is_name hr rfl n_law_is_name k_law_is_name b_law_is_name (ju_val (jd_sub (i := 0) (hu_of hr) jd_int (fun _ _ => rfl)) ju_nil)))) jb_nil)
    (jb_one (js_ret (JD.e (jd_or (JE.d (je_call G_law_whole_to hr rfl n_law_whole_to k_law_whole_to b_law_whole_to (ju_val (jd_sub (i := 0) (hu_of hr) jd_int (fun _ _ => rfl)) (ju_val jd_int ju_nil)))) (jd_one (jd_and (jd_isinst rfl misinstance rfl mstr PyProof.Rows.Boot.str (jd_sub (i := 0) (hu_of hr) jd_int (fun _ _ => rfl))) (jd_one (JE.d (je_cmp (op_inP hr.units) (jd_sub (i := 0) (hu_of hr) jd_int (fun _ _ => rfl)) (JE.d (je_var 1)) (by with_unfolding_all rfl))))))))))))))) hf

def g__law_is_saying (f_law_shape : FM) (f_law_is_test : FM) (f_law_whole_to : FM) (f_law_is_name : FM) (f_law_is_saying : FM) : GS :=
  (sSeq (sIf (qOr (qNot (qB (eIs ["tuple"] (eF (eVar 0))))) (qOr (qB (eF (eP fEq (aCons (eLen 0) (aCons (eC (.int 0)) aNil))))) (qNot (qB (eIs ["str"] (eSub 0 (eC (.int 0)))))))) (sRet (eT (eC (.bl false)))) sNil)
  (sSeq (sPut 3 (eC (.int 0)) (eF (eP fAdd (aCons (eSub 3 (eC (.int 0))) (aCons (eC (.int 1)) aNil)))))
  (sSeq (sAsg (bTup 2 (bCons (bName 4) (bCons (bName 5) bNil))) (eF (eCall f_law_shape (uVal (eSub 0 (eC (.int 0))) uNil))))
  (sSeq (sIf (qOr (qB (eF (eP fNe (aCons (eLen 0) (aCons (eF (eVar 4)) aNil))))) (qOr (qB (eF (eP fGt (aCons (eF (eVar 2)) (aCons (eC (.int 8)) aNil))))) (qB (eF (eP fGt (aCons (eSub 3 (eC (.int 0))) (aCons (eC (.int 16)) aNil))))))) (sRet (eT (eC (.bl false)))) sNil)
  (sSeq (sIf (qB (eF (eP fEq (aCons (eSub 0 (eC (.int 0))) (aCons (eC (.str "now")) aNil))))) (sRet (eCall f_law_is_test (uVal (eSub 0 (eC (.int 1))) (uVal (eF (eVar 1)) uNil)))) sNil)
  (sSeq (sIf (qAnd (qB (eF (eP fEq (aCons (eSub 0 (eC (.int 0))) (aCons (eC (.str "within")) aNil))))) (qNot (qB (eF (eCall f_law_whole_to (uVal (eSub 0 (eC (.int 1))) (uVal (eC (.int 5)) uNil))))))) (sRet (eT (eC (.bl false)))) sNil)
  (sSeq (sIf (qB (eF (eP fIn (aCons (eSub 0 (eC (.int 0))) (aCons (eF (eP fTup (aCons (eC (.str "each")) (aCons (eC (.str "one")) aNil)))) aNil))))) (sSeq (sPut 3 (eC (.int 1)) (eF (eP fAdd (aCons (eSub 3 (eC (.int 1))) (aCons (eC (.int 1)) aNil)))))
  (sSeq (sIf (qOr (qB (eF (eP fGt (aCons (eSub 3 (eC (.int 1))) (aCons (eC (.int 3)) aNil))))) (qOr (qNot (qB (eF (eCall f_law_is_name (uVal (eSub 0 (eC (.int 1))) uNil))))) (qNot (qB (eF (eCall f_law_is_name (uVal (eSub 0 (eC (.int 2))) uNil))))))) (sRet (eT (eC (.bl false)))) sNil)
  (sSet 1 (eP fAdd (aCons (eF (eVar 1)) (aCons (eF (eP fLst (aCons (eSub 0 (eC (.int 2))) aNil))) aNil)))))) sNil)
  (sRet (eP fEq (aCons (eF (eFrz 1 (eComp [3, 2, 0, 1] (iAny (eF (eVar 5))) (qNot (qB (eF (eCall f_law_is_saying (uVal (eSub 3 (eF (eVar 0))) (uVal (eF (eVar 4)) (uVal (eF (eP fAdd (aCons (eF (eVar 2)) (aCons (eC (.int 1)) aNil)))) (uMut (eVar 1) uNil)))))))) (eF (eVar 0))))) (aCons (eF (eP fLst aNil)) aNil)))))))))))

abbrev s__law_is_saying : Stmt := top 37
theorem sc__law_is_saying : FnScope ["_law_thing", "_law_variables", "_law_deep", "_law_counts", "_law_long", "_law_places"] ["_law_thing", "_law_variables", "_law_deep", "_law_counts"] (defScope s__law_is_saying) := ⟨rfl, rfl, rfl, by decide +kernel, rfl, by decide +kernel, by decide +kernel⟩
theorem ok__law_is_saying {P : Program} {w : World} {K : PySem.W.Frag} {mg : Str → Option Value} {base : Heap} {f : Addr} {fd : FuncData} {n : Nat} {fm : FM} (F : Fun K "_law_is_saying" "_law_is_saying" s__law_is_saying f fd) (misinstance : mg "isinstance" = none) (mtuple : mg "tuple" = none) (mlen : mg "len" = none) (mstr : mg "str" = none)
    {a_law_shape : Addr} {d_law_shape : FuncData} {f_law_shape : FM} (G_law_shape : FnOk P w K mg base CX0 n a_law_shape d_law_shape ["_law_head"] (spT K 1 f_law_shape)) (b_law_shape : Binds K d_law_shape ["_law_head"] []) (k_law_shape : PySem.W.keepIn K (.ref a_law_shape) = true) (n_law_shape : mg "_law_shape" = some (.ref a_law_shape))
    {a_law_is_test : Addr} {d_law_is_test : FuncData} {f_law_is_test : FM} (G_law_is_test : FnOk P w K mg base CX0 n a_law_is_test d_law_is_test ["_law_thing", "_law_variables"] (spT K 2 f_law_is_test)) (b_law_is_test : Binds K d_law_is_test ["_law_thing", "_law_variables"] []) (k_law_is_test : PySem.W.keepIn K (.ref a_law_is_test) = true) (n_law_is_test : mg "_law_is_test" = some (.ref a_law_is_test))
    {a_law_whole_to : Addr} {d_law_whole_to : FuncData} {f_law_whole_to : FM} (G_law_whole_to : FnOk P w K mg base CX0 n a_law_whole_to d_law_whole_to ["_law_thing", "_law_most"] (spT K 2 f_law_whole_to)) (b_law_whole_to : Binds K d_law_whole_to ["_law_thing", "_law_most"] []) (k_law_whole_to : PySem.W.keepIn K (.ref a_law_whole_to) = true) (n_law_whole_to : mg "_law_whole_to" = some (.ref a_law_whole_to))
    {a_law_is_name : Addr} {d_law_is_name : FuncData} {f_law_is_name : FM} (G_law_is_name : FnOk P w K mg base CX0 n a_law_is_name d_law_is_name ["_law_thing"] (spT K 1 f_law_is_name)) (b_law_is_name : Binds K d_law_is_name ["_law_thing"] []) (k_law_is_name : PySem.W.keepIn K (.ref a_law_is_name) = true) (n_law_is_name : mg "_law_is_name" = some (.ref a_law_is_name))
    {a_law_is_saying : Addr} {d_law_is_saying : FuncData} {f_law_is_saying : FM} (G_law_is_saying : FnOk P w K mg base CX0 n a_law_is_saying d_law_is_saying ["_law_thing", "_law_variables", "_law_deep", "_law_counts"] (spT K 4 f_law_is_saying)) (b_law_is_saying : Binds K d_law_is_saying ["_law_thing", "_law_variables", "_law_deep", "_law_counts"] []) (k_law_is_saying : PySem.W.keepIn K (.ref a_law_is_saying) = true) (n_law_is_saying : mg "_law_is_saying" = some (.ref a_law_is_saying))
    (hf : ∀ us r, fm us = some r → runB 6 (g__law_is_saying f_law_shape f_law_is_test f_law_whole_to f_law_is_name f_law_is_saying) us = some r) : FnOk P w K mg base CX0 (n + 1) f fd ["_law_thing", "_law_variables", "_law_deep", "_law_counts"] (spT K 4 fm) :=
  okT (g := g__law_is_saying f_law_shape f_law_is_test f_law_whole_to f_law_is_name f_law_is_saying) F sc__law_is_saying (fun cdv A outer s H E hr => (jb_cons (js_if (JW.t (jw_or (jt_not (jt_val (jd_isinst rfl misinstance rfl mtuple PyProof.Rows.Boot.tuple (JE.d (je_var 0))))) (jw_or (jt_cmp (op_eqP hr.units) (jd_len (i := 0) rfl mlen) jd_int) (jw_one_or (jt_not (jt_val (jd_isinst rfl misinstance rfl mstr PyProof.Rows.Boot.str (jd_sub (i := 0) (hu_of hr) jd_int (fun _ _ => rfl))))))))) (jb_one (js_ret (JD.e jd_bl))) jb_nil)
    (jb_cons (js_put (i := 3) (hu_of hr) jd_int (JE.d (je_op op_addP (jd_sub (i := 3) (hu_of hr) jd_int (fun _ _ => rfl)) jd_int)))
    (jb_cons (js_asg (JE.d (je_call G_law_shape hr rfl n_law_shape k_law_shape b_law_shape (ju_val (jd_sub (i := 0) (hu_of hr) jd_int (fun _ _ => rfl)) ju_nil))) (jg_tup rfl (jgs_cons (jg_name (i := 4) sc__law_is_saying.nd rfl (by first | exact Or.inl rfl | exact Or.inr rfl)) (jgs_cons (jg_name (i := 5) sc__law_is_saying.nd rfl (by first | exact Or.inl rfl | exact Or.inr rfl)) jgs_nil))))
    (jb_cons (js_if (JW.t (jw_or (jt_cmp (op_neP hr.units) (jd_len (i := 0) rfl mlen) (JE.d (je_var 4))) (jw_or (jt_cmp op_gtP (JE.d (je_var 2)) jd_int) (jw_one_or (jt_cmp op_gtP (jd_sub (i := 3) (hu_of hr) jd_int (fun _ _ => rfl)) jd_int))))) (jb_one (js_ret (JD.e jd_bl))) jb_nil)
    (jb_cons (js_if (jt_cmp (op_eqP hr.units) (jd_sub (i := 0) (hu_of hr) jd_int (fun _ _ => rfl)) jd_str) (jb_one (js_ret (je_call G_law_is_test hr rfl n_law_is_test k_law_is_test b_law_is_test (ju_val (jd_sub (i := 0) (hu_of hr) jd_int (fun _ _ => rfl)) (ju_val (JE.d (je_var 1)) ju_nil))))) jb_nil)
    (jb_cons (js_if (JW.t (jw_and (jt_cmp (op_eqP hr.units) (jd_sub (i := 0) (hu_of hr) jd_int (fun _ _ => rfl)) jd_str) (jw_one_and (jt_not (jt_val (JE.d (je_call G_law_whole_to hr rfl n_law_whole_to k_law_whole_to b_law_whole_to (ju_val (jd_sub (i := 0) (hu_of hr) jd_int (fun _ _ => rfl)) (ju_val jd_int ju_nil))))))))) (jb_one (js_ret (JD.e jd_bl))) jb_nil)
    (jb_cons (js_if (jt_cmp (op_inP hr.units) (jd_sub (i := 0) (hu_of hr) jd_int (fun _ _ => rfl)) (JE.d (je_tup (ja_cons jd_str (ja_cons jd_str ja_nil)))) (by with_unfolding_all rfl)) (jb_cons (js_put (i := 3) (hu_of hr) jd_int (JE.d (je_op op_addP (jd_sub (i := 3) (hu_of hr) jd_int (fun _ _ => rfl)) jd_int)))
    (jb_cons (js_if (JW.t (jw_or (jt_cmp op_gtP (jd_sub (i := 3) (hu_of hr) jd_int (fun _ _ => rfl)) jd_int) (jw_or (jt_not (jt_val (JE.d (je_call G_law_is_name hr rfl n_law_is_name k_law_is_name b_law_is_name (ju_val (jd_sub (i := 0) (hu_of hr) jd_int (fun _ _ => rfl)) ju_nil))))) (jw_one_or (jt_not (jt_val (JE.d (je_call G_law_is_name hr rfl n_law_is_name k_law_is_name b_law_is_name (ju_val (jd_sub (i := 0) (hu_of hr) jd_int (fun _ _ => rfl)) ju_nil))))))))) (jb_one (js_ret (JD.e jd_bl))) jb_nil)
    (jb_one (js_set (i := 1) sc__law_is_saying.nd rfl (by first | exact Or.inl rfl | exact Or.inr rfl) (je_op op_addP (JE.d (je_var 1)) (JE.d (je_lst (ja_cons (jd_sub (i := 0) (hu_of hr) jd_int (fun _ _ => rfl)) ja_nil)))))))) jb_nil)
    (jb_one (js_ret (je_cmp (op_eqP hr.units) (JE.d (je_frz 1 (je_comp (comp_capsD (capN := ["_law_counts", "_law_deep", "_law_thing", "_law_variables"]) (cap := [3, 2, 0, 1]) rfl (by decide) rfl (by decide) rfl rfl (by decide) (by first | exact Or.inl rfl | exact Or.inr rfl) (by decide) rfl rfl rfl) rfl (ji_any (JE.d (je_var 5))) (fun _ _ _ _ => (jts_one (jt_not (jt_val (JE.d (je_call G_law_is_saying hr rfl n_law_is_saying k_law_is_saying b_law_is_saying (ju_val (jd_sub (i := 3) (hu_of hr) (JE.d (je_var 0)) (fun _ _ => rfl)) (ju_val (JE.d (je_var 4)) (ju_val (JE.d (je_op op_addP (JE.d (je_var 2)) jd_int)) (ju_mut (je_var 1) ju_nil)))))))))) (fun _ _ _ _ => (JE.d (je_var 0)))))) (JE.d (je_lst ja_nil))))))))))))) hf

def g__law_odd (f_law_pick : FM) : GS :=
  (sSeq (sSet 1 (eP fLst (aCons (eC .non) (aCons (eC (.bl true)) (aCons (eC (.bl false)) (aCons (eC (.int 0)) (aCons (eF (eP fNeg (aCons (eC (.int 1)) aNil))) (aCons (eC (.int 6)) (aCons (eF (eP fPow (aCons (eC (.int 10)) (aCons (eC (.int 19)) aNil)))) (aCons (eC (.str "")) (aCons (eC (.str "A")) (aCons (eC (.str "a.b")) (aCons (eC (.str "a1")) (aCons (eC (.str "ninesigns")) aNil))))))))))))))
  (sSeq (sSet 1 (eP fAdd (aCons (eF (eVar 1)) (aCons (eF (eP fLst (aCons (eF (eP fTup aNil)) (aCons (eF (eP fLst aNil)) (aCons (eF (eP fTup (aCons (eC (.str "a")) aNil))) (aCons (eF (eP fLst (aCons (eC (.str "a")) (aCons (eC (.int 0)) aNil)))) (aCons (eF (eP fTup (aCons (eC (.str "a")) (aCons (eC (.int 0)) aNil)))) aNil))))))) aNil))))
  (sRet (eT (eSub 1 (eF (eCall f_law_pick (uMut (eVar 0) (uVal (eC (.int 17)) uNil)))))))))

abbrev s__law_odd : Stmt := top 38
theorem sc__law_odd : FnScope ["_law_tape_here", "_law_odd_here"] ["_law_tape_here"] (defScope s__law_odd) := ⟨rfl, rfl, rfl, by decide +kernel, rfl, by decide +kernel, by decide +kernel⟩
theorem ok__law_odd {P : Program} {w : World} {K : PySem.W.Frag} {mg : Str → Option Value} {base : Heap} {f : Addr} {fd : FuncData} {n : Nat} {fm : FM} (F : Fun K "_law_odd" "_law_odd" s__law_odd f fd)
    {a_law_pick : Addr} {d_law_pick : FuncData} {f_law_pick : FM} (G_law_pick : FnOk P w K mg base CX0 n a_law_pick d_law_pick ["_law_tape_here", "_law_many"] (spT K 2 f_law_pick)) (b_law_pick : Binds K d_law_pick ["_law_tape_here", "_law_many"] []) (k_law_pick : PySem.W.keepIn K (.ref a_law_pick) = true) (n_law_pick : mg "_law_pick" = some (.ref a_law_pick))
    (hf : ∀ us r, fm us = some r → runB 2 (g__law_odd f_law_pick) us = some r) : FnOk P w K mg base CX0 (n + 1) f fd ["_law_tape_here"] (spT K 1 fm) :=
  okT (g := g__law_odd f_law_pick) F sc__law_odd (fun cdv A outer s H E hr => (jb_cons (js_set (i := 1) sc__law_odd.nd rfl (by first | exact Or.inl rfl | exact Or.inr rfl) (je_lst (ja_cons jd_non (ja_cons jd_bl (ja_cons jd_bl (ja_cons jd_int (ja_cons (JE.d (je_un un_negP jd_int)) (ja_cons jd_int (ja_cons (JE.d (je_op op_powP jd_int jd_int)) (ja_cons jd_str (ja_cons jd_str (ja_cons jd_str (ja_cons jd_str (ja_cons jd_str ja_nil))))))))))))))
    (jb_cons (js_set (i := 1) sc__law_odd.nd rfl (by first | exact Or.inl rfl | exact Or.inr rfl) (je_op op_addP (JE.d (je_var 1)) (JE.d (je_lst (ja_cons (JE.d (je_tup ja_nil)) (ja_cons (JE.d (je_lst ja_nil)) (ja_cons (JE.d (je_tup (ja_cons jd_str ja_nil))) (ja_cons (JE.d (je_lst (ja_cons jd_str (ja_cons jd_int ja_nil)))) (ja_cons (JE.d (je_tup (ja_cons jd_str (ja_cons jd_int ja_nil)))) ja_nil)))))))))
    (jb_one (js_ret (JD.e (jd_sub (i := 1) (hu_of hr) (JE.d (je_call G_law_pick hr rfl n_law_pick k_law_pick b_law_pick (ju_mut (je_var 0) (ju_val jd_int ju_nil)))) (fun _ _ => rfl)))))))) hf

def g__law_bent (f_law_pick : FM) (f_law_bent : FM) (f_law_whole_to : FM) (f_law_odd : FM) : GS :=
  (sSeq (sIf (qAnd (qB (eIs ["tuple"] (eF (eVar 1)))) (qAnd (qB (eF (eP fGt (aCons (eLen 1) (aCons (eC (.int 0)) aNil))))) (qAnd (qB (eF (eP fGt (aCons (eF (eVar 2)) (aCons (eC (.int 0)) aNil))))) (qB (eF (eP fGt (aCons (eF (eCall f_law_pick (uMut (eVar 0) (uVal (eC (.int 4)) uNil)))) (aCons (eC (.int 0)) aNil)))))))) (sSeq (sSet 3 (eCall f_law_pick (uMut (eVar 0) (uVal (eLen 1) uNil))))
  (sRet (eP fAdd (aCons (eF (eP fAdd (aCons (eF (eSl (eF (eVar 1)) none (some (eF (eVar 3))))) (aCons (eF (eP fTup (aCons (eF (eCall f_law_bent (uMut (eVar 0) (uVal (eSub 1 (eF (eVar 3))) (uVal (eF (eP fSub (aCons (eF (eVar 2)) (aCons (eC (.int 1)) aNil)))) uNil))))) aNil))) aNil)))) (aCons (eF (eSl (eF (eVar 1)) (some (eF (eP fAdd (aCons (eF (eVar 3)) (aCons (eC (.int 1)) aNil))))) none)) aNil))))) sNil)
  (sSeq (sSet 4 (eCall f_law_pick (uMut (eVar 0) (uVal (eC (.int 8)) uNil))))
  (sSeq (sIf (qAnd (qB (eIs ["tuple"] (eF (eVar 1)))) (qB (eF (eP fLt (aCons (eF (eVar 4)) (aCons (eC (.int 5)) aNil)))))) (sSeq (sSet 3 (eCall f_law_pick (uMut (eVar 0) (uVal (eF (eP fAdd (aCons (eLen 1) (aCons (eC (.int 1)) aNil)))) uNil))))
  (sRet (eP fIx (aCons (eF (eP fLst (aCons (eF (eSl (eF (eVar 1)) none (some (eF (eVar 3))))) (aCons (eF (eP fAdd (aCons (eF (eVar 1)) (aCons (eF (eSl (eF (eVar 1)) (some (eF (eVar 3))) none)) aNil)))) (aCons (eF (eP fAdd (aCons (eF (eSl (eF (eVar 1)) none (some (eF (eVar 3))))) (aCons (eF (eSl (eF (eVar 1)) (some (eF (eP fAdd (aCons (eF (eVar 3)) (aCons (eC (.int 1)) aNil))))) none)) aNil)))) (aCons (eF (eP fList (aCons (eF (eVar 1)) aNil))) (aCons (eF (eP fAdd (aCons (eF (eVar 1)) (aCons (eF (eP fTup (aCons (eF (eVar 1)) aNil))) aNil)))) aNil))))))) (aCons (eF (eVar 4)) aNil))))) sNil)
  (sSeq (sIf (qAnd (qB (eF (eCall f_law_whole_to (uVal (eF (eVar 1)) (uVal (eF (eP fPow (aCons (eC (.int 10)) (aCons (eC (.int 20)) aNil)))) uNil))))) (qB (eF (eP fLt (aCons (eF (eVar 4)) (aCons (eC (.int 5)) aNil)))))) (sRet (eP fIx (aCons (eF (eP fLst (aCons (eF (eP fAdd (aCons (eF (eVar 1)) (aCons (eC (.int 1)) aNil)))) (aCons (eF (eP fSub (aCons (eF (eVar 1)) (aCons (eC (.int 1)) aNil)))) (aCons (eC (.int 5)) (aCons (eC (.int 9)) (aCons (eC (.int 10)) aNil))))))) (aCons (eF (eVar 4)) aNil)))) sNil)
  (sSeq (sIf (qAnd (qB (eIs ["str"] (eF (eVar 1)))) (qB (eF (eP fLt (aCons (eF (eVar 4)) (aCons (eC (.int 6)) aNil)))))) (sRet (eP fIx (aCons (eF (eP fLst (aCons (eF (eP fAdd (aCons (eF (eVar 1)) (aCons (eC (.str "a")) aNil)))) (aCons (eF (eSl (eF (eVar 1)) (some (eC (.int 1))) none)) (aCons (eF (eP fAdd (aCons (eF (eVar 1)) (aCons (eC (.str "A")) aNil)))) (aCons (eC (.str "x")) (aCons (eC (.str "now")) (aCons (eC (.str "less")) aNil)))))))) (aCons (eF (eVar 4)) aNil)))) sNil)
  (sRet (eCall f_law_odd (uMut (eVar 0) uNil))))))))

abbrev s__law_bent : Stmt := top 39
theorem sc__law_bent : FnScope ["_law_tape_here", "_law_thing", "_law_deep", "_law_at", "_law_way"] ["_law_tape_here", "_law_thing", "_law_deep"] (defScope s__law_bent) := ⟨rfl, rfl, rfl, by decide +kernel, rfl, by decide +kernel, by decide +kernel⟩
theorem ok__law_bent {P : Program} {w : World} {K : PySem.W.Frag} {mg : Str → Option Value} {base : Heap} {f : Addr} {fd : FuncData} {n : Nat} {fm : FM} (F : Fun K "_law_bent" "_law_bent" s__law_bent f fd) (misinstance : mg "isinstance" = none) (mtuple : mg "tuple" = none) (mlen : mg "len" = none) (mlist : mg "list" = none) (mstr : mg "str" = none)
    {a_law_pick : Addr} {d_law_pick : FuncData} {f_law_pick : FM} (G_law_pick : FnOk P w K mg base CX0 n a_law_pick d_law_pick ["_law_tape_here", "_law_many"] (spT K 2 f_law_pick)) (b_law_pick : Binds K d_law_pick ["_law_tape_here", "_law_many"] []) (k_law_pick : PySem.W.keepIn K (.ref a_law_pick) = true) (n_law_pick : mg "_law_pick" = some (.ref a_law_pick))
    {a_law_bent : Addr} {d_law_bent : FuncData} {f_law_bent : FM} (G_law_bent : FnOk P w K mg base CX0 n a_law_bent d_law_bent ["_law_tape_here", "_law_thing", "_law_deep"] (spT K 3 f_law_bent)) (b_law_bent : Binds K d_law_bent ["_law_tape_here", "_law_thing", "_law_deep"] []) (k_law_bent : PySem.W.keepIn K (.ref a_law_bent) = true) (n_law_bent : mg "_law_bent" = some (.ref a_law_bent))
    {a_law_whole_to : Addr} {d_law_whole_to : FuncData} {f_law_whole_to : FM} (G_law_whole_to : FnOk P w K mg base CX0 n a_law_whole_to d_law_whole_to ["_law_thing", "_law_most"] (spT K 2 f_law_whole_to)) (b_law_whole_to : Binds K d_law_whole_to ["_law_thing", "_law_most"] []) (k_law_whole_to : PySem.W.keepIn K (.ref a_law_whole_to) = true) (n_law_whole_to : mg "_law_whole_to" = some (.ref a_law_whole_to))
    {a_law_odd : Addr} {d_law_odd : FuncData} {f_law_odd : FM} (G_law_odd : FnOk P w K mg base CX0 n a_law_odd d_law_odd ["_law_tape_here"] (spT K 1 f_law_odd)) (b_law_odd : Binds K d_law_odd ["_law_tape_here"] []) (k_law_odd : PySem.W.keepIn K (.ref a_law_odd) = true) (n_law_odd : mg "_law_odd" = some (.ref a_law_odd))
    (hf : ∀ us r, fm us = some r → runB 5 (g__law_bent f_law_pick f_law_bent f_law_whole_to f_law_odd) us = some r) : FnOk P w K mg base CX0 (n + 1) f fd ["_law_tape_here", "_law_thing", "_law_deep"] (spT K 3 fm) :=
  okT (g := g__law_bent f_law_pick f_law_bent f_law_whole_to f_law_odd) F sc__law_bent (fun cdv A outer s H E hr => (jb_cons (js_if (JW.t (jw_and (jt_val (jd_isinst rfl misinstance rfl mtuple PyProof.Rows.Boot.tuple (JE.d (je_var 1)))) (jw_and (jt_cmp op_gtP (jd_len (i := 1) rfl mlen) jd_int) (jw_and (jt_cmp op_gtP (JE.d (je_var 2)) jd_int) (jw_one_and (jt_cmp op_gtP (JE.d (je_call G_law_pick hr rfl n_law_pick k_law_pick b_law_pick (ju_mut (je_var 0) (ju_val jd_int ju_nil)))) jd_int)))))) (jb_cons (js_set (i := 3) sc__law_bent.nd rfl (by first | exact Or.inl rfl | exact Or.inr rfl) (je_call G_law_pick hr rfl n_law_pick k_law_pick b_law_pick (ju_mut (je_var 0) (ju_val (jd_len (i := 1) rfl mlen) ju_nil))))
    (jb_one (js_ret (je_op op_addP (JE.d (je_op op_addP (JE.d (je_slice (JE.d (je_var 1)) jo_none (jo_some (JE.d (je_var 3))))) (JE.d (je_tup (ja_cons (JE.d (je_call G_law_bent hr rfl n_law_bent k_law_bent b_law_bent (ju_mut (je_var 0) (ju_val (jd_sub (i := 1) (hu_of hr) (JE.d (je_var 3)) (fun _ _ => rfl)) (ju_val (JE.d (je_op op_subP (JE.d (je_var 2)) jd_int)) ju_nil))))) ja_nil))))) (JE.d (je_slice (JE.d (je_var 1)) (jo_some (JE.d (je_op op_addP (JE.d (je_var 3)) jd_int))) jo_none)))))) jb_nil)
    (jb_cons (js_set (i := 4) sc__law_bent.nd rfl (by first | exact Or.inl rfl | exact Or.inr rfl) (je_call G_law_pick hr rfl n_law_pick k_law_pick b_law_pick (ju_mut (je_var 0) (ju_val jd_int ju_nil))))
    (jb_cons (js_if (JW.t (jw_and (jt_val (jd_isinst rfl misinstance rfl mtuple PyProof.Rows.Boot.tuple (JE.d (je_var 1)))) (jw_one_and (jt_cmp op_ltP (JE.d (je_var 4)) jd_int)))) (jb_cons (js_set (i := 3) sc__law_bent.nd rfl (by first | exact Or.inl rfl | exact Or.inr rfl) (je_call G_law_pick hr rfl n_law_pick k_law_pick b_law_pick (ju_mut (je_var 0) (ju_val (JE.d (je_op op_addP (jd_len (i := 1) rfl mlen) jd_int)) ju_nil))))
    (jb_one (js_ret (je_ix ix_P (JE.d (je_lst (ja_cons (JE.d (je_slice (JE.d (je_var 1)) jo_none (jo_some (JE.d (je_var 3))))) (ja_cons (JE.d (je_op op_addP (JE.d (je_var 1)) (JE.d (je_slice (JE.d (je_var 1)) (jo_some (JE.d (je_var 3))) jo_none)))) (ja_cons (JE.d (je_op op_addP (JE.d (je_slice (JE.d (je_var 1)) jo_none (jo_some (JE.d (je_var 3))))) (JE.d (je_slice (JE.d (je_var 1)) (jo_some (JE.d (je_op op_addP (JE.d (je_var 3)) jd_int))) jo_none)))) (ja_cons (JE.d (je_callTy call_listP rfl mlist PyProof.Rows.Boot.list (ja_cons (JE.d (je_var 1)) ja_nil))) (ja_cons (JE.d (je_op op_addP (JE.d (je_var 1)) (JE.d (je_tup (ja_cons (JE.d (je_var 1)) ja_nil))))) ja_nil))))))) (JE.d (je_var 4)) (fun _ _ => rfl))))) jb_nil)
    (jb_cons (js_if (JW.t (jw_and (jt_val (JE.d (je_call G_law_whole_to hr rfl n_law_whole_to k_law_whole_to b_law_whole_to (ju_val (JE.d (je_var 1)) (ju_val (JE.d (je_op op_powP jd_int jd_int)) ju_nil))))) (jw_one_and (jt_cmp op_ltP (JE.d (je_var 4)) jd_int)))) (jb_one (js_ret (je_ix ix_P (JE.d (je_lst (ja_cons (JE.d (je_op op_addP (JE.d (je_var 1)) jd_int)) (ja_cons (JE.d (je_op op_subP (JE.d (je_var 1)) jd_int)) (ja_cons jd_int (ja_cons jd_int (ja_cons jd_int ja_nil))))))) (JE.d (je_var 4)) (fun _ _ => rfl)))) jb_nil)
    (jb_cons (js_if (JW.t (jw_and (jt_val (jd_isinst rfl misinstance rfl mstr PyProof.Rows.Boot.str (JE.d (je_var 1)))) (jw_one_and (jt_cmp op_ltP (JE.d (je_var 4)) jd_int)))) (jb_one (js_ret (je_ix ix_P (JE.d (je_lst (ja_cons (JE.d (je_op op_addP (JE.d (je_var 1)) jd_str)) (ja_cons (JE.d (je_slice (JE.d (je_var 1)) (jo_some jd_int) jo_none)) (ja_cons (JE.d (je_op op_addP (JE.d (je_var 1)) jd_str)) (ja_cons jd_str (ja_cons jd_str (ja_cons jd_str ja_nil)))))))) (JE.d (je_var 4)) (fun _ _ => rfl)))) jb_nil)
    (jb_one (js_ret (je_call G_law_odd hr rfl n_law_odd k_law_odd b_law_odd (ju_mut (je_var 0) ju_nil)))))))))) hf

def w1__law_grown (f_law_pick : FM) : GS :=
  (sSet 1 (eP fTup (aCons (eC (.str "next")) (aCons (eF (eVar 1)) aNil))))
def g__law_grown (f_law_pick : FM) : GS :=
  (sSeq (sSet 2 (eCall f_law_pick (uMut (eVar 0) (uVal (eC (.int 6)) uNil))))
  (sSeq (sIf (qB (eF (eP fLt (aCons (eF (eVar 2)) (aCons (eC (.int 2)) aNil))))) (sRet (eP fTup (aCons (eF (eP fIx (aCons (eF (eP fLst (aCons (eC (.str "always")) (aCons (eC (.str "not")) aNil)))) (aCons (eF (eVar 2)) aNil)))) (aCons (eF (eVar 1)) aNil)))) sNil)
  (sSeq (sIf (qB (eF (eP fEq (aCons (eF (eVar 2)) (aCons (eC (.int 2)) aNil))))) (sRet (eP fTup (aCons (eC (.str "both")) (aCons (eF (eVar 1)) (aCons (eF (eP fTup (aCons (eC (.str "now")) (aCons (eF (eP fTup (aCons (eC (.str "any")) aNil))) aNil)))) aNil))))) sNil)
  (sSeq (sIf (qB (eF (eP fEq (aCons (eF (eVar 2)) (aCons (eC (.int 3)) aNil))))) (sRet (eP fTup (aCons (eC (.str "each")) (aCons (eC (.str "a")) (aCons (eC (.str "x")) (aCons (eF (eP fTup (aCons (eC (.str "one")) (aCons (eC (.str "b")) (aCons (eC (.str "k")) (aCons (eF (eP fTup (aCons (eC (.str "both")) (aCons (eF (eP fTup (aCons (eC (.str "now")) (aCons (eF (eP fTup (aCons (eC (.str "less")) (aCons (eC (.str "k")) aNil)))) aNil)))) (aCons (eF (eVar 1)) aNil))))) aNil)))))) aNil)))))) sNil)
  (sSeq (sIf (qB (eF (eP fEq (aCons (eF (eVar 2)) (aCons (eC (.int 4)) aNil))))) (sRet (eP fTup (aCons (eC (.str "both")) (aCons (eF (eP fTup (aCons (eC (.str "each")) (aCons (eC (.str "a")) (aCons (eC (.str "x")) (aCons (eF (eP fTup (aCons (eC (.str "yes")) aNil))) aNil)))))) (aCons (eF (eP fTup (aCons (eC (.str "now")) (aCons (eF (eP fTup (aCons (eC (.str "same")) (aCons (eC (.str "x")) aNil)))) aNil)))) aNil))))) sNil)
  (sSeq (sFor (bName 3) (gRng1 (aCons (eF (eCall f_law_pick (uMut (eVar 0) (uVal (eC (.int 9)) uNil)))) aNil)) (w1__law_grown f_law_pick))
  (sRet (eVar 1))))))))

abbrev s__law_grown : Stmt := top 40
theorem sc__law_grown : FnScope ["_law_tape_here", "_law_saying_here", "_law_way", "_law_k"] ["_law_tape_here", "_law_saying_here"] (defScope s__law_grown) := ⟨rfl, rfl, rfl, by decide +kernel, rfl, by decide +kernel, by decide +kernel⟩
theorem ok__law_grown {P : Program} {w : World} {K : PySem.W.Frag} {mg : Str → Option Value} {base : Heap} {f : Addr} {fd : FuncData} {n : Nat} {fm : FM} (F : Fun K "_law_grown" "_law_grown" s__law_grown f fd) (mrange : mg "range" = none)
    {a_law_pick : Addr} {d_law_pick : FuncData} {f_law_pick : FM} (G_law_pick : FnOk P w K mg base CX0 n a_law_pick d_law_pick ["_law_tape_here", "_law_many"] (spT K 2 f_law_pick)) (b_law_pick : Binds K d_law_pick ["_law_tape_here", "_law_many"] []) (k_law_pick : PySem.W.keepIn K (.ref a_law_pick) = true) (n_law_pick : mg "_law_pick" = some (.ref a_law_pick))
    (hf : ∀ us r, fm us = some r → runB 4 (g__law_grown f_law_pick) us = some r) : FnOk P w K mg base CX0 (n + 1) f fd ["_law_tape_here", "_law_saying_here"] (spT K 2 fm) :=
  okT (g := g__law_grown f_law_pick) F sc__law_grown (fun cdv A outer s H E hr => (jb_cons (js_set (i := 2) sc__law_grown.nd rfl (by first | exact Or.inl rfl | exact Or.inr rfl) (je_call G_law_pick hr rfl n_law_pick k_law_pick b_law_pick (ju_mut (je_var 0) (ju_val jd_int ju_nil))))
    (jb_cons (js_if (jt_cmp op_ltP (JE.d (je_var 2)) jd_int) (jb_one (js_ret (je_tup (ja_cons (JE.d (je_ix ix_P (JE.d (je_lst (ja_cons jd_str (ja_cons jd_str ja_nil)))) (JE.d (je_var 2)) (fun _ _ => rfl))) (ja_cons (JE.d (je_var 1)) ja_nil))))) jb_nil)
    (jb_cons (js_if (jt_cmp (op_eqP hr.units) (JE.d (je_var 2)) jd_int) (jb_one (js_ret (je_tup (ja_cons jd_str (ja_cons (JE.d (je_var 1)) (ja_cons (JE.d (je_tup (ja_cons jd_str (ja_cons (JE.d (je_tup (ja_cons jd_str ja_nil))) ja_nil)))) ja_nil)))))) jb_nil)
    (jb_cons (js_if (jt_cmp (op_eqP hr.units) (JE.d (je_var 2)) jd_int) (jb_one (js_ret (je_tup (ja_cons jd_str (ja_cons jd_str (ja_cons jd_str (ja_cons (JE.d (je_tup (ja_cons jd_str (ja_cons jd_str (ja_cons jd_str (ja_cons (JE.d (je_tup (ja_cons jd_str (ja_cons (JE.d (je_tup (ja_cons jd_str (ja_cons (JE.d (je_tup (ja_cons jd_str (ja_cons jd_str ja_nil)))) ja_nil)))) (ja_cons (JE.d (je_var 1)) ja_nil))))) ja_nil)))))) ja_nil))))))) jb_nil)
    (jb_cons (js_if (jt_cmp (op_eqP hr.units) (JE.d (je_var 2)) jd_int) (jb_one (js_ret (je_tup (ja_cons jd_str (ja_cons (JE.d (je_tup (ja_cons jd_str (ja_cons jd_str (ja_cons jd_str (ja_cons (JE.d (je_tup (ja_cons jd_str ja_nil))) ja_nil)))))) (ja_cons (JE.d (je_tup (ja_cons jd_str (ja_cons (JE.d (je_tup (ja_cons jd_str (ja_cons jd_str ja_nil)))) ja_nil)))) ja_nil)))))) jb_nil)
    (jb_cons (js_for PassesOwn.never rfl (ji_range1 rfl mrange (ja_cons (JE.d (je_call G_law_pick hr rfl n_law_pick k_law_pick b_law_pick (ju_mut (je_var 0) (ju_val jd_int ju_nil)))) ja_nil)) (jg_name (i := 3) sc__law_grown.nd rfl (by first | exact Or.inl rfl | exact Or.inr rfl)) (jb_one (js_set (i := 1) sc__law_grown.nd rfl (by first | exact Or.inl rfl | exact Or.inr rfl) (je_tup (ja_cons jd_str (ja_cons (JE.d (je_var 1)) ja_nil))))))
    (jb_one (js_ret (je_var 1)))))))))) hf

def g__law_beside : GS :=
  (sSeq (sSet 1 (eP fTup (aCons (eC (.str "both")) (aCons (eF (eP fTup (aCons (eC (.str "one")) (aCons (eC (.str "ab")) (aCons (eC (.str "x")) (aCons (eF (eP fTup (aCons (eC (.str "no")) aNil))) aNil)))))) (aCons (eF (eVar 0)) aNil)))))
  (sRet (eP fTup (aCons (eC (.str "both")) (aCons (eF (eP fTup (aCons (eC (.str "each")) (aCons (eC (.str "a")) (aCons (eC (.str "x")) (aCons (eF (eP fTup (aCons (eC (.str "yes")) aNil))) aNil)))))) (aCons (eF (eP fTup (aCons (eC (.str "either")) (aCons (eF (eP fTup (aCons (eC (.str "each")) (aCons (eC (.str "a")) (aCons (eC (.str "k")) (aCons (eF (eP fTup (aCons (eC (.str "now")) (aCons (eF (eP fTup (aCons (eC (.str "same")) (aCons (eC (.str "k")) aNil)))) aNil)))) aNil)))))) (aCons (eF (eVar 1)) aNil))))) aNil))))))

abbrev s__law_beside : Stmt := top 41
theorem sc__law_beside : FnScope ["_law_last", "_law_two"] ["_law_last"] (defScope s__law_beside) := ⟨rfl, rfl, rfl, by decide +kernel, rfl, by decide +kernel, by decide +kernel⟩
theorem ok__law_beside {P : Program} {w : World} {K : PySem.W.Frag} {mg : Str → Option Value} {base : Heap} {f : Addr} {fd : FuncData} {n : Nat} {fm : FM} (F : Fun K "_law_beside" "_law_beside" s__law_beside f fd)
    (hf : ∀ us r, fm us = some r → runB 2 (g__law_beside) us = some r) : FnOk P w K mg base CX0 (n + 1) f fd ["_law_last"] (spT K 1 fm) :=
  okT (g := g__law_beside) F sc__law_beside (fun cdv A outer s H E hr => (jb_cons (js_set (i := 1) sc__law_beside.nd rfl (by first | exact Or.inl rfl | exact Or.inr rfl) (je_tup (ja_cons jd_str (ja_cons (JE.d (je_tup (ja_cons jd_str (ja_cons jd_str (ja_cons jd_str (ja_cons (JE.d (je_tup (ja_cons jd_str ja_nil))) ja_nil)))))) (ja_cons (JE.d (je_var 0)) ja_nil)))))
    (jb_one (js_ret (je_tup (ja_cons jd_str (ja_cons (JE.d (je_tup (ja_cons jd_str (ja_cons jd_str (ja_cons jd_str (ja_cons (JE.d (je_tup (ja_cons jd_str ja_nil))) ja_nil)))))) (ja_cons (JE.d (je_tup (ja_cons jd_str (ja_cons (JE.d (je_tup (ja_cons jd_str (ja_cons jd_str (ja_cons jd_str (ja_cons (JE.d (je_tup (ja_cons jd_str (ja_cons (JE.d (je_tup (ja_cons jd_str (ja_cons jd_str ja_nil)))) ja_nil)))) ja_nil)))))) (ja_cons (JE.d (je_var 1)) ja_nil))))) ja_nil)))))))) hf

def w1_law (f_law_beside : FM) (fis_saying : FM) (f_law_is_saying : FM) (f_law_tape : FM) (f_law_whole : FM) (f_law_names : FM) (f_law_pick : FM) (f_law_bent : FM) (f_law_grown : FM) (f_law_odd : FM) : GS :=
  (sSeq (sSet 3 (eCall fis_saying (uVal (eF (eVar 2)) uNil)))
  (sIf (qOr (qNot (qB (eIs ["bool"] (eF (eVar 3))))) (qB (eF (eP fNe (aCons (eF (eVar 3)) (aCons (eF (eCall f_law_is_saying (uVal (eF (eVar 2)) (uVal (eF (eP fLst aNil)) (uVal (eC (.int 1)) (uMut (eP fLst (aCons (eC (.int 0)) (aCons (eC (.int 0)) aNil))) uNil)))))) aNil)))))) (sRet (eT (eC (.bl false)))) sNil))
def w2_law (f_law_beside : FM) (fis_saying : FM) (f_law_is_saying : FM) (f_law_tape : FM) (f_law_whole : FM) (f_law_names : FM) (f_law_pick : FM) (f_law_bent : FM) (f_law_grown : FM) (f_law_odd : FM) : GS :=
  (sSeq (sSet 3 (eCall fis_saying (uVal (eF (eVar 2)) uNil)))
  (sIf (qOr (qNot (qB (eIs ["bool"] (eF (eVar 3))))) (qB (eF (eP fNe (aCons (eF (eVar 3)) (aCons (eF (eCall f_law_is_saying (uVal (eF (eVar 2)) (uVal (eF (eP fLst aNil)) (uVal (eC (.int 1)) (uMut (eP fLst (aCons (eC (.int 0)) (aCons (eC (.int 0)) aNil))) uNil)))))) aNil)))))) (sRet (eT (eC (.bl false)))) sNil))
def w3_law (f_law_beside : FM) (fis_saying : FM) (f_law_is_saying : FM) (f_law_tape : FM) (f_law_whole : FM) (f_law_names : FM) (f_law_pick : FM) (f_law_bent : FM) (f_law_grown : FM) (f_law_odd : FM) : GS :=
  (sSeq (sSet 5 (eCall f_law_tape (uMut (eVar 0) (uVal (eF (eVar 4)) uNil))))
  (sSeq (sSet 6 (eCall f_law_whole (uMut (eVar 5) (uVal (eF (eCall f_law_names uNil)) (uVal (eF (eP fAdd (aCons (eC (.int 1)) (aCons (eF (eCall f_law_pick (uMut (eVar 5) (uVal (eC (.int 16)) uNil)))) aNil)))) (uVal (eF (eP fAdd (aCons (eC (.int 1)) (aCons (eF (eCall f_law_pick (uMut (eVar 5) (uVal (eC (.int 8)) uNil)))) aNil)))) uNil))))))
  (sSeq (sIf (qB (eF (eP fIsNotB (aCons (eF (eCall fis_saying (uVal (eF (eVar 6)) uNil))) (aCons (eC (.bl true)) aNil))))) (sRet (eT (eC (.bl false)))) sNil)
  (sSeq (sSet 7 (eCall f_law_bent (uMut (eVar 5) (uVal (eF (eVar 6)) (uVal (eC (.int 6)) uNil)))))
  (sSeq (sSet 1 (eP fLst (aCons (eF (eVar 7)) (aCons (eF (eCall f_law_bent (uMut (eVar 5) (uVal (eF (eVar 7)) (uVal (eC (.int 6)) uNil))))) (aCons (eF (eCall f_law_grown (uMut (eVar 5) (uVal (eF (eVar 6)) uNil)))) (aCons (eF (eP fList (aCons (eF (eVar 6)) aNil))) (aCons (eF (eCall f_law_odd (uMut (eVar 5) uNil))) aNil)))))))
  (sFor (bName 2) (iAny (eF (eP fAdd (aCons (eF (eVar 1)) (aCons (eF (eP fLst (aCons (eF (eCall f_law_grown (uMut (eVar 5) (uVal (eF (eCall f_law_grown (uMut (eVar 5) (uVal (eF (eVar 6)) uNil)))) uNil)))) aNil))) aNil))))) (w2_law f_law_beside fis_saying f_law_is_saying f_law_tape f_law_whole f_law_names f_law_pick f_law_bent f_law_grown f_law_odd)))))))
def g_law (f_law_beside : FM) (fis_saying : FM) (f_law_is_saying : FM) (f_law_tape : FM) (f_law_whole : FM) (f_law_names : FM) (f_law_pick : FM) (f_law_bent : FM) (f_law_grown : FM) (f_law_odd : FM) : GS :=
  (sSeq (sSet 1 (eP fLst (aCons (eF (eCall f_law_beside (uVal (eF (eP fTup (aCons (eC (.str "yes")) aNil))) uNil))) (aCons (eF (eCall f_law_beside (uVal (eF (eP fTup (aCons (eC (.str "one")) (aCons (eC (.str "a")) (aCons (eC (.str "x")) (aCons (eF (eP fTup (aCons (eC (.str "yes")) aNil))) aNil)))))) uNil))) (aCons (eF (eP fTup (aCons (eF (eP fLst (aCons (eC (.str "now")) aNil))) (aCons (eF (eP fTup (aCons (eC (.str "any")) aNil))) aNil)))) (aCons (eF (eP fTup (aCons (eF (eP fLst aNil)) (aCons (eC (.int 0)) aNil)))) (aCons (eF (eP fLst (aCons (eF (eP fTup (aCons (eC (.str "yes")) aNil))) aNil))) aNil)))))))
  (sSeq (sSet 1 (eP fAdd (aCons (eF (eVar 1)) (aCons (eF (eP fLst (aCons (eF (eP fTup (aCons (eC (.str "now")) (aCons (eF (eP fTup (aCons (eF (eP fLst (aCons (eC (.str "any")) aNil))) aNil))) aNil)))) (aCons (eF (eP fTup (aCons (eC (.str "now")) (aCons (eF (eP fLst (aCons (eC (.str "any")) aNil))) aNil)))) (aCons (eF (eP fTup (aCons (eC (.str "now")) (aCons (eF (eP fTup (aCons (eF (eP fLst aNil)) (aCons (eC (.int 1)) aNil)))) aNil)))) (aCons (eF (eP fTup (aCons (eC (.str "each")) (aCons (eF (eP fLst (aCons (eC (.str "a")) aNil))) (aCons (eC (.str "x")) (aCons (eF (eP fTup (aCons (eC (.str "yes")) aNil))) aNil)))))) aNil)))))) aNil))))
  (sSeq (sFor (bName 2) (iAny (eF (eP fAdd (aCons (eF (eVar 1)) (aCons (eF (eP fLst (aCons (eF (eP fTup (aCons (eC (.str "each")) (aCons (eC (.str "a")) (aCons (eF (eP fLst (aCons (eC (.str "x")) aNil))) (aCons (eF (eP fTup (aCons (eC (.str "yes")) aNil))) aNil)))))) (aCons (eF (eP fTup (aCons (eC (.str "within")) (aCons (eF (eP fLst (aCons (eC (.int 1)) aNil))) (aCons (eF (eP fTup (aCons (eC (.str "yes")) aNil))) aNil))))) (aCons (eF (eP fTup (aCons (eC (.str "not")) (aCons (eF (eP fLst (aCons (eF (eP fTup (aCons (eC (.str "yes")) aNil))) aNil))) aNil)))) aNil))))) aNil))))) (w1_law f_law_beside fis_saying f_law_is_saying f_law_tape f_law_whole f_law_names f_law_pick f_law_bent f_law_grown f_law_odd))
  (sSeq (sFor (bName 4) (gRng1 (aCons (eF (eP fAdd (aCons (eC (.int 1)) (aCons (eF (eP fLen (aCons (eF (eSlS 0 none (some (eC (.int 14))))) aNil))) aNil)))) aNil)) (w3_law f_law_beside fis_saying f_law_is_saying f_law_tape f_law_whole f_law_names f_law_pick f_law_bent f_law_grown f_law_odd))
  (sRet (eT (eC (.bl true))))))))

abbrev s_law : Stmt := top 42
theorem sc_law : FnScope ["_law_script", "_law_things", "_law_thing", "_law_found", "_law_k", "_law_tape_here", "_law_saying_here", "_law_bent_here"] ["_law_script"] (defScope s_law) := ⟨rfl, rfl, rfl, by decide +kernel, rfl, by decide +kernel, by decide +kernel⟩
theorem ok_law {P : Program} {w : World} {K : PySem.W.Frag} {mg : Str → Option Value} {base : Heap} {f : Addr} {fd : FuncData} {n : Nat} {fm : FM} (F : Fun K "law" "law" s_law f fd) (misinstance : mg "isinstance" = none) (mbool : mg "bool" = none) (mlen : mg "len" = none) (mrange : mg "range" = none) (mlist : mg "list" = none)
    {a_law_beside : Addr} {d_law_beside : FuncData} {f_law_beside : FM} (G_law_beside : FnOk P w K mg base CX0 n a_law_beside d_law_beside ["_law_last"] (spT K 1 f_law_beside)) (b_law_beside : Binds K d_law_beside ["_law_last"] []) (k_law_beside : PySem.W.keepIn K (.ref a_law_beside) = true) (n_law_beside : mg "_law_beside" = some (.ref a_law_beside))
    {ais_saying : Addr} {dis_saying : FuncData} {fis_saying : FM} (Gis_saying : FnOk P w K mg base CX0 n ais_saying dis_saying ["thing"] (spT K 1 fis_saying)) (bis_saying : Binds K dis_saying ["thing"] []) (kis_saying : PySem.W.keepIn K (.ref ais_saying) = true) (nis_saying : mg "is_saying" = some (.ref ais_saying))
    {a_law_is_saying : Addr} {d_law_is_saying : FuncData} {f_law_is_saying : FM} (G_law_is_saying : FnOk P w K mg base CX0 n a_law_is_saying d_law_is_saying ["_law_thing", "_law_variables", "_law_deep", "_law_counts"] (spT K 4 f_law_is_saying)) (b_law_is_saying : Binds K d_law_is_saying ["_law_thing", "_law_variables", "_law_deep", "_law_counts"] []) (k_law_is_saying : PySem.W.keepIn K (.ref a_law_is_saying) = true) (n_law_is_saying : mg "_law_is_saying" = some (.ref a_law_is_saying))
    {a_law_tape : Addr} {d_law_tape : FuncData} {f_law_tape : FM} (G_law_tape : FnOk P w K mg base CX0 n a_law_tape d_law_tape ["_law_script", "_law_at"] (spT K 2 f_law_tape)) (b_law_tape : Binds K d_law_tape ["_law_script", "_law_at"] []) (k_law_tape : PySem.W.keepIn K (.ref a_law_tape) = true) (n_law_tape : mg "_law_tape" = some (.ref a_law_tape))
    {a_law_whole : Addr} {d_law_whole : FuncData} {f_law_whole : FM} (G_law_whole : FnOk P w K mg base CX0 n a_law_whole d_law_whole ["_law_tape_here", "_law_names_here", "_law_room", "_law_deep"] (spT K 4 f_law_whole)) (b_law_whole : Binds K d_law_whole ["_law_tape_here", "_law_names_here", "_law_room", "_law_deep"] []) (k_law_whole : PySem.W.keepIn K (.ref a_law_whole) = true) (n_law_whole : mg "_law_whole" = some (.ref a_law_whole))
    {a_law_names : Addr} {d_law_names : FuncData} {f_law_names : FM} (G_law_names : FnOk P w K mg base CX0 n a_law_names d_law_names [] (spT K 0 f_law_names)) (b_law_names : Binds K d_law_names [] []) (k_law_names : PySem.W.keepIn K (.ref a_law_names) = true) (n_law_names : mg "_law_names" = some (.ref a_law_names))
    {a_law_pick : Addr} {d_law_pick : FuncData} {f_law_pick : FM} (G_law_pick : FnOk P w K mg base CX0 n a_law_pick d_law_pick ["_law_tape_here", "_law_many"] (spT K 2 f_law_pick)) (b_law_pick : Binds K d_law_pick ["_law_tape_here", "_law_many"] []) (k_law_pick : PySem.W.keepIn K (.ref a_law_pick) = true) (n_law_pick : mg "_law_pick" = some (.ref a_law_pick))
    {a_law_bent : Addr} {d_law_bent : FuncData} {f_law_bent : FM} (G_law_bent : FnOk P w K mg base CX0 n a_law_bent d_law_bent ["_law_tape_here", "_law_thing", "_law_deep"] (spT K 3 f_law_bent)) (b_law_bent : Binds K d_law_bent ["_law_tape_here", "_law_thing", "_law_deep"] []) (k_law_bent : PySem.W.keepIn K (.ref a_law_bent) = true) (n_law_bent : mg "_law_bent" = some (.ref a_law_bent))
    {a_law_grown : Addr} {d_law_grown : FuncData} {f_law_grown : FM} (G_law_grown : FnOk P w K mg base CX0 n a_law_grown d_law_grown ["_law_tape_here", "_law_saying_here"] (spT K 2 f_law_grown)) (b_law_grown : Binds K d_law_grown ["_law_tape_here", "_law_saying_here"] []) (k_law_grown : PySem.W.keepIn K (.ref a_law_grown) = true) (n_law_grown : mg "_law_grown" = some (.ref a_law_grown))
    {a_law_odd : Addr} {d_law_odd : FuncData} {f_law_odd : FM} (G_law_odd : FnOk P w K mg base CX0 n a_law_odd d_law_odd ["_law_tape_here"] (spT K 1 f_law_odd)) (b_law_odd : Binds K d_law_odd ["_law_tape_here"] []) (k_law_odd : PySem.W.keepIn K (.ref a_law_odd) = true) (n_law_odd : mg "_law_odd" = some (.ref a_law_odd))
    (hf : ∀ us r, fm us = some r → runB 8 (g_law f_law_beside fis_saying f_law_is_saying f_law_tape f_law_whole f_law_names f_law_pick f_law_bent f_law_grown f_law_odd) us = some r) : FnOk P w K mg base CX0 (n + 1) f fd ["_law_script"] (spT K 1 fm) :=
  okT (g := g_law f_law_beside fis_saying f_law_is_saying f_law_tape f_law_whole f_law_names f_law_pick f_law_bent f_law_grown f_law_odd) F sc_law (fun cdv A outer s H E hr => (jb_cons (js_set (i := 1) sc_law.nd rfl (by first | exact Or.inl rfl | exact Or.inr rfl) (je_lst (ja_cons (JE.d (je_call G_law_beside hr rfl n_law_beside k_law_beside b_law_beside (ju_val (JE.d (je_tup (ja_cons jd_str ja_nil))) ju_nil))) (ja_cons (JE.d (je_call G_law_beside hr rfl n_law_beside k_law_beside b_law_beside (ju_val (JE.d (je_tup (ja_cons jd_str (ja_cons jd_str (ja_cons jd_str (ja_cons (JE.d (je_tup (ja_cons jd_str ja_nil))) ja_nil)))))) ju_nil))) (ja_cons (JE.d (je_tup (ja_cons (JE.d (je_lst (ja_cons jd_str ja_nil))) (ja_cons (JE.d (je_tup (ja_cons jd_str ja_nil))) ja_nil)))) (ja_cons (JE.d (je_tup (ja_cons (JE.d (je_lst ja_nil)) (ja_cons jd_int ja_nil)))) (ja_cons (JE.d (je_lst (ja_cons (JE.d (je_tup (ja_cons jd_str ja_nil))) ja_nil))) ja_nil)))))))
    (jb_cons (js_set (i := 1) sc_law.nd rfl (by first | exact Or.inl rfl | exact Or.inr rfl) (je_op op_addP (JE.d (je_var 1)) (JE.d (je_lst (ja_cons (JE.d (je_tup (ja_cons jd_str (ja_cons (JE.d (je_tup (ja_cons (JE.d (je_lst (ja_cons jd_str ja_nil))) ja_nil))) ja_nil)))) (ja_cons (JE.d (je_tup (ja_cons jd_str (ja_cons (JE.d (je_lst (ja_cons jd_str ja_nil))) ja_nil)))) (ja_cons (JE.d (je_tup (ja_cons jd_str (ja_cons (JE.d (je_tup (ja_cons (JE.d (je_lst ja_nil)) (ja_cons jd_int ja_nil)))) ja_nil)))) (ja_cons (JE.d (je_tup (ja_cons jd_str (ja_cons (JE.d (je_lst (ja_cons jd_str ja_nil))) (ja_cons jd_str (ja_cons (JE.d (je_tup (ja_cons jd_str ja_nil))) ja_nil)))))) ja_nil))))))))
    (jb_cons (js_for PassesOwn.never rfl (ji_any (JE.d (je_op op_addP (JE.d (je_var 1)) (JE.d (je_lst (ja_cons (JE.d (je_tup (ja_cons jd_str (ja_cons jd_str (ja_cons (JE.d (je_lst (ja_cons jd_str ja_nil))) (ja_cons (JE.d (je_tup (ja_cons jd_str ja_nil))) ja_nil)))))) (ja_cons (JE.d (je_tup (ja_cons jd_str (ja_cons (JE.d (je_lst (ja_cons jd_int ja_nil))) (ja_cons (JE.d (je_tup (ja_cons jd_str ja_nil))) ja_nil))))) (ja_cons (JE.d (je_tup (ja_cons jd_str (ja_cons (JE.d (je_lst (ja_cons (JE.d (je_tup (ja_cons jd_str ja_nil))) ja_nil))) ja_nil)))) ja_nil)))))))) (jg_name (i := 2) sc_law.nd rfl (by first | exact Or.inl rfl | exact Or.inr rfl)) (jb_cons (js_set (i := 3) sc_law.nd rfl (by first | exact Or.inl rfl | exact Or.inr rfl) (je_call Gis_saying hr rfl nis_saying kis_saying bis_saying (ju_val (JE.d (je_var 2)) ju_nil)))
    (jb_one (js_if (JW.t (jw_or (jt_not (jt_val (jd_isinst rfl misinstance rfl mbool PyProof.Rows.Boot.bool (JE.d (je_var 3))))) (jw_one_or (jt_cmp (op_neP hr.units) (JE.d (je_var 3)) (JE.d (je_call G_law_is_saying hr rfl n_law_is_saying k_law_is_saying b_law_is_saying (ju_val (JE.d (je_var 2)) (ju_val (JE.d (je_lst ja_nil)) (ju_val jd_int (ju_mut (je_lst (ja_cons jd_int (ja_cons jd_int ja_nil))) ju_nil)))))))))) (jb_one (js_ret (JD.e jd_bl))) jb_nil))))
    (jb_cons (js_for PassesOwn.never rfl (ji_range1 rfl mrange (ja_cons (JE.d (je_op op_addP jd_int (JE.d (je_callB call_lenP rfl mlen PySem.boot_len (ja_cons (JE.d (je_sliceS (i := 0) jo_none (jo_some jd_int))) ja_nil))))) ja_nil)) (jg_name (i := 4) sc_law.nd rfl (by first | exact Or.inl rfl | exact Or.inr rfl)) (jb_cons (js_set (i := 5) sc_law.nd rfl (by first | exact Or.inl rfl | exact Or.inr rfl) (je_call G_law_tape hr rfl n_law_tape k_law_tape b_law_tape (ju_mut (je_var 0) (ju_val (JE.d (je_var 4)) ju_nil))))
    (jb_cons (js_set (i := 6) sc_law.nd rfl (by first | exact Or.inl rfl | exact Or.inr rfl) (je_call G_law_whole hr rfl n_law_whole k_law_whole b_law_whole (ju_mut (je_var 5) (ju_val (JE.d (je_call0 G_law_names hr rfl n_law_names k_law_names b_law_names)) (ju_val (JE.d (je_op op_addP jd_int (JE.d (je_call G_law_pick hr rfl n_law_pick k_law_pick b_law_pick (ju_mut (je_var 5) (ju_val jd_int ju_nil)))))) (ju_val (JE.d (je_op op_addP jd_int (JE.d (je_call G_law_pick hr rfl n_law_pick k_law_pick b_law_pick (ju_mut (je_var 5) (ju_val jd_int ju_nil)))))) ju_nil))))))
    (jb_cons (js_if (jt_cmp op_isNotP (JE.d (je_call Gis_saying hr rfl nis_saying kis_saying bis_saying (ju_val (JE.d (je_var 6)) ju_nil))) jd_bl) (jb_one (js_ret (JD.e jd_bl))) jb_nil)
    (jb_cons (js_set (i := 7) sc_law.nd rfl (by first | exact Or.inl rfl | exact Or.inr rfl) (je_call G_law_bent hr rfl n_law_bent k_law_bent b_law_bent (ju_mut (je_var 5) (ju_val (JE.d (je_var 6)) (ju_val jd_int ju_nil)))))
    (jb_cons (js_set (i := 1) sc_law.nd rfl (by first | exact Or.inl rfl | exact Or.inr rfl) (je_lst (ja_cons (JE.d (je_var 7)) (ja_cons (JE.d (je_call G_law_bent hr rfl n_law_bent k_law_bent b_law_bent (ju_mut (je_var 5) (ju_val (JE.d (je_var 7)) (ju_val jd_int ju_nil))))) (ja_cons (JE.d (je_call G_law_grown hr rfl n_law_grown k_law_grown b_law_grown (ju_mut (je_var 5) (ju_val (JE.d (je_var 6)) ju_nil)))) (ja_cons (JE.d (je_callTy call_listP rfl mlist PyProof.Rows.Boot.list (ja_cons (JE.d (je_var 6)) ja_nil))) (ja_cons (JE.d (je_call G_law_odd hr rfl n_law_odd k_law_odd b_law_odd (ju_mut (je_var 5) ju_nil))) ja_nil)))))))
    (jb_one (js_for PassesOwn.never rfl (ji_any (JE.d (je_op op_addP (JE.d (je_var 1)) (JE.d (je_lst (ja_cons (JE.d (je_call G_law_grown hr rfl n_law_grown k_law_grown b_law_grown (ju_mut (je_var 5) (ju_val (JE.d (je_call G_law_grown hr rfl n_law_grown k_law_grown b_law_grown (ju_mut (je_var 5) (ju_val (JE.d (je_var 6)) ju_nil)))) ju_nil)))) ja_nil)))))) (jg_name (i := 2) sc_law.nd rfl (by first | exact Or.inl rfl | exact Or.inr rfl)) (jb_cons (js_set (i := 3) sc_law.nd rfl (by first | exact Or.inl rfl | exact Or.inr rfl) (je_call Gis_saying hr rfl nis_saying kis_saying bis_saying (ju_val (JE.d (je_var 2)) ju_nil)))
    (jb_one (js_if (JW.t (jw_or (jt_not (jt_val (jd_isinst rfl misinstance rfl mbool PyProof.Rows.Boot.bool (JE.d (je_var 3))))) (jw_one_or (jt_cmp (op_neP hr.units) (JE.d (je_var 3)) (JE.d (je_call G_law_is_saying hr rfl n_law_is_saying k_law_is_saying b_law_is_saying (ju_val (JE.d (je_var 2)) (ju_val (JE.d (je_lst ja_nil)) (ju_val jd_int (ju_mut (je_lst (ja_cons jd_int (ja_cons jd_int ja_nil))) ju_nil)))))))))) (jb_one (js_ret (JD.e jd_bl))) jb_nil)))))))))))
    (jb_one (js_ret (JD.e jd_bl)))))))) hf

end K05

end
set_option Elab.async false
set_option linter.all false
set_option maxRecDepth 100000
namespace K05
open PySem L2 Sw Ss
theorem all_mk {l : PySem.W.OpenLaw} {w : World} {K : PySem.W.Frag} {h : Heap} {mg : Str → Option Value} {fa f1 f2 f3 f4 f5 f6 f7 f8 f9 f10 f11 f12 f13 f14 f15 f16 f17 f18 f19 f20 f21 f22 f23 f24 f25 f26 f27 f28 f29 : Addr} (X : K.In h) (G : h.Ns mainGlobals mg) (hfa : mg "law" = some (.ref fa))
    {od1 an1 od2 an2 od3 an3 od4 an4 od5 an5 od6 an6 od7 an7 od8 an8 od9 an9 od10 an10 od11 an11 od12 an12 od13 an13 od14 an14 od15 an15 od16 an16 od17 an17 od18 an18 od19 an19 od20 an20 od21 an21 od22 an22 od23 an23 od24 an24 od25 an25 od26 an26 od27 an27 od28 an28 od29 an29 : Option Addr} {sl1 sl2 sl3 sl4 sl5 sl6 sl7 sl8 sl9 sl10 sl11 sl12 sl13 sl14 sl15 sl16 sl17 sl18 sl19 sl20 sl21 sl22 sl23 sl24 sl25 sl26 sl27 sl28 sl29 : Array (Option Value)} {oc1 kV1 dc1 pm1 cd1 ct1 oc2 kV2 dc2 pm2 cd2 ct2 oc3 kV3 dc3 pm3 cd3 ct3 oc4 kV4 dc4 pm4 cd4 ct4 oc5 kV5 dc5 pm5 cd5 ct5 oc6 kV6 dc6 pm6 cd6 ct6 oc7 kV7 dc7 pm7 cd7 ct7 oc8 kV8 dc8 pm8 cd8 ct8 oc9 kV9 dc9 pm9 cd9 ct9 oc10 kV10 dc10 pm10 cd10 ct10 oc11 kV11 dc11 pm11 cd11 ct11 oc12 kV12 dc12 pm12 cd12 ct12 oc13 kV13 dc13 pm13 cd13 ct13 oc14 kV14 dc14 pm14 cd14 ct14 oc15 kV15 dc15 pm15 cd15 ct15 oc16 kV16 dc16 pm16 cd16 ct16 oc17 kV17 dc17 pm17 cd17 ct17 oc18 kV18 dc18 pm18 cd18 ct18 oc19 kV19 dc19 pm19 cd19 ct19 oc20 kV20 dc20 pm20 cd20 ct20 oc21 kV21 dc21 pm21 cd21 ct21 oc22 kV22 dc22 pm22 cd22 ct22 oc23 kV23 dc23 pm23 cd23 ct23 oc24 kV24 dc24 pm24 cd24 ct24 oc25 kV25 dc25 pm25 cd25 ct25 oc26 kV26 dc26 pm26 cd26 ct26 oc27 kV27 dc27 pm27 cd27 ct27 oc28 kV28 dc28 pm28 cd28 ct28 oc29 kV29 dc29 pm29 cd29 ct29 : Value} {tLONGEST_NAME tLETTERS tGREATEST_NUMBER tGREATEST_WITHIN tMOST_WITHIN tMOST_SAYINGS tMOST_BINDERS : Tok} {gSTARTS : Addr} {esSTARTS : List DictEntry} {epSTARTS : Nat} {gBINDERS : Addr} {esBINDERS : List Value} {epBINDERS : Nat} {odBINDERS : Option Addr} {slBINDERS : Array (Option Value)} {gLENGTHS : Addr} {esLENGTHS : List DictEntry} {epLENGTHS : Nat}
    (a1 : PySem.W.nsIn K mainGlobals "is_whole" = some (some (.ref f1))) (l1 : K.lookup f1 = some ⟨oc1, od1, .func (PySem.W.fnOf "is_whole" "is_whole" (defArgs s_is_whole) (defBody s_is_whole) (defScope s_is_whole) .none kV1 dc1 pm1 an1 cd1 ct1), sl1⟩) (c1 : PySem.W.codeIn K cd1 "is_whole" = true) (k1 : PySem.W.keepIn K (.ref f1) = true)
    (a2 : PySem.W.nsIn K mainGlobals "is_tuple" = some (some (.ref f2))) (l2 : K.lookup f2 = some ⟨oc2, od2, .func (PySem.W.fnOf "is_tuple" "is_tuple" (defArgs s_is_tuple) (defBody s_is_tuple) (defScope s_is_tuple) .none kV2 dc2 pm2 an2 cd2 ct2), sl2⟩) (c2 : PySem.W.codeIn K cd2 "is_tuple" = true) (k2 : PySem.W.keepIn K (.ref f2) = true)
    (a3 : PySem.W.nsIn K mainGlobals "is_name" = some (some (.ref f3))) (l3 : K.lookup f3 = some ⟨oc3, od3, .func (PySem.W.fnOf "is_name" "is_name" (defArgs s_is_name) (defBody s_is_name) (defScope s_is_name) .none kV3 dc3 pm3 an3 cd3 ct3), sl3⟩) (c3 : PySem.W.codeIn K cd3 "is_name" = true) (k3 : PySem.W.keepIn K (.ref f3) = true)
    (a4 : PySem.W.nsIn K mainGlobals "is_test_among" = some (some (.ref f4))) (l4 : K.lookup f4 = some ⟨oc4, od4, .func (PySem.W.fnOf "is_test_among" "is_test_among" (defArgs s_is_test_among) (defBody s_is_test_among) (defScope s_is_test_among) .none kV4 dc4 pm4 an4 cd4 ct4), sl4⟩) (c4 : PySem.W.codeIn K cd4 "is_test_among" = true) (k4 : PySem.W.keepIn K (.ref f4) = true)
    (a5 : PySem.W.nsIn K mainGlobals "parts_of" = some (some (.ref f5))) (l5 : K.lookup f5 = some ⟨oc5, od5, .func (PySem.W.fnOf "parts_of" "parts_of" (defArgs s_parts_of) (defBody s_parts_of) (defScope s_parts_of) .none kV5 dc5 pm5 an5 cd5 ct5), sl5⟩) (c5 : PySem.W.codeIn K cd5 "parts_of" = true) (k5 : PySem.W.keepIn K (.ref f5) = true)
    (a6 : PySem.W.nsIn K mainGlobals "bound_within" = some (some (.ref f6))) (l6 : K.lookup f6 = some ⟨oc6, od6, .func (PySem.W.fnOf "bound_within" "bound_within" (defArgs s_bound_within) (defBody s_bound_within) (defScope s_bound_within) .none kV6 dc6 pm6 an6 cd6 ct6), sl6⟩) (c6 : PySem.W.codeIn K cd6 "bound_within" = true) (k6 : PySem.W.keepIn K (.ref f6) = true)
    (a7 : PySem.W.nsIn K mainGlobals "is_shaped" = some (some (.ref f7))) (l7 : K.lookup f7 = some ⟨oc7, od7, .func (PySem.W.fnOf "is_shaped" "is_shaped" (defArgs s_is_shaped) (defBody s_is_shaped) (defScope s_is_shaped) .none kV7 dc7 pm7 an7 cd7 ct7), sl7⟩) (c7 : PySem.W.codeIn K cd7 "is_shaped" = true) (k7 : PySem.W.keepIn K (.ref f7) = true)
    (a8 : PySem.W.nsIn K mainGlobals "is_formed" = some (some (.ref f8))) (l8 : K.lookup f8 = some ⟨oc8, od8, .func (PySem.W.fnOf "is_formed" "is_formed" (defArgs s_is_formed) (defBody s_is_formed) (defScope s_is_formed) .none kV8 dc8 pm8 an8 cd8 ct8), sl8⟩) (c8 : PySem.W.codeIn K cd8 "is_formed" = true) (k8 : PySem.W.keepIn K (.ref f8) = true)
    (a9 : PySem.W.nsIn K mainGlobals "all_in" = some (some (.ref f9))) (l9 : K.lookup f9 = some ⟨oc9, od9, .func (PySem.W.fnOf "all_in" "all_in" (defArgs s_all_in) (defBody s_all_in) (defScope s_all_in) .none kV9 dc9 pm9 an9 cd9 ct9), sl9⟩) (c9 : PySem.W.codeIn K cd9 "all_in" = true) (k9 : PySem.W.keepIn K (.ref f9) = true)
    (a10 : PySem.W.nsIn K mainGlobals "binders_in" = some (some (.ref f10))) (l10 : K.lookup f10 = some ⟨oc10, od10, .func (PySem.W.fnOf "binders_in" "binders_in" (defArgs s_binders_in) (defBody s_binders_in) (defScope s_binders_in) .none kV10 dc10 pm10 an10 cd10 ct10), sl10⟩) (c10 : PySem.W.codeIn K cd10 "binders_in" = true) (k10 : PySem.W.keepIn K (.ref f10) = true)
    (a11 : PySem.W.nsIn K mainGlobals "is_saying" = some (some (.ref f11))) (l11 : K.lookup f11 = some ⟨oc11, od11, .func (PySem.W.fnOf "is_saying" "is_saying" (defArgs s_is_saying) (defBody s_is_saying) (defScope s_is_saying) .none kV11 dc11 pm11 an11 cd11 ct11), sl11⟩) (c11 : PySem.W.codeIn K cd11 "is_saying" = true) (k11 : PySem.W.keepIn K (.ref f11) = true)
    (a12 : PySem.W.nsIn K mainGlobals "size" = some (some (.ref f12))) (l12 : K.lookup f12 = some ⟨oc12, od12, .func (PySem.W.fnOf "size" "size" (defArgs s_size) (defBody s_size) (defScope s_size) .none kV12 dc12 pm12 an12 cd12 ct12), sl12⟩) (c12 : PySem.W.codeIn K cd12 "size" = true) (k12 : PySem.W.keepIn K (.ref f12) = true)
    (a13 : PySem.W.nsIn K mainGlobals "_law_tape" = some (some (.ref f13))) (l13 : K.lookup f13 = some ⟨oc13, od13, .func (PySem.W.fnOf "_law_tape" "_law_tape" (defArgs s__law_tape) (defBody s__law_tape) (defScope s__law_tape) .none kV13 dc13 pm13 an13 cd13 ct13), sl13⟩) (c13 : PySem.W.codeIn K cd13 "_law_tape" = true) (k13 : PySem.W.keepIn K (.ref f13) = true)
    (a14 : PySem.W.nsIn K mainGlobals "_law_pick" = some (some (.ref f14))) (l14 : K.lookup f14 = some ⟨oc14, od14, .func (PySem.W.fnOf "_law_pick" "_law_pick" (defArgs s__law_pick) (defBody s__law_pick) (defScope s__law_pick) .none kV14 dc14 pm14 an14 cd14 ct14), sl14⟩) (c14 : PySem.W.codeIn K cd14 "_law_pick" = true) (k14 : PySem.W.keepIn K (.ref f14) = true)
    (a15 : PySem.W.nsIn K mainGlobals "_law_is_name" = some (some (.ref f15))) (l15 : K.lookup f15 = some ⟨oc15, od15, .func (PySem.W.fnOf "_law_is_name" "_law_is_name" (defArgs s__law_is_name) (defBody s__law_is_name) (defScope s__law_is_name) .none kV15 dc15 pm15 an15 cd15 ct15), sl15⟩) (c15 : PySem.W.codeIn K cd15 "_law_is_name" = true) (k15 : PySem.W.keepIn K (.ref f15) = true)
    (a16 : PySem.W.nsIn K mainGlobals "_law_whole_to" = some (some (.ref f16))) (l16 : K.lookup f16 = some ⟨oc16, od16, .func (PySem.W.fnOf "_law_whole_to" "_law_whole_to" (defArgs s__law_whole_to) (defBody s__law_whole_to) (defScope s__law_whole_to) .none kV16 dc16 pm16 an16 cd16 ct16), sl16⟩) (c16 : PySem.W.codeIn K cd16 "_law_whole_to" = true) (k16 : PySem.W.keepIn K (.ref f16) = true)
    (a17 : PySem.W.nsIn K mainGlobals "_law_names" = some (some (.ref f17))) (l17 : K.lookup f17 = some ⟨oc17, od17, .func (PySem.W.fnOf "_law_names" "_law_names" (defArgs s__law_names) (defBody s__law_names) (defScope s__law_names) .none kV17 dc17 pm17 an17 cd17 ct17), sl17⟩) (c17 : PySem.W.codeIn K cd17 "_law_names" = true) (k17 : PySem.W.keepIn K (.ref f17) = true)
    (a18 : PySem.W.nsIn K mainGlobals "_law_test" = some (some (.ref f18))) (l18 : K.lookup f18 = some ⟨oc18, od18, .func (PySem.W.fnOf "_law_test" "_law_test" (defArgs s__law_test) (defBody s__law_test) (defScope s__law_test) .none kV18 dc18 pm18 an18 cd18 ct18), sl18⟩) (c18 : PySem.W.codeIn K cd18 "_law_test" = true) (k18 : PySem.W.keepIn K (.ref f18) = true)
    (a19 : PySem.W.nsIn K mainGlobals "_law_inner" = some (some (.ref f19))) (l19 : K.lookup f19 = some ⟨oc19, od19, .func (PySem.W.fnOf "_law_inner" "_law_inner" (defArgs s__law_inner) (defBody s__law_inner) (defScope s__law_inner) .none kV19 dc19 pm19 an19 cd19 ct19), sl19⟩) (c19 : PySem.W.codeIn K cd19 "_law_inner" = true) (k19 : PySem.W.keepIn K (.ref f19) = true)
    (a20 : PySem.W.nsIn K mainGlobals "_law_saying" = some (some (.ref f20))) (l20 : K.lookup f20 = some ⟨oc20, od20, .func (PySem.W.fnOf "_law_saying" "_law_saying" (defArgs s__law_saying) (defBody s__law_saying) (defScope s__law_saying) .none kV20 dc20 pm20 an20 cd20 ct20), sl20⟩) (c20 : PySem.W.codeIn K cd20 "_law_saying" = true) (k20 : PySem.W.keepIn K (.ref f20) = true)
    (a21 : PySem.W.nsIn K mainGlobals "_law_whole" = some (some (.ref f21))) (l21 : K.lookup f21 = some ⟨oc21, od21, .func (PySem.W.fnOf "_law_whole" "_law_whole" (defArgs s__law_whole) (defBody s__law_whole) (defScope s__law_whole) .none kV21 dc21 pm21 an21 cd21 ct21), sl21⟩) (c21 : PySem.W.codeIn K cd21 "_law_whole" = true) (k21 : PySem.W.keepIn K (.ref f21) = true)
    (a22 : PySem.W.nsIn K mainGlobals "_law_shape" = some (some (.ref f22))) (l22 : K.lookup f22 = some ⟨oc22, od22, .func (PySem.W.fnOf "_law_shape" "_law_shape" (defArgs s__law_shape) (defBody s__law_shape) (defScope s__law_shape) .none kV22 dc22 pm22 an22 cd22 ct22), sl22⟩) (c22 : PySem.W.codeIn K cd22 "_law_shape" = true) (k22 : PySem.W.keepIn K (.ref f22) = true)
    (a23 : PySem.W.nsIn K mainGlobals "_law_is_test" = some (some (.ref f23))) (l23 : K.lookup f23 = some ⟨oc23, od23, .func (PySem.W.fnOf "_law_is_test" "_law_is_test" (defArgs s__law_is_test) (defBody s__law_is_test) (defScope s__law_is_test) .none kV23 dc23 pm23 an23 cd23 ct23), sl23⟩) (c23 : PySem.W.codeIn K cd23 "_law_is_test" = true) (k23 : PySem.W.keepIn K (.ref f23) = true)
    (a24 : PySem.W.nsIn K mainGlobals "_law_is_saying" = some (some (.ref f24))) (l24 : K.lookup f24 = some ⟨oc24, od24, .func (PySem.W.fnOf "_law_is_saying" "_law_is_saying" (defArgs s__law_is_saying) (defBody s__law_is_saying) (defScope s__law_is_saying) .none kV24 dc24 pm24 an24 cd24 ct24), sl24⟩) (c24 : PySem.W.codeIn K cd24 "_law_is_saying" = true) (k24 : PySem.W.keepIn K (.ref f24) = true)
    (a25 : PySem.W.nsIn K mainGlobals "_law_odd" = some (some (.ref f25))) (l25 : K.lookup f25 = some ⟨oc25, od25, .func (PySem.W.fnOf "_law_odd" "_law_odd" (defArgs s__law_odd) (defBody s__law_odd) (defScope s__law_odd) .none kV25 dc25 pm25 an25 cd25 ct25), sl25⟩) (c25 : PySem.W.codeIn K cd25 "_law_odd" = true) (k25 : PySem.W.keepIn K (.ref f25) = true)
    (a26 : PySem.W.nsIn K mainGlobals "_law_bent" = some (some (.ref f26))) (l26 : K.lookup f26 = some ⟨oc26, od26, .func (PySem.W.fnOf "_law_bent" "_law_bent" (defArgs s__law_bent) (defBody s__law_bent) (defScope s__law_bent) .none kV26 dc26 pm26 an26 cd26 ct26), sl26⟩) (c26 : PySem.W.codeIn K cd26 "_law_bent" = true) (k26 : PySem.W.keepIn K (.ref f26) = true)
    (a27 : PySem.W.nsIn K mainGlobals "_law_grown" = some (some (.ref f27))) (l27 : K.lookup f27 = some ⟨oc27, od27, .func (PySem.W.fnOf "_law_grown" "_law_grown" (defArgs s__law_grown) (defBody s__law_grown) (defScope s__law_grown) .none kV27 dc27 pm27 an27 cd27 ct27), sl27⟩) (c27 : PySem.W.codeIn K cd27 "_law_grown" = true) (k27 : PySem.W.keepIn K (.ref f27) = true)
    (a28 : PySem.W.nsIn K mainGlobals "_law_beside" = some (some (.ref f28))) (l28 : K.lookup f28 = some ⟨oc28, od28, .func (PySem.W.fnOf "_law_beside" "_law_beside" (defArgs s__law_beside) (defBody s__law_beside) (defScope s__law_beside) .none kV28 dc28 pm28 an28 cd28 ct28), sl28⟩) (c28 : PySem.W.codeIn K cd28 "_law_beside" = true) (k28 : PySem.W.keepIn K (.ref f28) = true)
    (a29 : PySem.W.nsIn K mainGlobals "law" = some (some (.ref f29))) (l29 : K.lookup f29 = some ⟨oc29, od29, .func (PySem.W.fnOf "law" "law" (defArgs s_law) (defBody s_law) (defScope s_law) .none kV29 dc29 pm29 an29 cd29 ct29), sl29⟩) (c29 : PySem.W.codeIn K cd29 "law" = true) (k29 : PySem.W.keepIn K (.ref f29) = true)
    (aLONGEST_NAME : PySem.W.nsIn K mainGlobals "LONGEST_NAME" = some (some (.int 8 tLONGEST_NAME)))
    (aLETTERS : PySem.W.nsIn K mainGlobals "LETTERS" = some (some (.str "abcdefghijklmnopqrstuvwxyz" tLETTERS)))
    (aGREATEST_NUMBER : PySem.W.nsIn K mainGlobals "GREATEST_NUMBER" = some (some (.int 9 tGREATEST_NUMBER)))
    (aSTARTS : PySem.W.nsIn K mainGlobals "STARTS" = some (some (.ref gSTARTS))) (lSTARTS : K.lookup gSTARTS = some ⟨.type "dict", none, .dict esSTARTS.toArray epSTARTS, #[]⟩) (sSTARTS : (gSTARTS == sysModules) = false) (eSTARTS : EntsOk w [("yes", 1), ("no", 1), ("now", 2), ("not", 1), ("both", 1), ("either", 1), ("next", 1), ("till", 1), ("within", 2), ("always", 1), ("some", 1), ("each", 3), ("one", 3)] esSTARTS)
    (aBINDERS : PySem.W.nsIn K mainGlobals "BINDERS" = some (some (.ref gBINDERS))) (lBINDERS : K.lookup gBINDERS = some ⟨.type "tuple", odBINDERS, .seq esBINDERS.toArray epBINDERS, slBINDERS⟩) (sBINDERS : esBINDERS.length ≤ 1000) (eBINDERS : StrsOk ["each", "one"] esBINDERS)
    (aLENGTHS : PySem.W.nsIn K mainGlobals "LENGTHS" = some (some (.ref gLENGTHS))) (lLENGTHS : K.lookup gLENGTHS = some ⟨.type "dict", none, .dict esLENGTHS.toArray epLENGTHS, #[]⟩) (sLENGTHS : (gLENGTHS == sysModules) = false) (eLENGTHS : EntsOk w [("yes", 1), ("no", 1), ("now", 2), ("not", 2), ("both", 3), ("either", 3), ("next", 2), ("till", 3), ("within", 3), ("always", 2), ("some", 2), ("each", 4), ("one", 4)] esLENGTHS)
    (aGREATEST_WITHIN : PySem.W.nsIn K mainGlobals "GREATEST_WITHIN" = some (some (.int 5 tGREATEST_WITHIN)))
    (aMOST_WITHIN : PySem.W.nsIn K mainGlobals "MOST_WITHIN" = some (some (.int 8 tMOST_WITHIN)))
    (aMOST_SAYINGS : PySem.W.nsIn K mainGlobals "MOST_SAYINGS" = some (some (.int 16 tMOST_SAYINGS)))
    (aMOST_BINDERS : PySem.W.nsIn K mainGlobals "MOST_BINDERS" = some (some (.int 3 tMOST_BINDERS)))
    (zisinstance : PySem.W.nsIn K mainGlobals "isinstance" = some none) (zint : PySem.W.nsIn K mainGlobals "int" = some none) (zbool : PySem.W.nsIn K mainGlobals "bool" = some none) (ztuple : PySem.W.nsIn K mainGlobals "tuple" = some none) (zlen : PySem.W.nsIn K mainGlobals "len" = some none) (zstr : PySem.W.nsIn K mainGlobals "str" = some none) (zall : PySem.W.nsIn K mainGlobals "all" = some none) (zmax : PySem.W.nsIn K mainGlobals "max" = some none) (zlist : PySem.W.nsIn K mainGlobals "list" = some none) (zrange : PySem.W.nsIn K mainGlobals "range" = some none) :
    ∃ fd : FuncData, (∀ (s : Shared) (v : Value), BindsTo s fd ⟨[v], []⟩ [("_law_script", v)]) ∧ ∀ base : Heap, K.In base → base.Ns mainGlobals mg → FnOk l.prog w K mg base CX0 21 fa fd ["_law_script"] (spT K 1 (lawF 63)) := by
  have e := hfa.symm.trans (PySem.W.mg_of X G a29)
  cases e
  have F1 := fun_mk (st := s_is_whole) l1 c1 k1
  have b1 := F1.binds (ps := ["thing", "least", "most"]) fun _ _ _ _ _ _ us hl => match us, hl with | [_, _, _], _ => rfl
  have n1 := PySem.W.mg_of X G a1
  have F2 := fun_mk (st := s_is_tuple) l2 c2 k2
  have b2 := F2.binds (ps := ["thing", "least", "most"]) fun _ _ _ _ _ _ us hl => match us, hl with | [_, _, _], _ => rfl
  have n2 := PySem.W.mg_of X G a2
  have F3 := fun_mk (st := s_is_name) l3 c3 k3
  have b3 := F3.binds (ps := ["thing"]) fun _ _ _ _ _ _ us hl => match us, hl with | [_], _ => rfl
  have n3 := PySem.W.mg_of X G a3
  have F4 := fun_mk (st := s_is_test_among) l4 c4 k4
  have b4 := F4.binds (ps := ["thing", "bound"]) fun _ _ _ _ _ _ us hl => match us, hl with | [_, _], _ => rfl
  have n4 := PySem.W.mg_of X G a4
  have F5 := fun_mk (st := s_parts_of) l5 c5 k5
  have b5 := F5.binds (ps := ["saying"]) fun _ _ _ _ _ _ us hl => match us, hl with | [_], _ => rfl
  have n5 := PySem.W.mg_of X G a5
  have F6 := fun_mk (st := s_bound_within) l6 c6 k6
  have b6 := F6.binds (ps := ["saying", "bound"]) fun _ _ _ _ _ _ us hl => match us, hl with | [_, _], _ => rfl
  have n6 := PySem.W.mg_of X G a6
  have F7 := fun_mk (st := s_is_shaped) l7 c7 k7
  have b7 := F7.binds (ps := ["thing", "bound"]) fun _ _ _ _ _ _ us hl => match us, hl with | [_, _], _ => rfl
  have n7 := PySem.W.mg_of X G a7
  have F8 := fun_mk (st := s_is_formed) l8 c8 k8
  have b8 := F8.binds (ps := ["thing", "bound", "room"]) fun _ _ _ _ _ _ us hl => match us, hl with | [_, _, _], _ => rfl
  have n8 := PySem.W.mg_of X G a8
  have F9 := fun_mk (st := s_all_in) l9 c9 k9
  have b9 := F9.binds (ps := ["saying"]) fun _ _ _ _ _ _ us hl => match us, hl with | [_], _ => rfl
  have n9 := PySem.W.mg_of X G a9
  have F10 := fun_mk (st := s_binders_in) l10 c10 k10
  have b10 := F10.binds (ps := ["saying"]) fun _ _ _ _ _ _ us hl => match us, hl with | [_], _ => rfl
  have n10 := PySem.W.mg_of X G a10
  have F11 := fun_mk (st := s_is_saying) l11 c11 k11
  have b11 := F11.binds (ps := ["thing"]) fun _ _ _ _ _ _ us hl => match us, hl with | [_], _ => rfl
  have n11 := PySem.W.mg_of X G a11
  have F12 := fun_mk (st := s_size) l12 c12 k12
  have b12 := F12.binds (ps := ["saying"]) fun _ _ _ _ _ _ us hl => match us, hl with | [_], _ => rfl
  have n12 := PySem.W.mg_of X G a12
  have F13 := fun_mk (st := s__law_tape) l13 c13 k13
  have b13 := F13.binds (ps := ["_law_script", "_law_at"]) fun _ _ _ _ _ _ us hl => match us, hl with | [_, _], _ => rfl
  have n13 := PySem.W.mg_of X G a13
  have F14 := fun_mk (st := s__law_pick) l14 c14 k14
  have b14 := F14.binds (ps := ["_law_tape_here", "_law_many"]) fun _ _ _ _ _ _ us hl => match us, hl with | [_, _], _ => rfl
  have n14 := PySem.W.mg_of X G a14
  have F15 := fun_mk (st := s__law_is_name) l15 c15 k15
  have b15 := F15.binds (ps := ["_law_thing"]) fun _ _ _ _ _ _ us hl => match us, hl with | [_], _ => rfl
  have n15 := PySem.W.mg_of X G a15
  have F16 := fun_mk (st := s__law_whole_to) l16 c16 k16
  have b16 := F16.binds (ps := ["_law_thing", "_law_most"]) fun _ _ _ _ _ _ us hl => match us, hl with | [_, _], _ => rfl
  have n16 := PySem.W.mg_of X G a16
  have F17 := fun_mk (st := s__law_names) l17 c17 k17
  have b17 := F17.binds (ps := []) fun _ _ _ _ _ _ us hl => match us, hl with | [], _ => rfl
  have n17 := PySem.W.mg_of X G a17
  have F18 := fun_mk (st := s__law_test) l18 c18 k18
  have b18 := F18.binds (ps := ["_law_tape_here", "_law_names_here", "_law_variables"]) fun _ _ _ _ _ _ us hl => match us, hl with | [_, _, _], _ => rfl
  have n18 := PySem.W.mg_of X G a18
  have F19 := fun_mk (st := s__law_inner) l19 c19 k19
  have b19 := F19.binds (ps := ["_law_tape_here", "_law_world", "_law_variables", "_law_room", "_law_deep"]) fun _ _ _ _ _ _ us hl => match us, hl with | [_, _, _, _, _], _ => rfl
  have n19 := PySem.W.mg_of X G a19
  have F20 := fun_mk (st := s__law_saying) l20 c20 k20
  have b20 := F20.binds (ps := ["_law_tape_here", "_law_world", "_law_variables", "_law_room", "_law_deep"]) fun _ _ _ _ _ _ us hl => match us, hl with | [_, _, _, _, _], _ => rfl
  have n20 := PySem.W.mg_of X G a20
  have F21 := fun_mk (st := s__law_whole) l21 c21 k21
  have b21 := F21.binds (ps := ["_law_tape_here", "_law_names_here", "_law_room", "_law_deep"]) fun _ _ _ _ _ _ us hl => match us, hl with | [_, _, _, _], _ => rfl
  have n21 := PySem.W.mg_of X G a21
  have F22 := fun_mk (st := s__law_shape) l22 c22 k22
  have b22 := F22.binds (ps := ["_law_head"]) fun _ _ _ _ _ _ us hl => match us, hl with | [_], _ => rfl
  have n22 := PySem.W.mg_of X G a22
  have F23 := fun_mk (st := s__law_is_test) l23 c23 k23
  have b23 := F23.binds (ps := ["_law_thing", "_law_variables"]) fun _ _ _ _ _ _ us hl => match us, hl with | [_, _], _ => rfl
  have n23 := PySem.W.mg_of X G a23
  have F24 := fun_mk (st := s__law_is_saying) l24 c24 k24
  have b24 := F24.binds (ps := ["_law_thing", "_law_variables", "_law_deep", "_law_counts"]) fun _ _ _ _ _ _ us hl => match us, hl with | [_, _, _, _], _ => rfl
  have n24 := PySem.W.mg_of X G a24
  have F25 := fun_mk (st := s__law_odd) l25 c25 k25
  have b25 := F25.binds (ps := ["_law_tape_here"]) fun _ _ _ _ _ _ us hl => match us, hl with | [_], _ => rfl
  have n25 := PySem.W.mg_of X G a25
  have F26 := fun_mk (st := s__law_bent) l26 c26 k26
  have b26 := F26.binds (ps := ["_law_tape_here", "_law_thing", "_law_deep"]) fun _ _ _ _ _ _ us hl => match us, hl with | [_, _, _], _ => rfl
  have n26 := PySem.W.mg_of X G a26
  have F27 := fun_mk (st := s__law_grown) l27 c27 k27
  have b27 := F27.binds (ps := ["_law_tape_here", "_law_saying_here"]) fun _ _ _ _ _ _ us hl => match us, hl with | [_, _], _ => rfl
  have n27 := PySem.W.mg_of X G a27
  have F28 := fun_mk (st := s__law_beside) l28 c28 k28
  have b28 := F28.binds (ps := ["_law_last"]) fun _ _ _ _ _ _ us hl => match us, hl with | [_], _ => rfl
  have n28 := PySem.W.mg_of X G a28
  have F29 := fun_mk (st := s_law) l29 c29 k29
  have misinstance := PySem.W.mg_none_of X G zisinstance
  have mint := PySem.W.mg_none_of X G zint
  have mbool := PySem.W.mg_none_of X G zbool
  have mtuple := PySem.W.mg_none_of X G ztuple
  have mlen := PySem.W.mg_none_of X G zlen
  have mstr := PySem.W.mg_none_of X G zstr
  have mall := PySem.W.mg_none_of X G zall
  have mmax := PySem.W.mg_none_of X G zmax
  have mlist := PySem.W.mg_none_of X G zlist
  have mrange := PySem.W.mg_none_of X G zrange
  have mLONGEST_NAME := PySem.W.mg_of X G aLONGEST_NAME
  have mLETTERS := PySem.W.mg_of X G aLETTERS
  have mGREATEST_NUMBER := PySem.W.mg_of X G aGREATEST_NUMBER
  have mSTARTS := PySem.W.mg_of X G aSTARTS
  have tSTARTS := ktab_mk (P := l.prog) lSTARTS sSTARTS eSTARTS
  have mBINDERS := PySem.W.mg_of X G aBINDERS
  have tBINDERS := ktup_mk lBINDERS sBINDERS eBINDERS
  have mLENGTHS := PySem.W.mg_of X G aLENGTHS
  have tLENGTHS := ktab_mk (P := l.prog) lLENGTHS sLENGTHS eLENGTHS
  have mGREATEST_WITHIN := PySem.W.mg_of X G aGREATEST_WITHIN
  have mMOST_WITHIN := PySem.W.mg_of X G aMOST_WITHIN
  have mMOST_SAYINGS := PySem.W.mg_of X G aMOST_SAYINGS
  have mMOST_BINDERS := PySem.W.mg_of X G aMOST_BINDERS
  refine ⟨PySem.W.fnOf "law" "law" (defArgs s_law) (defBody s_law) (defScope s_law) .none kV29 dc29 pm29 an29 cd29 ct29, fun s v => .of_eq rfl, fun base _ _ => ?_⟩
  have Pis_whole := ok_is_whole (P := l.prog) (w := w) (K := K) (mg := mg) (base := base) (n := 0) F1 misinstance mint mbool  (fm := wholeF) whole_run
  have Pis_tuple := ok_is_tuple (P := l.prog) (w := w) (K := K) (mg := mg) (base := base) (n := 0) F2 misinstance mtuple mlen  (fm := tupleF) tuple_run
  have Pis_name := ok_is_name (P := l.prog) (w := w) (K := K) (mg := mg) (base := base) (n := 0) F3 misinstance mstr mlen mall mLONGEST_NAME mLETTERS (fm := nameF) name_run
  have Pparts_of := ok_parts_of (P := l.prog) (w := w) (K := K) (mg := mg) (base := base) (n := 0) F5  mSTARTS tSTARTS (fm := partsF) parts_run
  have Pbound_within := ok_bound_within (P := l.prog) (w := w) (K := K) (mg := mg) (base := base) (n := 0) F6  mBINDERS tBINDERS (fm := boundF) bound_run
  have P_law_tape := ok__law_tape (P := l.prog) (w := w) (K := K) (mg := mg) (base := base) (n := 0) F13 mlen mmax  (fm := tapeF) tape_run
  have P_law_pick := ok__law_pick (P := l.prog) (w := w) (K := K) (mg := mg) (base := base) (n := 0) F14   (fm := pickF) pick_run
  have P_law_is_name := ok__law_is_name (P := l.prog) (w := w) (K := K) (mg := mg) (base := base) (n := 0) F15 misinstance mstr mlen  (fm := nameF) law_name_run
  have P_law_whole_to := ok__law_whole_to (P := l.prog) (w := w) (K := K) (mg := mg) (base := base) (n := 0) F16 misinstance mint mbool  (fm := wholeToF) wholeTo_run
  have P_law_names := ok__law_names (P := l.prog) (w := w) (K := K) (mg := mg) (base := base) (n := 0) F17   (fm := namesF) names_run
  have P_law_shape := ok__law_shape (P := l.prog) (w := w) (K := K) (mg := mg) (base := base) (n := 0) F22   (fm := shapeF) shape_run
  have P_law_beside := ok__law_beside (P := l.prog) (w := w) (K := K) (mg := mg) (base := base) (n := 0) F28   (fm := besideF) beside_run
  have Pis_test_among := ok_is_test_among (P := l.prog) (w := w) (K := K) (mg := mg) (base := base) (n := 1) F4 mlen mGREATEST_NUMBER (Pis_tuple.mono (by omega)) b2 k2 n2 (Pis_name.mono (by omega)) b3 k3 n3 (Pis_whole.mono (by omega)) b1 k1 n1 (fm := testF) test_run
  have P_law_test := ok__law_test (P := l.prog) (w := w) (K := K) (mg := mg) (base := base) (n := 1) F18 mlen  (P_law_pick.mono (by omega)) b14 k14 n14 (fm := gtestF) gtest_run
  have P_law_is_test := ok__law_is_test (P := l.prog) (w := w) (K := K) (mg := mg) (base := base) (n := 1) F23 misinstance mtuple mlen mstr  (P_law_is_name.mono (by omega)) b15 k15 n15 (P_law_whole_to.mono (by omega)) b16 k16 n16 (fm := lTestF) lTest_run
  have P_law_odd := ok__law_odd (P := l.prog) (w := w) (K := K) (mg := mg) (base := base) (n := 1) F25   (P_law_pick.mono (by omega)) b14 k14 n14 (fm := oddF) odd_run
  have P_law_grown := ok__law_grown (P := l.prog) (w := w) (K := K) (mg := mg) (base := base) (n := 1) F27 mrange  (P_law_pick.mono (by omega)) b14 k14 n14 (fm := grownF) grown_run
  have Pis_shaped := ok_is_shaped (P := l.prog) (w := w) (K := K) (mg := mg) (base := base) (n := 2) F7 misinstance mstr mlen mLENGTHS tLENGTHS mGREATEST_WITHIN mBINDERS tBINDERS (Pis_tuple.mono (by omega)) b2 k2 n2 (Pis_test_among.mono (by omega)) b4 k4 n4 (Pis_whole.mono (by omega)) b1 k1 n1 (Pis_name.mono (by omega)) b3 k3 n3 (fm := shapedF) shaped_run
  have Q_law_bent : ∀ j : Nat, FnOk l.prog w K mg base CX0 (j + 2) f26 (PySem.W.fnOf "_law_bent" "_law_bent" (defArgs s__law_bent) (defBody s__law_bent) (defScope s__law_bent) .none kV26 dc26 pm26 an26 cd26 ct26) ["_law_tape_here", "_law_thing", "_law_deep"] (spT K 3 (bentFn j)) := by
    intro j
    induction j with
    | zero => exact okNone bentFn_zero
    | succ j ih => exact (ok__law_bent (P := l.prog) (w := w) (K := K) (mg := mg) (base := base) (n := j + 2) F26 misinstance mtuple mlen mlist mstr  (P_law_pick.mono (by omega)) b14 k14 n14 ih b26 k26 n26 (P_law_whole_to.mono (by omega)) b16 k16 n16 (P_law_odd.mono (by omega)) b25 k25 n25 (bent_run j)).mono (by omega)
  have P_law_bent := Q_law_bent 7
  have Qall_in : ∀ j : Nat, FnOk l.prog w K mg base CX0 (j + 1) f9 (PySem.W.fnOf "all_in" "all_in" (defArgs s_all_in) (defBody s_all_in) (defScope s_all_in) .none kV9 dc9 pm9 an9 cd9 ct9) ["saying"] (spT K 1 (allF j)) := by
    intro j
    induction j with
    | zero => exact okNone allF_zero
    | succ j ih => exact (ok_all_in (P := l.prog) (w := w) (K := K) (mg := mg) (base := base) (n := j + 1) F9   (Pparts_of.mono (by omega)) b5 k5 n5 ih b9 k9 n9 (all_run j)).mono (by omega)
  have Pall_in := Qall_in 9
  have Pbinders_in := ok_binders_in (P := l.prog) (w := w) (K := K) (mg := mg) (base := base) (n := 10) F10 mlen mBINDERS tBINDERS (Pall_in.mono (by omega)) b9 k9 n9 (fm := bindF) bind_run
  have Psize := ok_size (P := l.prog) (w := w) (K := K) (mg := mg) (base := base) (n := 10) F12 mlen  (Pall_in.mono (by omega)) b9 k9 n9 (fm := sizeF) size_run
  have Qis_formed : ∀ j : Nat, FnOk l.prog w K mg base CX0 (j + 3) f8 (PySem.W.fnOf "is_formed" "is_formed" (defArgs s_is_formed) (defBody s_is_formed) (defScope s_is_formed) .none kV8 dc8 pm8 an8 cd8 ct8) ["thing", "bound", "room"] (spT K 3 (formF j)) := by
    intro j
    induction j with
    | zero => exact okNone formF_zero
    | succ j ih => exact (ok_is_formed (P := l.prog) (w := w) (K := K) (mg := mg) (base := base) (n := j + 3) F8 mall  (Pis_shaped.mono (by omega)) b7 k7 n7 (Pbound_within.mono (by omega)) b6 k6 n6 (Pparts_of.mono (by omega)) b5 k5 n5 ih b8 k8 n8 (form_run j)).mono (by omega)
  have Pis_formed := Qis_formed 9
  have Q_law_is_saying : ∀ j : Nat, FnOk l.prog w K mg base CX0 (j + 2) f24 (PySem.W.fnOf "_law_is_saying" "_law_is_saying" (defArgs s__law_is_saying) (defBody s__law_is_saying) (defScope s__law_is_saying) .none kV24 dc24 pm24 an24 cd24 ct24) ["_law_thing", "_law_variables", "_law_deep", "_law_counts"] (spT K 4 (lawSF j)) := by
    intro j
    induction j with
    | zero => exact okNone lawSF_zero
    | succ j ih => exact (ok__law_is_saying (P := l.prog) (w := w) (K := K) (mg := mg) (base := base) (n := j + 2) F24 misinstance mtuple mlen mstr  (P_law_shape.mono (by omega)) b22 k22 n22 (P_law_is_test.mono (by omega)) b23 k23 n23 (P_law_whole_to.mono (by omega)) b16 k16 n16 (P_law_is_name.mono (by omega)) b15 k15 n15 ih b24 k24 n24 (lawS_run j)).mono (by omega)
  have P_law_is_saying := Q_law_is_saying 10
  have Pis_saying := ok_is_saying (P := l.prog) (w := w) (K := K) (mg := mg) (base := base) (n := 12) F11  mMOST_WITHIN mMOST_SAYINGS mMOST_BINDERS (Pis_formed.mono (by omega)) b8 k8 n8 (Psize.mono (by omega)) b12 k12 n12 (Pbinders_in.mono (by omega)) b10 k10 n10 (fm := isSayF) isSay_run
  have Q_law_saying : ∀ j : Nat, FnOk l.prog w K mg base CX0 (j + 2) f20 (PySem.W.fnOf "_law_saying" "_law_saying" (defArgs s__law_saying) (defBody s__law_saying) (defScope s__law_saying) .none kV20 dc20 pm20 an20 cd20 ct20) ["_law_tape_here", "_law_world", "_law_variables", "_law_room", "_law_deep"] (spT K 5 (sayF j)) ∧ FnOk l.prog w K mg base CX0 (j + 2) f19 (PySem.W.fnOf "_law_inner" "_law_inner" (defArgs s__law_inner) (defBody s__law_inner) (defScope s__law_inner) .none kV19 dc19 pm19 an19 cd19 ct19) ["_law_tape_here", "_law_world", "_law_variables", "_law_room", "_law_deep"] (spT K 5 (innF j)) := by
    intro j
    induction j with
    | zero => exact ⟨okNone sayF_zero, okNone innF_zero⟩
    | succ j ih => exact ⟨(ok__law_saying (P := l.prog) (w := w) (K := K) (mg := mg) (base := base) (n := j + 2) F20   (P_law_pick.mono (by omega)) b14 k14 n14 (P_law_test.mono (by omega)) b18 k18 n18 ih.1 b20 k20 n20 ih.2 b19 k19 n19 (say_run j)).mono (by omega), (ok__law_inner (P := l.prog) (w := w) (K := K) (mg := mg) (base := base) (n := j + 2) F19 mlen  (P_law_pick.mono (by omega)) b14 k14 n14 ih.1 b20 k20 n20 (inn_run j)).mono (by omega)⟩
  have P_law_saying := (Q_law_saying 17).1
  have P_law_inner := (Q_law_saying 17).2
  have P_law_whole := ok__law_whole (P := l.prog) (w := w) (K := K) (mg := mg) (base := base) (n := 19) F21   (P_law_saying.mono (by omega)) b20 k20 n20 (fm := wholeG) wholeG_run
  exact ok_law (P := l.prog) (w := w) (K := K) (mg := mg) (base := base) (n := 20) F29 misinstance mbool mlen mrange mlist  (P_law_beside.mono (by omega)) b28 k28 n28 (Pis_saying.mono (by omega)) b11 k11 n11 (P_law_is_saying.mono (by omega)) b24 k24 n24 (P_law_tape.mono (by omega)) b13 k13 n13 (P_law_whole.mono (by omega)) b21 k21 n21 (P_law_names.mono (by omega)) b17 k17 n17 (P_law_pick.mono (by omega)) b14 k14 n14 (P_law_bent.mono (by omega)) b26 k26 n26 (P_law_grown.mono (by omega)) b27 k27 n27 (P_law_odd.mono (by omega)) b25 k25 n25 law05_run
theorem walk {l : PySem.W.OpenLaw} {q : Program} {loose : List Str} {XP : (Str → Option Value) → Heap → Prop} {YP : World → Heap → Prop} {d : DefRec} {K : Params → PySem.W.Frag} (hn : l.most = some 63) (hdf : d.params.defaults = [])
    (hY : ∀ (w : World) (h : Heap), YP w h → (K w.params).In h)
    (F : ∀ (w : World) (mg : Str → Option Value) (fa : Addr) (h : Heap), (K w.params).In h → h.Ns mainGlobals mg → mg d.name = some (.ref fa) →
      ∃ fd : FuncData, (∀ (s : Shared) (u : Value), BindsTo s fd ⟨[u], []⟩ [("_law_script", u)]) ∧ ∀ base : Heap, (K w.params).In base → base.Ns mainGlobals mg → FnOk l.prog w (K w.params) mg base CX0 21 fa fd ["_law_script"] (spT (K w.params) 1 (lawF 63))) :
    PySem.W.WalkO q loose XP YP l.row.toRowW d [] (fun f vs => PySem.call f vs) :=
  L2.walk_of (n := 63) (k := 21) (x := "_law_script") (CX := fun _ => CX0) (sp := fun w => spT (K w.params) 1 (lawF 63)) hn (by decide) hdf ⟨rfl, by decide, by decide, rfl⟩ hY F (fun w H a ns hl hO hS => law_sp hl hO hS) fun _ _ _ _ _ z => z
end K05
open PySem PySem.W PyProof.Rows
set_option maxRecDepth 100000 in
set_option maxHeartbeats 0 in
theorem PySem.Challenge.cw_surewatch_k05_sayings_holds : PySem.Challenge.rw_surewatch_k05_sayings.Holds := by
  w_on; o_law; k_head; (case hw => w_witness2)
  k_fill
  refine K05.walk (l := PySem.Challenge.rw_surewatch_k05_sayings) rfl rfl (fun w h Y => PySem.W.kIn_of Y) ?F
  case F =>
    intro w mg fa h KX G hmg
    refine' K05.all_mk KX G hmg ?a1 ?l1 ?c1 ?k1 ?a2 ?l2 ?c2 ?k2 ?a3 ?l3 ?c3 ?k3 ?a4 ?l4 ?c4 ?k4 ?a5 ?l5 ?c5 ?k5 ?a6 ?l6 ?c6 ?k6 ?a7 ?l7 ?c7 ?k7 ?a8 ?l8 ?c8 ?k8 ?a9 ?l9 ?c9 ?k9 ?a10 ?l10 ?c10 ?k10 ?a11 ?l11 ?c11 ?k11 ?a12 ?l12 ?c12 ?k12 ?a13 ?l13 ?c13 ?k13 ?a14 ?l14 ?c14 ?k14 ?a15 ?l15 ?c15 ?k15 ?a16 ?l16 ?c16 ?k16 ?a17 ?l17 ?c17 ?k17 ?a18 ?l18 ?c18 ?k18 ?a19 ?l19 ?c19 ?k19 ?a20 ?l20 ?c20 ?k20 ?a21 ?l21 ?c21 ?k21 ?a22 ?l22 ?c22 ?k22 ?a23 ?l23 ?c23 ?k23 ?a24 ?l24 ?c24 ?k24 ?a25 ?l25 ?c25 ?k25 ?a26 ?l26 ?c26 ?k26 ?a27 ?l27 ?c27 ?k27 ?a28 ?l28 ?c28 ?k28 ?a29 ?l29 ?c29 ?k29 ?aLONGEST_NAME ?aLETTERS ?aGREATEST_NUMBER ?aSTARTS ?lSTARTS ?sSTARTS ?eSTARTS ?aBINDERS ?lBINDERS ?sBINDERS ?eBINDERS ?aLENGTHS ?lLENGTHS ?sLENGTHS ?eLENGTHS ?aGREATEST_WITHIN ?aMOST_WITHIN ?aMOST_SAYINGS ?aMOST_BINDERS ?zisinstance ?zint ?zbool ?ztuple ?zlen ?zstr ?zall ?zmax ?zlist ?zrange
    (case a1 => k_is); (case l1 => k_is); (case c1 => k_is); (case k1 => k_is)
    (case a2 => k_is); (case l2 => k_is); (case c2 => k_is); (case k2 => k_is)
    (case a3 => k_is); (case l3 => k_is); (case c3 => k_is); (case k3 => k_is)
    (case a4 => k_is); (case l4 => k_is); (case c4 => k_is); (case k4 => k_is)
    (case a5 => k_is); (case l5 => k_is); (case c5 => k_is); (case k5 => k_is)
    (case a6 => k_is); (case l6 => k_is); (case c6 => k_is); (case k6 => k_is)
    (case a7 => k_is); (case l7 => k_is); (case c7 => k_is); (case k7 => k_is)
    (case a8 => k_is); (case l8 => k_is); (case c8 => k_is); (case k8 => k_is)
    (case a9 => k_is); (case l9 => k_is); (case c9 => k_is); (case k9 => k_is)
    (case a10 => k_is); (case l10 => k_is); (case c10 => k_is); (case k10 => k_is)
    (case a11 => k_is); (case l11 => k_is); (case c11 => k_is); (case k11 => k_is)
    (case a12 => k_is); (case l12 => k_is); (case c12 => k_is); (case k12 => k_is)
    (case a13 => k_is); (case l13 => k_is); (case c13 => k_is); (case k13 => k_is)
    (case a14 => k_is); (case l14 => k_is); (case c14 => k_is); (case k14 => k_is)
    (case a15 => k_is); (case l15 => k_is); (case c15 => k_is); (case k15 => k_is)
    (case a16 => k_is); (case l16 => k_is); (case c16 => k_is); (case k16 => k_is)
    (case a17 => k_is); (case l17 => k_is); (case c17 => k_is); (case k17 => k_is)
    (case a18 => k_is); (case l18 => k_is); (case c18 => k_is); (case k18 => k_is)
    (case a19 => k_is); (case l19 => k_is); (case c19 => k_is); (case k19 => k_is)
    (case a20 => k_is); (case l20 => k_is); (case c20 => k_is); (case k20 => k_is)
    (case a21 => k_is); (case l21 => k_is); (case c21 => k_is); (case k21 => k_is)
    (case a22 => k_is); (case l22 => k_is); (case c22 => k_is); (case k22 => k_is)
    (case a23 => k_is); (case l23 => k_is); (case c23 => k_is); (case k23 => k_is)
    (case a24 => k_is); (case l24 => k_is); (case c24 => k_is); (case k24 => k_is)
    (case a25 => k_is); (case l25 => k_is); (case c25 => k_is); (case k25 => k_is)
    (case a26 => k_is); (case l26 => k_is); (case c26 => k_is); (case k26 => k_is)
    (case a27 => k_is); (case l27 => k_is); (case c27 => k_is); (case k27 => k_is)
    (case a28 => k_is); (case l28 => k_is); (case c28 => k_is); (case k28 => k_is)
    (case a29 => k_is); (case l29 => k_is); (case c29 => k_is); (case k29 => k_is)
    (case aLONGEST_NAME => k_is)
    (case aLETTERS => k_is)
    (case aGREATEST_NUMBER => k_is)
    (case aSTARTS => k_is)
    (case lSTARTS => k_is); (case sSTARTS => decide); (case eSTARTS => exact ⟨⟨rfl, ⟨_, rfl⟩, _, rfl⟩, ⟨⟨rfl, ⟨_, rfl⟩, _, rfl⟩, ⟨⟨rfl, ⟨_, rfl⟩, _, rfl⟩, ⟨⟨rfl, ⟨_, rfl⟩, _, rfl⟩, ⟨⟨rfl, ⟨_, rfl⟩, _, rfl⟩, ⟨⟨rfl, ⟨_, rfl⟩, _, rfl⟩, ⟨⟨rfl, ⟨_, rfl⟩, _, rfl⟩, ⟨⟨rfl, ⟨_, rfl⟩, _, rfl⟩, ⟨⟨rfl, ⟨_, rfl⟩, _, rfl⟩, ⟨⟨rfl, ⟨_, rfl⟩, _, rfl⟩, ⟨⟨rfl, ⟨_, rfl⟩, _, rfl⟩, ⟨⟨rfl, ⟨_, rfl⟩, _, rfl⟩, ⟨⟨rfl, ⟨_, rfl⟩, _, rfl⟩, True.intro⟩⟩⟩⟩⟩⟩⟩⟩⟩⟩⟩⟩⟩)
    (case aBINDERS => k_is)
    (case lBINDERS => k_is); (case sBINDERS => decide); (case eBINDERS => exact ⟨⟨_, rfl⟩, ⟨⟨_, rfl⟩, True.intro⟩⟩)
    (case aLENGTHS => k_is)
    (case lLENGTHS => k_is); (case sLENGTHS => decide); (case eLENGTHS => exact ⟨⟨rfl, ⟨_, rfl⟩, _, rfl⟩, ⟨⟨rfl, ⟨_, rfl⟩, _, rfl⟩, ⟨⟨rfl, ⟨_, rfl⟩, _, rfl⟩, ⟨⟨rfl, ⟨_, rfl⟩, _, rfl⟩, ⟨⟨rfl, ⟨_, rfl⟩, _, rfl⟩, ⟨⟨rfl, ⟨_, rfl⟩, _, rfl⟩, ⟨⟨rfl, ⟨_, rfl⟩, _, rfl⟩, ⟨⟨rfl, ⟨_, rfl⟩, _, rfl⟩, ⟨⟨rfl, ⟨_, rfl⟩, _, rfl⟩, ⟨⟨rfl, ⟨_, rfl⟩, _, rfl⟩, ⟨⟨rfl, ⟨_, rfl⟩, _, rfl⟩, ⟨⟨rfl, ⟨_, rfl⟩, _, rfl⟩, ⟨⟨rfl, ⟨_, rfl⟩, _, rfl⟩, True.intro⟩⟩⟩⟩⟩⟩⟩⟩⟩⟩⟩⟩⟩)
    (case aGREATEST_WITHIN => k_is)
    (case aMOST_WITHIN => k_is)
    (case aMOST_SAYINGS => k_is)
    (case aMOST_BINDERS => k_is)
    (case zisinstance => k_is); (case zint => k_is); (case zbool => k_is); (case ztuple => k_is); (case zlen => k_is); (case zstr => k_is); (case zall => k_is); (case zmax => k_is); (case zlist => k_is); (case zrange => k_is)

